import PyProof.Rows.All
import Wide.All
import OpenK.AllK
import Wide.FinOn
import Lean
import PyProof.EqAt
import PyProof.EqKinds
import PyProof.TupleCall
import PyProof.P3In
import KE.KDictLaws
import PyProof.Rows.SetFrom
import KE.KRevSl
import KE.KIntText
import KE.KLcPair
import KE.KIsAll
import PyProof.ExcArgsOwn
import PyProof.ExcAttrAll.ValueError
import PyProof.NsDelKeeps
import PyProof.Rows.CountFlat
import KE.RegKIsAll
import PyProof.WalksMore
import PyProof.FString5
import KE.KListMore
import PyProof.ZipIter
import PyProof.FString
import PyProof.StrLawsReplace
import PyProof.MinMaxWalk
import PyProof.WalkInts
import PyProof.Rows.MinMaxN
import PyProof.Rows.CallKwBuiltin
import KE.KMinKey
import PySem.Challenge.RW_mailroom_k51_boards_looked_at
abbrev U:=@rfl
open PySem.W(instObj methodObj Frag lookIn plainGet hasDictIn findIn handedIn plainGet_of isFn plainOver takerIn makesIn emptyDict keepIn kitOne kia_one kitx_list kitx_dict callWith_K callWith_K0 fnOf codeIn kdl_dict KdlSrc mg_of mg_none_of binds_K view)
open PyProof.Rows(slot_tuple_getitem le_int lt_int boot_isinstance boot_str boot_sorted boot_set boot_list boot_all lo1 boot_int)
open PySem.F(slot_dict_pop slot_dict_get plainAttrs_dict slot_set_iter plainAttrs_list slot_list_pop type_list_pop plainAttrs_str slot_str_join type_str_join)
def qh:=@List.length_map
def qi:=@PySem.wpAny_bind
def qj:=@List.mem_map
def qk:=@List.mem_singleton
def ql:=@of_decide_eq_true
def qo:=@List.mem_filter
def qr:=@List.mem_append
def qt:=@decide_eq_true
def qu:=@PySem.wpAny_pure
def qv:=@List.mem_append_right
def qw:=@PySem.Heap.get?_push_of_some
def qx:=@List.length_append
def qy:=@List.mem_append_left
def qz:=@List.mem_cons_self
def qA:=@List.getElem?_eq_getElem
def qB:=@Nat.le_refl
def qC:=@if_neg
def qD:=@List.cons.inj
def qE:=@decide_eq_false
def qF:=@List.mem_cons_of_mem
def qG:=@if_pos
def qH:=@Bool.false_ne_true
def qI:=@List.map_append
def qJ:=@List.mem_cons
def qK:=@PySem.Heap.get?_push_size
def qL:=@List.mem_of_getElem?
def qM:=@List.filter_cons
def qN:=@Option.some.inj
def qO:=@List.length_singleton
def qQ:=@List.getElem?_map
def qR:=@PySem.Heap.lt_size
def qS:=@List.size_toArray
def qT:=@List.map_map
def qU:=@List.map_cons
def qV:=@List.length_cons
def qW:=@List.length_filter_le
def qY:=@List.getElem?_eq_some_iff
def q0:=@Nat.zero_le
def q9:=@List.filter_append
def za:=@Nat.ne_of_lt
def zb:=@List.length_take
def zf:=@Array.length_toList
def zh:=@List.take_of_length_le
def zj:=@Nat.lt_of_lt_of_le
def zl:=@Int.emod_lt_of_pos
def zm:=@Nat.le_trans
def zo:=@List.take_add_one
def zq:=@Array.getElem?_toList
def zr:=@List.append_nil
def zt:=@Int.emod_nonneg
def zx:=@PySem.PassesOwn.never
def zy:=@List.foldl_cons
def zB:=@List.nodup_nil
def zC:=@List.getD_eq_getElem?_getD
def zE:=@Bool.false_eq_true
def zH:=@List.filter_sublist
def zI:=@List.mem_map_of_mem
def zJ:=@PySem.wpAny_newObj_type
def zN:=@List.nodup_cons
def zR:=@PySem.F.slot_list_append
def zS:=@PySem.F.type_list_append
def zT:=@PySem.boot_len
def zU:=@PySem.wpAny_call_entry
def zV:=@congrArg
def zZ:=@Bool.and_eq_true_iff
def jc:=@Bool.and_eq_true
def jd:=@List.all_eq_true
def je:=@List.not_mem_nil
def jf:=@List.nodup_append
def jh:=@Array.getElem?_eq_getElem
def jj:=@List.getElem_mem
def jk:=@List.append_assoc
def jo:=@PySem.Heap.SameBut.update
def jq:=@Int.eq_ofNat_of_zero_le
def jr:=@PySem.Heap.get?_update_self
def js:=@PySem.wpAny_truthy_bool
def jt:=@PySem.F.called_set
def ju:=@PySem.wpAny_callSpecial?_slot
def jv:=@List.lookup_cons
def jw:=@List.take_length
def jx:=@PySem.Obj.data_mapFields
def jz:=@PySem.wpAny_holding
def jB:=@List.foldl_append
def jH:=@List.pairwise_cons
def jI:=@List.Nodup.sublist
def jJ:=@Sum.inr.inj
def jN:=@List.getElem?_set_self
def jO:=@Int.toNat_natCast
def jP:=@List.length_range
def jQ:=@Nat.lt_succ_of_lt
def jS:=@beq_eq_false_iff_ne
def jT:=@PySem.mem_of_lookup
def jU:=@List.map_congr_left
def jV:=@List.filter_eq_self
def jW:=@Int.toNat_of_nonneg
def jZ:=@List.length_nil
def j7:=@PySem.Calls.spliced_cons
def j9:=@List.flatten_cons
def ya:=@List.length_eq_zero_iff
def yb:=@List.find?_cons
def ye:=@List.filter_map
def yg:=@PySem.Heap.size_push
def yh:=@List.replicate_succ
def yi:=@PySem.Around.under_plainId
def yo:=@Nat.lt_of_succ_lt_succ
def yp:=@Nat.lt_irrefl
def yt:=@List.length_drop
def yu:=@beq_self_eq_true
def yv:=@PySem.codeAny_builtin
def yw:=@PySem.wpAny_ite_split
def yy:=@PySem.F.slot_dict_keyiterator_next
def yE:=@if_false
def yF:=@List.perm_ext_iff_of_nodup
def yG:=@of_decide_eq_false
def yJ:=@PySem.Heap.get?_update_other
def yK:=@PySem.Calls.callWith_builtin
def yQ:=@PySem.wpAny_mono
def yS:=@bne_self_eq_false
def xk:=@List.mem_range
def xn:=@PySem.codeAny_mono
def xo:=@PySem.wpAny_setState_of
def xK:=@Ne.symm
def xM:=@Option.map_eq_some_iff
def xN:=@Nat.lt_of_le_of_lt
def xO:=@List.filter_filter
def xP:=@Array.getElem?_eq_none
def xQ:=@PySem.wpAny_setEntries_of
def xS:=@PySem.wpAny_askSetting
def xU:=@PySem.wpAny_setField
def kO:=@List.any_cons
def kP:=@List.getElem?_eq_none
def kR:=@List.filter_congr
def kS:=@PySem.wpAny_typeNameOfWhole_keyiter
def vn:=@PySem.wpAny_passesOwn
def vo:=@Array.toArray_toList
def vp:=@List.take_zero
def vw:=@Nat.le_of_lt
def vy:=@if_true
def vz:=@List.isEmpty_nil
def vA:=@PySem.Obj.isFreed_of_fields
def vH:=@Classical.byContradiction
def vI:=@List.sublist_append_right
def vT:=@PySem.Calls.evalArgs_plain
def vU:=@PySem.call_meets
def v3:=@Bool.eq_iff_iff
def v5:=@Nat.min_eq_left
def v7:=@List.pairwise_singleton
def wM:=@PySem.wpAny_typeNameOf_keyiter
def wN:=@List.find?_cons_of_pos
def wO:=@List.find?_cons_of_neg
def wQ:=@or_false
def ue:=@PySem.wpAny_Call_Name_kw
def uf:=@PySem.tupleKind_room_in1
def uG:=@List.length_replicate
def uH:=@PySem.wpAny_getItem_str_slice
def uN:=@List.any_eq_true
def uO:=@Bool.not_true
def uP:=@Bool.true_and
def uQ:=@PySem.Calls.spliced_nil
def uR:=@PySem.wpAny_fieldsOf
def uS:=@List.mem_of_mem_take
def lx:=@List.filter_nil
def lJ:=@ne_true_of_eq_false
def mr:=@PySem.plainId_quiet
def mu:=@PySem.wpAny_attempt
def mz:=@beq_iff_eq
def mB:=@List.getElem?_append_right
def nE:=@List.getElem?_append_left
def oO:=@Nat.le_succ
def oP:=@Bool.not_eq_true'
def pz:=@PySem.typeIs_str
def pA:=@PySem.isSubtype_type
def rG:=@Nat.ne_of_gt
def rH:=@PySem.Calls.call_function_entry
def so:=@List.length_set
def sr:=@Option.map_some
def su:=@PySem.wpAny_Call_method
def sv:=@PySem.F.entry_str_split
def sy:=@PySem.F.plain_list_iadd
def sC:=@Bool.or_eq_true
def sD:=@PySem.wpAny_pyIter_slot
def sE:=@PySem.Obj.cls_mapFields
def sI:=@Nat.not_lt_zero
def sJ:=@PySem.Heap.get?_push_ne
def sL:=@PySem.StrLaws.found_one
def sV:=@List.eq_nil_or_concat
def sW:=@List.concat_eq_append
def sX:=@List.perm_append_comm
def sY:=@List.Perm.append_left
def Qad:=@List.getElem?_set_ne
def Qae:=@Bool.false_and
def Qaf:=@PySem.F.slot_str_split
def Qag:=@List.drop_zero
def Qah:=@Prod.mk.inj
def Qai:=@PySem.wpAny_isInstance
def Qaj:=@List.getElem?_of_mem
def QaW:=@List.filterMap_cons
def QaX:=@PySem.wpAny_typeOf
def QaY:=@PySem.call_meetsIn
def QaZ:=@PySem.wpAny_rule
def Qbs:=@PySem.wpAny_execs_nil
def Qbt:=@PySem.post_val_or_str
def Qbu:=@PySem.wpAny_loadPart'
def Qbv:=@Prod.mk.injEq
def QbK:=@List.mem_filterMap
def QbL:=@List.find?_eq_none
def QbM:=@List.getElem_range
abbrev qe:=List PySem.Str
abbrev qf:=PySem.Value→PySem.Shared→Prop
abbrev qg:=List PySem.Value
abbrev qa:=@List
abbrev qb:=PySem.Str
abbrev qc:=PySem.Addr
abbrev qd:=PySem.Value
noncomputable section
set_option Elab.async false
set_option linter.all false
set_option maxRecDepth 100000
namespace L2
open PySem PySem.Spec PyProof.Rows
variable {us:qg}{C a b:qc}{u:qd}{P:Program}{w:World}{base h:Heap}{i n t':Nat}{x:qb}{M:Model}{A:Around}{c e tg:Expr}{s:Shared}{pos:Pos}{pins:qa (qc×Obj)}{op:CmpOp}{body:qa Stmt}{f:qd->qd->Sem qd}{pl:Sem Bool}{kw:qa (qb×qd)}{mg:qb->Option qd}
abbrev Key:=Sum Int qb
def Al:Key->qd->Bool
 |.inl k,v=>Value.isInt k v
 |.inr x,v=>Value.isStrOf x v
def keyH(w:World):Key->Int
 |.inl k=>hashInt k
 |.inr x=>hashStr w x
def Yn:∀{k:Key}{v:qd},Al k v=true->(∃i t,k=Sum.inl i/\v=Value.int i t)\/(∃x t,k=Sum.inr x/\v=Value.str x t)
 |.inl i,v,h=>by
  obtain⟨t,e⟩:=Value.isInt_shape (k:=i) (v:=v) h;exact .inl ⟨i,t,U,e⟩
 |.inr x,v,h=>by
  obtain⟨t,e⟩:=Value.isStrOf_shape (x:=x) (v:=v) h;exact .inr ⟨x,t,U,e⟩
def Ri(i:Int)(t:Tok):Al (.inl i) (.int i t)=true:=by simp[Al,Value.isInt]
def Rh(x:qb)(t:Tok):Al (.inr x) (.str x t)=true:=by simp[Al,Value.isStrOf]
def gc(a b:Int):decide ((Sum.inl a:Key)=Sum.inl b)=(a==b):=by
 by_cases e:a=b
 .subst e;simp
 .have h:¬(Sum.inl a:Key)=Sum.inl b:=λq=>e (Sum.inl.inj q);rw[qE h];exact(jS.mpr e).symm
def fX(a b:qb):decide ((Sum.inr a:Key)=Sum.inr b)=decide (a=b):=by
 by_cases e:a=b
 .subst e;simp
 .have h:¬(Sum.inr a:Key)=Sum.inr b:=λq=>e (jJ q);rw[qE h,qE e]
def gb(a:Int)(b:qb):decide ((Sum.inl a:Key)=Sum.inr b)=false:=qE nofun
def fY(a:qb)(b:Int):decide ((Sum.inr a:Key)=Sum.inl b)=false:=qE nofun
def Q9(prog:Program)(w:World):PySem.KeyKind prog w Key where
 is:=Al
 hash:=keyH w
 inj:=λv a b g f=>by
  rcases Yn g with⟨i,t,rfl,rfl⟩|⟨x,t,rfl,rfl⟩
  .rcases Yn f with⟨j,u,rfl,e⟩|⟨y,u,rfl,e⟩
   .injection e with c _;rw[c]
   .exact nomatch e
  .rcases Yn f with⟨j,u,rfl,e⟩|⟨y,u,rfl,e⟩
   .exact nomatch e
   .injection e with c _;rw[c]
 byValue:=λk v h=>by
  rcases Yn h with⟨i,t,rfl,rfl⟩|⟨x,t,rfl,rfl⟩<;>rfl
 pyHash:=λd h=>by
  rcases Yn d with⟨i,t,rfl,rfl⟩|⟨x,t,rfl,rfl⟩
  .exact wpAny_pyHash_int h
  .exact wpAny_pyHash_str h
 eqBool:=λl d h=>by
  rcases Yn l with⟨i,t,rfl,rfl⟩|⟨x,t,rfl,rfl⟩
  .rcases Yn d with⟨j,u,rfl,rfl⟩|⟨y,u,rfl,rfl⟩
   .rw[gc] at h;exact wpAny_eqBool_int h
   .rw[gb] at h;exact SeqAt.EqAt.int_str i t y u _ _ _ _ h
  .rcases Yn d with⟨j,u,rfl,rfl⟩|⟨y,u,rfl,rfl⟩
   .rw[fY] at h;exact SeqAt.EqAt.str_int x t j u _ _ _ _ h
   .rw[fX] at h;exact wpAny_eqBool_str h
 «strs»:=λk x t v h=>by
  rcases Yn h with⟨i,u,rfl,e⟩|⟨y,u,rfl,e⟩
  .exact nomatch e
  .injection e with c _
   subst c;cases v<;>rfl
def Lo(prog:Program)(w:World)(i:Int)(t:Tok):(Q9 prog w).is (.inl i) (.int i t)=true:=Ri i t
def Ln(prog:Program)(w:World)(x:qb)(t:Tok):(Q9 prog w).is (.inr x) (.str x t)=true:=Rh x t
inductive V where
 |non|bl (b:Bool)|int (i:Int)|str (x:qb)|byt (b:Array UInt8)|flt (b:UInt64)|ref (a:qc)|ty (n:String)
 deriving DecidableEq
variable {vs xs:qa V}{v:V}
def QO:V->qd->Prop
 |.non,u=>u=Value.none
 |.bl b,u=>u=Value.bool b
 |.int i,u=>∃t,u=Value.int i t
 |.str x,u=>∃t,u=Value.str x t
 |.byt b,u=>∃t,u=Value.bytes b t
 |.flt b,u=>∃t,u=Value.float b t
 |.ref a,u=>u=Value.ref a
 |.ty n,u=>u=Value.type n
abbrev QK:qa V->qg->Prop:=Paired QO
def QK.length(r:QK xs us):xs.length=us.length:=Paired.length r
def QK.get:∀{xs:qa V}{us:qg}{i:Nat}{x:V},QK xs us->xs[i]?=some x->∃u,us[i]?=some u/\QO x u
 |_,_,_,_,.nil,e=>by simp at e
 |_,_,0,_,.cons r _,e=>by simp at e;subst e;exact⟨_,U,r⟩
 |_,_,i+1,x,.cons _ t,e=>by
  obtain⟨u,a,b⟩:=QK.get (i:=i) (x:=x) t (by simpa using e);exact⟨u,by simpa using a,b⟩
def QK.set{x:V}{u:qd}(r:QO x u):∀{xs:qa V}{us:qg}(i:Nat),QK xs us->QK (xs.set i x) (us.set i u)
 |_,_,_,.nil=>.nil
 |_,_,0,.cons _ t=>.cons r t
 |_,_,i+1,.cons q t=>.cons q (QK.set r i t)
def QK.append:∀{xs ys:qa V}{us ws:qg},QK xs us->QK ys ws->QK (xs++ys) (us++ws)
 |_,_,_,_,.nil,s=>s
 |_,_,_,_,.cons r t,s=>.cons r (QK.append t s)
def QK.take:∀{xs:qa V}{us:qg}(n:Nat),QK xs us->QK (xs.take n) (us.take n)
 |_,_,0,_=>.nil
 |_,_,_+1,.nil=>.nil
 |_,_,n+1,.cons r t=>.cons r (QK.take n t)
def QK.drop:∀{xs:qa V}{us:qg}(n:Nat),QK xs us->QK (xs.drop n) (us.drop n)
 |_,_,0,r=>r
 |_,_,_+1,.nil=>.nil
 |_,_,n+1,.cons _ t=>QK.drop n t
def WH:Option V->Option qd->Prop
 |some v,some u=>QO v u
 |none,none=>True
 |_,_=>False
def KV{a:Type}:qa (a×V)->qa (a×qd)->Prop:=Paired λ(p:a×V)(q:a×qd)=>p.1=q.1/\QO p.2 q.2
def kV:Key->V
 |.inl i=>.int i
 |.inr x=>.str x
inductive HO where
 |lst (xs:qa V)
 |tup (xs:qa V)
 |dK (kvs:qa (Key×V))|dT (kvs:qa (qa Key×V))
 |set (S:Int->Bool) (n:Nat)
 |ins (C dx:qc) (fs:qa (qb×V))
 |own (x:qc)
 |xd (fs:qa (qb×V))
 |met (f x:qc)
 |rng (lo hi:Int)
 |jG (o:Obj) (u:HO)
 |tbl (ps:Array qd)
 |ext (φ:Heap->Prop)
variable {o:HO}
abbrev Hp:=qc->Option HO
variable {H:Hp}
def upd(H:Hp)(a:qc)(o:HO):Hp:=λb=>if b=a then some o else H b
def Qc   :upd H a o a=some o:=by unfold upd;rw[qG rfl]
def Qa(h:b≠a):upd H a o b=H b:=by unfold upd;rw[qC h]
def Kz{u:HO}:upd (upd H a o) a u=upd H a u:=by
 funext b;unfold upd;split<;>rfl
def Q2{u:HO}(h:H a=some o)(h':H b=some u)(d:o≠u):a≠b:=by
 intro e;subst e;rw[h] at h';exact d (qN h')
def Qb(h:H a=some o)(h':H b=none):a≠b:=by
 intro e;subst e;rw[h] at h';cases h'
section
variable (P:Program)(w:World)
def QY(H:Hp)(h:Heap)(a:qc):HO->Prop
 |.lst xs=>xs.length<=sizeLine/\∃(its:qg)(n:Nat),QK xs its/\h.get? a=some {cls:=.type "list",data:=.seq its.toArray n}
 |.tup xs=>xs.length<=sizeLine/\∃its:qg,QK xs its/\IsTup h a its.toArray
 |.dK b=>b.length<=sizeLine/\(a==sysModules)=false/\∃vs,KV b vs/\h.DictOf (Q9 P w) a vs
 |.dT b=>b.length<=sizeLine/\(a==sysModules)=false/\∃xs:qa (qa Key×qc×qd),
   Paired (λ(p:qa Key×V)(q:qa Key×qc×qd)=>p.1=q.1/\H q.2.1=some (.tup (p.1.map kV))/\QO p.2 q.2.2) b xs /\
   ∃o es c,h.get? a=some o/\o.ExactDict/\o.data=.dict es c/\es.toList=xs.map (entryOfKey (tupleKind (Q9 P w)))/\(xs.map (·.1)).Nodup
 |.set S n=>h.SetOf (intKind P w) a S n
 |.ins C c fs=>H c=some (.own a)/\fs.length<=1000/\c≠a/\h.get? a=some (instObj C c) /\
   ∃b,h.Ns1 c b/\(∀f,WH (fs.lookup f) (b f))/\PySem.Within b (fs.map (·.1))
 |.own _=>∃o,h.get? a=some o
 |.xd fs=>∃b,h.Ns1 a b/\∀f,WH (fs.lookup f) (b f)
 |.rng lo b=>∃t u v,h.get? a=some {cls:=.type "range",data:=.fields #[.int lo t,.int b u,.int 1 v]}
 |.jG o u=>h.get? a=some o/\QY H h a u
 |.tbl ps=>h.get? a=some {cls:=.none,data:=.fields ps}
 |.met f x=>h.get? a=some (methodObj (.ref f) (.ref x))
 |.ext b=>b h/\(∃o,h.get? a=some o)/\∀c d:Heap,b c->(∀o,c.get? a=some o->d.get? a=some o)->b d
def lF(H:Hp)(h:Heap):Prop:=∀a o,H a=some o->QY P w H h a o
end
section
variable {P:Program}{w:World}{H H':Hp}{h h':Heap}{a:qc}{o:HO}
def QY.lt(x:QY P w H h a o):a<h.objs.size:=by
 cases o with
 |lst xs=>obtain⟨_,_,_,_,e⟩:=x;exact qR e
 |tup xs=>obtain⟨_,_,_,p⟩:=x;exact p.lt
 |dK b=>obtain⟨_,_,_,_,o,_,_,e,_⟩:=x;exact qR e
 |dT b=>obtain⟨_,_,_,_,o,_,_,e,_⟩:=x;exact qR e
 |set S n=>obtain⟨o,_,_,_,e,_⟩:=x;exact qR e
 |ins C b fs=>obtain⟨_,_,_,e,_⟩:=x;exact qR e
 |own y=>obtain⟨_,e⟩:=x;exact qR e
 |xd fs=>obtain⟨_,⟨_,_,_,e,_⟩,_⟩:=x;exact qR e
 |rng lo b=>obtain⟨_,_,_,e⟩:=x;exact qR e
 |jG b u=>obtain⟨e,_⟩:=x;exact qR e
 |tbl ps=>exact qR (show h.get? a=some _ from x)
 |met f y=>exact qR (show h.get? a=some _ from x)
 |ext b=>obtain⟨_,⟨_,e⟩,_⟩:=x;exact qR e
def Paired.Qc5{α β:Type}{F G:α->β->Prop}:∀{c:qa α}{d:qa β},Paired F c d->(∀a b,F a b->G a b)->Paired G c d
 |_,_,.nil,_=>.nil
 |_,_,.cons r t,f=>.cons (f _ _ r) (Paired.Qc5 t f)
def QY.stay(x:QY P w H h a o)(k:∀b u,(b=a\/H b=some (.own a))->h.get? b=some u->h'.get? b=some u)
 (m:∀b,H b=some (.own a)->H' b=some (.own a)) (l:∀b xs,H b=some (.tup xs)->H' b=some (.tup xs)):QY P w H' h' a o:=by
 induction o with
 |lst xs=>obtain⟨z,its,n,r,e⟩:=x;exact⟨z,its,n,r,k _ _ (.inl rfl) e⟩
 |tup xs=>obtain⟨z,its,r,g,e,c⟩:=x;exact⟨z,its,r,g,k _ _ (.inl rfl) e,c⟩
 |dK j=>obtain⟨z,y,vs,r,g,es,i,e,c⟩:=x;exact⟨z,y,vs,r,g,es,i,k _ _ (.inl rfl) e,c⟩
 |dT j=>
  obtain⟨z,y,xs,r,g,es,i,e,c⟩:=x;exact⟨z,y,xs,Paired.Qc5 r λp q z=>⟨z.1,l _ _ z.2.1,z.2.2⟩,g,es,i,k _ _ (.inl rfl) e,c⟩
 |set S n=>obtain⟨g,es,i,t,e,c⟩:=x;exact⟨g,es,i,t,k _ _ (.inl rfl) e,c⟩
 |ins C A fs=>
  obtain⟨d,z,ne,e,j,⟨l,es,i,s,c⟩,r⟩:=x;exact⟨m _ d,z,ne,k _ _ (.inl rfl) e,j,⟨l,es,i,k _ _ (.inr d) s,c⟩,r⟩
 |own y=>obtain⟨g,e⟩:=x;exact⟨g,k _ _ (.inl rfl) e⟩
 |xd fs=>obtain⟨j,⟨l,es,i,e,c⟩,r⟩:=x;exact⟨j,⟨l,es,i,k _ _ (.inl rfl) e,c⟩,r⟩
 |rng lo i=>obtain⟨t,u,v,e⟩:=x;exact⟨t,u,v,k _ _ (.inl rfl) e⟩
 |jG g u i=>obtain⟨e,q⟩:=x;exact⟨k _ _ (.inl rfl) e,i q⟩
 |tbl ps=>
  have e:h.get? a=some {cls:=.none,data:=.fields ps}:=x;show h'.get? a=some {cls:=.none,data:=.fields ps};exact k a _ (.inl rfl) e
 |met f y=>
  have e:h.get? a=some (methodObj (.ref f) (.ref y)):=x;show h'.get? a=some (methodObj (.ref f) (.ref y));exact k a _ (.inl rfl) e
 |ext g=>obtain⟨p,⟨o,e⟩,st⟩:=x;exact⟨st _ _ p λo q=>k _ _ (.inl rfl) q,⟨o,k _ _ (.inl rfl) e⟩,st⟩
def lF.lt(x:lF P w H h)(e:H a=some o):a<h.objs.size:=(x a o e).lt
def lF.fresh(x:lF P w H h)(e:h.objs.size<=a):H a=none:=by
 cases q:H a with
 |none=>rfl
 |some u=>exact absurd (zj (x.lt q) e) (yp _)
def lF.kept(x:lF P w H h)(k:∀b u,h.get? b=some u->h'.get? b=some u):lF P w H h':=λa o e=>
 (x a o e).stay (λb u _ q=>k b u q) (λ_ q=>q) λ_ _ q=>q
def lF.laid(x:lF P w H h)(k:∀b u,h.get? b=some u->h'.get? b=some u)(g:h.objs.size<=a)(new:QY P w (upd H a o) h' a o):lF P w (upd H a o) h':=λb u e=>by
 have d:=x.fresh g;by_cases f:b=a
 .subst f;rw[Qc] at e;cases e;exact new
 .rw[Qa f] at e;exact(x b u e).stay (λc v _ q=>k c v q) (λc q=>by rw[Qa (Qb q d)];exact q) λc xs q=>by rw[Qa (Qb q d)];exact q
end
def Rd(H:Hp)(a:qc)(u:HO):Prop:=H a=some u\/∃o,H a=some (.jG o u)
def Rd.ok{u:HO}(r:Rd H a u)(x:lF P w H h):QY P w H h a u:=by
 rcases r with r|⟨o,r⟩
 .exact x a u r
 .obtain⟨_,q⟩:=x a _ r;exact q
def Mut:Option HO->Prop
 |some (.lst _)=>True
 |some (.dK _)=>True
 |some (.dT _)=>True
 |some (.set _ _)=>True
 |some (.ins _ _ _)=>True
 |some (.ext _)=>True
 |_=>False
section
variable {P:Program}{w:World}{H:Hp}{h h':Heap}{x e:qc}{o':HO}
def lF.write(ok:lF P w H h)(g:Mut (H x))(he:e=x\/H e=some (.own x))(k:∀b u,b≠e->h.get? b=some u->h'.get? b=some u)(j:∃u,h'.get? e=some u)
 (new:QY P w (upd H x o') h' x o'):lF P w (upd H x o') h':=λb u q=>by
 have d:∀c y,H c=some (.own y)->c≠x:=λc y r z=>by subst z;rw[r] at g;exact g
 have f:∀c xs,H c=some (.tup xs)->c≠x:=λc xs r z=>by subst z;rw[r] at g;exact g
 by_cases i:b=x
 .subst i;rw[Qc] at q;cases q;exact new
 .rw[Qa i] at q;by_cases a:b=e
  .have l:H b=some (.own x):=by
    rcases he with z|z
    .exact absurd (a.trans z) i
    .rw[a];exact z
   rw[q] at l;cases l;obtain⟨v,m⟩:=j;exact⟨v,by rw[a];exact m⟩
  .refine(ok b u q).stay (λc v hc r=>k c v ?_ r) (λc r=>by rw[Qa (d c b r)];exact r) λc xs r=>by rw[Qa (f c xs r)];exact r
   rcases hc with rfl|hc
   .exact a
   .rintro rfl;rcases he with z|z
    .exact d c b hc z
    .rw[hc] at z;cases z;exact i rfl
end
structure Un(fs ex:qa qc)(H H':Hp)(h h':Heap):Prop where
 keep:∀b o,h.get? b=some o->H b=none->b∉fs->b∉ex->h'.get? b=some o
 slot:∀b o,h.get? b=some o->H b=none->b∈fs->b∉ex->∃sl,h'.get? b=some {o with slots:=sl}
 free:∀b o,h.get? b=some o->H b=none->b∉ex->H' b=none
 there:∀b o,h.get? b=some o->b∉ex->∃o',h'.get? b=some o'
 tups:∀b xs,H b=some (.tup xs)->H' b=some (.tup xs)
 nH:∀b o u,H b=some (.jG o u)->H' b=some (.jG o u)
 rL:∀b ps,H b=some (.tbl ps)->∃more,H' b=some (.tbl (ps++more))
section
variable {fs fs' ex ex':qa qc}{H H1 H2:Hp}{h h1 h2 h':Heap}{a x e:qc}{o:HO}
def Un.any(u:Un fs ex H H1 h h1){a:Obj}(q:h.get? b=some a)(n:H b=none)(c:b∉ex):∃e,h1.get? b=some {a with slots:=e}:=by
 by_cases d:b∈fs
 .exact u.slot b a q n d c
 .exact⟨a.slots,u.keep b a q n d c⟩
def Un.kept(k:∀b u,h.get? b=some u->h'.get? b=some u):Un fs ex H H h h':=
 ⟨λb a q _ _ _=>k b a q,λb a q _ _ _=>⟨a.slots,k b a q⟩,λ_ _ _ n _=>n,λb a q _=>⟨a,k b a q⟩,λ_ _ q=>q,λ_ _ _ q=>q,λ_ ps q=>⟨#[],by rw[q];simp⟩⟩
def Un.refl:Un fs ex H H h h:=Un.kept λ_ _ q=>q
def Un.laid(k:∀b u,h.get? b=some u->h'.get? b=some u)(d:h.objs.size<=a)(c:H a=none):Un fs ex H (upd H a o) h h' where
 keep:=λb u q _ _ _=>k b u q
 slot:=λb u q _ _ _=>⟨u.slots,k b u q⟩
 free:=λb u q n _=>by rw[Qa (za (zj (qR q) d))];exact n
 there:=λb u q _=>⟨u,k b u q⟩
 tups:=λb xs q=>by rw[Qa (Qb q c)];exact q
 nH:=λb u xs q=>by rw[Qa (Qb q c)];exact q
 rL:=λb ps q=>⟨#[],by rw[Qa (Qb q c),q];simp⟩
def Un.write(c:Mut (H x))(he:e=x\/H e=some (.own x))(k:∀b u,b≠e->h.get? b=some u->h'.get? b=some u)(d:∃u,h'.get? e=some u):Un fs ex H (upd H x o) h h':=by
 have f:∀b,H b=none->b≠x:=λb n z=>by subst z;rw[n] at c;exact c
 have g:∀b,H b=none->b≠e:=λb n z=>by
  subst z;rcases he with r|r
  .exact f b n r
  .rw[n] at r;cases r
 have hm:∀b u,H b=some u->¬Mut (some u)->b≠x:=λb u q nm z=>by subst z;rw[q] at c;exact nm c
 refine⟨λb u q n _ _=>k b u (g b n) q,λb u q n _ _=>⟨u.slots,k b u (g b n) q⟩,λb u q n _=>by rw[Qa (f b n)];exact n,λb u q _=>?_,
  λb xs q=>by rw[Qa (hm b _ q λz=>z)];exact q,λb u xs q=>by rw[Qa (hm b _ q λz=>z)];exact q,λb ps q=>⟨#[],by rw[Qa (hm b _ q λz=>z),q];simp⟩⟩
 by_cases a:b=e
 .subst a;exact d
 .exact⟨u,k b u a q⟩
end
def trk(h:Heap)(H:Hp):qa qc:=(List.range h.objs.size).filter λa=>(H a).isSome
def HC(h:Heap)(H:Hp):Heap:=PySem.W.hideAll h (trk h H)
def Rt(h:Heap)(H:Hp):(HC h H).objs.size=h.objs.size:=PySem.W.hideAll_size _ _
def av{o:Obj}(e:h.get? b=some o)(n:H b=none):(HC h H).get? b=some o:=
 PySem.W.hideAll_get _ e λhm=>by
  have q:(H b).isSome=true:=(qo.mp hm).2;rw[n] at q;simp at q
def cf{o:Obj}(e:(HC h H).get? b=some o):h.get? b=some o/\H b=none:=by
 have a:h.get? b=some o:=PySem.W.of_hideAll (trk h H) e;refine⟨a,?_⟩
 cases q:H b with
 |none=>rfl
 |some x=>
  have hm:b∈trk h H:=qo.mpr ⟨xk.mpr (qR a),by simp[q]⟩;have z:(HC h H).get? b=none:=PySem.W.hideAll_none (trk h H) hm;rw[z] at e;cases e
structure Mod(K:Frag)(mg:qb->Option qd)(base:Heap):Prop where
 kin:K.In base
 glob:base.Ns mainGlobals mg
 blt:∃mb,base.Ns builtinsNs mb/\∀x:qb,x≠"__name__"->mb x=bootBuiltins x
 nolimit:base.NoLimit
structure Cx where
 prog:Program
 w:World
 K:Frag
 mg:qb->Option qd
 base:Heap
 A:Around
 N:qe
 s₀:Shared
 H₀:Hp
 env:Env
 outer:qa Env
 stack:qa Env
 ex:qa qc
 fn:qb->Bool
 calm:Bool
 pn:qa (qc×Obj)
 xe:qf
variable {X:Cx}
def frs(l:qa Env):qa qc:=l.filterMap (·.frame)
abbrev Cx.fs(X:Cx):qa qc:=frs X.outer
def Vis(sc:Scope)(x:qb):Prop:=sc.names.lookup x=some .local\/sc.names.lookup x=some .cell\/sc.names.lookup x=some .free
def Loc(sc:Scope)(x:qb):Prop:=sc.names.lookup x=some .local\/sc.names.lookup x=some .cell
def Look(env:Env)(h:Heap)(m:qb->Option qd)(x:qb)(u:qd):Prop:=
 (env.kindOf x=some .local/\m x=some u)\/((env.kindOf x=some .cell\/env.kindOf x=some .free)/\∃c,env.cells.lookup x=some c/\h.IsCell c (some u))
structure Cx.Ok(X:Cx):Prop where
 mod:Mod X.K X.mg X.base
 kind:X.env.scope.kind=.function
 glob:X.env.globals=mainGlobals
 blt:X.env.builtins=builtinsNs
 above:X.s₀.heap.objs.size<=X.env.locals
 inj:∀x y c,X.env.cells.lookup x=some c->X.env.cells.lookup y=some c->x=y
 has:∀x,(X.env.kindOf x=some .cell\/X.env.kindOf x=some .free)->∃c,X.env.cells.lookup x=some c
 cab:∀x c,X.fn x=true->X.env.cells.lookup x=some c->X.s₀.heap.objs.size<=c
 hd:X.calm=true->X.A.handled=none
 frames:X.A.frames=some X.stack
 stk:X.stack=X.outer\/(X.stack=X.env::X.outer/\X.env.frame=some X.env.locals)
 exf:∀b∈X.ex,b≠X.env.locals/\∀x c,X.env.cells.lookup x=some c->c≠b
 bs:∀b o,X.base.get? b=some o->X.s₀.heap.get? b=some o/\X.H₀ b=none
 bsz:X.base.objs.size<=X.s₀.heap.objs.size
 Qcz:∀b o,X.base.get? b=some o->b∉X.ex
 QcI:∀b∈X.ex,b∉X.fs
 oV:X.s₀.heap.FunFrames X.base X.outer
 frf:∀b∈X.fs,X.H₀ b=none
structure Inv(X:Cx)(pins:qa (qc×Obj))(σ:qa (Option V))(H:Hp)(s:Shared):Prop where
 ok:X.Ok
 os:s.os=X.s₀.os
 bare:AllBare s.gens
 base:Un X.fs X.ex X.H₀ H X.s₀.heap s.heap
 loc:∃m,s.heap.Ns X.env.locals m/\∀(i:Nat)(x:qb)(v:V),X.N[i]?=some x->σ[i]?=some (some v)->Vis X.env.scope x->∃u,QO v u/\Look X.env s.heap m x u
 cell:∀x c,X.env.cells.lookup x=some c->∃v,s.heap.IsCell c v
 free:H X.env.locals=none
 vV:∀x c,X.env.cells.lookup x=some c->H c=none
 pin:∀p∈X.pn++pins,s.heap.get? p.1=some p.2/\H p.1=none/\p.1≠X.env.locals/\p.1∉X.fs/\∀v,p.2.data≠.cell v
 hok:lF X.prog X.w H s.heap
 len:σ.length=X.N.length
section
variable {X:Cx}{pins:qa (qc×Obj)}{σ:qa (Option V)}{H H':Hp}{s:Shared}{h':Heap}
def Cx.Ok.nofr(ok:X.Ok){o:Obj}(e:X.base.get? b=some o):b∉X.fs:=λa=>by
 have:=(ok.oV.mem a).1;rw[e] at this;cases this
def Inv.bs(I:Inv X pins σ H s):∀b o,X.base.get? b=some o->s.heap.get? b=some o/\H b=none:=λb o e=>
 ⟨I.base.keep b o (I.ok.bs b o e).1 (I.ok.bs b o e).2 (I.ok.nofr e) (I.ok.Qcz b o e),I.base.free b o (I.ok.bs b o e).1 (I.ok.bs b o e).2 (I.ok.Qcz b o e)⟩
def Inv.bk(I:Inv X pins σ H s):∀b o,X.base.get? b=some o->s.heap.get? b=some o:=λb o e=>(I.bs b o e).1
def Inv.mod(I:Inv X pins σ H s):Mod X.K X.mg X.base:=I.ok.mod
def Inv.oQ(I:Inv X pins σ H s):X.K.In s.heap:=I.ok.mod.kin.keeps I.bk
def Inv.lt(I:Inv X pins σ H s):X.env.locals<s.heap.objs.size:=let ⟨_,a,_⟩:=I.loc;a.lt
def Inv.sz(I:Inv X pins σ H s):X.s₀.heap.objs.size<=s.heap.objs.size:=zm I.ok.above (vw I.lt)
def Inv.nofs(I:Inv X pins σ H s)(h:s.heap.objs.size<=a):a∉X.fs:=λb=>by
 obtain⟨_,o,c,_⟩:=I.ok.oV.mem b;exact absurd (zj (qR c) (zm I.sz h)) (yp _)
def Inv.cne(I:Inv X pins σ H s):∀x c,X.env.cells.lookup x=some c->c≠X.env.locals:=λx c e z=>by
 obtain⟨v,o,d,hd⟩:=I.cell x c e;obtain⟨m,⟨f,es,g,a,b,_⟩,_⟩:=I.loc;rw[z,a] at d;cases d;rw[b] at hd;cases hd
def Inv.oV(I:Inv X pins σ H s):s.heap.FunFrames X.base X.outer:=by
 have all:∀(l:qa Env),(∀b∈frs l,b∈X.fs)->X.s₀.heap.FunFrames X.base l->s.heap.FunFrames X.base l:=by
  intro l
  induction l with
  |nil=>intro _ _;trivial
  |cons env r f=>
   intro d g;obtain⟨h,⟨L,o,hf,i,j,hd⟩,k⟩:=g;have a:L∈X.fs:=d L (by unfold frs;rw[QaW,hf];exact qz);obtain⟨m,e⟩:=I.base.slot L o j (I.ok.frf L a) a λz=>I.ok.QcI L z a;exact⟨h,⟨L,_,hf,i,e,hd⟩,f (λb c=>d b (by unfold frs;rw[QaW,hf];exact qF _ c)) k⟩
 exact all X.outer (λ_ c=>c) I.ok.oV
def Inv.stack(I:Inv X pins σ H s):s.heap.FunFrames X.base X.stack:=by
 rcases I.ok.stk with e|⟨e,hf⟩
 .rw[e];exact I.oV
 .rw[e];obtain⟨m,a,_⟩:=I.loc;refine .cons (by rw[I.ok.kind];decide) hf a ?_ I.oV;exact Heap.get?_none_of_le (zm I.ok.bsz I.ok.above)
def Inv.Qa0(I:Inv X pins σ H s):∀b∈frs X.stack,b∈X.env.locals::X.fs:=λb a=>by
 rcases I.ok.stk with e|⟨e,hf⟩
 .rw[e] at a;exact qF _ a
 .rw[e] at a;unfold frs at a;rw[QaW,hf] at a;exact a
def Inv.Qbw(I:Inv X pins σ H s):∀b∈frs X.stack,H b=none:=λb a=>by
 rcases qJ.mp (I.Qa0 b a) with e|a
 .rw[e];exact I.free
 .obtain⟨_,o,c,_⟩:=I.ok.oV.mem a;exact I.base.free b o c (I.ok.frf b a) λz=>I.ok.QcI b z a
def Inv.step{g':Array GenState}{d':Drawn}{ch:qa qc}(I:Inv X pins σ H s)
 (f:∀b∈ch,(b∈X.ex\/X.s₀.heap.objs.size<=b)/\b≠X.env.locals/\(∀x c,X.env.cells.lookup x=some c->c≠b)/\∀p∈X.pn++pins,p.1≠b)
 (keep:∀b o,b≠X.env.locals->b∉X.fs->b∉ch->s.heap.get? b=some o->H b=none->h'.get? b=some o)
 (slot:∀b o,b≠X.env.locals->b∈X.fs->b∉ch->s.heap.get? b=some o->H b=none->∃C,h'.get? b=some {o with slots:=C}) (free:∀b o,b∉ch->s.heap.get? b=some o->H b=none->H' b=none)
 (there:∀b o,b∉ch->s.heap.get? b=some o->∃y,h'.get? b=some y)
 (tups:∀b xs,H b=some (.tup xs)->H' b=some (.tup xs)) (nH:∀b o u,H b=some (.jG o u)->H' b=some (.jG o u)) (rL:∀b ps,H b=some (.tbl ps)->∃more,H' b=some (.tbl (ps++more)))
 (ns:∀m,s.heap.Ns X.env.locals m->h'.Ns X.env.locals m) (hok:lF X.prog X.w H' h') (hg:AllBare g') :
 Inv X pins σ H' {s with heap:=h',gens:=g',drawn:=d',toks:=t'}:=by
 have A:∀b o,X.s₀.heap.get? b=some o->b≠X.env.locals:=λb o e=>za (zj (qR e) I.ok.above);have h:∀b o,X.s₀.heap.get? b=some o->b∉X.ex->b∉ch:=λb o e a t=>by
  rcases (f b t).1 with z|z
  .exact a z
  .exact absurd (zj (qR e) z) (yp _)
 have cellK:∀x c,X.env.cells.lookup x=some c->∀v,s.heap.IsCell c v->h'.IsCell c v:=λx c e v ⟨o,w,hd⟩=>by
  have g:c∉ch:=λz=>(f c z).2.2.1 x c e rfl;by_cases hc:c∈X.fs
  .obtain⟨C,q⟩:=slot c o (I.cne x c e) hc g w (I.vV x c e);exact⟨_,q,hd⟩
  .exact⟨o,keep c o (I.cne x c e) hc g w (I.vV x c e),hd⟩
 refine⟨I.ok,I.os,hg,⟨λb o e n t a=>?_,λb o e n t a=>?_,λb o e n a=>?_,λb o e a=>?_,λb xs e=>tups b xs (I.base.tups b xs e),λb o xs e=>nH b o xs (I.base.nH b o xs e),λb ps e=>?_⟩,?_,λx c e=>?_,?_,λx c e=>?_,λp E=>?_,hok,I.len⟩
 .exact keep b o (A b o e) t (h b o e a) (I.base.keep b o e n t a) (I.base.free b o e n a)
 .obtain⟨C,j⟩:=I.base.slot b o e n t a;obtain⟨D,B⟩:=slot b _ (A b o e) t (h b o e a) j (I.base.free b o e n a);exact⟨D,B⟩
 .obtain⟨y,j⟩:=I.base.there b o e a;exact free b y (h b o e a) j (I.base.free b o e n a)
 .obtain⟨y,j⟩:=I.base.there b o e a;exact there b y (h b o e a) j
 .obtain⟨y,j⟩:=I.base.rL b ps e;obtain⟨C,B⟩:=rL b _ j;exact⟨y++C,by rw[B,Array.append_assoc]⟩
 .obtain⟨m,y,C⟩:=I.loc;refine⟨m,ns m y,λi x v j B D=>?_⟩;obtain⟨u,r,l⟩:=C i x v j B D;refine⟨u,r,?_⟩;rcases l with l|⟨k,c,e,z⟩
  .exact .inl l
  .exact .inr ⟨k,c,e,cellK x c e _ z⟩
 .obtain⟨v,z⟩:=I.cell x c e;exact⟨v,cellK x c e v z⟩
 .obtain⟨m,⟨o,_,_,w,_⟩,_⟩:=I.loc;exact free _ o (λz=>(f _ z).2.1 rfl) w I.free
 .obtain⟨v,o,w,hd⟩:=I.cell x c e;exact free c o (λz=>(f c z).2.2.1 x c e rfl) w (I.vV x c e)
 .obtain⟨e,n,ne,j,d⟩:=I.pin p E;have g:p.1∉ch:=λz=>(f p.1 z).2.2.2 p E rfl;exact⟨keep p.1 p.2 ne j g e n,free p.1 p.2 g e n,ne,j,d⟩
def Inv.un(I:Inv X pins σ H s)(u:Un X.fs [] H H' s.heap h')(hok:lF X.prog X.w H' h'):Inv X pins σ H' {s with heap:=h',toks:=t'}:=by
 obtain⟨m,⟨o,es,j,g,r⟩,_⟩:=id I.loc;obtain⟨k,h⟩:=u.any g I.free (by simp);exact I.step (g':=s.gens) (d':=s.drawn) (ch:=[]) nofun (λb o _ c _ e n=>u.keep b o e n c (by simp)) (λb o _ c _ e n=>u.slot b o e n c (by simp)) (λb o _ e n=>u.free b o e n (by simp)) (λb o _ e=>u.there b o e (by simp)) u.tups u.nH u.rL (λl hm=>by
  obtain⟨p,d,f,a,i⟩:=hm;rw[g] at a;cases a;exact⟨_,d,f,h,i⟩) hok I.bare
def Inv.call{g':Array GenState}{d':Drawn}{ch:qa qc}(I:Inv X pins σ H s)(u:Un (frs X.stack) ch H H' s.heap h')(hok:lF X.prog X.w H' h')(hg:AllBare g')
 (a:∀b∈ch,(b∈X.ex\/X.s₀.heap.objs.size<=b)/\b≠X.env.locals/\(∀x c,X.env.cells.lookup x=some c->c≠b)/\∀p∈X.pn++pins,p.1≠b) :
 Inv X pins σ H' {s with heap:=h',gens:=g',drawn:=d',toks:=t'}:=by
 obtain⟨m,⟨o,es,l,i,r⟩,_⟩:=id I.loc;obtain⟨q,f⟩:=u.any i I.free λz=>(a _ z).2.1 rfl;exact I.step (ch:=ch) a (λb o f j hc e n=>u.keep b o e n (λz=>(qJ.mp (I.Qa0 b z)).elim f j) hc) (λb o _ _ hc e n=>u.any e n hc) (λb o hc e n=>u.free b o e n hc) (λb o hc e=>u.there b o e hc) u.tups u.nH u.rL (λt hm=>by
  obtain⟨v,g,h,d,k⟩:=hm;rw[i] at d;cases d;exact⟨_,g,h,f,k⟩) hok hg
def Inv.turned{it:qc}(I:Inv X pins σ H s)(k:∀b o,b≠it->s.heap.get? b=some o->h'.get? b=some o)(f:H it=none)(d:it≠X.env.locals)
 (g:it∈X.ex\/X.s₀.heap.objs.size<=it) (h:∀x c,X.env.cells.lookup x=some c->c≠it) (i:∀p∈X.pn++pins,p.1≠it):Inv X pins σ H {s with heap:=h',toks:=t'}:=by
 have a:∀b u,H b=some u->b≠it:=λb u e z=>by rw[z,f] at e;cases e
 refine I.step (g':=s.gens) (d':=s.drawn) (ch:=[it]) (λb j=>?_) (λb o _ _ hc e _=>k b o (λz=>hc (by simp[z])) e) (λb o _ _ hc e _=>⟨o.slots,k b o (λz=>hc (by simp[z])) e⟩) (λ_ _ _ _ n=>n)
  (λb o hc e=>⟨o,k b o (λz=>hc (by simp[z])) e⟩) (λ_ _ e=>e) (λ_ _ _ e=>e) (λb ps e=>⟨#[],by rw[e];simp⟩) (λm hm=>?_) (λb u e=>?_) I.bare
 .have e:b=it:=by simpa using j
  subst e;exact⟨g,d,h,i⟩
 .obtain⟨o,es,g,h,r⟩:=hm;exact⟨o,es,g,k _ o (xK d) h,r⟩
 .refine(I.hok b u e).stay (λc v hc q=>k c v ?_ q) (λ_ q=>q) λ_ _ q=>q;rcases hc with z|z
  .rw[z];exact a b u e
  .exact a c _ z
def Inv.tok(I:Inv X pins σ H s)(t:Nat):Inv X pins σ H {s with toks:=t}:=I.un (h':=s.heap) (t':=t) Un.refl I.hok
def Inv.kept(I:Inv X pins σ H s)(k:∀b u,s.heap.get? b=some u->h'.get? b=some u):Inv X pins σ H {s with heap:=h',toks:=t'}:=I.un (Un.kept k) (I.hok.kept k)
def Inv.laid(I:Inv X pins σ H s)(k:∀b u,s.heap.get? b=some u->h'.get? b=some u)(c:s.heap.objs.size<=a)(new:QY X.prog X.w (upd H a o) h' a o) :
 Inv X pins σ (upd H a o) {s with heap:=h',toks:=t'}:=I.un (Un.laid k c (I.hok.fresh c)) (I.hok.laid k c new)
def Inv.write{x e:qc}(I:Inv X pins σ H s)(c:Mut (H x))(he:e=x\/H e=some (.own x))(k:∀b u,b≠e->s.heap.get? b=some u->h'.get? b=some u)(a:∃u,h'.get? e=some u)
 (new:QY X.prog X.w (upd H x o) h' x o):Inv X pins σ (upd H x o) {s with heap:=h',toks:=t'}:=I.un (Un.write c he k a) (I.hok.write c he k a new)
def Inv.Qbz{a:qa (qc×Obj)}(I:Inv X pins σ H s)(h:∀p∈a,s.heap.get? p.1=some p.2/\H p.1=none/\p.1≠X.env.locals/\p.1∉X.fs/\∀v,p.2.data≠.cell v):Inv X a σ H s:=
 ⟨I.ok,I.os,I.bare,I.base,I.loc,I.cell,I.free,I.vV,λp b=>(qr.mp b).elim (λz=>I.pin p (qy _ z)) (h p),I.hok,I.len⟩
def Lf{N:qe}(c:N.Nodup){j:Nat}(a:N[i]?=some x)(b:N[j]?=some x):i=j:=by
 obtain⟨f,d⟩:=qY.mp a;obtain⟨g,e⟩:=qY.mp b;exact(List.getElem_inj c).mp (d.trans e.symm)
def EB{E:qf}{Q:Unit->Shared->Prop}(I:Inv X pins σ H s)(hN:X.N.Nodup)(J:X.N[i]?=some x)(l:Loc X.env.scope x)(r:QO v u)
 (h:∀s',Inv X pins (σ.set i (some v)) H s'->(∃a,Heap.SameBut a s.heap s'.heap/\(a=X.env.locals\/X.env.cells.lookup x=some a))->Q () s') (hf:X.fn x=true\/X.env.scope.names.lookup x=some .local:=by first|exact .inl rfl|exact .inr rfl|assumption):wpAny M A (storeName X.env x u) Q E s:=by
 obtain⟨m,S,hl⟩:=id I.loc;have K:(X.env.scope.kind==.class||(X.env.scope.kind==.module&&X.env.locals != X.env.globals))=false:=by rw[I.ok.kind];rfl
 have w:i<σ.length:=by rw[I.len];exact(qY.mp J).1
 have C:=I.cne;have tracked:∀{a:qc}{h':Heap},(∃o,s.heap.get? a=some o/\H a=none)->Heap.SameBut a s.heap h'->lF X.prog X.w H h':=λ{a h'} ha f b ob e=>by
  obtain⟨_,_,g⟩:=ha;refine(I.hok b ob e).stay (λc P hc q=>(f.2 c ?_).trans q) (λ_ q=>q) λ_ _ q=>q;rintro rfl;rcases hc with rfl|hc
  .rw[g] at e;cases e
  .rw[g] at hc;cases hc
 rcases l with B|B
 .refine wpAny_storeName_local B S (λh' G f=>?_) K;obtain⟨N,_,_,L,_⟩:=id S;refine h _ ⟨I.ok,I.os,I.bare,⟨λb o e n D l=>?_,λb o e n D l=>?_,I.base.free,λb o e l=>?_,I.base.tups,I.base.nH,I.base.rL⟩,⟨_,G,λj y T g t V=>?_⟩,λy c e=>?_,I.free,I.vV,λp Y=>?_,tracked ⟨N,L,I.free⟩ f,by simpa using I.len⟩ ⟨_,f,.inl rfl⟩
  .exact(f.2 b (za (zj (qR e) I.ok.above))).trans (I.base.keep b o e n D l)
  .obtain⟨Z,g⟩:=I.base.slot b o e n D l;exact⟨Z,(f.2 b (za (zj (qR e) I.ok.above))).trans g⟩
  .obtain⟨o',g⟩:=I.base.there b o e l;exact⟨o',(f.2 b (za (zj (qR e) I.ok.above))).trans g⟩
  .by_cases F:j=i
   .subst F;rw[J] at g;cases g;rw[jN w] at t;cases t;exact⟨u,r,.inl ⟨B,by simp⟩⟩
   .rw[Qad (xK F)] at t;obtain⟨u',r',q⟩:=hl j y T g t V;refine⟨u',r',?_⟩;rcases q with⟨k,e⟩|⟨k,c,e,z⟩
    .refine .inl ⟨k,?_⟩;have:y≠x:=λe=>F (Lf hN g (e▸J));simp[this,e]
    .exact .inr ⟨k,c,e,z.sameBut f (C y c e)⟩
  .obtain⟨P,z⟩:=I.cell y c e;exact⟨P,z.sameBut f (C y c e)⟩
  .obtain⟨e,n,ne,nf,d⟩:=I.pin p Y;exact⟨(f.2 p.1 ne).trans e,n,ne,nf,d⟩
 .have G:X.fn x=true:=by
   rcases hf with z|z
   .exact z
   .rw[z] at B;cases B
  obtain⟨c,hc⟩:=I.ok.has x (.inl B);obtain⟨P,z⟩:=I.cell x c hc;refine wpAny_storeName_cell I.ok.kind B hc z (λh' L f=>?_);obtain⟨oc,N,O⟩:=id z;refine h {s with heap:=h'} ⟨I.ok,I.os,I.bare,⟨λb o e n D l=>?_,λb o e n D l=>?_,I.base.free,λb o e l=>?_,I.base.tups,I.base.nH,I.base.rL⟩,⟨m,S.sameBut f (xK (C x c hc)),λj y T g t V=>?_⟩,λy R e=>?_,I.free,I.vV,λp Y=>?_,tracked ⟨oc,N,I.vV x c hc⟩ f,by simpa using I.len⟩ ⟨c,f,.inr hc⟩
  .exact(f.2 b (za (zj (qR e) (I.ok.cab x c G hc)))).trans (I.base.keep b o e n D l)
  .obtain⟨Z,g⟩:=I.base.slot b o e n D l;exact⟨Z,(f.2 b (za (zj (qR e) (I.ok.cab x c G hc)))).trans g⟩
  .obtain⟨o',g⟩:=I.base.there b o e l;exact⟨o',(f.2 b (za (zj (qR e) (I.ok.cab x c G hc)))).trans g⟩
  .by_cases F:j=i
   .subst F;rw[J] at g;cases g;rw[jN w] at t;cases t;exact⟨u,r,.inr ⟨.inl B,c,hc,L⟩⟩
   .rw[Qad (xK F)] at t;obtain⟨u',r',q⟩:=hl j y T g t V;refine⟨u',r',?_⟩;rcases q with q|⟨k,R,e,Z⟩
    .exact .inl q
    .refine .inr ⟨k,R,e,Z.sameBut f ?_⟩;rintro rfl;exact F (Lf hN g (I.ok.inj _ _ _ e hc▸J))
  .by_cases F:R=c
   .subst F;exact⟨_,L⟩
   .obtain⟨Z,z2⟩:=I.cell y R e;exact⟨Z,z2.sameBut f F⟩
  .obtain⟨e,n,ne,nf,d⟩:=I.pin p Y;refine⟨(f.2 p.1 ?_).trans e,n,ne,nf,d⟩;intro q;rw[q,N] at e;have F:oc=p.2:=qN e;exact d P (by rw[<-F];exact O)
def H0{E:qf}{Q:Unit->Shared->Prop}(I:Inv X pins σ H s)(a:X.N.Nodup)(b:X.N[i]?=some x)(c:Loc X.env.scope x)(r:QO v u)
 (h:∀s',Inv X pins (σ.set i (some v)) H s'->Q () s') (hf:X.fn x=true\/X.env.scope.names.lookup x=some .local:=by first|exact .inl rfl|exact .inr rfl|assumption):wpAny M A (storeName X.env x u) Q E s:=
 EB I a b c r (λs' d _=>h s' d) hf
def Inv.call'{s':Shared}{ch:qa qc}(I:Inv X pins σ H s)(d:s'.os=s.os)(u:Un (frs X.stack) ch H H' s.heap s'.heap)(hok:lF X.prog X.w H' s'.heap)(hg:AllBare s'.gens)
 (a:∀b∈ch,(b∈X.ex\/X.s₀.heap.objs.size<=b)/\b≠X.env.locals/\(∀x c,X.env.cells.lookup x=some c->c≠b)/\∀p∈X.pn++pins,p.1≠b):Inv X pins σ H' s':=by
 obtain⟨h',g',d',t',f⟩:=s';have e:f=s.os:=d;subst e;exact I.call (g':=g') (t':=t') (d':=d') u hok hg a
end
abbrev XK:=qd->Option qc->Hp->Prop
abbrev St:=qa (Option V)
variable {σ:St}
abbrev VK:=V->Hp->Prop
variable {Q:VK}
abbrev TE:=St->Hp->VK->Prop
abbrev TT:=St->Hp->(Bool->Hp->Prop)->Prop
abbrev TA:=St->Hp->(qa V->Hp->Prop)->Prop
structure Wl where
 nx:St->Hp->Prop
 rt:VK
 bk:St->Hp->Prop:=λ_ _=>False
 ct:St->Hp->Prop:=λ_ _=>False
variable {D:Wl}
abbrev TS:=Wl->St->Hp->Prop
variable {tb:TS}
inductive EP(X:Cx)(pins:qa (qc×Obj))(σ:St)(Q:VK)(u:qd)(s':Shared):Prop
 |mk:∀v H',Inv X pins σ H' s'->QO v u->Q v H'->EP X pins σ Q u s'
inductive TP(X:Cx)(pins:qa (qc×Obj))(σ:St)(Q:Bool->Hp->Prop)(b:Bool)(s':Shared):Prop
 |mk:∀H',Inv X pins σ H' s'->Q b H'->TP X pins σ Q b s'
inductive AP(X:Cx)(pins:qa (qc×Obj))(σ:St)(Q:qa V->Hp->Prop)(us:qg)(s':Shared):Prop
 |mk:∀vs H',Inv X pins σ H' s'->QK vs us->Q vs H'->AP X pins σ Q us s'
inductive SPn(X:Cx)(pins:qa (qc×Obj))(N:St->Hp->Prop)(s':Shared):Prop
 |mk:∀σ' H',Inv X pins σ' H' s'->N σ' H'->SPn X pins N s'
inductive SPr(X:Cx)(pins:qa (qc×Obj))(N:VK)(u:qd)(s':Shared):Prop
 |mk:∀v σ' H',Inv X pins σ' H' s'->QO v u->N v H'->SPr X pins N u s'
def SP(X:Cx)(pins:qa (qc×Obj))(D:Wl)(f:Flow)(s':Shared):Prop:=
 match f with
 |.next=>SPn X pins D.nx s'
 |.brk=>SPn X pins D.bk s'
 |.cont=>SPn X pins D.ct s'
 |.ret u=>SPr X pins D.rt u s'
def PE(X:Cx)(e:Expr)(t:TE):Prop:=
 ∀(pins:qa (qc×Obj))(s:Shared)(σ:St)(H:Hp)(Q:VK),Inv X pins σ H s->t σ H Q->wpAny (model X.prog X.w) X.A (eval e X.env) (EP X pins σ Q) X.xe s
def PT(X:Cx)(e:Expr)(t:TT):Prop:=
 ∀(pins:qa (qc×Obj))(s:Shared)(σ:St)(H:Hp)(Q:Bool->Hp->Prop),Inv X pins σ H s->t σ H Q->wpAny (model X.prog X.w) X.A (isTrue e X.env (eval e X.env)) (TP X pins σ Q) X.xe s
def PW(X:Cx)(e:Expr)(t:TT):Prop:=
 ∀(whole:Sem qd)(pins:qa (qc×Obj))(s:Shared)(σ:St)(H:Hp)(Q:Bool->Hp->Prop),Inv X pins σ H s->t σ H Q->wpAny (model X.prog X.w) X.A (isTrue e X.env whole) (TP X pins σ Q) X.xe s
def PW.pt{t:TT}(h:PW X e t):PT X e t:=h _
def PA(X:Cx)(es:qa Expr)(t:TA):Prop:=
 ∀(pos:Pos)(pins:qa (qc×Obj))(s:Shared)(σ:St)(H:Hp)(Q:qa V->Hp->Prop),Inv X pins σ H s->t σ H Q->wpAny (model X.prog X.w) X.A (spliced (backTo pos (starEach es X.env))) (AP X pins σ Q) X.xe s
def PS(X:Cx)(st:Stmt)(t:TS):Prop:=
 ∀(pins:qa (qc×Obj))(s:Shared)(σ:St)(H:Hp)(D:Wl),Inv X pins σ H s->t D σ H->wpAny (model X.prog X.w) X.A (exec st X.env) (SP X pins D) X.xe s
def PSs(X:Cx)(st:qa Stmt)(t:TS):Prop:=
 ∀(pins:qa (qc×Obj))(s:Shared)(σ:St)(H:Hp)(D:Wl),Inv X pins σ H s->t D σ H->wpAny (model X.prog X.w) X.A (execs st X.env) (SP X pins D) X.xe s
def jE{α:Type}{t:Sem α}{Q Q':α->Shared->Prop}{E:qf}(h:wpAny M A t Q E s)(b:∀a s,Q a s->Q' a s):wpAny M A t Q' E s:=yQ h b λ_ _ x=>x
section
variable {X:Cx}
inductive RX(i:Nat)(σ:St)(H:Hp)(Q:VK):Prop
 |mk:∀v,σ[i]?=some (some v)->Q v H->RX i σ H Q
def gT(i:Nat):TE:=λσ H Q=>RX i σ H Q
def tC(v:V):TE:=λ_ H Q=>Q v H
def fx(f:X.N[i]?=some x)(g:Vis X.env.scope x)(hd:(x==("__debug__":qb))=false:=by decide)(d:(x==("__classdict__":qb))=false:=by decide):PE X (.Name x pos) (gT i):=by
 intro pins s σ H Q I h;obtain⟨v,e,h⟩:=h;obtain⟨m,j,k⟩:=I.loc;obtain⟨u,r,l⟩:=k i x v f e g;have fin:EP X pins σ Q u s:=⟨v,H,I,r,h⟩;rcases l with⟨b,hm⟩|⟨b,c,hc,a⟩
 .exact wpAny_Name (wpAny_loadName_local I.ok.kind b j hm fin) hd
 .rcases b with b|b
  .exact wpAny_Name (wpAny_loadName_cell I.ok.kind b hc a fin) hd
  .exact wpAny_Name (wpAny_loadName_free I.ok.kind b hc a fin d) hd
def Qi{i j pos}:PE X (.Constant (.int i) j pos) (tC (.int i)):=λ_ _ _ H _ I h=>wpAny_Constant_int ⟨.int i,H,I.tok _,⟨_,U⟩,h⟩
def YW{b j pos}:PE X (.Constant (.bool b) j pos) (tC (.bl b)):=λ_ _ _ H _ I h=>Constant_bool ⟨.bl b,H,I,U,h⟩
def A3{j pos}:PE X (.Constant .none j pos) (tC .non):=λ_ _ _ H _ I h=>Constant_none ⟨.non,H,I,U,h⟩
def Qq{x j pos}:PE X (.Constant (.str x) j pos) (tC (.str x)):=λ_ _ _ H _ I h=>Calls.Constant_str ⟨.str x,H,I.tok _,⟨_,U⟩,h⟩
def Gl(X:Cx)(x:qb):Prop:=X.env.kindOf x=some .globalImplicit
def Cn{E:qf}{Q:qf}(I:Inv X pins σ H s)(hg:Gl X x)(hm:X.mg x=some u)(h:Q u s)
 (hd:(x==("__debug__":qb))=false:=by decide):wpAny (model X.prog X.w) X.A (eval (.Name x pos) X.env) Q E s:=
 Calls.Name_function_global I.ok.kind hg (Calls.loadGlobal_global (by rw[I.ok.glob];exact I.mod.glob.keeps I.bk) hm h) hd
def Hw{E:qf}{Q:qf}(I:Inv X pins σ H s)(hg:Gl X x)(hm:X.mg x=none)(a:bootBuiltins x=some u)(h:Q u s)
 (b:x≠"__name__":=by decide) (hd:(x==("__debug__":qb))=false:=by decide):wpAny (model X.prog X.w) X.A (eval (.Name x pos) X.env) Q E s:=by
 obtain⟨e,c,d⟩:=I.mod.blt;exact Calls.Name_function_global I.ok.kind hg (Calls.loadGlobal_builtin (by rw[I.ok.glob];exact I.mod.glob.keeps I.bk) hm (by rw[I.ok.blt];exact c.keeps I.bk) ((d x b).trans a) h) hd
def bR(hg:Gl X x)(hm:X.mg x=some u)(r:QO v u)(hd:(x==("__debug__":qb))=false:=by decide):PE X (.Name x pos) (tC v):=
 λ_ _ _ H _ I h=>Cn I hg hm ⟨v,H,I,r,h⟩ hd
def WS(hg:Gl X x)(hm:X.mg x=none)(a:bootBuiltins x=some u)(r:QO v u)(b:x≠"__name__":=by decide)(hd:(x==("__debug__":qb))=false:=by decide):PE X (.Name x pos) (tC v):=
 λ_ _ _ H _ I h=>Hw I hg hm a ⟨v,H,I,r,h⟩ b hd
variable {a b:Expr}{ta tb:TE}{pos:Pos}
def PC(X:Cx)(op:CmpOp)(a b:Expr)(t:TE):Prop:=
 ∀(pins:qa (qc×Obj))(s:Shared)(σ:St)(H:Hp)(Q:VK),Inv X pins σ H s->t σ H Q ->
  wpAny (model X.prog X.w) X.A (eval a X.env) (λv c=>wpAny (model X.prog X.w) X.A (eval b X.env) (λu d=>wpAny (model X.prog X.w) X.A (compareOp op v u) (EP X pins σ Q) X.xe d) X.xe c) X.xe s
inductive hH(Q:(Bool->Hp->Prop))(x:V)(H1:Hp):Prop
 |mk:∀c,x=.bl c->Q c H1->hH Q x H1
def tB(t:TE):TT:=λσ H Q=>t σ H λx H1=>hH Q x H1
def UI{t:TE}(h:PC X op a b t)(e:behindInMarks op b=false:=by first|exact nobehind _ (by decide) (by decide)|rfl):PT X (.Compare a [op] [b] pos) (tB t):=by
 intro pins s σ H Q I hw;refine wpAny_isTrue_Compare1 (jE (h pins s σ H _ I hw) λv s1 e=>jE e λu s2 f=>jE f λc s3 ⟨x,H1,g,i,j⟩=>?_) e;obtain⟨d,rfl,q⟩:=j;cases i;exact js ⟨H1,g,q⟩
def UH{t:TE}(h:PE X e t)(he:∀whole,isTrue e X.env whole=(do let v <-whole;standAt e.pos;holding [v] (truthy v)):=by intro _;rfl):PT X e (tB t):=by
 intro pins s σ H Q I hw;refine isTrue_plain (jE (h pins s σ H _ I hw) λv s1 ⟨x,H1,a,b,c⟩=>?_) (he _);obtain⟨d,rfl,q⟩:=c;cases b;exact js ⟨H1,a,q⟩
variable {tA tB':TT}{rest:qa Expr}
def bA(t u:TT):TT:=λσ H Q=>t σ H λc H1=>if c=true then u σ H1 Q else Q false H1
def tOr(t u:TT):TT:=λσ H Q=>t σ H λc H1=>if c=true then Q true H1 else u σ H1 Q
def tNot(t:TT):TT:=λσ H Q=>t σ H λc H1=>Q (!c) H1
def U0(b:PT X a tA):PW X (.BoolOp .And [a] pos) tA:=by
 intro d pins s σ H Q I h;refine isTrue_and (jE (b pins s σ H Q I h) λc s1 e=>?_)
 cases c with
 |true=>exact isTrue_and_nil e
 |false=>exact e
def V1(b:PT X a tA):PW X (.BoolOp .Or [a] pos) tA:=by
 intro d pins s σ H Q I h;refine isTrue_or (jE (b pins s σ H Q I h) λc s1 e=>?_)
 cases c with
 |false=>exact isTrue_or_nil e
 |true=>exact e
def Vx(f:PT X a tA)(g:PW X (.BoolOp .And (b::rest) pos) tB'):PW X (.BoolOp .And (a::b::rest) pos) (bA tA tB'):=by
 intro i pins s σ H Q I h;refine isTrue_and (jE (f pins s σ H _ I h) λc s1 ⟨H1,d,e⟩=>?_)
 cases c with
 |true=>exact g i pins s1 σ H1 Q d e
 |false=>exact⟨H1,d,e⟩
def XN(f:PT X a tA)(g:PW X (.BoolOp .Or (b::rest) pos) tB'):PW X (.BoolOp .Or (a::b::rest) pos) (tOr tA tB'):=by
 intro i pins s σ H Q I h;refine isTrue_or (jE (f pins s σ H _ I h) λc s1 ⟨H1,d,e⟩=>?_)
 cases c with
 |true=>exact⟨H1,d,e⟩
 |false=>exact g i pins s1 σ H1 Q d e
def U3(b:PT X a tA):PT X (.UnaryOp .Not a pos) (tNot tA):=by
 intro pins s σ H Q I h;exact isTrue_not (jE (b pins s σ H (λc H1=>Q (!c) H1) I h) λc s1 ⟨H1,d,e⟩=>⟨H1,d,e⟩)
inductive NC(tb:TE)(σ:St)(Q:VK)(x:V)(H1:Hp):Prop
 |mk:∀c,x=.bl c->(if c=true then tb σ H1 Q else Q (.bl false) H1)->NC tb σ Q x H1
def hK(ta tb:TE):TE:=λσ H Q=>ta σ H λx H1=>NC tb σ Q x H1
inductive RY(tb:TE)(σ:St)(Q:VK)(x:V)(H1:Hp):Prop
 |mk:∀c,x=.bl c->(if c=true then Q (.bl true) H1 else tb σ H1 Q)->RY tb σ Q x H1
def tOrV(ta tb:TE):TE:=λσ H Q=>ta σ H λx H1=>RY tb σ Q x H1
inductive Nx(Q:VK)(x:V)(H1:Hp):Prop
 |mk:∀c,x=.bl c->Q (.bl (!c)) H1->Nx Q x H1
def gZ(ta:TE):TE:=λσ H Q=>ta σ H λx H1=>Nx Q x H1
def Gu{op}{t:TE}(h:PE X a t):PE X (.BoolOp op [a] pos) t:=λpins s σ H Q I hw=>BoolOp_one (h pins s σ H Q I hw)
def A5(f:PE X a ta)(g:PE X (.BoolOp .And (b::rest) pos) tb):PE X (.BoolOp .And (a::b::rest) pos) (hK ta tb):=by
 intro pins s σ H Q I h;refine BoolOp_and (jE (f pins s σ H _ I h) λv s1 ⟨x,H1,e,i,d⟩=>?_);obtain⟨c,rfl,d⟩:=d;cases i;refine js ?_
 cases c with
 |true=>exact g pins s1 σ H1 Q e d
 |false=>exact⟨.bl false,H1,e,U,d⟩
def SU(f:PE X a ta)(g:PE X (.BoolOp .Or (b::rest) pos) tb):PE X (.BoolOp .Or (a::b::rest) pos) (tOrV ta tb):=by
 intro pins s σ H Q I h;refine BoolOp_or (jE (f pins s σ H _ I h) λv s1 ⟨x,H1,e,i,d⟩=>?_);obtain⟨c,rfl,d⟩:=d;cases i;refine js ?_
 cases c with
 |false=>exact g pins s1 σ H1 Q e d
 |true=>exact⟨.bl true,H1,e,U,d⟩
def fz(d:PE X a ta):PE X (.UnaryOp .Not a pos) (gZ ta):=by
 intro pins s σ H Q I h;refine UnaryOp_ (jE (d pins s σ H _ I h) λv s1 ⟨x,H1,e,f,b⟩=>?_);obtain⟨c,rfl,b⟩:=b;cases f;exact not_of (js ⟨.bl (!c),H1,e,U,b⟩)
def tIf(t:TT)(ta tb:TE):TE:=λσ H Q=>t σ H λc H1=>if c=true then ta σ H1 Q else tb σ H1 Q
def C6(hc:PT X c tA)(g:PE X a ta)(i:PE X b tb):PE X (.IfExp c a b pos) (tIf tA ta tb):=by
 intro pins s σ H Q I h;refine wpAny_IfExp (jE (hc pins s σ H _ I h) λd s1 ⟨H1,e,f⟩=>?_)
 cases d with
 |true=>exact g pins s1 σ H1 Q e f
 |false=>exact i pins s1 σ H1 Q e f
end
def zQ(K:Frag)(H:Hp)(a:qc)(xs:qa V):Prop:=
 Rd H a (.lst xs) \/
  ∃(o:Obj)(its:Array qd)(n:Nat),K.lookup a=some o/\o.cls=.type "list"/\o.dict=none/\o.data=.seq its n/\its.size<=sizeLine/\QK xs its.toList
def jX(K:Frag)(H:Hp)(a:qc)(xs:qa V):Prop:=
 Rd H a (.tup xs) \/
  ∃(o:Obj)(its:Array qd)(n:Nat),K.lookup a=some o/\o.cls=.type "tuple"/\o.data=.seq its n/\its.size<=sizeLine/\QK xs its.toList
def absV:qd->Option V
 |.none=>some .non
 |.bool b=>some (.bl b)
 |.int i _=>some (.int i)
 |.str x _=>some (.str x)
 |.bytes b _=>some (.byt b)
 |.float b _=>some (.flt b)
 |.ref a=>some (.ref a)
 |.type n=>some (.ty n)
 |_=>none
def QO.abs{x:V}(r:QO x u):absV u=some x:=by
 cases x with
 |non=>cases r;rfl
 |bl _=>cases r;rfl
 |int _=>obtain⟨t,rfl⟩:=r;rfl
 |str _=>obtain⟨t,rfl⟩:=r;rfl
 |byt _=>obtain⟨t,rfl⟩:=r;rfl
 |flt _=>obtain⟨t,rfl⟩:=r;rfl
 |ref _=>cases r;rfl
 |ty _=>cases r;rfl
def QO.inj{x y:V}(r:QO x u)(q:QO y u):x=y:=qN (r.abs.symm.trans q.abs)
def QK.inj:∀{xs ys:qa V}{us:qg},QK xs us->QK ys us->xs=ys
 |_,_,_,.nil,.nil=>rfl
 |_,_,_,.cons r t,.cons a t'=>by rw[r.inj a,QK.inj t t']
section
variable {X:Cx}{pins:qa (qc×Obj)}{σ:St}{H:Hp}{s:Shared}{a:qc}{xs ys:qa V}
def zQ.of{K:Frag}(h:H a=some (.lst xs)):zQ K H a xs:=.inl (.inl h)
def jX.of{K:Frag}(h:H a=some (.tup xs)):jX K H a xs:=.inl (.inl h)
def Inv.list(I:Inv X pins σ H s)(h:zQ X.K H a xs):∃its:qg,QK xs its/\PlainL s.heap a its.toArray/\xs.length<=sizeLine:=by
 rcases h with h|⟨o,its,n,b,hc,hd,c,hz,r⟩
 .obtain⟨z,its,n,r,e⟩:=h.ok I.hok;exact⟨its,r,⟨_,n,e,U,U,U⟩,z⟩
 .refine⟨its.toList,r,⟨o,n,I.oQ a o b,hc,hd,by simpa using c⟩,?_⟩;have e:=r.length;simp only[zf] at e;omega
def Inv.tuple(I:Inv X pins σ H s)(h:jX X.K H a xs):∃its:qg,QK xs its/\IsTup s.heap a its.toArray/\xs.length<=sizeLine:=by
 rcases h with h|⟨o,its,n,b,hc,c,hz,r⟩
 .obtain⟨z,its,r,p⟩:=h.ok I.hok;exact⟨its,r,p,z⟩
 .refine⟨its.toList,r,⟨o,I.oQ a o b,hc,n,by simpa using c⟩,?_⟩;have e:=r.length;simp only[zf] at e;omega
def Inv.QcE(I:Inv X pins σ H s)(h:zQ X.K H a xs)(h':zQ X.K H a ys):xs=ys:=by
 obtain⟨its,r,⟨o,n,e,_,_,d⟩,_⟩:=I.list h;obtain⟨its',c,⟨g,i,b,_,_,d'⟩,_⟩:=I.list h';rw[e] at b;cases b;rw[d] at d'
 injection d' with f _
 have:its=its':=by simpa using zV Array.toList f
 subst this;exact r.inj c
end
abbrev Cx.wish(X:Cx)(E:qf):Cx:={X with xe:=E}
abbrev Cx.nox(X:Cx):Cx:=X.wish λ_ _=>False
def Cx.Ok.wish(ok:X.Ok)(E:qf):(X.wish E).Ok:=
 ⟨ok.mod,ok.kind,ok.glob,ok.blt,ok.above,ok.inj,ok.has,ok.cab,ok.hd,ok.frames,ok.stk,ok.exf,ok.bs,ok.bsz,ok.Qcz,ok.QcI,ok.oV,ok.frf⟩
def Cx.Ok.uT{E:qf}(ok:(X.wish E).Ok):X.Ok:=
 ⟨ok.mod,ok.kind,ok.glob,ok.blt,ok.above,ok.inj,ok.has,ok.cab,ok.hd,ok.frames,ok.stk,ok.exf,ok.bs,ok.bsz,ok.Qcz,ok.QcI,ok.oV,ok.frf⟩
section
variable {X:Cx}{pins:qa (qc×Obj)}{σ:St}{H:Hp}{s:Shared}{E:qf}
def Inv.wish(I:Inv X pins σ H s)(E:qf):Inv (X.wish E) pins σ H s:=⟨I.ok.wish E,I.os,I.bare,I.base,I.loc,I.cell,I.free,I.vV,I.pin,I.hok,I.len⟩
def Inv.uT(I:Inv (X.wish E) pins σ H s):Inv X pins σ H s:=⟨I.ok.uT,I.os,I.bare,I.base,I.loc,I.cell,I.free,I.vV,I.pin,I.hok,I.len⟩
def SP.uT{f:Flow}{s':Shared}(h:SP (X.wish E) pins D f s'):SP X pins D f s':=by
 cases f with
 |next=>obtain⟨a,H',I,q⟩:=h;exact⟨a,H',I.uT,q⟩
 |brk=>obtain⟨a,H',I,q⟩:=h;exact⟨a,H',I.uT,q⟩
 |cont=>obtain⟨a,H',I,q⟩:=h;exact⟨a,H',I.uT,q⟩
 |ret u=>obtain⟨v,a,H',I,r,q⟩:=h;exact⟨v,a,H',I.uT,r,q⟩
def PSs.nox{st:qa Stmt}{t:TS}(h:PSs X.nox st t):PSs X st t:=λpins s σ H D I hw=>
 yQ (h pins s σ H D (I.wish _) hw) (λ_ _ q=>q.uT) λ_ _ z=>False.elim z
end
section
variable {X:Cx}{st:Stmt}{rest:qa Stmt}{t u:TS}{e:Expr}{te:TE}{pos:Pos}
def RZ:TS:=λD σ H=>D.nx σ H
def YY(t u:TS):TS:=λD σ H=>t {D with nx:=u D} σ H
def QE:PSs X [] RZ:=λ_ _ σ H _ I h=>Qbs ⟨σ,H,I,h⟩
def Qd(b:PS X st t)(c:PSs X rest u):PSs X (st::rest) (YY t u):=by
 intro pins s σ H D I h;refine wpAny_execs_cons (jE (b pins s σ H {D with nx:=u D} I h) λf s1 q=>?_)
 cases f with
 |next=>
  obtain⟨a,H',d,q⟩:=q;exact c pins s1 a H' D d q
 |ret v=>exact q
 |brk=>exact q
 |cont=>exact q
def Qf(a:PS X st t):PSs X [st] t:=by
 intro pins s σ H D I h;refine wpAny_execs_cons (jE (a pins s σ H D I h) λf s1 q=>?_)
 cases f with
 |next=>exact Qbs q
 |ret v=>exact q
 |brk=>exact q
 |cont=>exact q
def hB:TS:=λD σ H=>D.ct σ H
def IU:PS X (.Continue pos) hB:=λ_ _ σ H _ I h=>wpAny_Continue ⟨σ,H,I,h⟩
def Inv.quiet(I:Inv X pins σ H s):interactive X.env=false:=by simp[interactive,I.ok.kind]
def g7(te:TE):TS:=λD σ H=>te σ H λ_ H1=>D.nx σ H1
def Qy(he:PE X e te)(a:swapsWith e none pos.line X.env=pure false:=by rfl):PS X (.Expr e pos) (g7 te):=by
 intro pins s σ H D I h;exact wpAny_Expr_any (jE (he pins s σ H _ I h) λv s1 ⟨x,H1,b,d,c⟩=>⟨σ,H1,b,c⟩) I.quiet a
def tRet(te:TE):TS:=λD σ H=>te σ H D.rt
def Qw(he:PE X e te):PS X (.Return (some e) pos) (tRet te):=by
 intro pins s σ H D I h;exact wpAny_Return_some (jE (he pins s σ H _ I h) λv s1 ⟨x,H1,a,b,c⟩=>⟨x,σ,H1,a,b,c⟩)
def gX:TS:=λD _ H=>D.rt .non H
def Om:PS X (.Return none pos) gX:=λ_ _ σ H _ I h=>wpAny_Return_none ⟨.non,σ,H,I,U,h⟩
def bw(c:TT)(t u:TS):TS:=λD σ H=>c σ H λb H1=>if b=true then t D σ H1 else u D σ H1
def QV{a b:qa Stmt}{e:TT}(hc:PT X c e)(i:PSs X a t)(j:PSs X b u):PS X (.If c a b pos) (bw e t u):=by
 intro pins s σ H D I h;refine wpAny_If (jE (hc pins s σ H _ I h) λd s1 ⟨H1,f,g⟩=>?_)
 cases d with
 |true=>exact i pins s1 σ H1 D f g
 |false=>exact j pins s1 σ H1 D f g
def ea:TS:=λ_ _ _=>False
def VS:PS X st ea:=λ_ _ _ _ _ _ h=>h.elim
end
abbrev TG:=V->St->Hp->(St->Hp->Prop)->Prop
variable {g:TG}
abbrev TGs:=qa V->St->Hp->(St->Hp->Prop)->Prop
def PG(X:Cx)(target:Expr)(t:TG):Prop:=
 ∀(pins:qa (qc×Obj))(s:Shared)(σ:St)(H:Hp)(v:V)(u:qd)(Q:St->Hp->Prop),Inv X pins σ H s->QO v u->t v σ H Q ->
  wpAny (model X.prog X.w) X.A (assign target X.env u) (λ_ s'=>∃a H',Inv X pins a H' s'/\Q a H') X.xe s
def PGs(X:Cx)(ts:qa Expr)(t:TGs):Prop:=
 ∀(pins:qa (qc×Obj))(s:Shared)(σ:St)(H:Hp)(vs:qa V)(us:qg)(Q:St->Hp->Prop),Inv X pins σ H s->QK vs us->t vs σ H Q ->
  wpAny (model X.prog X.w) X.A (assignInOrder ((assignEach ts X.env).map (·.2)) us) (λ_ s'=>∃a H',Inv X pins a H' s'/\Q a H') X.xe s
abbrev gB:=V->V->V->Hp->(Hp->Prop)->Prop
def iN(X:Cx)(t:gB):Prop:=
 ∀(pins:qa (qc×Obj))(s:Shared)(σ:St)(H:Hp)(o i v:V)(a b u:qd)(Q:Hp->Prop),Inv X pins σ H s->QO o a->QO i b->QO v u->t o i v H Q ->
  wpAny (model X.prog X.w) X.A (setItem a b u) (λ_ s'=>∃H',Inv X pins σ H' s'/\Q H') X.xe s
section
variable {X:Cx}{pos:Pos}
def BM(i:Nat):TG:=λv σ H Q=>Q (σ.set i (some v)) H
def Ye(a:X.N.Nodup)(b:X.N[i]?=some x:=by rfl)(c:Loc X.env.scope x:=by first|exact Or.inl rfl|exact Or.inr rfl)(hf:X.fn x=true\/X.env.scope.names.lookup x=some .local:=by first|exact .inl rfl|exact .inr rfl|assumption):PG X (.Name x pos) (BM i):=by
 intro pins s σ H v u Q I r h;exact wpAny_assign_Name (H0 I a b c r (λs' d=>⟨_,H,d,h⟩) hf)
def gNil:TGs:=λvs σ H Q=>vs=[]/\Q σ H
def iE(t:TG)(u:TGs):TGs:=λvs σ H Q=>∃v r,vs=v::r/\t v σ H λa H'=>u r a H' Q
def Ot:PGs X [] gNil:=by
 intro pins s σ H vs us Q I r h;obtain⟨e,h⟩:=h;subst e;cases r;exact assignInOrder_nil ⟨σ,H,I,h⟩
def Xf{es:qa Expr}{t:TG}{u:TGs}(b:PG X e t)(c:PGs X es u)
 (d:(assignEach (e::es) X.env).map (·.2)=assign e X.env::(assignEach es X.env).map (·.2):=by rfl):PGs X (e::es) (iE t u):=by
 intro pins s σ H vs us Q I r h;obtain⟨v,k,f,h⟩:=h;subst f
 cases r with
 |cons r g=>
  rw[d];refine assignInOrder_cons (jE (b pins s σ H _ _ _ I r h) λ_ s1 ⟨a,H1,i,j⟩=>?_);exact c pins s1 a H1 _ _ Q i g j
def gTup(K:Frag)(n:Nat)(t:TGs):TG:=λv σ H Q=>∃a xs,v=.ref a/\jX K H a xs/\xs.length=n/\t xs σ H Q
def SR{es:qa Expr}{k:Nat}{t:TGs}(hc:X.calm=true)(h:PGs X es t)
 (f:(assignEach es X.env).length=n:=by rfl) (c:(assignEach es X.env).findIdx? (·.1)=none:=by rfl):PG X (.Tuple es k pos) (gTup X.K n t):=by
 intro pins s σ H v u Q I r hw;obtain⟨a,xs,g,i,j,hw⟩:=hw;subst g;cases r;obtain⟨its,d,l,hz⟩:=I.tuple i;refine assign_Tuple_tuple (I.ok.hd hc) l (by simp[f,<-j,d.length]) c λh' m=>?_;have p:Inv X pins σ H {s with heap:=h'}:=I.kept (t':=s.toks) λb o e=>m b o (za (qR e)) e;exact h pins _ σ H xs _ Q p (by simpa using d) hw
def gSub(to a:TE)(t:gB):TG:=λv σ H Q=>to σ H λo H1=>a σ H1 λi b=>t o i v b λc=>Q σ c
def A1{o i:Expr}{to c:TE}{t:gB}(d:PE X o to)(e:PE X i c)(f:iN X t)
 (g:∀v,assign (.Subscript o i pos) X.env v=(do
   let a <-holding [v] (eval o X.env)
   let b <-holding [v,a] (eval i X.env)
   standAt pos
   holding [v,a,b] (setItem a b v)
   release [v,a,b] []):=by intro _;rfl):PG X (.Subscript o i pos) (gSub to c t):=by
 intro pins s σ H v u Q I r h;rw[g];refine qi (jz (jE (d pins s σ H _ I h) λa s1 ⟨x,H1,j,k,l⟩=>?_));refine qi (jz (jE (e pins s1 σ H1 _ j l) λb s2 ⟨y,m,n,p,q⟩=>?_));refine qi (wpAny_standAt (qi (jz (jE (f pins s2 σ m x y v a b u _ n k p r q) λ_ s3 ⟨w,z,A⟩=>?_))));exact wpAny_release ⟨σ,w,z,A⟩
def R8(a:TE)(g:TG):TS:=λD σ H=>a σ H λx H1=>g x σ H1 D.nx
def Gs{b:TE}(he:PE X e b)(hg:PG X tg g)(c:swapsWithSole [tg] e pos.line X.env=pure false:=by rfl)(hw:swappedStores [tg] e X.env=pure none:=by rfl)
 (d:(assignEach [tg] X.env).map (·.2)=[assign tg X.env]:=by rfl):PS X (.Assign [tg] e pos) (R8 b g):=by
 intro pins s σ H D I h;refine wpAny_Assign_stores (jE (he pins s σ H _ I h) λv s1 ⟨x,H1,f,i,j⟩=>?_) c hw;rw[d];exact jE (hg pins s1 σ H1 x v _ f i j) λ_ s2 ⟨a,k,l,m⟩=>⟨a,k,l,m⟩
def Qr{a:TE}{pos':Pos}(b:X.N.Nodup)(he:PE X e a)(c:X.N[i]?=some x:=by rfl)(d:Loc X.env.scope x:=by first|exact Or.inl rfl|exact Or.inr rfl)(f:swapsWith e (some (.Name x pos')) pos.line X.env=pure false:=by rfl)(hf:X.fn x=true\/X.env.scope.names.lookup x=some .local:=by first|exact .inl rfl|exact .inr rfl|assumption) :
 PS X (.Assign [.Name x pos'] e pos) (R8 a (BM i)):=by
 intro pins s σ H D I h;refine wpAny_Assign_Name (jE (he pins s σ H _ I h) λv s1 ⟨y,H1,g,j,k⟩=>?_) f;exact H0 g b c d j (λs2 l=>⟨_,H1,l,k⟩) hf
end
section
variable {X:Cx}{pos:Pos}
inductive HU(c:TT)(tb:TS)(D:Wl)(σ:St)(H:Hp):Prop
 |mk:∀W:Nat->St->Hp->Prop,(∃m,W m σ H)->(∀m σ H,W m σ H->c σ H λb H1=>if b=true then ∃N:St->Hp->Prop,(∀σ' H',N σ' H'->∃m',m'<m/\W m' σ' H')/\tb {D with nx:=N,ct:=N,bk:=D.nx} σ H1 else D.nx σ H1)->HU c tb D σ H
def d9(c:TT)(tb:TS):TS:=λD σ H=>HU c tb D σ H
def C4{p:TT}(q:PassesOwn (model X.prog X.w) X.A X.env X.xe)(hc:PT X c p)(w:PSs X body tb):PS X (.While c body [] pos) (d9 p tb):=by
 intro pins s σ H D I h;obtain⟨W,⟨m0,x⟩,turn⟩:=h;refine wpAny_While (codeAny_whileLoop (λn s'=>∃e H',Inv X pins e H' s'/\W n e H') ?_ m0 ⟨σ,H,I,x⟩);rintro n s1 ⟨d,H1,y,z⟩;refine vn q (jE (hc pins s1 d H1 _ y (turn n d H1 z)) λb s2 ⟨r,t,i⟩=>?_)
 cases b with
 |true=>
  obtain⟨N,u,i⟩:=i;rw[qG rfl];refine vn q (jE (w pins s2 d r _ t i) λf s3 j=>?_)
  cases f with
  |next=>
   obtain⟨a,g,k,l⟩:=j;obtain⟨m,hm,o⟩:=u a g l;exact⟨m,hm,a,g,k,o⟩
  |cont=>
   obtain⟨a,g,k,l⟩:=j;obtain⟨m,hm,o⟩:=u a g l;exact⟨m,hm,a,g,k,o⟩
  |brk=>exact j
  |ret v=>exact j
 |false=>
  rw[qC qH];exact Qbs ⟨d,r,t,i⟩
end
structure It where
 go:Nat->Hp->Prop
 yld:Nat->Hp->V->Hp->Prop
 stop:Nat->Hp->Prop
def Mh(X:Cx)(pins:qa (qc×Obj))(H:Hp)(b:qc):Prop:=
 H b=none/\b≠X.env.locals/\b∉X.fs/\(b∈X.ex\/X.s₀.heap.objs.size<=b)/\(∀x c,X.env.cells.lookup x=some c->c≠b)/\∀p∈X.pn++pins,p.1≠b
def Inv.QbY{H':Hp}(I:Inv X pins σ H s)(a:s.heap.objs.size<=b)(d:H' b=none):Mh X pins H' b:=by
 refine⟨d,rG (zj I.lt a),I.nofs a,.inr (zm I.sz a),λx c e z=>?_,λp f z=>?_⟩
 .obtain⟨v,q⟩:=I.cell x c e;exact absurd (zj q.lt (by rw[z];exact a)) (yp _)
 .exact absurd (zj (qR (I.pin p f).1) (by rw[z];exact a)) (yp _)
structure RK(P:Program)(w:World)(K:Frag)(tg:Expr)(J:It)(fp:qa qc)(it:qc)(tn:Nat->Heap->Prop):Prop where
 mem:it∈fp
 obj:∀i h,tn i h->∀b∈fp,∃o,h.get? b=some o/\∀v,o.data≠.cell v
 keep:∀i h h',tn i h->(∀b∈fp,∀o,h.get? b=some o->h'.get? b=some o)->tn i h'
 item:∀(X:Cx),X.prog=P->X.w=w->X.K=K->X.calm=true->∀(i:Nat)(pins:qa (qc×Obj))(s:Shared)(σ:St)(H:Hp)(E:qf),Inv X pins σ H s->(∀b∈fp,Mh X pins H b)->tn i s.heap->J.go i H ->
  wpAny (model P w) X.A (pyNext (.ref it)) (λr s1=>∃u,r=some u /\
   wpAny (model P w) X.A (letOwnedTupleGo tg (.ref it) u) (λ_ s2=>∃x H',Inv X pins σ H' s2/\QO x u/\J.yld i H x H'/\tn (i+1) s2.heap/\∀b∈fp,H' b=none) E s1) E s
 done:∀(X:Cx),X.prog=P->X.w=w->X.K=K->X.calm=true->∀(i:Nat)(pins:qa (qc×Obj))(s:Shared)(σ:St)(H:Hp)(E:qf),Inv X pins σ H s->(∀b∈fp,Mh X pins H b)->tn i s.heap->J.stop i H ->
  wpAny (model P w) X.A (pyNext (.ref it)) (λr s1=>r=none/\Inv X pins σ H s1) E s
 self:∀(A:Around)(i:Nat)(s:Shared)(Q:qf)(E:qf),tn i s.heap->Q (.ref it) s->wpAny (model P w) A (pyIter (.ref it)) Q E s
abbrev TI:=St->Hp->(It->Hp->Prop)->Prop
def PIE(X:Cx)(pins:qa (qc×Obj))(σ:St)(tg:Expr)(R:It->Hp->Prop)(a:qd)(s2:Shared):Prop:=
 ∃(it:qc)(c:qa qc)(d:Nat->Heap->Prop)(J:It)(H':Hp),a=.ref it/\Inv X pins σ H' s2/\RK X.prog X.w X.K tg J c it d/\d 0 s2.heap/\(∀b∈c,Mh X pins H' b)/\R J H'
def PI(X:Cx)(tg iter:Expr)(a:TI):Prop:=
 ∀(pins:qa (qc×Obj))(s:Shared)(σ:St)(H:Hp)(R:It->Hp->Prop),Inv X pins σ H s->a σ H R ->
  wpAny (model X.prog X.w) X.A (eval iter X.env) (λv s1=>wpAny (model X.prog X.w) X.A (pyIter v) (PIE X pins σ tg R) X.xe s1) X.xe s
def LK{E:qf}{it:qc}{o:Obj}{n:String}{vs:Array qd}{Q:Unit->Shared->Prop}(b:s.heap.get? it=some o)(hc:o.cls=.type n)(hd:o.data=.fields vs)
 (c:["enumerate","zip","dict_itemiterator","dict_reverseitemiterator","odict_iterator","itertools.zip_longest","itertools.pairwise"].contains n=false) (a:Q () s):wpAny M A (letOwnedTupleGo tg (.ref it) u) Q E s:=by
 unfold letOwnedTupleGo;cases tg<;>first
  |exact qu a
  |(cases u<;>first
     |exact qu a
     |(refine qi (wpAny_load b ?_)
       rw[hc,hd];show wpAny M A (if (["enumerate","zip","dict_itemiterator","dict_reverseitemiterator","odict_iterator","itertools.zip_longest","itertools.pairwise"].contains n&&vs[0]?==some (rawInt _))=true then _ else _) Q E s;rw[qC (by intro h;rw[c,Qae] at h;cases h)];exact qu a))
def Itl(K:Frag)(a:qc):It:=
 ⟨λi H=>∃xs x,zQ K H a xs/\xs[i]?=some x,λi H x H'=>H'=H/\∀xs,zQ K H a xs->xs[i]?=some x,λi H=>∃xs,zQ K H a xs/\xs.length<=i⟩
def Itr(lo:Int)(n:Nat):It:=⟨λi _=>i<n,λi H x H'=>H'=H/\x=.int (lo+i),λi _=>n<=i⟩
def Pf{K:Frag}(a it:qc):RK P w K tg (Itl K a) [it] it (λi h=>h.IsListIter it a i) where
 mem:=by simp
 obj:=λi h st b f=>by
  have e:b=it:=by simpa using f
  subst e;obtain⟨o,e,c,d⟩:=st;exact⟨o,e,λv z=>by rw[d] at z;cases z⟩
 keep:=λi h h' st k=>st.at λo e=>k it (by simp) o e
 item:=by
  intro X l hw m hc i pins s σ H E I hf st hg;subst l hw m;obtain⟨xs,x,j,n⟩:=hg;obtain⟨its,q,p,hz⟩:=I.list j;obtain⟨u,y,A⟩:=q.get n;obtain⟨f0,f1,f2,r,f4,t⟩:=hf it (by simp);refine wpAny_pyNext_list_item st p.isList (x:=u) (by simpa using y) λh' g B=>?_;have C:Inv X pins σ H {s with heap:=h'}:=I.turned (t':=s.toks) (λb o f e=>(B.2 b f).trans e) f0 f1 r f4 t;obtain⟨o,e,c,d⟩:=id g;exact⟨u,U,LK (s:={s with heap:=h'}) e c d (by decide) ⟨x,H,C,A,⟨U,λys D=>by rw[I.QcE D j];exact n⟩,g,λb f=>(hf b f).1⟩⟩
 done:=by
  intro X l hw m hc i pins s σ H E I hf st hg;subst l hw m;obtain⟨xs,j,n⟩:=hg;obtain⟨its,q,p,hz⟩:=I.list j;obtain⟨f0,f1,f2,r,f4,t⟩:=hf it (by simp);have y:=q.length;exact wpAny_pyNext_list_end (I.ok.hd hc) st p.isList (by simp;omega) λh' g=>⟨U,I.turned (t':=s.toks) (λb o f e=>g b o f e) f0 f1 r f4 t⟩
 self:=λ_ _ _ _ _ st h=>wpAny_pyIter_listiter st h
def Mn{K:Frag}(it:qc)(lo:Int)(n:Nat):RK P w K tg (Itr lo n) [it] it (λi h=>IsRangeIter h it (lo+(i:Nat)*1) ((n:Int)-(i:Nat)) 1) where
 mem:=by simp
 obj:=λi h st b a=>by
  have e:b=it:=by simpa using a
  subst e;exact⟨_,st,λv z=>by
   have c:Data.fields _=Data.cell v:=z;cases c⟩
 keep:=λi h h' st k=>k it (by simp) _ st
 item:=by
  intro X d hw f hc i pins s σ H E I hf st hg;subst d hw f;obtain⟨f0,f1,f2,g,f4,j⟩:=hf it (by simp);have W:=Walks.range (prog:=X.prog) (w:=X.w) (I.ok.hd hc) it lo 1 n;refine W.item i s _ _ hg st λv h' l m c p=>?_;obtain⟨t,rfl⟩:=m;have q:Inv X pins σ H {s with heap:=h',toks:=l}:=I.turned (λb o a e=>p b o (by simpa using a) e) f0 f1 g f4 j;refine⟨_,U,LK (s:={s with heap:=h',toks:=l}) (n:="range_iterator") c rfl rfl (by decide) ⟨.int (lo+i),H,q,⟨t,?_⟩,⟨U,U⟩,c,λb a=>(hf b a).1⟩⟩;rw[Int.mul_one]
 done:=by
  intro X d hw f hc i pins s σ H E I hf st hg;subst d hw f;obtain⟨f0,f1,f2,g,f4,j⟩:=hf it (by simp);exact wpAny_pyNext_range_end (I.ok.hd hc) st (by have:n<=i:=hg;omega) λh' c=>⟨U,I.turned (t':=s.toks) (λb o a e=>c b o a e) f0 f1 g f4 j⟩
 self:=λ_ _ _ _ _ st h=>wpAny_pyIter_rangeiter st h
section
variable {X:Cx}{tg:Expr}
inductive ON(K:Frag)(R:(It->Hp->Prop))(x:V)(H1:Hp):Prop
 |mk:∀a,x=.ref a->(∃xs,zQ K H1 a xs)->R (Itl K a) H1->ON K R x H1
def iv(K:Frag)(a:TE):TI:=λσ H R=>a σ H λx H1=>ON K R x H1
def YD{l:Expr}{d:TE}(f:PE X l d):PI X tg l (iv X.K d):=by
 intro pins s σ H R I h;refine jE (f pins s σ H _ I h) λv s1 ⟨x,H1,c,g,i⟩=>?_;obtain⟨a,e,⟨xs,j⟩,q⟩:=i;subst e;cases g;obtain⟨its,m,p,hz⟩:=c.list j;refine wpAny_pyIter_list p.isList ?_;refine⟨s1.heap.objs.size,[s1.heap.objs.size],_,_,H1,U,c.kept (t':=s1.toks) λb o e=>qw _ e,Pf a _,⟨_,qK _ rfl,U,U⟩,λb k=>?_,q⟩;have e:b=s1.heap.objs.size:=by simpa using k
 subst e;exact c.QbY (qB _) (c.hok.fresh (qB _))
def Sr{R:It->Hp->Prop}{E:qf}{lo a:Int}{t u v:Tok}{c:Nat}(I:Inv X pins σ H s)(f : -(2^62)<=lo)(g:lo<2^62)(h : -(2^62)<=a)(i:a<2^62)
 (q:R (Itr lo (a-lo).toNat) H):wpAny (model X.prog X.w) X.A (pyIter (.ref s.heap.objs.size)) (PIE X pins σ tg R) E {s with heap:=s.heap.push {cls:=.type "range",data:=.fields #[.int lo t,.int a u,.int 1 v]},toks:=c}:=by
 refine wpAny_pyIter_range (IsRange.new ..) (small_one f g h i) ?_;have d:Inv X pins σ H {s with heap:=s.heap.push {cls:=.type "range",data:=.fields #[.int lo t,.int a u,.int 1 v]},toks:=c}:=I.kept λb o e=>qw _ e;refine⟨(s.heap.push {cls:=.type "range",data:=.fields #[.int lo t,.int a u,.int 1 v]}).objs.size,[(s.heap.push {cls:=.type "range",data:=.fields #[.int lo t,.int a u,.int 1 v]}).objs.size],_,_,H,U,
  d.kept (t':=c) λb o e=>qw _ e,Mn _ lo (a-lo).toNat,?_,λb j=>?_,q⟩
 .have k:lo+((0:Nat):Int)*1=lo:=by simp
  have l:(((a-lo).toNat:Nat):Int)-((0:Nat):Int)=Builtin.Range.rangeSize lo a 1:=by rw[rangeSize_one];split<;>omega
  show IsRangeIter _ _ (lo+((0:Nat):Int)*1) ((((a-lo).toNat:Nat):Int)-((0:Nat):Int)) 1;rw[k,l];exact qK _ rfl
 .have e:b=(s.heap.push {cls:=.type "range",data:=.fields #[.int lo t,.int a u,.int 1 v]}).objs.size:=by simpa using j
  subst e;exact d.QbY (qB _) (d.hok.fresh (qB _))
inductive OM(R:(It->Hp->Prop))(vs:qa V)(H1:Hp):Prop
 |mk:∀j:Int,vs=[.int j]->-(2^62)<=j->j<2^62->R (Itr 0 j.toNat) H1->OM R vs H1
def iu(a:TA):TI:=λσ H R=>a σ H λvs H1=>OM R vs H1
def AZ{a:Expr}{c:TA}{p:Pos}(hg:Gl X "range")(hm:X.mg "range"=none)(d:PA X [a] c)(f:starEach [a] X.env=[(false,eval a X.env)]:=by rfl):PI X tg (.Call (.Name "range" p) [a] [] pos) (iu c):=by
 intro pins s σ H R I h;refine Call_ (Hw I hg hm boot_range (PyProof.Rows.callWith_type1 (jE (d pos pins s σ H _ I h) λus s1 ⟨vs,H1,g,i,b⟩=>?_) f rfl));obtain⟨j,e,b,k,q⟩:=b;subst e
 cases i with
 |cons r l=>
  cases l;obtain⟨t,rfl⟩:=r;exact call_range_1 (Sr g (by omega) (by omega) b k (by simpa using q))
inductive CC(g:TG)(tb:TS)(D:Wl)(σ:St)(J:It)(H1:Hp):Prop
 |mk:∀W:Nat->Nat->St->Hp->Prop,(∃m,W 0 m σ H1)->(∀i m σ H,W i m σ H->(J.stop i H/\D.nx σ H)\/(J.go i H/\∃N:St->Hp->Prop,(∀σ' H',N σ' H'->∃m',m'<m/\W (i+1) m' σ' H')/\∀x H',J.yld i H x H'->g x σ H' λσ2 H2=>tb {D with nx:=N,ct:=N,bk:=D.nx} σ2 H2))->CC g tb D σ J H1
def tFor(a:TI)(g:TG)(tb:TS):TS:=λD σ H=>a σ H λJ H1=>CC g tb D σ J H1
def AX(a:qa qc)(h:Heap):qa (qc×Obj):=a.filterMap λb=>(h.get? b).map λo=>(b,o)
def XF{a:qa qc}{o:Obj}(c:b∈a)(e:h.get? b=some o):(b,o)∈AX a h:=QbK.mpr ⟨b,c,by rw[e];rfl⟩
def PR{a:qa qc}{p:qc×Obj}(c:p∈AX a h):p.1∈a/\h.get? p.1=some p.2:=by
 obtain⟨b,d,e⟩:=QbK.mp c
 cases q:h.get? b with
 |none=>rw[q] at e;cases e
 |some o=>
  rw[q] at e;have f:(b,o)=p:=qN e;subst f;exact⟨d,q⟩
def Inv.pinned{a:qa qc}(I:Inv X pins σ H s)(hf:∀b∈a,Mh X pins H b)(g:∀b∈a,∃o,s.heap.get? b=some o/\∀v,o.data≠.cell v):Inv X (pins++AX a s.heap) σ H s:=
 I.Qbz λp h=>(qr.mp h).elim (λz=>I.pin p (qv _ z)) λz=>by
  obtain⟨c,e⟩:=PR z;obtain⟨f0,f1,f2,_⟩:=hf p.1 c;obtain⟨o,f,d⟩:=g p.1 c;rw[e] at f;cases f;exact⟨e,f0,f1,f2,d⟩
def Inv.mC{pl:qa (qc×Obj)}(I:Inv X (pins++pl) σ H s):Inv X pins σ H s:=I.Qbz λp a=>I.pin p (qv _ (qy _ a))
def Ud{iter:Expr}{Q:TI}(y:PassesOwn (model X.prog X.w) X.A X.env X.xe)(hc:X.calm=true)(Z:PI X tg iter Q)(hg:PG X tg g)(c:PSs X body tb)
 (hs:∀x,foldedSetIterable iter X.env x=pure x:=by intro _;rfl):PS X (.For tg iter body [] pos) (tFor Q g tb):=by
 intro pins s σ H D I h;refine wpAny_For (jE (Z pins s σ H _ I h) λv s1 h1=>jE h1 λitv s2 h2=>?_) hs;obtain⟨it,z,R,J,H2,e,I2,T,F,f2,W,⟨m0,w0⟩,turn⟩:=h2;subst e;have j:∀{H':Hp},(∀b∈z,H' b=none)->∀b∈z,Mh X pins H' b:=λhn b c=>⟨hn b c,(f2 b c).2⟩;refine codeAny_forLoop_any (λn s'=>∃i k H',Inv X pins k H' s'/\R i s'.heap/\(∀b∈z,H' b=none)/\W i n k H') ?_ m0 ⟨0,σ,H2,I2,F,λb c=>(f2 b c).1,w0⟩;rintro n s3 ⟨i,l,E,V,A,B,w3⟩;rcases turn i n l E w3 with⟨stop,qn⟩|⟨go,N,hN,step⟩
 .refine vn y (jE (T.done X rfl rfl rfl hc i pins s3 l E X.xe V (j B) A stop) λr s4 ⟨K,a⟩=>?_);subst K;exact Qbs ⟨l,E,a,qn⟩
 .refine vn y (jE (T.item X rfl rfl rfl hc i pins s3 l E X.xe V (j B) A go) λr s4 ⟨u,K,h4⟩=>?_);subst K;refine vn y (jE h4 λ_ s5 ⟨x,Y,I5,r5,y5,w,L⟩=>?_);have M:=I5.pinned (j L) (T.obj _ _ w);refine vn y (jE (hg _ s5 l Y x u _ M r5 (step x Y y5)) λ_ s6 ⟨O,H6,I6,q6⟩=>?_);refine vn y (jE (c _ s6 O H6 _ I6 q6) λf P t=>?_);have again:∀{a:St}{p:Hp},Inv X (pins++AX z s5.heap) a p P->N a p->∃m,m<n/\∃i k H',Inv X pins k H' P/\R i P.heap/\(∀b∈z,H' b=none)/\W i m k H':=λ{a p} q C=>by
   obtain⟨m',hm,w7⟩:=hN a p C;refine⟨m',hm,i+1,a,p,q.mC,T.keep _ _ _ w λb c o e=>(q.pin (b,o) (qv _ (qv _ (XF c e)))).1,λb c=>?_,w7⟩;obtain⟨o,e,d⟩:=T.obj _ _ w b c;exact(q.pin (b,o) (qv _ (qv _ (XF c e)))).2.1
  cases f with
  |next=>obtain⟨a,p,q,C⟩:=t;exact again q C
  |cont=>obtain⟨a,p,q,C⟩:=t;exact again q C
  |brk=>obtain⟨a,p,q,t⟩:=t;exact⟨a,p,q.mC,t⟩
  |ret v=>obtain⟨x7,a,p,q,r7,t⟩:=t;exact⟨x7,a,p,q.mC,r7,t⟩
end
def YN{K:Frag}(Pv:Nat->St->Hp->Prop)(h0:Pv 0 σ H)(c:∀i σ H,i<=xs.length->Pv i σ H->zQ K H a xs)
 (d:∀i x σ H,xs[i]?=some x->Pv i σ H->g x σ H λb f=>tb {D with nx:=Pv (i+1),ct:=Pv (i+1),bk:=D.nx} b f) (hd:∀σ H,Pv xs.length σ H->D.nx σ H) :
 CC g tb D σ (Itl K a) H:=by
 refine⟨λi m σ H=>m=xs.length-i/\i<=xs.length/\Pv i σ H,⟨xs.length,by simp,q0 _,h0⟩,?_⟩;rintro i m σ H ⟨rfl,f,p⟩;have q:=c i σ H f p;by_cases b:i<xs.length
 .refine .inr ⟨⟨xs,xs[i],q,by simp[b]⟩,Pv (i+1),λh H' j=>⟨xs.length-(i+1),by omega,U,b,j⟩,λx H' y=>?_⟩;obtain⟨e,y⟩:=y;subst e;exact d i x σ _ (y xs q) p
 .have e:i=xs.length:=by omega
  subst e;exact .inl ⟨⟨xs,q,qB _⟩,hd σ H p⟩
def Fl{lo:Int}(Pv:Nat->St->Hp->Prop)(h0:Pv 0 σ H)
 (b:∀i σ H,i<n->Pv i σ H->g (.int (lo+i)) σ H λa c=>tb {D with nx:=Pv (i+1),ct:=Pv (i+1),bk:=D.nx} a c) (hd:∀σ H,Pv n σ H->D.nx σ H) :
 CC g tb D σ (Itr lo n) H:=by
 refine⟨λi m σ H=>m=n-i/\i<=n/\Pv i σ H,⟨n,by simp,q0 _,h0⟩,?_⟩;rintro i m σ H ⟨rfl,f,p⟩;by_cases a:i<n
 .refine .inr ⟨a,Pv (i+1),λc H' d=>⟨n-(i+1),by omega,U,a,d⟩,λx H' y=>?_⟩;obtain⟨e,y⟩:=y;subst e y;exact b i σ _ a p
 .have e:i=n:=by omega
  subst e;exact .inl ⟨qB _,hd σ H p⟩
abbrev R2:=V->V->Hp->VK->Prop
variable {r:R2}
def uz(X:Cx)(f:qd->qd->Sem qd)(r:R2):Prop:=
 ∀(pins:qa (qc×Obj))(s:Shared)(σ:St)(H:Hp)(x y:V)(v u:qd)(Q:VK),Inv X pins σ H s->QO x v->QO y u->r x y H Q ->
  wpAny (model X.prog X.w) X.A (f v u) (EP X pins σ Q) X.xe s
def UnR(X:Cx)(f:qd->Sem qd)(r:V->Hp->VK->Prop):Prop:=
 ∀(pins:qa (qc×Obj))(s:Shared)(σ:St)(H:Hp)(x:V)(v:qd)(Q:VK),Inv X pins σ H s->QO x v->r x H Q ->
  wpAny (model X.prog X.w) X.A (f v) (EP X pins σ Q) X.xe s
def V0(X:Cx)(f:qd)(r:qa V->Hp->VK->Prop):Prop:=
 ∀(pins:qa (qc×Obj))(s:Shared)(σ:St)(H:Hp)(xs:qa V)(us:qg)(Q:VK),Inv X pins σ H s->QK xs us->r xs H Q ->
  wpAny (model X.prog X.w) X.A (call f us) (EP X pins σ Q) X.xe s
def TruR(X:Cx)(r:V->Hp->(Bool->Hp->Prop)->Prop):Prop:=
 ∀(pins:qa (qc×Obj))(s:Shared)(σ:St)(H:Hp)(x:V)(v:qd)(Q:Bool->Hp->Prop),Inv X pins σ H s->QO x v->r x H Q ->
  wpAny (model X.prog X.w) X.A (truthy v) (TP X pins σ Q) X.xe s
def tOp(r:R2)(a tb:TE):TE:=λσ H Q=>a σ H λx H1=>tb σ H1 λy b=>r x y b Q
def tUn(r:V->Hp->VK->Prop)(a:TE):TE:=λσ H Q=>a σ H λx H1=>r x H1 Q
inductive h9(C:Int->Int->Prop)(g:Int->Int->V)(x:V)(y:V)(H:Hp)(Q:VK):Prop
 |mk:∀i j,x=.int i->y=.int j->C i j->Q (g i j) H->h9 C g x y H Q
def rI(C:Int->Int->Prop)(g:Int->Int->V):R2:=λx y H Q=>h9 C g x y H Q
inductive dm(g:Int->Int->V)(x:V)(y:V)(H:Hp)(Q:VK):Prop
 |mk:∀i j,x=.int i->y=.int j->Q (g i j) H->dm g x y H Q
def rI0(g:Int->Int->V):R2:=λx y H Q=>dm g x y H Q
inductive hV(g:Int->V)(x:V)(H:Hp)(Q:VK):Prop
 |mk:∀i,x=.int i->Q (g i) H->hV g x H Q
def rU(g:Int->V):V->Hp->VK->Prop:=λx H Q=>hV g x H Q
section
variable {X:Cx}{a b c:Expr}{ta tb tc:TE}{pos:Pos}
def gw(g:PE X a ta)(i:PE X b tb){R:V->V->Hp->Prop}(I:Inv X pins σ H s)
 (h:ta σ H λx H1=>tb σ H1 λy c=>R x y c) {Q:qf} {f:qd->qd->Sem qd}
 (hf:∀v u s2 x y c,Inv X pins σ c s2->QO x v->QO y u->R x y c->wpAny (model X.prog X.w) X.A (f v u) Q X.xe s2) :
 wpAny (model X.prog X.w) X.A (eval a X.env) (λv d=>wpAny (model X.prog X.w) X.A (eval b X.env) (λu e=>wpAny (model X.prog X.w) X.A (f v u) Q X.xe e) X.xe d) X.xe s:=by
 refine jE (g pins s σ H _ I h) λv s1 ⟨x,H1,d,e,j⟩=>?_;refine jE (i pins s1 σ H1 _ d j) λu s2 ⟨y,c,k,l,m⟩=>?_;exact hf v u s2 x y c k e l m
def QM{op:Operator}(c:uz X (binaryOp op) r)(d:PE X a ta)(e:PE X b tb):PE X (.BinOp a op b pos) (tOp r ta tb):=by
 intro pins s σ H Q I h;exact wpAny_BinOp (gw d e I h λv u s2 x y f g i j q=>c pins s2 σ f x y v u Q g i j q)
def dw{op:UnaryOp}{r:V->Hp->VK->Prop}(b:UnR X (unaryOp op) r)(c:PE X a ta):PE X (.UnaryOp op a pos) (tUn r ta):=by
 intro pins s σ H Q I h;exact UnaryOp_ (jE (c pins s σ H _ I h) λv s1 ⟨x,H1,d,e,f⟩=>b pins s1 σ H1 x v Q d e f)
def opI{C:Int->Int->Prop}{g:Int->Int->Int}
 (rule:∀(i j:Int)(t u:Tok)(s:Shared)(Q:qf)(E:qf),C i j->Q (.int (g i j) s.toks) {s with toks:=s.toks+1}->wpAny (model X.prog X.w) X.A (f (.int i t) (.int j u)) Q E s) :
 uz X f (rI C λi j=>.int (g i j)):=by
 intro pins s σ H x y v u Q I a b h;obtain⟨i,j,rfl,rfl,hc,q⟩:=h;obtain⟨t,rfl⟩:=a;obtain⟨t',rfl⟩:=b;exact rule i j t t' s _ _ hc ⟨.int (g i j),H,I.tok _,⟨_,U⟩,q⟩
def ib{g:Int->Int->Int}
 (rule:∀(i j:Int)(t u:Tok)(s:Shared)(Q:qf)(E:qf),Q (.int (g i j) s.toks) {s with toks:=s.toks+1}->wpAny (model X.prog X.w) X.A (f (.int i t) (.int j u)) Q E s) :
 uz X f (rI0 λi j=>.int (g i j)):=by
 intro pins s σ H x y v u Q I a b h;obtain⟨i,j,rfl,rfl,q⟩:=h;obtain⟨t,rfl⟩:=a;obtain⟨t',rfl⟩:=b;exact rule i j t t' s _ _ ⟨.int (g i j),H,I.tok _,⟨_,U⟩,q⟩
def fK{g:Int->Int->Bool}
 (rule:∀(i j:Int)(t u:Tok)(s:Shared)(Q:qf)(E:qf),Q (.bool (g i j)) s->wpAny (model X.prog X.w) X.A (f (.int i t) (.int j u)) Q E s) :
 uz X f (rI0 λi j=>.bl (g i j)):=by
 intro pins s σ H x y v u Q I a b h;obtain⟨i,j,rfl,rfl,q⟩:=h;obtain⟨t,rfl⟩:=a;obtain⟨t',rfl⟩:=b;exact rule i j t t' s _ _ ⟨.bl (g i j),H,I,U,q⟩
def CDiv(i j:Int):Prop:=0<j/\j<1073741824
def gI(i j:Int):Prop:=(-(2^64)<i/\i<2^64)\/(-(2^64)<j/\j<2^64)
def gI.ok{i j:Int}(h:gI i j):IntMulOk i j:=by
 rcases h with⟨a,b⟩|⟨a,b⟩
 .exact .of_left (intBits_le_64 a b)
 .exact .of_right (intBits_le_64 a b)
def Ue:uz X (binaryOp .Add) (rI0 λi j=>.int (i+j)):=ib λ_ _ _ _ _ _ _ q=>add_int q
def S3:uz X (binaryOp .Sub) (rI0 λi j=>.int (i-j)):=ib λ_ _ _ _ _ _ _ q=>sub_int q
def S4:uz X (binaryOp .Mult) (rI gI λi j=>.int (i*j)):=opI λ_ _ _ _ _ _ _ hc q=>mul_int q hc.ok
def bT:uz X (binaryOp .FloorDiv) (rI CDiv λi j=>.int (i / j)):=opI λi j _ _ _ _ _ hc q=>by
 have a:(0:Int)<j:=hc.1;have b:j<1073741824:=hc.2;exact floordiv_int (by omega) (by rw[Int.fdiv_eq_ediv_of_nonneg i (by omega)];exact q) (.inl (PyProof.noPylong_small (by omega)))
def Yo:uz X (binaryOp .Mod) (rI (λ_ j=>0<j) λi j=>.int (i%j)):=opI λi j _ _ _ _ _ hc q=>by
 have a:(0:Int)<j:=hc;exact mod_int' (by omega) (by rw[Int.fmod_eq_emod_of_nonneg i (by omega)];exact q)
def unI{f:qd->Sem qd}{g:Int->Int}
 (rule:∀(i:Int)(t:Tok)(s:Shared)(Q:qf)(E:qf),Q (.int (g i) s.toks) {s with toks:=s.toks+1}->wpAny (model X.prog X.w) X.A (f (.int i t)) Q E s) :
 UnR X f (rU λi=>.int (g i)):=by
 intro pins s σ H x v Q I a h;obtain⟨i,rfl,q⟩:=h;obtain⟨t,rfl⟩:=a;exact rule i t s _ _ ⟨.int (g i),H,I.tok _,⟨_,U⟩,q⟩
def RT:UnR X (unaryOp .USub) (rU λi=>.int (-i)):=unI λ_ _ _ _ _ q=>neg_int q
end
def hQ:V->V->Bool
 |.non,.non=>true|.non,.int _=>true|.int _,.non=>true|.non,.bl _=>true|.bl _,.non=>true|.non,.str _=>true|.str _,.non=>true
 |.int _,.int _=>true|.bl _,.bl _=>true|.str _,.str _=>true|.byt _,.byt _=>true
 |.int _,.str _=>true|.str _,.int _=>true|.bl _,.str _=>true|.str _,.bl _=>true
 |_,_=>false
def rEq:R2:=λx y H Q=>hQ x y=true/\Q (.bl (decide (x=y))) H
def rNe:R2:=λx y H Q=>hQ x y=true/\Q (.bl (!decide (x=y))) H
def OZ{i j:Int}:decide (V.int i=V.int j)=(i==j):=by
 rw[v3];simp
def aK{i j:Bool}:decide (V.bl i=V.bl j)=(i==j):=by
 rw[v3];simp
def HE{i j:qb}:decide (V.str i=V.str j)=(i==j):=by
 rw[v3];simp
def O0{i j:Array UInt8}:decide (V.byt i=V.byt j)=(i.toList==j.toList):=by
 rw[v3];cases i;cases j;simp
section
variable {X:Cx}{a b c:Expr}{ta tb tc:TE}{pos:Pos}
def Q4{k a:Bool}(I:Inv X pins σ H s)(q:Q (.bl k) H)(e:k=a):EP X pins σ Q (.bool a) s:=by
 subst e;exact⟨.bl k,H,I,U,q⟩
def YQ:uz X (compareOp .Eq) rEq:=by
 intro pins s σ H x y v u Q I c a h;obtain⟨b,q⟩:=h
 cases x with
 |non=>
  cases c
  cases y with
  |non=>cases a;exact PySem.EqNone.eq_none_none (Q4 I q (by simp))
  |bl j=>cases a;exact PySem.EqNone.eq_none_bool (Q4 I q (by simp))
  |int j=>obtain⟨t',rfl⟩:=a;exact PySem.EqNone.eq_none_int (Q4 I q (by simp))
  |str j=>obtain⟨t',rfl⟩:=a;exact PySem.EqNone.eq_none_str (Q4 I q (by simp))
  |_=>exact absurd (show false=true from b) qH
 |bl i=>
  cases c
  cases y with
  |non=>cases a;exact PySem.EqNone.eq_bool_none (Q4 I q (by simp))
  |bl j=>cases a;exact eq_bool (Q4 I q aK)
  |str j=>obtain⟨t',rfl⟩:=a;exact PySem.EqMixed.eq_bool_str (Q4 I q (by simp))
  |_=>exact absurd (show false=true from b) qH
 |int i=>
  obtain⟨t,rfl⟩:=c
  cases y with
  |non=>cases a;exact PySem.EqNone.eq_int_none (Q4 I q (by simp))
  |int j=>obtain⟨t',rfl⟩:=a;exact eq_int (Q4 I q OZ)
  |str j=>obtain⟨t',rfl⟩:=a;exact PySem.EqMixed.eq_int_str (Q4 I q (by simp))
  |_=>exact absurd (show false=true from b) qH
 |str i=>
  obtain⟨t,rfl⟩:=c
  cases y with
  |non=>cases a;exact PySem.EqNone.eq_str_none (Q4 I q (by simp))
  |bl j=>cases a;exact PySem.EqMixed.eq_str_bool (Q4 I q (by simp))
  |int j=>obtain⟨t',rfl⟩:=a;exact PySem.EqMixed.eq_str_int (Q4 I q (by simp))
  |str j=>obtain⟨t',rfl⟩:=a;exact eq_str (Q4 I q HE)
  |_=>exact absurd (show false=true from b) qH
 |byt i=>
  obtain⟨t,rfl⟩:=c
  cases y with
  |byt j=>obtain⟨t',rfl⟩:=a;exact PySem.W.eq_bytes (Q4 I q O0)
  |_=>exact absurd (show false=true from b) qH
 |_=>cases y<;>exact absurd (show false=true from b) qH
def BC:uz X (compareOp .NotEq) rNe:=by
 intro pins s σ H x y v u Q I c a h;obtain⟨b,q⟩:=h
 cases x with
 |non=>
  cases c
  cases y with
  |non=>cases a;exact PySem.EqNone.ne_none_none (Q4 I q (by simp))
  |bl j=>cases a;exact PySem.EqNone.ne_none_bool (Q4 I q (by simp))
  |int j=>obtain⟨t',rfl⟩:=a;exact PySem.EqNone.ne_none_int (Q4 I q (by simp))
  |str j=>obtain⟨t',rfl⟩:=a;exact PySem.EqNone.ne_none_str (Q4 I q (by simp))
  |_=>exact absurd (show false=true from b) qH
 |bl i=>
  cases c
  cases y with
  |non=>cases a;exact PySem.EqNone.ne_bool_none (Q4 I q (by simp))
  |bl j=>cases a;exact ne_bool (Q4 I q (zV not aK))
  |str j=>obtain⟨t',rfl⟩:=a;exact PySem.EqMixed.ne_bool_str (Q4 I q (by simp))
  |_=>exact absurd (show false=true from b) qH
 |int i=>
  obtain⟨t,rfl⟩:=c
  cases y with
  |non=>cases a;exact PySem.EqNone.ne_int_none (Q4 I q (by simp))
  |int j=>obtain⟨t',rfl⟩:=a;exact ne_int (Q4 I q (zV not OZ))
  |str j=>obtain⟨t',rfl⟩:=a;exact PySem.EqMixed.ne_int_str (Q4 I q (by simp))
  |_=>exact absurd (show false=true from b) qH
 |str i=>
  obtain⟨t,rfl⟩:=c
  cases y with
  |non=>cases a;exact PySem.EqNone.ne_str_none (Q4 I q (by simp))
  |bl j=>cases a;exact PySem.EqMixed.ne_str_bool (Q4 I q (by simp))
  |int j=>obtain⟨t',rfl⟩:=a;exact PySem.EqMixed.ne_str_int (Q4 I q (by simp))
  |str j=>obtain⟨t',rfl⟩:=a;exact ne_str (Q4 I q (zV not HE))
  |_=>exact absurd (show false=true from b) qH
 |byt i=>
  obtain⟨t,rfl⟩:=c
  cases y with
  |byt j=>obtain⟨t',rfl⟩:=a;exact PySem.W.ne_bytes (Q4 I q (zV not O0))
  |_=>exact absurd (show false=true from b) qH
 |_=>cases y<;>exact absurd (show false=true from b) qH
def IY:uz X (compareOp .Lt) (rI0 λi j=>.bl (decide (i<j))):=fK λ_ _ _ _ _ _ _ q=>lt_int q
def IZ:uz X (compareOp .LtE) (rI0 λi j=>.bl (decide (i<=j))):=fK λ_ _ _ _ _ _ _ q=>le_int q
def S6:uz X (compareOp .Gt) (rI0 λi j=>.bl (decide (j<i))):=fK λ_ _ _ _ _ _ _ q=>gt_int q
def KQ:uz X (compareOp .In) (λx y H Q=>∃i j,x=.str i/\y=.str j/\Q (.bl (!(Builtin.Str.occurrences j i 0 j.length 1).isEmpty)) H):=by
 intro pins s σ H x y v u Q I a b h;obtain⟨i,j,rfl,rfl,q⟩:=h;obtain⟨t,rfl⟩:=a;obtain⟨t',rfl⟩:=b;exact in_str (Q4 I q rfl)
def S5:uz X (compareOp .Is) (λx y H Q=>y=.non/\Q (.bl (decide (x=.non))) H):=by
 intro pins s σ H x y v u Q I a b h;obtain⟨rfl,q⟩:=h;cases b;refine is_none_gen (Q4 I q ?_);cases x<;>first
  |(cases a;rfl)
  |(obtain⟨t,rfl⟩:=a;rfl)
def Ow:uz X (compareOp .IsNot) (λx y H Q=>y=.non/\Q (.bl (!decide (x=.non))) H):=by
 intro pins s σ H x y v u Q I a b h;obtain⟨rfl,q⟩:=h;cases b;refine isnot_none_gen (Q4 I q ?_);cases x<;>first
  |(cases a;rfl)
  |(obtain⟨t,rfl⟩:=a;rfl)
def TJ(b:Expr)(h:op≠.In:=by decide)(a:op≠.NotIn:=by decide):behindInMarks op b=false:=by
 have c:(op==CmpOp.In)=false:=by cases op<;>first|rfl|exact absurd rfl h
 have d:(op==CmpOp.NotIn)=false:=by cases op<;>first|rfl|exact absurd rfl a
 cases b<;>simp[behindInMarks,c,d]
def UB(c:uz X (compareOp op) r)(d:PE X a ta)(e:PE X b tb)(hm:behindInMarks op b=false:=by exact TJ _):PE X (.Compare a [op] [b] pos) (tOp r ta tb):=by
 intro pins s σ H Q I h;exact wpAny_Compare1 (gw d e I h λv u s2 x y f g i j q=>c pins s2 σ f x y v u Q g i j q) hm
inductive Fz(Q:(Bool->Hp->Prop))(x:V)(H':Hp):Prop
 |mk:∀k,x=.bl k->Q k H'->Fz Q x H'
def cX(t:TE):TT:=λσ H Q=>t σ H λx H'=>Fz Q x H'
def Qt(d:uz X (compareOp op) r)(f:PE X a ta)(g:PE X b tb)(hm:behindInMarks op b=false:=by exact TJ _):PT X (.Compare a [op] [b] pos) (cX (tOp r ta tb)):=by
 intro pins s σ H Q I h;refine wpAny_isTrue_Compare1 (jE (f pins s σ H _ I h) λv s1 ⟨x,H1,i,j,l⟩=>jE (g pins s1 σ H1 _ i l) λu s2 ⟨y,m,n,o,p⟩=>
  jE (d pins s2 σ m x y v u _ n j o p) λc s3 ⟨z,q,t,w,k,e,A⟩=>?_) hm
 subst e;cases w;exact js ⟨q,t,A⟩
def R7(r b:R2)(ta tb tc:TE):TE:=λσ H Q=>ta σ H λx H1=>tb σ H1 λy c=>r x y c λz a=>∃k,z=.bl k /\
 (if k=true then tc σ a λd e=>b y d e Q else Q (.bl false) a)
def SY{f:CmpOp}{i:R2}(o:uz X (compareOp op) r)(g:uz X (compareOp f) i)(p:PE X a ta)(q:PE X b tb)(hc:PE X c tc)
 (hm:lastMarks [op,f] [b,c]=false:=by with_unfolding_all rfl):PE X (.Compare a [op,f] [b,c] pos) (R7 r i ta tb tc):=by
 intro pins s σ H Q I h;refine Compare_chain (jE (p pins s σ H _ I h) λv s1 ⟨x,H1,t,w,A⟩=>chain_link (jE (q pins s1 σ H1 _ t A) λu s2 ⟨y,B,C,j,D⟩=>
  jE (o pins s2 σ B x y v u _ C w j D) λd s3 ⟨z,l,m,E,k,e,n⟩=>?_)) hm
 subst e;cases E;refine js ?_
 cases k with
 |false=>exact ite_ff ⟨.bl false,l,m,U,n⟩
 |true=>exact ite_tt (chain_last (jE (hc pins s3 σ l _ m n) λF s4 ⟨G,J,K,L,M⟩=>g pins s4 σ J y G u F Q K j L M))
def SK{f:CmpOp}{i:R2}(o:uz X (compareOp op) r)(g:uz X (compareOp f) i)(p:PE X a ta)(q:PE X b tb)(hc:PE X c tc)
 (hm:lastMarks [op,f] [b,c]=false:=by with_unfolding_all rfl):PT X (.Compare a [op,f] [b,c] pos) (cX (R7 r i ta tb tc)):=by
 intro pins s σ H Q I h;refine isTrue_chain (jE (p pins s σ H _ I h) λv s1 ⟨x,H1,t,w,A⟩=>test_link (jE (q pins s1 σ H1 _ t A) λu s2 ⟨y,B,C,j,D⟩=>
  jE (o pins s2 σ B x y v u _ C w j D) λd s3 ⟨z,l,m,E,k,e,n⟩=>?_)) hm
 subst e;cases E;refine js ?_
 cases k with
 |false=>
  obtain⟨J,F,G⟩:=n;cases F;exact ite_ff ⟨l,m,G⟩
 |true=>
  refine ite_tt (test_last (jE (hc pins s3 σ l _ m n) λF s4 ⟨G,J,K,L,M⟩=>jE (g pins s4 σ J y G u F _ K j L M) λd' s5 ⟨T,N,O,P,k2,R,S⟩=>?_));subst R;cases P;exact js ⟨N,O,S⟩
def iM(K:Frag)(x:V)(H:Hp)(k:Bool):Prop:=
 match x with
 |.non=>k=false
 |.bl b=>k=b
 |.int i=>k=(i != 0)
 |.str y=>y.length<=sizeLine/\k=((y.length:Int) != 0)
 |.byt y=>y.size<=sizeLine/\k=((y.size:Int) != 0)
 |.ref p=>(∃xs,zQ K H p xs/\k = !xs.isEmpty)\/(∃xs,jX K H p xs/\k = !xs.isEmpty)\/∃a,H p=some (.dK a)/\k = !a.isEmpty
 |_=>False
def M6{b:Type}{a:qa (b×V)}{vs:qa (b×qd)}(r:KV a vs):(!vs.isEmpty) = !a.isEmpty:=by
 cases r<;>rfl
def DF{its:qg}(r:QK xs its):(!its.toArray.isEmpty) = !xs.isEmpty:=by
 cases r<;>simp
def Gy:(sizeLine:Nat)<2^63:=by rw[sizeLine_eq];decide
def d8:TruR X (λx H Q=>∃k,iM X.K x H k/\Q k H):=by
 intro pins s σ H x v Q I d h;obtain⟨k,e,q⟩:=h;have g:=Gy;have j:sizeLine=16777216:=sizeLine_eq
 cases x with
 |non=>
  cases d;have a:k=false:=e;subst a;exact truthy_none ⟨H,I,q⟩
 |bl b=>
  cases d;have a:k=b:=e;subst a;exact js ⟨H,I,q⟩
 |int i=>
  obtain⟨t,rfl⟩:=d;have a:k=(i != 0):=e;subst a;exact PySem.P.truthy_int ⟨H,I,q⟩
 |str y=>
  obtain⟨t,rfl⟩:=d;obtain⟨c,a⟩:y.length<=sizeLine/\k=((y.length:Int) != 0):=e;subst a;exact PySem.P.truthy_str (by omega) ⟨H,I.tok _,q⟩
 |byt y=>
  obtain⟨t,rfl⟩:=d;obtain⟨c,a⟩:y.size<=sizeLine/\k=((y.size:Int) != 0):=e;subst a;exact PySem.W.truthy_bytes (by omega) ⟨H,I.tok _,q⟩
 |ref p=>
  cases d;have a:(∃xs,zQ X.K H p xs/\k = !xs.isEmpty)\/(∃xs,jX X.K H p xs/\k = !xs.isEmpty)\/∃c,H p=some (.dK c)/\k = !c.isEmpty:=e;rcases a with⟨xs,f,a⟩|⟨xs,f,a⟩|⟨c,f,a⟩
  .subst a;obtain⟨its,r,pl,hz⟩:=I.list f;have hlen:=r.length;exact wpAny_truthy_list pl.isList (by simp only[qS];omega) ⟨H,I.tok _,by rw[DF r];exact q⟩
  .subst a;obtain⟨its,r,pl,hz⟩:=I.tuple f;have hlen:=r.length;exact truthy_tuple pl (by simp only[qS];omega) ⟨H,I.tok _,by rw[DF r];exact q⟩
  .subst a;obtain⟨hz,hS,vs,r,m⟩:c.length<=sizeLine/\(p==sysModules)=false/\∃vs,KV c vs/\s.heap.DictOf (Q9 X.prog X.w) p vs:=I.hok p _ f;have hlen:c.length=vs.length:=Paired.length r;exact wpAny_truthy_dict hS m (by omega) ⟨H,I.tok _,by rw[M6 r];exact q⟩
 |_=>exact(show False from e).elim
def C3(b:PE X a ta)(he:∀whole,isTrue a X.env whole=(do let v <-whole;standAt a.pos;holding [v] (truthy v))) :
 PT X a (λσ H Q=>ta σ H λx H'=>∃k,iM X.K x H' k/\Q k H'):=by
 intro pins s σ H Q I h;exact isTrue_plain (jE (b pins s σ H _ I h) λv s1 ⟨x,H1,c,d,e⟩=>d8 pins s1 σ H1 x v Q c d e) (he _)
def Up:uz X (binaryOp .Add) (λx y H Q=>∃i j,x=.str i/\y=.str j/\i.length+j.length<=sizeLine/\Q (.str (i++j)) H):=by
 intro pins s σ H x y v u Q I a b h;obtain⟨i,j,rfl,rfl,hz,q⟩:=h;obtain⟨t,rfl⟩:=a;obtain⟨t',rfl⟩:=b;exact add_str (λt' c=>⟨.str (i++j),H,I.tok _,⟨_,U⟩,q⟩) hz
def V2{x:V}(r:QK [x] us):∃u,us=[u]/\QO x u:=by
 cases r with
 |cons a b=>cases b;exact⟨_,U,a⟩
def gP{x y:V}(r:QK [x,y] us):∃u a,us=[u,a]/\QO x u/\QO y a:=by
 cases r with
 |cons b c=>
  cases c with
  |cons d e=>cases e;exact⟨_,_,U,b,d⟩
def K1:V0 X (.type "int") (λxs H Q=>(∃i,xs=[.int i]/\Q (.int i) H)\/∃k,xs=[.bl k]/\Q (.int (if k then 1 else 0)) H):=by
 intro pins s σ H xs us Q I r h;rcases h with⟨i,rfl,q⟩|⟨k,rfl,q⟩
 .obtain⟨u,rfl,t,rfl⟩:=V2 r;exact call_int_int ⟨.int i,H,I,⟨_,U⟩,q⟩
 .obtain⟨u,rfl,a⟩:=V2 r;cases a;exact call_int_bool ⟨.int (if k then 1 else 0),H,I.tok _,⟨_,U⟩,q⟩
def Au:V0 X (.type "str") (λxs H Q=>∃i,xs=[.int i]/\i.natAbs.log2<1920/\Q (.str (toString i)) H):=by
 intro pins s σ H xs us Q I r h;obtain⟨i,rfl,hz,q⟩:=h;obtain⟨u,rfl,t,rfl⟩:=V2 r;exact PySem.P.str_of_int hz ⟨.str _,H,I.tok _,⟨_,U⟩,q⟩
end
structure Nn(h:Heap)(x dx C:qc)(mA:qb->Option qd):Prop where
 obj:h.get? x=some (instObj C dx)
 ns:h.Ns1 dx mA
 ne:dx≠x
def Rb{c:qc}{d:qb->Option qd}(n:h.Ns1 c d):∃f,h.get? c=some f/\∀name,lookIn name f=some (d name):=by
 obtain⟨o,es,k,g,hd,i,_,hm⟩:=n;refine⟨o,g,λname=>?_⟩;have e:=hm name;unfold nsFind findBy at e;rw[<-Array.find?_toList] at e;unfold lookIn;rw[hd];dsimp only;split
 .rename_i y q
  rw[q] at e;exact zV some e
 .rename_i q
  rw[q] at e;have a:es.toList.any (·.refKey)=false:=by
   rw[List.any_eq_false];intro y j;obtain⟨z,t,b⟩:=i y (Array.mem_toList_iff.mp j);simp[DictEntry.refKey,b]
  have b:¬es.toList.any (·.refKey)=true:=by rw[a];exact qH
  rw[qC b];exact zV some e
def Nn.look{x b:qc}{c:qb->Option qd}(I:Nn h x b C c):∃a,PySem.W.InstAt h x (instObj C b) C (some a)/\∀name,lookIn name a=some (c name):=
 let ⟨a,d,e⟩:=Rb I.ns
 ⟨a,⟨I.obj,U,U,d⟩,e⟩
section
variable {prog:Program}{w:World}{A:Around}{E:qf}{s:Shared}{K:Frag}{x dx C f:qc}{mA:qb->Option qd}{name:qb}{v:qd}
def cE{expr:Bool}{Q:qf}(X:K.In s.heap)(I:Nn s.heap x dx C mA)(hg:plainGet K C name=true)(b:hasDictIn K C=true)
 (c:findIn K (.ref C) name=some none) (d:mA name=some v) (a:handedIn v=true) (h:Q v {s with toks:=s.toks+1}) :
 wpAny (model prog w) A (getAttr (.ref x) name expr) Q E s:=by
 obtain⟨f,J,e⟩:=I.look;exact PySem.W.get_value X J (plainGet_of hg).1 (PySem.W.findObj_own b c rfl (by rw[e,d])) a h
def aA{Q:qd×qg->Shared->Prop}(X:K.In s.heap)(I:Nn s.heap x dx C mA)(hg:plainGet K C name=true)
 (hf:findIn K (.ref C) name=some (some (.ref f))) (a:isFn K (.ref f)=true) (b:mA name=none) (h:Q (.ref f,[.ref x]) s) :
 wpAny (model prog w) A (getMethod (.ref x) name pl) Q E s:=by
 obtain⟨c,J,d⟩:=I.look;exact PySem.W.method_fn X J (plainGet_of hg).1 (plainGet_of hg).2 hf (mz.mp a) (by show(lookIn name c).map (·.isSome)=some false;rw[d,b];rfl) h
def bF{ns:qe}{Q:Unit->Shared->Prop}(X:K.In s.heap)(I:Nn s.heap x dx C mA)
 (j:findIn K (.ref C) "__setattr__"=some (some (.builtin "object.__setattr__"))) (k:plainOver K C=true) (l:takerIn K C name=some none) (m:hasDictIn K C=true)
 (hw:PySem.Within mA ns) (hsz:ns.length<=sizeLine)
 (h:∀h',Nn h' x dx C (λy=>if y=name then some v else mA y)->Heap.SameBut dx s.heap h'->Q () {s with heap:=h',toks:=s.toks+2}) :
 wpAny (model prog w) A (setAttr (.ref x) name v) Q E s:=by
 obtain⟨q,J,t⟩:=I.look;refine PySem.W.set_plain X J j (PySem.W.osa_open (s:={s with toks:=s.toks+1}) (r:=none) X J k l λb=>?_);obtain⟨cd,hc,e⟩:=PySem.W.any_some m;have n:s.heap.get? x=some ⟨.ref C,some dx,.plain,#[]⟩:=I.obj;refine qi (qu (qi (qi (wpAny_loadPart n (qi (PySem.W.Looks.here (s:={s with toks:=s.toks+1}) (PySem.W.looks_clsIn X hc) ?_))))));rw[e];refine qu (a:=some dx) (qi (qu (qi ?_)));refine wpAny_nsSet1 (s:={s with toks:=s.toks+1}) I.ns λh' c d=>?_;obtain⟨u,o,p,f,g,i⟩:=c.count (PySem.Within.cons name v hw);refine qi (wpAny_lookBehind f (by rw[g];exact pastItsLine_dict (zm i (by rw[qV];omega))) ?_);exact qu (h _ ⟨(d.2 _ (xK I.ne)).trans I.obj,c,I.ne⟩ d)
def TZ{R:Result->Shared->Prop}{vs:qg}(X:K.In s.heap)(hm:makesIn K C=true)
 (a:findIn K (.ref C) "__init__"=some (some (.ref f))) (hf:PySem.W.typeIn K (.ref f)=some (.type "function"))
 (h:codeAny (model prog w) (A.under (.builtin "type.__call__" ⟨.ref C::vs,kw⟩)) (.call (.ref f) ⟨.ref (s.heap.objs.size+1)::vs,kw⟩) (PySem.W.InitBack (s.heap.objs.size+1) R)
   {s with heap:=(s.heap.push emptyDict).push (instObj C s.heap.objs.size)}) :
 codeAny (model prog w) A (.call (.ref C) ⟨vs,kw⟩) R s:=by
 obtain⟨b,g,d,t,os⟩:=s;exact PySem.W.make_core (PySem.W.makes_of X hm) (PySem.W.looks_findIn X a) (λself=>PySem.W.bind_fn X self hf) (.inl rfl) h
end
def QI(f:qb)(v:V):qa (qb×V)->qa (qb×V)
 |[]=>[(f,v)]
 |(g,x)::r=>if g=f then (g,v)::r else (g,x)::QI f v r
def BH(f g:qb)(v:V):∀fs:qa (qb×V),(QI f v fs).lookup g=if g=f then some v else fs.lookup g
 |[]=>by
  show List.lookup g [(f,v)]=_;by_cases h:g=f
  .have a:(g==f)=true:=mz.mpr h;simp only[List.lookup,a,qG h]
  .have a:(g==f)=false:=jS.mpr h;simp only[List.lookup,a,qC h]
 |(k,x)::r=>by
  have c:=BH f g v r;rw[show QI f v ((k,x)::r)=(if k=f then (k,v)::r else (k,x)::QI f v r) from rfl];by_cases b:k=f
  .rw[qG b];by_cases h:g=k
   .have a:(g==k)=true:=mz.mpr h;simp only[List.lookup,a,qG (h.trans b)]
   .have a:(g==k)=false:=jS.mpr h;simp only[List.lookup,a,qC (λe:g=f=>h (e.trans b.symm))]
  .rw[qC b];by_cases h:g=k
   .have a:(g==k)=true:=mz.mpr h;simp only[List.lookup,a,qC (λe:g=f=>b (h.symm.trans e))]
   .have a:(g==k)=false:=jS.mpr h;simp only[List.lookup,a];exact c
def Bn(f:qb)(v:V):∀fs:qa (qb×V),f∈(QI f v fs).map (·.1)/\∀g,g∈fs.map (·.1)->g∈(QI f v fs).map (·.1)
 |[]=>⟨by simp[QI],λg h=>by simp at h⟩
 |(k,x)::r=>by
  obtain⟨b,c⟩:=Bn f v r;rw[show QI f v ((k,x)::r)=(if k=f then (k,v)::r else (k,x)::QI f v r) from rfl];by_cases a:k=f
  .rw[qG a];subst a;exact⟨by simp,λg h=>by simpa using h⟩
  .rw[qC a];refine⟨?_,λg h=>?_⟩
   .rw[qU];exact qF _ b
   .rw[qU] at h⊢;rcases qJ.mp h with e|e
    .exact qJ.mpr (.inl e)
    .exact qF _ (c g e)
def BJ(f:qb)(v:V):∀fs:qa (qb×V),(QI f v fs).length<=fs.length+1
 |[]=>by simp[QI]
 |(k,x)::r=>by
  have b:=BJ f v r;rw[show QI f v ((k,x)::r)=(if k=f then (k,v)::r else (k,x)::QI f v r) from rfl];by_cases a:k=f
  .rw[qG a,qV,qV];omega
  .rw[qC a,qV,qV];omega
def WH.some_of{o:Option qd}(r:WH (some v) o):∃u,o=some u/\QO v u:=by
 cases o with
 |none=>exact(show False from r).elim
 |some u=>exact⟨u,U,r⟩
def WH.none_of{o:Option qd}(r:WH none o):o=none:=by
 cases o with
 |none=>rfl
 |some u=>exact(show False from r).elim
def Ru(r:QO v u):handedIn u=true:=by
 cases v with
 |non=>cases (show u=Value.none from r);rfl
 |bl b=>cases (show u=Value.bool b from r);rfl
 |int i=>obtain⟨t,e⟩:=(show ∃t,u=Value.int i t from r);cases e;rfl
 |str x=>obtain⟨t,e⟩:=(show ∃t,u=Value.str x t from r);cases e;rfl
 |byt b=>obtain⟨t,e⟩:=(show ∃t,u=Value.bytes b t from r);cases e;rfl
 |flt b=>obtain⟨t,e⟩:=(show ∃t,u=Value.float b t from r);cases e;rfl
 |ref a=>cases (show u=Value.ref a from r);rfl
 |ty n=>cases (show u=Value.type n from r);rfl
section
variable {P:Program}{w:World}{H H':Hp}{h h':Heap}{a C dx:qc}{fs fs':qa (qb×V)}
def Cp(c:lF P w H h)(e:H a=some (.ins C dx fs)):∃b,Nn h a dx C b/\(∀f,WH (fs.lookup f) (b f))/\PySem.Within b (fs.map (·.1))/\fs.length<=1000/\H dx=some (.own a):=by
 obtain⟨d,z,ne,g,b,n,r,q⟩:=(show QY P w H h a (.ins C dx fs) from c a _ e);exact⟨b,⟨g,n,ne⟩,r,q,z,d⟩
end
structure Cls(K:Frag)(C:qc):Prop where
 pg:plainGet K C Str.empty=true
 hd:hasDictIn K C=true
 po:plainOver K C=true
 sa:findIn K (.ref C) "__setattr__"=some (some (.builtin "object.__setattr__"))
def Cls.get{K:Frag}(c:Cls K C)(f:qb):plainGet K C f=true:=c.pg
def Yi(K:Frag)(C:qc)(f:qb):Prop:=findIn K (.ref C) f=some none
def Yi.taker{K:Frag}{f:qb}(n:Yi K C f):takerIn K C f=some none:=by
 unfold takerIn;rw[show findIn K (.ref C) f=some none from n];rfl
structure YU(K:Frag)(C:qc)(m:qb)(f:qc):Prop where
 at_:findIn K (.ref C) m=some (some (.ref f))
 fn:isFn K (.ref f)=true
 kp:keepIn K (.ref f)=true
section
variable {X:Cx}{pins:qa (qc×Obj)}{σ:St}{H:Hp}{s:Shared}{a C dx:qc}{fs:qa (qb×V)}{f:qb}{v:V}{A:Around}{E:qf}
def Na{b:Bool}{Q:qf}(I:Inv X pins σ H s)(e:H a=some (.ins C dx fs))(c:Cls X.K C)(n:Yi X.K C f)(l:fs.lookup f=some v)
 (h:∀u s',Inv X pins σ H s'->QO v u->Q u s'):wpAny (model X.prog X.w) A (getAttr (.ref a) f b) Q E s:=by
 obtain⟨g,O,r,_,_,_⟩:=Cp I.hok e;obtain⟨u,i,d⟩:=WH.some_of (v:=v) (o:=g f) (by rw[<-l];exact r f);exact cE I.oQ O (c.get f) c.hd n i (Ru d) (h u _ (I.tok _) d)
def DN{m:qb}{g:qc}{Q:qd×qg->Shared->Prop}(I:Inv X pins σ H s)(e:H a=some (.ins C dx fs))(c:Cls X.K C)(k:YU X.K C m g)(l:fs.lookup m=none)
 (h:Q (.ref g,[.ref a]) s):wpAny (model X.prog X.w) A (getMethod (.ref a) m pl) Q E s:=by
 obtain⟨b,O,r,_,_,_⟩:=Cp I.hok e;have d:b m=none:=WH.none_of (by rw[<-l];exact r m);exact aA I.oQ O (c.get m) k.at_ k.fn d h
def Mu{y:V}{Q:Unit->Shared->Prop}(I:Inv X pins σ H s)(e:H a=some (.ins C dx fs))(c:Cls X.K C)(n:Yi X.K C f)(v:fs.length<1000)(l:QO y u)
 (h:∀s',Inv X pins σ (upd H a (.ins C dx (QI f y fs))) s'->Q () s'):wpAny (model X.prog X.w) A (setAttr (.ref a) f u) Q E s:=by
 obtain⟨i,O,r,j,_,k⟩:=Cp I.hok e;have hz:(fs.map (·.1)).length<=sizeLine:=by rw[qh,sizeLine_eq];omega
 refine bF I.oQ O c.sa c.po n.taker c.hd j hz λh' d m=>h _ ?_;have hd:∃o,h'.get? dx=some o:=let ⟨o,_,_,p,_⟩:=d.ns;⟨o,p⟩;refine I.write (x:=a) (e:=dx) (by rw[e];exact True.intro) (.inr k) (λb q t z=>(m.2 b t).trans z) hd ?_;refine⟨by rw[Qa O.ne];exact k,?_,O.ne,d.obj,_,d.ns,λg=>?_,λg hg=>?_⟩
 .have:=BJ f y fs;omega
 .show WH ((QI f y fs).lookup g) (if g=f then some u else i g);rw[BH];by_cases q:g=f
  .rw[qG q,qG q];exact l
  .rw[qC q,qC q];exact r g
 .by_cases q:g=f
  .rw[q];exact(Bn f y fs).1
  .refine(Bn f y fs).2 g (j g λz=>hg ?_);show(if g=f then some u else i g)=none;rw[qC q];exact z
def Inv.made(I:Inv X pins σ H s):Inv X pins σ (upd (upd H s.heap.objs.size (.own (s.heap.objs.size+1))) (s.heap.objs.size+1) (.ins C s.heap.objs.size []))
 {s with heap:=(s.heap.push emptyDict).push (instObj C s.heap.objs.size)}:=by
 have c:(s.heap.push emptyDict).get? s.heap.objs.size=some emptyDict:=qK s.heap rfl;have d:((s.heap.push emptyDict).push (instObj C s.heap.objs.size)).get? (s.heap.objs.size+1)=some (instObj C s.heap.objs.size):=by
  have:=qK (s.heap.push emptyDict) (o:=instObj C s.heap.objs.size) rfl;rwa[yg] at this
 have f:(s.heap.push emptyDict).Ns s.heap.objs.size (λ_=>none):=⟨emptyDict,#[],_,c,U,(λe he=>absurd he (by simp)),λ_=>rfl⟩;have g:=I.laid (a:=s.heap.objs.size) (o:=.own (s.heap.objs.size+1)) (h':=s.heap.push emptyDict) (t':=s.toks) (λb u q=>qw _ q) (qB _) ⟨_,c⟩;refine g.laid (a:=s.heap.objs.size+1) (o:=.ins C s.heap.objs.size []) (t':=s.toks) (λb u q=>qw _ q) (Nat.le_of_eq (yg _ _)) ?_;have ne:s.heap.objs.size≠s.heap.objs.size+1:=za (Nat.lt_succ_self _);refine⟨by rw[Qa ne,Qc],q0 _,ne,d,λ_=>none,(Heap.Ns1.of_empty f).at λo q=>qw _ q,λ_=>True.intro,λy h=>absurd rfl h⟩
def cP{prog:Program}{env:Env}{f:qb}{s:Shared}{Q:qf}(b:attributeBase e f env (eval e env)=eval e env)
 (h:wpAny (model prog w) A (eval e env) (λo a=>wpAny (model prog w) A (getAttr o f true) Q E a) E s):wpAny (model prog w) A (eval (.Attribute e f pos) env) Q E s:=
 Attribute_any_ h (by rw[arm_eval_Attribute,b])
end
inductive R3(K:Frag)(f:qb)(Q:VK)(x:V)(H1:Hp):Prop
 |mk:∀a C dx fs v,x=.ref a->H1 a=some (.ins C dx fs)->Cls K C->Yi K C f->fs.lookup f=some v->Q v H1->R3 K f Q x H1
def g5(K:Frag)(a:TE)(f:qb):TE:=λσ H Q=>a σ H λx H1=>R3 K f Q x H1
inductive Sn(K:Frag)(f:qb)(D:Wl)(σ:St)(y:V)(x:V)(H2:Hp):Prop
 |mk:∀a C dx fs,x=.ref a->H2 a=some (.ins C dx fs)->Cls K C->Yi K C f->fs.length<1000->D.nx σ (upd H2 a (.ins C dx (QI f y fs)))->Sn K f D σ y x H2
def sFld(K:Frag)(a b:TE)(f:qb):TS:=λD σ H=>b σ H λy H1=>a σ H1 λx c=>Sn K f D σ y x c
section
variable {X:Cx}{o e value:Expr}{f:qb}{pos pos' tpos:Pos}{ta tv:TE}
def Qm(he:PE X e ta)(b:attributeBase e f X.env (eval e X.env)=eval e X.env):PE X (.Attribute e f pos) (g5 X.K ta f):=by
 intro pins s σ H Q I h;refine cP b (jE (he pins s σ H _ I h) λu s1 ⟨x,H1,d,g,a,C,m,fs,v,ex,i,c,n,l,q⟩=>?_);subst ex;obtain rfl:u=Value.ref a:=g;exact Na d i c n l λo s2 j k=>⟨v,H1,j,k,q⟩
def YC(b:PE X o ta)(d:PE X value tv)(e:swapsWith value (some (.Attribute o f pos')) pos.line X.env=pure false):PS X (.Assign [.Attribute o f pos'] value pos) (sFld X.K ta tv f):=by
 intro pins s σ H D I h;refine plainObj_wpAny_Assign_Attribute (jE (d pins s σ H _ I h) λu s1 ⟨y,H1,g,i,q⟩=>jE (b pins s1 σ H1 _ g q) λj s2 ⟨x,v,k,m,a,C,w,fs,ex,p,c,n,l,r⟩=>?_) e;subst ex;obtain rfl:j=Value.ref a:=m;exact Mu k p c n l i λs3 t=>⟨σ,_,t,r⟩
end
section
variable {X:Cx}{pins:qa (qc×Obj)}{σ:St}{H:Hp}{s:Shared}{A:Around}{E:qf}{Q:qf}{c:qd}{b:Bool}
inductive WG(K:Frag)(H:Hp):V->qd->Prop where
 |non:WG K H .non (.type "NoneType")
 |bl (x:Bool):WG K H (.bl x) (.type "bool")
 |int (i:Int):WG K H (.int i) (.type "int")
 |str (x:qb):WG K H (.str x) (.type "str")
 |flt (x:UInt64):WG K H (.flt x) (.type "float")
 |lst {a:qc} {xs:qa V} (e:H a=some (.lst xs)):WG K H (.ref a) (.type "list")
 |jG {a:qc} {o:Obj} {xs:qa V} (e:H a=some (.jG o (.lst xs))):WG K H (.ref a) (.type "list")
 |tup {a:qc} {xs:qa V} (e:H a=some (.tup xs)):WG K H (.ref a) (.type "tuple")
 |dK {a:qc} {kvs:qa (Key×V)} (e:H a=some (.dK kvs)):WG K H (.ref a) (.type "dict")
 |dT {a:qc} {kvs:qa (qa Key×V)} (e:H a=some (.dT kvs)):WG K H (.ref a) (.type "dict")
 |ins {a C dx:qc} {fs:qa (qb×V)} (e:H a=some (.ins C dx fs)) (cl:Cls K C) (ha:findIn K (.ref C) "__class__"=some (some (.builtin "object.__class__")))
   (hn:PySem.W.specialIn K (.builtin "object.__class__") "__get__"=some (some (.builtin "getset_descriptor.__get__"))) (htk:PySem.W.takesIn K (.builtin "object.__class__")=some true)
   (hm:PySem.W.mroIn K C (.type "object")=some true):WG K H (.ref a) (.ref C)
def Ro{x:V}{t:qd}(I:Inv X pins σ H s)(d:QO x u)(ty:WG X.K H x t)(e:kitOne X.K t c=some b)(h:∀l,Q (.bool b) {s with toks:=l}) :
 wpAny (model X.prog X.w) A (call (.builtin "isinstance") [u,c]) Q E s:=by
 cases ty with
 |non=>cases (show u=Value.none from d);exact kia_one PySem.W.kitx_none I.oQ True.intro e nofun h
 |bl y=>cases (show u=Value.bool y from d);exact kia_one PySem.W.kitx_bool I.oQ True.intro e nofun h
 |int i=>obtain⟨t,q⟩:=(show ∃t,u=Value.int i t from d);cases q;exact kia_one PySem.W.kitx_int I.oQ True.intro e nofun h
 |str y=>obtain⟨t,q⟩:=(show ∃t,u=Value.str y t from d);cases q;exact kia_one PySem.W.kitx_str I.oQ True.intro e nofun h
 |flt y=>obtain⟨t,q⟩:=(show ∃t,u=Value.float y t from d);cases q;exact kia_one PySem.W.kitx_float I.oQ True.intro e nofun h
 |@lst a xs f=>
  cases (show u=Value.ref a from d);obtain⟨_,_,n,_,g⟩:=(show QY X.prog X.w H s.heap a (.lst xs) from I.hok a _ f);exact kia_one kitx_list I.oQ ⟨_,g,U⟩ e nofun h
 |@jG a j xs f=>
  cases (show u=Value.ref a from d);obtain⟨_,_,_,n,_,g⟩:=(show QY X.prog X.w H s.heap a (.jG j (.lst xs)) from I.hok a _ f);exact kia_one kitx_list I.oQ ⟨_,g,U⟩ e nofun h
 |@tup a xs f=>
  cases (show u=Value.ref a from d);obtain⟨_,_,_,p⟩:=(show QY X.prog X.w H s.heap a (.tup xs) from I.hok a _ f);obtain⟨o,g,k,_⟩:=p;exact kia_one PySem.W.kitx_tuple I.oQ ⟨o,g,k⟩ e nofun h
 |@dK a j f=>
  cases (show u=Value.ref a from d);obtain⟨_,_,vs,_,p⟩:=(show QY X.prog X.w H s.heap a (.dK j) from I.hok a _ f);obtain⟨o,es,m,g,k,_⟩:=p;exact kia_one kitx_dict I.oQ ⟨o,g,k.1⟩ e nofun h
 |@dT a j f=>
  cases (show u=Value.ref a from d);obtain⟨_,_,xs,_,o,es,m,g,k,_⟩:=(show QY X.prog X.w H s.heap a (.dT j) from I.hok a _ f);exact kia_one kitx_dict I.oQ ⟨o,g,k.1⟩ e nofun h
 |@ins a C m fs f cl j k g hm=>
  cases (show u=Value.ref a from d);obtain⟨r,O,_⟩:=Cp I.hok f;obtain⟨v,J,_⟩:=O.look;exact kia_one (PySem.W.kitx_own (cl.get _) cl.hd j k g hm) I.oQ J e nofun h
end
structure QG(k:Nat)(A:Around):Prop where
 hd:A.handled=none
 dp:A.depth+3*k+5<recursionLimit
 un:A.units+16*k+200<cLine
 gd:A.guards=some []
def QG.mono{j k:Nat}(r:QG k A)(h:j<=k:=by decide):QG j A:=⟨r.hd,by have:=r.dp;omega,by have:=r.un;omega,r.gd⟩
def QG.deeper{k:Nat}(r:QG (k+1) A)(env:Env):QG k (A.deeper env):=
 ⟨r.hd,by have:=r.dp;show A.depth+1+3*k+5<_;omega,by have:=r.un;show A.units+3+16*k+200<_;omega,r.gd⟩
def MZ    :(A.under (.builtin "type.__call__" ⟨.ref C::us,kw⟩)).depth=A.depth+1:=by
 first|rfl|simp[Around.under,Code.weight,Code.isCreation,Code.isGuard,Code.isCaller,Code.frames,Code.isFrame,guardIds]
def MY    :(A.under (.builtin "type.__call__" ⟨.ref C::us,kw⟩)).units=A.units+1:=by
 first|rfl|simp[Around.under,Code.cUnits,Code.frames,Code.isFrame]
def Lu(h:A.guards=some []):(A.under (.builtin "type.__call__" ⟨.ref C::us,kw⟩)).guards=some []:=by
 first|exact h|simp[Around.under,Code.guards,Code.isGuard,pushGuards,guardIds,h]
def QG.make{k:Nat}(r:QG (k+1) A)(C:qc)(us:qg)(kw:qa (qb×qd)):QG k (A.under (.builtin "type.__call__" ⟨.ref C::us,kw⟩)):=
 ⟨r.hd,by have:=r.dp;rw[MZ];omega,by have:=r.un;rw[MY];omega,Lu r.gd⟩
def QG.depth{k:Nat}(r:QG k A):A.depth<recursionLimit:=by have:=r.dp;omega
def QG.units{k:Nat}(r:QG k A):A.units+64<cLine:=by have:=r.un;omega
def QG.Qcu{k:Nat}(r:QG k A):A.units<cLine:=by have:=r.un;omega
def bu:TA:=λ_ H Q=>Q [] H
def R5(a:TE)(b:TA):TA:=λσ H Q=>a σ H λx H1=>b σ H1 λxs c=>Q (x::xs) c
section
variable {X:Cx}{e:Expr}{es:qa Expr}{te:TE}{t:TA}{pos:Pos}
def Qe:PA X [] bu:=λ_ _ _ _ H Q I h=>uQ ⟨[],H,I,.nil,h⟩
def Ov(a:PE X e te)(b:PA X es t)(c:starEach (e::es) X.env=(false,eval e X.env)::starEach es X.env:=by rfl):PA X (e::es) (R5 te t):=by
 intro pos pins s σ H Q I h;rw[c];show wpAny _ _ (spliced ((false,eval e X.env)::backTo pos (starEach es X.env))) _ _ s;refine j7 (jE (a pins s σ H _ I h) λu s1 ⟨x,H1,d,f,g⟩=>?_);exact jE (b pos pins s1 σ H1 _ d g) λus s2 ⟨xs,i,j,k,l⟩=>⟨x::xs,i,j,.cons f k,l⟩
def gW(t:TA):TE:=λσ H Q=>t σ H λxs H1=>xs.length<=sizeLine/\∀p,H1 p=none->Q (.ref p) (upd H1 p (.tup xs))
def g4(t:TA):TE:=λσ H Q=>t σ H λxs H1=>xs.length<=sizeLine/\∀p,H1 p=none->Q (.ref p) (upd H1 p (.lst xs))
def fy{c}(h:PA X es t):PE X (.Tuple es c pos) (gW t):=by
 intro pins s σ H Q I d;refine wpAny_Tuple_spliced (jE (h pos pins s σ H _ I d) λus s1 ⟨xs,H1,a,r,z,q⟩=>⟨by rw[<-r.length];exact z,?_⟩);have hf:H1 s1.heap.objs.size=none:=a.hok.fresh (qB _);refine⟨.ref s1.heap.objs.size,upd H1 s1.heap.objs.size (.tup xs),a.laid (t':=s1.toks) (λb u e=>qw _ e) (qB _) ?_,U,q _ hf⟩;exact⟨z,us,r,⟨_,qK _ rfl,U,_,U⟩⟩
def fA(h:PA X es t):PE X (.List es pos) (g4 t):=by
 intro pins s σ H Q I c;refine wpAny_List_spliced (jE (h pos pins s σ H _ I c) λus s1 ⟨xs,H1,a,r,z,q⟩=>⟨by rw[<-r.length];exact z,?_⟩);have hf:H1 s1.heap.objs.size=none:=a.hok.fresh (qB _);refine⟨.ref s1.heap.objs.size,upd H1 s1.heap.objs.size (.lst xs),a.laid (t':=s1.toks) (λb u e=>qw _ e) (qB _) ?_,U,q _ hf⟩;exact⟨z,us,0,r,qK _ rfl⟩
end
abbrev Sp:=qa V->Hp->VK->XK->Prop
abbrev CXT:=qa Env->Hp->Shared->XK->qd->Shared->Prop
structure Nq(P:Program)(w:World)(K:Frag)(mg:qb->Option qd)(base:Heap)(A:Around)(outer:qa Env)(s:Shared)(H:Hp):Prop where
 frames:A.frames=some outer
 mod:Mod K mg base
 bs:∀b o,base.get? b=some o->s.heap.get? b=some o/\H b=none
 bsz:base.objs.size<=s.heap.objs.size
 oV:s.heap.FunFrames base outer
 frf:∀b∈frs outer,H b=none
 hok:lF P w H s.heap
 bare:AllBare s.gens
def CE(outer:qa Env)(P:Program)(w:World)(H:Hp)(s:Shared)(Q:VK)(u:qd)(s':Shared):Prop:=
 ∃v H',s'.os=s.os/\AllBare s'.gens/\Un (frs outer) [] H H' s.heap s'.heap/\lF P w H' s'.heap/\QO v u/\Q v H'
def CR(a:CXT)(outer:qa Env)(P:Program)(w:World)(H:Hp)(s:Shared)(Q:VK)(E:XK)(r:Result)(s':Shared):Prop:=
 match r with
 |.ok (.ret u)=>CE outer P w H s Q u s'
 |.ok _=>False
 |.error e=>a outer H s E e s'
structure AB(P:Program)(w:World)(K:Frag)(mg:qb->Option qd)(base:Heap)(CX:CXT)(k:Nat)(f:qc)(fd:FuncData)(ps:qe)(sp:Sp):Prop where
 len:∀vs H Q E,sp vs H Q E->vs.length=ps.length
 run:∀(A:Around)(outer:qa Env)(s:Shared)(H:Hp)(args:Args)(us:qg)(vs:qa V)(Q:VK)(E:XK),QG k A->Nq P w K mg base A outer s H->BindsTo s fd args (ps.zip us)->QK vs us->sp vs H Q E ->
  codeAny (model P w) A (.call (.ref f) args) (CR CX outer P w H s Q E) s
def Nq.make{K:Frag}{outer:qa Env}(e:Nq P w K mg base A outer s H)(C:qc)(us:qg)(kw:qa (qb×qd)) :
 Nq P w K mg base (A.under (.builtin "type.__call__" ⟨.ref C::us,kw⟩)) outer s H:=⟨by first|exact e.frames|(simpa[Around.under,Code.envs,Code.isFrame,pushEnvs] using e.frames),e.mod,e.bs,e.bsz,e.oV,e.frf,e.hok,e.bare⟩
section
variable {X:Cx}{pins:qa (qc×Obj)}{σ:St}{H:Hp}{s s':Shared}
def Inv.env0(I:Inv X pins σ H s):Nq X.prog X.w X.K X.mg X.base X.A X.stack s H:=
 ⟨I.ok.frames,I.ok.mod,I.bs,zm I.ok.bsz I.sz,I.stack,I.Qbw,I.hok,I.bare⟩
def Inv.after(I:Inv X pins σ H s)(h:CE X.stack X.prog X.w H s Q u s'):EP X pins σ Q u s':=by
 obtain⟨v,H',os,bare,un,hok,r,q⟩:=h;obtain⟨c,g,d,t,a⟩:=s';obtain rfl:a=s.os:=os;exact⟨v,H',I.call (h':=c) (g':=g) (d':=d) (t':=t) (ch:=[]) un hok bare (λb z=>absurd z (by simp)),r,q⟩
end
def hC(sp:Sp)(a:qa V)(E:XK)(t:TA):TE:=λσ H Q=>t σ H λvs H1=>sp (vs++a) H1 Q E
inductive Ny(C:qc)(m:qb)(sp:Sp)(pN:qa V)(E:XK)(t:TA)(σ:St)(Q:VK)(x:V)(H1:Hp):Prop
 |mk:∀a dx fs,x=.ref a->H1 a=some (.ins C dx fs)->fs.lookup m=none->(t σ H1 λvs H2=>sp (x::(vs++pN)) H2 Q E)->Ny C m sp pN E t σ Q x H1
def cY(C:qc)(m:qb)(sp:Sp)(a:qa V)(E:XK)(b:TE)(t:TA):TE:=λσ H Q=>b σ H λx H1=>Ny C m sp a E t σ Q x H1
def cZ(C:qc)(sp:Sp)(b:qa V)(E:XK)(t:TA):TE:=λσ H Q=>t σ H λvs H1=>∀x a,H1 x=none->H1 a=none->a≠x ->
 sp (.ref x::(vs++b)) (upd (upd H1 a (.own x)) x (.ins C a [])) (λv c=>v=.non/\Q (.ref x) c) E
def Qs(K:Frag)(fd:FuncData)(ps:qe)(ds:qg):Prop:=
 ∀(s:Shared)(us:qg),K.In s.heap->(us++ds).length=ps.length->BindsTo s fd ⟨us,[]⟩ (ps.zip (us++ds))
def Qs.all{K:Frag}{fd:FuncData}{ps:qe}(h:∀us:qg,us.length=ps.length->bindArgs fd ⟨us,[]⟩=pure (ps.zip us)):Qs K fd ps []:=λs us _ a=>by
 rw[zr] at a⊢;exact .of_eq (h us a)
def Kv(a:CXT)(X:Cx)(E:XK):Prop:=∀(pins:qa (qc×Obj))(σ:St)(H:Hp)(s:Shared)(e:qd)(s':Shared),Inv X pins σ H s->a X.stack H s E e s'->X.xe e s'
section
variable {X:Cx}{CX:CXT}{k:Nat}{f C:qc}{fd:FuncData}{ps:qe}{sp:Sp}{pN:qa V}{ds:qg}{E:XK}{x m:qb}{p pos apos:Pos}{e o:Expr}{es:qa Expr}{ta:TE}{t:TA}
def MB(F:AB X.prog X.w X.K X.mg X.base CX k f fd ps sp)(c:QG k X.A)(d:Qs X.K fd ps ds)(hd:QK pN ds)(g:Kv CX X E)
 (I:Inv X pins σ H s) (r:QK vs us) (h:sp (vs++pN) H Q E):wpAny (model X.prog X.w) X.A (call (.ref f) us) (EP X pins σ Q) X.xe s:=by
 have b:QK (vs++pN) (us++ds):=r.append hd;have i:(us++ds).length=ps.length:=by rw[<-b.length];exact F.len _ _ _ _ h
 refine wpAny_call (xn (F.run X.A X.stack s H ⟨us,[]⟩ (us++ds) (vs++pN) Q E c I.env0 (d s us I.oQ i) b h) λr s' a=>?_)
 cases r with
 |error e=>exact g pins σ H s e s' I a
 |ok j=>
  cases j with
  |ret u=>exact I.after a
  |next=>exact False.elim a
  |brk=>exact False.elim a
  |cont=>exact False.elim a
def Qk(F:AB X.prog X.w X.K X.mg X.base CX k f fd ps sp)(d:QG k X.A)(hg:Gl X x)(hm:X.mg x=some (.ref f))(g:keepIn X.K (.ref f)=true)(i:Qs X.K fd ps ds)(hd:QK pN ds)(j:Kv CX X E)
 (l:PA X (e::es) t) (a:(x==("__debug__":qb))=false:=by decide) (he:starEach (e::es) X.env=(false,eval e X.env)::starEach es X.env:=by rfl) (b:(backTo pos (starEach es X.env)).any (·.1)=false:=by rfl) :
 PE X (.Call (.Name x p) (e::es) [] pos) (hC sp pN E t):=by
 intro pins s σ H Q I h;refine ue (Cn I hg hm ?_ a);refine callWith_K (h₀:=X.base) I.ok.mod.kin g (jE (l pos pins s σ H _ I h) λus s1 ⟨vs,H1,c,r,q⟩=>⟨c.oQ,?_⟩) he b;exact MB F d i hd j c r q
def QN(he:PE X o ta)(c:Cls X.K C)(hm:YU X.K C m f)(F:AB X.prog X.w X.K X.mg X.base CX k f fd ps sp)(j:QG k X.A)(n:Qs X.K fd ps ds)(hd:QK pN ds)(p:Kv CX X E)(v:PA X (e::es) t)
 (b:starEach (e::es) X.env=(false,eval e X.env)::starEach es X.env:=by rfl) (d:(backTo pos (starEach es X.env)).any (·.1)=false:=by rfl)
 (w:eval (.Call (.Attribute o m apos) (e::es) [] pos) X.env=(do
   let g <-eval o X.env
   standAt apos.atName
   let (f,first) <-holding [g] (getMethod g m pl)
   callWith pos f first (backTo pos (starEach (e::es) X.env)) (backToKw pos (keywordEach [] X.env))):=by rfl) :
 PE X (.Call (.Attribute o m apos) (e::es) [] pos) (cY C m sp pN E ta t):=by
 intro pins s σ H Q I h;refine PySem.W.methodCall_KW (pl:=pl) (jE (he pins s σ H _ I h) λu s1 ⟨x,H1,g,y,a,B,fs,ex,z,l,q⟩=>?_) w;subst ex;obtain rfl:u=Value.ref a:=y;refine DN g z c hm l ?_;refine callWith_K (first:=[.ref a]) (h₀:=X.base) I.ok.mod.kin hm.kp (jE (v pos pins s1 σ H1 _ g q) λus s2 ⟨vs,D,i,r,A⟩=>⟨i.oQ,?_⟩) b d;exact MB (us:=.ref a::us) (vs:=.ref a::vs) F j n hd p i (.cons rfl r) A
def Y9(he:PE X o ta)(c:Cls X.K C)(hm:YU X.K C m f)(F:AB X.prog X.w X.K X.mg X.base CX k f fd ps sp)(d:QG k X.A)(e:Qs X.K fd ps ds)(hd:QK pN ds)(g:Kv CX X E)
 (i:eval (.Call (.Attribute o m apos) [] [] pos) X.env=(do
   let b <-eval o X.env
   standAt apos.atName
   let (f,first) <-holding [b] (getMethod b m pl)
   callWith pos f first (backTo pos (starEach [] X.env)) (backToKw pos (keywordEach [] X.env))):=by rfl) :
 PE X (.Call (.Attribute o m apos) [] [] pos) (cY C m sp pN E ta bu):=by
 intro pins s σ H Q I h;refine PySem.W.methodCall_KW (pl:=pl) (jE (he pins s σ H _ I h) λu s1 ⟨x,H1,b,j,a,p,fs,ex,n,l,q⟩=>?_) i;subst ex;obtain rfl:u=Value.ref a:=j;refine DN b n c hm l ?_;exact callWith_K0 (first:=[.ref a]) b.oQ hm.kp (MB (us:=[.ref a]) (vs:=[.ref a]) F d e hd g b (.cons rfl .nil) q)
structure Mk(K:Frag)(C f:qc):Prop where
 makes:makesIn K C=true
 init:findIn K (.ref C) "__init__"=some (some (.ref f))
 fn:isFn K (.ref f)=true
 kp:keepIn K (.ref C)=true
def IG(M:Mk X.K C f)(F:AB X.prog X.w X.K X.mg X.base CX k f fd ps sp)(g:QG (k+1) X.A)(i:Qs X.K fd ps ds)(hd:QK pN ds)
 (j:Kv CX X E) (I:Inv X pins σ H s) (r:QK vs us)
 (h:∀x a,H x=none->H a=none->a≠x->sp (.ref x::(vs++pN)) (upd (upd H a (.own x)) x (.ins C a [])) (λv b=>v=.non/\Q (.ref x) b) E) :
 wpAny (model X.prog X.w) X.A (call (.ref C) us) (EP X pins σ Q) X.xe s:=by
 have c:=h (s.heap.objs.size+1) s.heap.objs.size (I.hok.fresh (oO _)) (I.hok.fresh (qB _)) (za (Nat.lt_succ_self _));have b:=Inv.made (C:=C) I;have d:QK (V.ref (s.heap.objs.size+1)::(vs++pN)) (Value.ref (s.heap.objs.size+1)::(us++ds)):=.cons rfl (r.append hd);have l:(Value.ref (s.heap.objs.size+1)::us++ds).length=ps.length:=by
  have e:=d.length;rw[F.len _ _ _ _ c] at e;exact e.symm
 refine wpAny_call (TZ (f:=f) I.oQ M.makes M.init (mz.mp M.fn) (xn (F.run _ X.stack _ _ ⟨Value.ref (s.heap.objs.size+1)::us,[]⟩ (Value.ref (s.heap.objs.size+1)::(us++ds)) _ _ E (g.make C us [])
  (b.env0.make C us []) (i _ (Value.ref (s.heap.objs.size+1)::us) b.oQ l) d c) λr s' a=>?_))
 cases r with
 |error e=>exact j pins σ _ _ e s' b a
 |ok j=>
  cases j with
  |ret u=>
   obtain⟨v,H',m,n,ev,o⟩:=b.after a;subst ev;exact⟨n,⟨V.ref (s.heap.objs.size+1),H',m,U,o⟩⟩
  |next=>exact False.elim a
  |brk=>exact False.elim a
  |cont=>exact False.elim a
def F0(M:Mk X.K C f)(F:AB X.prog X.w X.K X.mg X.base CX k f fd ps sp)(d:QG (k+1) X.A)(hg:Gl X x)(hm:X.mg x=some (.ref C))(g:Qs X.K fd ps ds)(hd:QK pN ds)(i:Kv CX X E)
 (j:PA X (e::es) t) (a:(x==("__debug__":qb))=false:=by decide) (he:starEach (e::es) X.env=(false,eval e X.env)::starEach es X.env:=by rfl) (b:(backTo pos (starEach es X.env)).any (·.1)=false:=by rfl) :
 PE X (.Call (.Name x p) (e::es) [] pos) (cZ C sp pN E t):=by
 intro pins s σ H Q I h;refine ue (Cn I hg hm ?_ a);refine callWith_K (h₀:=X.base) I.ok.mod.kin M.kp (jE (j pos pins s σ H _ I h) λus s1 ⟨vs,H1,c,r,q⟩=>⟨c.oQ,?_⟩) he b;exact IG M F d g hd i c r q
def Xh(M:Mk X.K C f)(F:AB X.prog X.w X.K X.mg X.base CX k f fd ps sp)(b:QG (k+1) X.A)(hg:Gl X x)(hm:X.mg x=some (.ref C))(c:Qs X.K fd ps ds)(hd:QK pN ds)(d:Kv CX X E)
 (a:(x==("__debug__":qb))=false:=by decide):PE X (.Call (.Name x p) [] [] pos) (cZ C sp pN E bu):=by
 intro pins s σ H Q I h;refine ue (Cn I hg hm ?_ a);exact callWith_K0 I.oQ M.kp (IG (us:=[]) M F b c hd d I .nil h)
end
section
variable {X:Cx}{CX:CXT}{k:Nat}{f C:qc}{fd:FuncData}{ps ks:qe}{sp:Sp}{E:XK}{x m:qb}{p pos apos kpos:Pos}{e o:Expr}{es:qa Expr}{kws:qa Keyword}{te ta:TE}{t tk:TA}{nm:Option qb}
variable {g:qg->qg->qg}{gV:qa V->qa V->qa V}
end
structure Qn(N P:qe)(sc:Scope):Prop where
 kind:sc.kind=.function
 co:sc.isCoroutine=false
 gen:sc.isGenerator=false
 nd:N.Nodup
 pre:N.take P.length=P
 par:∀x∈P,sc.names.lookup x=some .local\/sc.names.lookup x=some .cell
 QdO:∀y∈sc.names,y.2≠.free
def Ft{kindOf:qb->Option NameKind}{x:qb}:∀{binds:qa (qb×qd)}{m:qb->Option qd},(∀v,(x,v)∉binds)->bindL kindOf binds m x=m x
 |[],_,_=>rfl
 |(n,v)::r,m,h=>by
  unfold bindL;rw[Ft λw hw=>h w (qF _ hw)];split
  .have:x≠n:=by rintro rfl;exact h v qz
   simp[this]
  .rfl
def Fv{kindOf:qb->Option NameKind}{x:qb}:∀{binds:qa (qb×qd)}{m:qb->Option qd},(∀v,(x,v)∉binds)->bindC kindOf binds m x=m x
 |[],_,_=>rfl
 |(n,v)::r,m,h=>by
  unfold bindC;rw[Fv λw hw=>h w (qF _ hw)];split
  .rfl
  .have:x≠n:=by rintro rfl;exact h v qz
   simp[this]
def Fu{kindOf:qb->Option NameKind}{x:qb}{v:qd}:∀{P:qe}{vs:qg}{i:Nat}{m:qb->Option qd},P.Nodup->P[i]?=some x->vs[i]?=some v->kindOf x=some .local ->
 bindL kindOf (P.zip vs) m x=some v
 |[],_,_,_,_,h,_,_=>by simp at h
 |_::_,[],_,_,_,_,h,_=>by simp at h
 |p::P,w::vs,0,m,c,a,b,d=>by
  simp at a b;subst a;subst b;show bindL kindOf ((p,w)::P.zip vs) m p=_;unfold bindL;rw[Ft λv e=>(zN.mp c).1 (List.of_mem_zip e).1,qG d];simp
 |p::P,w::vs,i+1,m,c,a,b,d=>by
  show bindL kindOf ((p,w)::P.zip vs) m x=_;unfold bindL;exact Fu (i:=i) (zN.mp c).2 (by simpa using a) (by simpa using b) d
def Fw{kindOf:qb->Option NameKind}{x:qb}{v:qd}:∀{P:qe}{vs:qg}{i:Nat}{m:qb->Option qd},P.Nodup->P[i]?=some x->vs[i]?=some v->kindOf x≠some .local ->
 bindC kindOf (P.zip vs) m x=some v
 |[],_,_,_,_,h,_,_=>by simp at h
 |_::_,[],_,_,_,_,h,_=>by simp at h
 |p::P,w::vs,0,m,c,a,b,d=>by
  simp at a b;subst a;subst b;show bindC kindOf ((p,w)::P.zip vs) m p=_;unfold bindC;rw[Fv λv e=>(zN.mp c).1 (List.of_mem_zip e).1,qC d];simp
 |p::P,w::vs,i+1,m,c,a,b,d=>by
  show bindC kindOf ((p,w)::P.zip vs) m x=_;unfold bindC;exact Fw (i:=i) (zN.mp c).2 (by simpa using a) (by simpa using b) d
def start(N:qe)(vs:qa V):St:=vs.map some++List.replicate (N.length-vs.length) none
def HF(b:CXT)(P:Program)(w:World)(K:Frag)(mg:qb->Option qd)(base:Heap)(N:qe)(qual:qb)(scope:Scope)(f:qc)(cd:qd)(A:Around)(outer:qa Env)(s:Shared)(H:Hp)(E:XK):Cx where
 prog:=P
 w:=w
 K:=K
 mg:=mg
 base:=base
 A:=A.deeper (envOfC qual scope s.heap.objs.size f cd)
 N:=N
 s₀:=s
 H₀:=H
 env:=envOfC qual scope s.heap.objs.size f cd
 outer:=outer
 stack:=envOfC qual scope s.heap.objs.size f cd::outer
 ex:=[]
 calm:=true
 fn:=λ_=>true
 pn:=[]
 xe:=λe s'=>wpAny (model P w) (A.deeper (envOfC qual scope s.heap.objs.size f cd)) (leaving (envOfC qual scope s.heap.objs.size f cd) e) (λ_ a=>b outer H s E e a) (λc a=>b outer H s E c a) s'
def L4{sc:Scope}(h:sc.names.lookup x=some .cell):∃c,(cellsFrom n sc.names []).lookup x=some c:=by
 have q:=PySem.W.cellsFrom_some sc.names n [] (.inl h);exact Option.isSome_iff_exists.mp q
def Rq{C:CXT}{K:Frag}{N ps:qe}{qual:qb}{scope:Scope}{f:qc}{cd:qd}{outer:qa Env}{s1:Shared}{E:XK}
 (S:Qn N ps scope) (hd:A.handled=none) (g:Nq P w K mg base A outer s H) (d:vs.length=ps.length) (r:QK vs us)
 (x:InCallC s s.heap.objs.size (bindL (envOfC qual scope s.heap.objs.size f cd).kindOf (ps.zip us) λ_=>none) (cellsFrom (s.heap.objs.size+1) scope.names []) (bindC (envOfC qual scope s.heap.objs.size f cd).kindOf (ps.zip us) λ_=>none) s1) :
 Inv (HF C P w K mg base N qual scope f cd A outer s H E) [] (start N vs) H s1:=by
 have G:ps.length<=N.length:=by have:=zV List.length S.pre;rw[zb] at this;omega
 obtain⟨t,L,rfl,D⟩:=x.done;have j:∀b:qc,b∉(HF C P w K mg base N qual scope f cd A outer s H E).ex:=λb z=>absurd (show b∈([]:qa qc) from z) (by simp);refine⟨⟨g.mod,S.kind,U,U,qB _,λy z c t d=>?_,λy l=>?_,λy c _ h=>?_,λ_=>hd,Around.frames_deeper g.frames,.inr ⟨U,U⟩,λb z=>absurd z (j b),g.bs,g.bsz,λb _ _=>j b,λb z=>absurd z (j b),g.oV,g.frf⟩,
  rfl,g.bare,Un.kept D,⟨_,x.toInCall.ns,λi y v t d o=>?_⟩,λy c h=>⟨_,x.cell y c h⟩,g.hok.fresh (qB _),λy c h=>?_,λp m=>absurd (show p∈([]:qa (qc×Obj)) from m) (by simp),g.hok.kept D,?_⟩
 .exact name_of_addr x.apart (jT t) (jT d)
 .have l:scope.names.lookup y=some .cell\/scope.names.lookup y=some .free:=l;rcases l with l|l
  .exact L4 l
  .exact absurd rfl (S.QdO _ (jT l))
 .exact vw (x.above y c (jT h))
 .have B:i<vs.length:=by
   unfold start at d;by_cases B:i<vs.length
   .exact B
   .rw[mB (by simpa using B)] at d;rw[List.getElem?_replicate] at d;split at d<;>cases d
  have I:vs[i]?=some v:=by
   unfold start at d;rw[nE (by simpa using B),qQ] at d
   cases e:vs[i]? with
   |none=>rw[e] at d;cases d
   |some a=>rw[e] at d;cases d;rfl
  obtain⟨u,F,J⟩:=r.get I;have m:ps[i]?=some y:=by
   rw[<-S.pre,List.getElem?_take_of_lt (by omega)];exact t
  have o:ps.Nodup:=by rw[<-S.pre];exact S.nd.sublist (List.take_sublist _ _)
  refine⟨u,J,?_⟩;rcases S.par y (qL m) with k|k
  .exact .inl ⟨k,Fu o m F k⟩
  .obtain⟨c,e⟩:=L4 (n:=s.heap.objs.size+1) k;refine .inr ⟨.inl k,c,e,?_⟩;have q:=x.cell y c e;rw[Fw o m F (by show scope.names.lookup y≠_;rw[k];decide)] at q;exact q
 .exact g.hok.fresh (vw (x.above y c (jT h)))
 .unfold start;show _=N.length;rw[qx,qh,uG];omega
def dI{l:CXT}{K:Frag}{k:Nat}{f:qc}{name qual:qb}{params:Arguments}{scope:Scope}{B kV doc pm a ct C:qd}{an D:Option qc}
 {c:Array (Option qd)} {N ps:qe} {sp:Sp} (F:K.lookup f=some ⟨C,D,.func (fnOf name qual params body scope B kV doc pm an a ct),c⟩) (m:codeIn K a qual=true) (S:Qn N ps scope)
 (len:∀vs H Q E,sp vs H Q E->vs.length=ps.length)
 (d:∀(A:Around)(outer:qa Env)(s:Shared)(H:Hp)(vs:qa V)(Q:VK)(E:XK),QG k (A.deeper (envOfC qual scope s.heap.objs.size f a))->sp vs H Q E ->
   ∃t,PSs (HF l P w K mg base N qual scope f a A outer s H E) body t/\t {nx:=λ_ H'=>Q .non H',rt:=Q} (start N vs) H) :
 AB P w K mg base l (k+1) f (fnOf name qual params body scope B kV doc pm an a ct) ps sp:=by
 refine⟨len,λA outer s H args us vs Q E p i G r j=>?_⟩;have L:=len _ _ _ _ j;have KX:K.In s.heap:=i.mod.kin.keeps λb o e=>(i.bs b o e).1;have lim:s.heap.NoLimit:=i.mod.nolimit.keeps λb o e=>(i.bs b o e).1;have g:∀y∈ps.zip us,scope.names.lookup y.1=some .local\/(scope.names.lookup y.1=some .cell/\((cellsFrom (s.heap.objs.size+1) scope.names []).lookup y.1).isSome=true):=λ⟨n,v⟩ M=>by
  rcases S.par n (List.of_mem_zip M).1 with q|q
  .exact .inl q
  .exact .inr ⟨q,PySem.W.cellsFrom_some _ _ _ (.inl q)⟩
 refine codeAny_call_function p.depth (KX _ _ F) rfl S.co S.gen rfl (PySem.W.codeRec_of KX m) (G _ _ _ _ ?_);refine wpAny_newFunctionEnv_cells S.kind g λenv he s1 x=>?_;subst he;refine⟨lim.keeps x.toInCall.keep,codeAny_func ?_⟩;obtain⟨t,O,R⟩:=d A outer s H vs Q E (p.deeper _) j;have I:Inv (HF l P w K mg base N qual scope f a A outer s H E) [] (start N vs) H s1:=Rq S p.hd i L r x;refine yQ (O [] s1 (start N vs) H _ I R) (λT s' h=>?_) λe s' h=>h;have fin:∀{c:St}{H':Hp}{v:V}{u:qd},Inv (HF l P w K mg base N qual scope f a A outer s H E) [] c H' s'->QO v u->Q v H'->CE outer P w H s Q u s':=
  λ{c H' v u} J z q=>⟨v,H',J.os,J.bare,J.base,J.hok,z,q⟩
 cases T with
 |ret u=>
  obtain⟨v,c,H',J,z,q⟩:=h;exact fin J z q
 |next=>
  obtain⟨c,H',J,q⟩:=h;exact fin (v:=V.non) (u:=Value.none) J rfl q
 |brk=>
  obtain⟨_,_,_,q⟩:=h;exact False.elim q
 |cont=>
  obtain⟨_,_,_,q⟩:=h;exact False.elim q
section
variable {X:Cx}{x:qb}{p pos:Pos}{e:Expr}{es:qa Expr}{t:TA}{id T:String}{r:qa V->Hp->VK->Prop}
def tCB(r:qa V->Hp->VK->Prop)(t:TA):TE:=λσ H Q=>t σ H λvs H1=>r vs H1 Q
def QC(hc:V0 X (.builtin id) r)(hg:Gl X x)(hm:X.mg x=none)(c:bootBuiltins x=some (.builtin id))(d:PA X (e::es) t)(f:x≠"__name__":=by decide)(a:(x==("__debug__":qb))=false:=by decide)
 (he:starEach (e::es) X.env=(false,eval e X.env)::starEach es X.env:=by rfl) (b:(backTo pos (starEach es X.env)).any (·.1)=false:=by rfl):PE X (.Call (.Name x p) (e::es) [] pos) (tCB r t):=by
 intro pins s σ H Q I h;refine ue (Hw I hg hm c ?_ f a);exact PyProof.Rows.callWith_builtin1 (jE (d pos pins s σ H _ I h) λus s1 ⟨vs,H1,g,i,j⟩=>hc pins s1 σ H1 vs us Q g i j) he b
def Uc(hc:V0 X (.type T) r)(hg:Gl X x)(hm:X.mg x=none)(c:bootBuiltins x=some (.type T))(d:PA X (e::es) t)(f:x≠"__name__":=by decide)(a:(x==("__debug__":qb))=false:=by decide)
 (he:starEach (e::es) X.env=(false,eval e X.env)::starEach es X.env:=by rfl) (b:(backTo pos (starEach es X.env)).any (·.1)=false:=by rfl):PE X (.Call (.Name x p) (e::es) [] pos) (tCB r t):=by
 intro pins s σ H Q I h;refine ue (Hw I hg hm c ?_ f a);exact PyProof.Rows.callWith_type1 (jE (d pos pins s σ H _ I h) λus s1 ⟨vs,H1,g,i,j⟩=>hc pins s1 σ H1 vs us Q g i j) he b
end
end L2
namespace HT
open PySem PyProof.Rows
def LR(A:Around)(s:Shared)(a:Int)(t:Tok)(c:Int)(u:Tok):∃e,SeqAt.EqAt A s (.int a t) (.int c u) e/\(e=true↔a=c):=
 ⟨(a==c),SeqAt.EqAt.int_int a t c u,by simp⟩
section
open PySem.SeqAt
open PySem.AutoSeq1 (wpAny_loadPart')
open PySem.MeetsSeq PySem.MeetsSeq2 PySem.MeetsSeq3
end
section
variable {prog:Program}{w:World}{A:Around}{E:qf}{s:Shared}
def xG(n d:Nat):Option Int->Nat
 |none=>d
 |some v=>if v<0 then (v+(n:Int)).toNat else min v.toNat n
def Qal(n d:Nat):xG n d none=d:=rfl
def sZ(n d k:Nat):xG n d (some (k:Int))=min k n:=by
 show(if (k:Int)<0 then ((k:Int)+(n:Int)).toNat else min (k:Int).toNat n)=min k n;rw[qC (by omega),jO]
def eY(n d:Nat)(hd:d<=n)(o:Option Int):xG n d o<=n:=by
 cases o with
 |none=>exact hd
 |some v=>
  show(if v<0 then (v+(n:Int)).toNat else min v.toNat n)<=n;by_cases a:v<0
  .rw[qG a];omega
  .rw[qC a];exact Nat.min_le_right _ _
def O4(v:Int)(n d:Nat):(if v<0 then max (v+(n:Int)) 0 else min v (n:Int))=((xG n d (some v):Nat):Int):=by
 show(if v<0 then max (v+(n:Int)) 0 else min v (n:Int))=(((if v<0 then (v+(n:Int)).toNat else min v.toNat n):Nat):Int);by_cases a:v<0
 .simp only[qG a];omega
 .simp only[qC a];omega
def Nm(lo a:Option Int)(n:Nat):Builtin.Slice.sliceAdjust lo a 1 (n:Int)=(((xG n 0 lo:Nat):Int),((xG n n a:Nat):Int)):=by
 have b:¬((1:Int)<0):=by omega
 unfold Builtin.Slice.sliceAdjust;simp only[b,yE];refine Prod.ext ?_ ?_
 .cases lo with
  |none=>rfl
  |some v=>exact O4 v n 0
 .cases a with
  |none=>rfl
  |some v=>exact O4 v n n
def ME(i j:Nat):Builtin.Slice.slicePlaces (i:Int) (j:Int) 1=j-i:=by
 unfold Builtin.Slice.slicePlaces;have a:(1:Int) > 0:=by omega
 simp only[a,vy,Int.ediv_one];split<;>omega
def CO{v:qd}{o:Option Int}{Q:Option Int->Shared->Prop}(p:IsPart v o)(h:Q o s):wpAny (model prog w) A (Builtin.Slice.slicePartIndex v) Q E s:=by
 cases p with
 |none=>exact slicePart_none h
 |int i t=>exact slicePart_int h
def W7{f:qc}{d e:qd}{lo a:Option Int}{n:Nat}{Q:Int×Int×Nat->Shared->Prop}(g:s.heap.IsSliceOf f d e .none)(pl:IsPart d lo)(pu:IsPart e a)
 (h:Q (((xG n 0 lo:Nat):Int),1,xG n n a-xG n 0 lo) s):wpAny (model prog w) A (Builtin.Slice.sliceApplied (.ref f) (pure (n:Int))) Q E s:=by
 obtain⟨os,b,i,c⟩:=id g;unfold Builtin.Slice.sliceApplied Builtin.Slice.sliceFields;refine qi (qi (wpAny_field b c (x:=d) rfl (qi (wpAny_field b c (x:=e) rfl (qi (wpAny_field b c (x:=.none) rfl (qu ?_)))))));refine qi (slicePart_none ?_);show wpAny _ _ (if ((1:Int)==0)=true then _ else _) _ _ s;rw[qC (by decide)];refine qi (CO pl (qi (CO pu (qi (qu ?_)))));show wpAny _ _ (match Builtin.Slice.sliceAdjust lo a 1 (n:Int) with|(lo,a)=>pure (lo,(1:Int),Builtin.Slice.slicePlaces lo a 1)) _ _ s;rw[Nm lo a n];show wpAny _ _ (pure (((xG n 0 lo:Nat):Int),(1:Int),Builtin.Slice.slicePlaces ((xG n 0 lo:Nat):Int) ((xG n n a:Nat):Int) 1)) _ _ s;rw[ME];exact qu h
def SO(xs:Array qd)(i k:Nat):((List.range k).filterMap λ(m:Nat)=>xs[((i:Int)+(m:Int)*1).toNat]?).toArray=((xs.toList.drop i).take k).toArray:=by
 have e:(λ(m:Nat)=>xs[((i:Int)+(m:Int)*1).toNat]?)=λm=>xs[i+m]?:=by
  funext m;have:((i:Int)+(m:Int)*1).toNat=i+m:=by omega
  rw[this]
 rw[e];have:=pick_run xs i k;rw[List.filterMap_map] at this;have a:((λx=>xs[x]?)∘λx=>i+x)=λm=>xs[i+m]?:=rfl;rw[a] at this;rw[this]
def mH{t d:qc}{items:Array qd}{j k:qd}{lo b:Option Int}{Q:qf}(c:IsTup s.heap t items)(l:s.heap.IsSliceOf d j k .none)(pl:IsPart j lo)(pu:IsPart k b)
 (hw:¬(xG items.size 0 lo=0/\xG items.size items.size b=items.size))
 (h:Q (.ref s.heap.objs.size) {s with heap:=s.heap.push {cls:=.type "tuple",data:=.seq ((items.toList.drop (xG items.size 0 lo)).take (xG items.size items.size b-xG items.size 0 lo)).toArray}})
 (hsz:items.size<=sizeLine):wpAny (model prog w) A (getItem (.ref t) (.ref d)) Q E s:=by
 have a:sizeOk (.seq ((items.toList.drop (xG items.size 0 lo)).take (xG items.size items.size b-xG items.size 0 lo)).toArray):=by
  show((items.toList.drop (xG items.size 0 lo)).take (xG items.size items.size b-xG items.size 0 lo)).toArray.size<=sizeLine;rw[qS,zb,yt,zf];omega
 have o:xG items.size items.size b<=items.size:=eY _ _ (qB _) b;obtain⟨os,e,f,n⟩:=id l;have g:s.TypeIs (.ref d) "slice":=⟨os,e,f⟩;unfold getItem
 try with_reducible refine jz ?_
 first|refine qi (qu ?_)|skip
 refine qi (wpAny_sequenceKey c.typeIs (by decide) ?_);refine qi (ju (name:=Str.ofString "__getitem__") c.typeIs slot_tuple_getitem
  (zU slot_tuple_getitem c.typeIs entry_tuple_getitem ?_ (args_tuple_getitem _ _)))
 show wpAny _ _ (Builtin.Tuple.tupleItemsOf (.ref t)>>=_) _ _ s;refine qi (tupleItemsOf_ c ?_);refine qi (QaX g ?_);rw[qG (by decide)];refine qi (W7 l pl pu ?_);have i:¬((((xG items.size 0 lo:Nat):Int)==0&&(1:Int)==1&&(xG items.size items.size b-xG items.size 0 lo)==items.size)=true):=by
  intro q;rw[jc,jc] at q;have p:((xG items.size 0 lo:Nat):Int)=0:=eq_of_beq q.1.1;have r:xG items.size items.size b-xG items.size 0 lo=items.size:=eq_of_beq q.2;exact hw ⟨by omega,by omega⟩
 show wpAny _ _ (if (((xG items.size 0 lo:Nat):Int)==0&&(1:Int)==1&&(xG items.size items.size b-xG items.size 0 lo)==items.size)=true then _ else _) _ _ s;rw[qC i,SO]
 first
  |exact qi (m:=Builtin.Tuple.tupleExact _) (zJ (qu ⟨_,rfl,qu h⟩) a)
  |exact qi (m:=Builtin.Tuple.tupleExact _) (zJ (qi (qu (qu ⟨_,rfl,qu h⟩))) a)
  |exact qi (qi (m:=Builtin.Tuple.tupleExact _) (zJ (qu (qu ⟨_,rfl,qu h⟩)) a))
  |exact qi (qi (m:=Builtin.Tuple.tupleExact _) (zJ (qu ⟨_,rfl,qu h⟩) a))
end
end HT
namespace L2
open PySem PySem.Spec PyProof.Rows
variable {n t':Nat}{pins:qa (qc×Obj)}{σ:St}{H H':Hp}{s:Shared}{xs:qa (qa Key×qc×qd)}{its:qg}{v x:V}{u:qd}{o:Option V}{P:Program}{w:World}{kvs:qa (qa Key×V)}{a b:qc}{pos:Pos}{X:Cx}
abbrev TO:=St->Hp->(Option Int->Hp->Prop)->Prop
def PO(X:Cx)(e:Option Expr)(t:TO):Prop:=
 ∀(pins:qa (qc×Obj))(s:Shared)(σ:St)(H:Hp)(Q:Option Int->Hp->Prop),Inv X pins σ H s->t σ H Q ->
  wpAny (model X.prog X.w) X.A (evalPart e X.env) (λu s'=>∃o H',Inv X pins σ H' s'/\IsPart u o/\Q o H') X.xe s
def bt:TO:=λ_ H Q=>Q none H
inductive Nw(Q:(Option Int->Hp->Prop))(x:V)(H1:Hp):Prop
 |mk:∀i,x=.int i->Q (some i) H1->Nw Q x H1
def gY(t:TE):TO:=λσ H Q=>t σ H λx H1=>Nw Q x H1
section
variable {X:Cx}{e:Expr}{te:TE}{lo hi:Option Expr}{tl th:TO}{pos p2:Pos}
def KL:PO X none bt:=by
 intro pins s σ H Q I h;rw[evalPart_none];exact qu ⟨none,H,I,.none,h⟩
def KJ(h:PE X e te):PO X (some e) (gY te):=by
 intro pins s σ H Q I hw;rw[evalPart_some];refine jE (h pins s σ H _ I hw) λu s1 ⟨x,H1,a,b,c⟩=>?_;obtain⟨i,rfl,q⟩:=c;obtain⟨t,rfl⟩:=b;exact⟨some i,H1,a,.int i t,q⟩
def SlR(X:Cx)(r:V->Option Int->Option Int->Hp->VK->Prop):Prop:=
 ∀(pins:qa (qc×Obj))(s:Shared)(σ:St)(H:Hp)(x:V)(v a b:qd)(lo hi:Option Int)(c:qc)(Q:VK),Inv X pins σ H s->QO x v->s.heap.IsSliceOf c a b .none->IsPart a lo->IsPart b hi->r x lo hi H Q ->
  ∃T id,typeLookup (.type T) "__getitem__"=pure (some (.builtin id))/\s.TypeIs v T/\wpAny (model X.prog X.w) X.A (getItem v (.ref c)) (EP X pins σ Q) X.xe s
def tSl(r:V->Option Int->Option Int->Hp->VK->Prop)(te:TE)(tl th:TO):TE:=λσ H Q=>te σ H λx H1=>tl σ H1 λl a=>th σ a λu b=>r x l u b Q
def Xg{r:V->Option Int->Option Int->Hp->VK->Prop}(f:SlR X r)(he:PE X e te)(g:PO X lo tl)(i:PO X hi th):PE X (.Subscript e (.Slice lo hi none p2) pos) (tSl r te tl th):=by
 intro pins s σ H Q I h;refine Subscript_ (jE (he pins s σ H _ I h) λv s1 ⟨x,H1,j,k,m⟩=>?_);refine wpAny_Slice (jE (g pins s1 σ H1 _ j m) λa s2 ⟨l,n,o,pl,p⟩=>jE (i pins s2 σ n _ o p) λc s3 ⟨u,d,t,pu,w⟩=>?_);rw[evalPart_none];refine qu ?_;have y:Inv X pins σ d {s3 with heap:=s3.heap.push {cls:=.type "slice",data:=.fields #[a,c,.none]}}:=t.kept (t':=s3.toks) λb B q=>qw _ q;obtain⟨T,id,z,A,hg⟩:=f pins {s3 with heap:=s3.heap.push {cls:=.type "slice",data:=.fields #[a,c,.none]}} σ d x v a c l u s3.heap.objs.size Q y k (Heap.IsSliceOf.new ..) pl pu w;show wpAny (model X.prog X.w) X.A (subscriptTail e (.Slice lo hi none p2) v (.ref s3.heap.objs.size)) (EP X pins σ Q) X.xe {s3 with heap:=s3.heap.push {cls:=.type "slice",data:=.fields #[a,c,.none]}};exact tail_any (ops:=[.ref s3.heap.objs.size,v]) A z hg (by with_unfolding_all rfl)
def Ca(xs:qa V)(lo hi:Option Int):qa V:=(xs.drop (HT.xG xs.length 0 lo)).take (HT.xG xs.length xs.length hi-HT.xG xs.length 0 lo)
def BP(xs:qa V)(lo hi:Option Int):(Ca xs lo hi).length<=xs.length:=by
 unfold Ca;rw[zb,yt];omega
inductive Ss(K:Frag)(x:V)(lo:Option Int)(hi:Option Int)(H:Hp)(Q:VK):Prop
 |mk:∀a xs,x=.ref a->jX K H a xs->¬(HT.xG xs.length 0 lo=0/\HT.xG xs.length xs.length hi=xs.length)->(∀p,H p=none->Q (.ref p) (upd H p (.tup (Ca xs lo hi))))->Ss K x lo hi H Q
def rSlT(K:Frag):V->Option Int->Option Int->Hp->VK->Prop:=λx lo hi H Q=>Ss K x lo hi H Q
def eU:SlR X (rSlT X.K):=by
 intro pins s σ H x v g i lo hi j Q I d e pl pu h;obtain⟨a,xs,rfl,f,hw,q⟩:=h;cases d;obtain⟨its,r,c,hz⟩:=I.tuple f;have hlen:its.toArray.size=xs.length:=by rw[qS];exact r.length.symm
 refine⟨"tuple",_,slot_tuple_getitem.lookup,c.typeIs,?_⟩;refine HT.mH c e pl pu (by rw[hlen];exact hw) ?_ (by rw[hlen];exact hz);rw[hlen];refine⟨.ref s.heap.objs.size,_,I.laid (t':=s.toks) (o:=.tup (Ca xs lo hi)) (λb k q=>qw _ q) (qB _) ?_,U,q _ (I.hok.fresh (qB _))⟩;exact⟨zm (BP xs lo hi) hz,_,(r.drop (HT.xG xs.length 0 lo)).take (HT.xG xs.length xs.length hi-HT.xG xs.length 0 lo),IsTup.new _ _⟩
end
def ixN(n:Nat)(i:Int):Option Nat:=if 0<=i then (if i<n then some i.toNat else none) else if -(n:Int)<=i then some (i+n).toNat else none
def mv{α:Type}(xs:qa α)(i:Int):Option α:=(ixN xs.length i).bind λj=>xs[j]?
def OJ{i:Int}{j:Nat}(h:ixN n i=some j):seqIndex? i n=some j/\j<n/\-(n:Int)<=i/\i<n:=by
 unfold ixN at h;by_cases h0:0<=i
 .rw[qG h0] at h;by_cases a:i<n
  .rw[qG a] at h;have e:i.toNat=j:=qN h;exact⟨by rw[seqIndex_of h0 a,e],by omega,by omega,a⟩
  .rw[qC a] at h;cases h
 .rw[qC h0] at h;by_cases a : -(n:Int)<=i
  .rw[qG a] at h;have e:(i+n).toNat=j:=qN h;exact⟨by rw[seqIndex_neg (by omega) a,e],by omega,a,by omega⟩
  .rw[qC a] at h;cases h
def HH{α:Type}{xs:qa α}{i:Int}{v:α}(h:mv xs i=some v):∃j,seqIndex? i xs.length=some j/\xs[j]?=some v/\j<xs.length/\-(xs.length:Int)<=i/\i<xs.length:=by
 unfold mv at h
 cases e:ixN xs.length i with
 |none=>rw[e] at h;cases h
 |some j=>
  rw[e] at h;obtain⟨a,b,c,d⟩:=OJ e;exact⟨j,a,h,b,c,d⟩
def QB{α:Type}{xs:qa α}{j:Nat}{v:α}(h:xs[j]?=some v):mv xs (j:Int)=some v:=by
 have a:j<xs.length:=(qY.mp h).1;have e:ixN xs.length (j:Int)=some j:=by
  unfold ixN;rw[qG (by omega),qG (by omega)];simp
 unfold mv;rw[e];exact h
def cT(b:Expr):Prop:=∀o i,subscripted b false o i=operate [o,i] (getItem o i)
def IxR(X:Cx)(r:R2):Prop:=
 ∀(value slice:Expr)(pins:qa (qc×Obj))(s:Shared)(σ:St)(H:Hp)(x y:V)(v u:qd)(Q:VK),Inv X pins σ H s->QO x v->QO y u->r x y H Q ->
  subscripted slice false v u=operate [v,u] (getItem v u)->wpAny (model X.prog X.w) X.A (subscriptTail value slice v u) (EP X pins σ Q) X.xe s
def MtR(X:Cx)(id:String)(r:V->qa V->Hp->VK->Prop):Prop:=
 ∀(pins:qa (qc×Obj))(s:Shared)(σ:St)(H:Hp)(x:V)(xs:qa V)(v:qd)(us:qg)(Q:VK),Inv X pins σ H s->QO x v->QK xs us->r x xs H Q ->
  wpAny (model X.prog X.w) X.A (call (.builtin id) (v::us)) (EP X pins σ Q) X.xe s
section
variable {X:Cx}{a b:Expr}{ta tb:TE}{pos:Pos}
def Qv{r:R2}(c:IxR X r)(d:PE X a ta)(e:PE X b tb)(f:cT b:=by exact λ_ _=>rfl):PE X (.Subscript a b pos) (tOp r ta tb):=by
 intro pins s σ H Q I h;exact Subscript_ (gw d e I h λv u s2 x y g i j k q=>c a b pins s2 σ g x y v u Q i j k q (f _ _))
inductive SE(K:Frag)(x:V)(y:V)(H:Hp)(Q:VK):Prop
 |mk:∀p xs i v,x=.ref p->y=.int i->zQ K H p xs->mv xs i=some v->Q v H->SE K x y H Q
def h7(K:Frag):R2:=λx y H Q=>SE K x y H Q
inductive SA(K:Frag)(x:V)(y:V)(H:Hp)(Q:VK):Prop
 |mk:∀p xs i v,x=.ref p->y=.int i->jX K H p xs->mv xs i=some v->Q v H->SA K x y H Q
def h5(K:Frag):R2:=λx y H Q=>SA K x y H Q
inductive SD(x:V)(y:V)(H:Hp)(Q:VK):Prop
 |mk:∀z i c,x=.str z->y=.int i->z.length<=sizeLine->mv z.cps.toList i=some c->Q (.str ⟨#[c]⟩) H->SD x y H Q
def rIxS:R2:=λx y H Q=>SD x y H Q
def QT:IxR X (h7 X.K):=by
 intro value slice pins s σ H x y v u Q I f g h d;obtain⟨p,xs,i,z,rfl,rfl,k,he,q⟩:=h;cases f;obtain⟨t,rfl⟩:=g;obtain⟨its,r,pl,hz⟩:=I.list k;obtain⟨j,a,l,A,m,n⟩:=HH he;obtain⟨w,e,b⟩:=r.get l;have o:=r.length;have B:=Gy;have fin:EP X pins σ Q w s:=⟨z,H,I,b,q⟩;by_cases h0:0<=i
 .have c:i.toNat=j:=by
   rw[seqIndex_of h0 n] at a;exact qN a
  exact item_listR pl.isList h0 (by omega) (by rw[c];simpa using e) fin d
 .have c:(i+(its.toArray.size:Int)).toNat=j:=by
   rw[seqIndex_neg (by omega) m] at a;rw[qS,<-o];exact qN a
  exact subscriptTail_builtinR (x:=w) pl.isList.typeIs slot_list_getitem.lookup
   (wpAny_getItem_list_neg (Q:=λr s'=>r=w/\EP X pins σ Q r s') pl.isList (by omega) (by rw[qS]<;>omega) (by omega) (by rw[c];simpa using e) ⟨U,fin⟩) d
def QR:IxR X (h5 X.K):=by
 intro value slice pins s σ H x y v u Q I b c h d;obtain⟨p,xs,i,z,rfl,rfl,e,he,q⟩:=h;cases b;obtain⟨t,rfl⟩:=c;obtain⟨its,r,pl,hz⟩:=I.tuple e;obtain⟨j,f,g,m,n,o⟩:=HH he;obtain⟨w,k,a⟩:=r.get g;have l:=r.length;have A:=Gy;have fin:EP X pins σ Q w s:=⟨z,H,I,a,q⟩;exact subscriptTail_builtinR (x:=w) pl.typeIs slot_tuple_getitem.lookup
  (getItem_tuple (j:=j) (Q:=λr s'=>r=w/\EP X pins σ Q r s') pl (by omega) (by omega) (by rw[qS,<-l];exact f) (by simpa using k) ⟨U,fin⟩) d
def af:IxR X rIxS:=by
 intro value slice pins s σ H x y v u Q I b d h e;obtain⟨z,i,c,rfl,rfl,hz,he,q⟩:=h;obtain⟨t,rfl⟩:=b;obtain⟨t',rfl⟩:=d;obtain⟨j,a,f,o,g,k⟩:=HH he;have l:z.cps.toList.length=z.length:=by simp[Str.length]
 rw[l] at a g k;have p:=Gy;exact tail_any (pz s z t) slot_str_getitem.lookup (getItem_str (c:=c) (by
  have m:decide (i < -(2^63:Int))=false:=qE (by omega);have n:decide (i>=2^63)=false:=qE (by omega);rw[m,n,Bool.or_false]) (by rw[a];simpa using f) ⟨.str ⟨#[c]⟩,H,I.tok _,⟨_,U⟩,q⟩) e
def MX(its:qg)(n j:Nat)(u:qd):Obj.mapSeq (·.setIfInBounds j u) {cls:=.type "list",data:=.seq its.toArray n}={cls:=.type "list",data:=.seq (its.set j u).toArray n}:=by
 simp[Obj.mapSeq]
def Inv.lst{p:qc}{xs:qa V}(I:Inv X pins σ H s)(h:H p=some (.lst xs)) :
 ∃(its:qg)(n:Nat),QK xs its/\s.heap.get? p=some {cls:=.type "list",data:=.seq its.toArray n}/\xs.length<=sizeLine:=by
 obtain⟨z,its,n,r,e⟩:=I.hok p _ h;exact⟨its,n,r,e,z⟩
def Inv.QdS{p:qc}{xs ys:qa V}{its':qg}{a:Nat}{f:Obj->Obj}(I:Inv X pins σ H s)(h:H p=some (.lst xs))
 (c:s.heap.get? p=some {cls:=.type "list",data:=.seq its.toArray n}) (hf:f {cls:=.type "list",data:=.seq its.toArray n}={cls:=.type "list",data:=.seq its'.toArray a}) (r:QK ys its') (hz:ys.length<=sizeLine) (t:Nat) :
 Inv X pins σ (upd H p (.lst ys)) {s with heap:=s.heap.update p f,toks:=t}:=by
 have e:(s.heap.update p f).get? p=some {cls:=.type "list",data:=.seq its'.toArray a}:=by
  rw[jr f c (by rw[hf]<;>rfl),hf]
 refine I.write (x:=p) (e:=p) (by rw[h];trivial) (.inl rfl) (λb u c q=>(yJ _ _ (xK c)).trans q) ⟨_,e⟩ ?_;exact⟨hz,its',a,r,e⟩
inductive Og(o:V)(i:V)(v:V)(H:Hp)(Q:(Hp->Prop)):Prop
 |mk:∀p xs k j,o=.ref p->i=.int k->H p=some (.lst xs)->ixN xs.length k=some j->Q (upd H p (.lst (xs.set j v)))->Og o i v H Q
def hX:V->V->V->Hp->(Hp->Prop)->Prop:=λo i v H Q=>Og o i v H Q
def Xa:iN X hX:=by
 intro pins s σ H o i v z A u Q I m w x h;obtain⟨p,xs,k,j,rfl,rfl,e,y,q⟩:=h;cases m;obtain⟨t,rfl⟩:=w;obtain⟨its,n,r,b,hz⟩:=I.lst e;obtain⟨a,B,f,g⟩:=OJ y;have c:=r.length;have C:=Gy;have l:Inv X pins σ (upd H p (.lst (xs.set j v))) {s with heap:=s.heap.update p (Obj.mapSeq (·.setIfInBounds j u))}:=
  I.QdS e b (MX its n j u) (r.set x j) (by rw[so];exact hz) s.toks
 by_cases h0:0<=k
 .have d:k.toNat=j:=by
   rw[seqIndex_of h0 g] at a;exact qN a
  exact PySem.W.ki_setAt b h0 (by omega) (by rw[qS,<-c];exact g) (by rw[d];exact⟨_,l,q⟩)
 .have d:(k+(its.toArray.size:Int)).toNat=j:=by
   rw[seqIndex_neg (by omega) f] at a;rw[qS,<-c];exact qN a
  exact PySem.W.ki_setBack b (by omega) (by rw[qS,<-c];exact f) (by omega) (by rw[d];exact⟨_,l,q⟩)
def FH(lo a:Option Int)(n:Nat):(sliceBounds lo a none n).1=((HT.xG n 0 lo:Nat):Int)/\(sliceBounds lo a none n).2.1=((HT.xG n n a:Nat):Int)/\(sliceBounds lo a none n).2.2=1:=by
 refine⟨?_,?_,U⟩
 .cases lo with
  |none=>simp[sliceBounds,HT.xG]
  |some i=>
   simp only[sliceBounds,HT.xG,Option.getD_none,show(1:Int) > 0 by decide,vy];by_cases h:i<0
   .simp only[h,vy]<;>omega
   .simp only[h,yE]<;>omega
 .cases a with
  |none=>simp[sliceBounds,HT.xG]
  |some i=>
   simp only[sliceBounds,HT.xG,Option.getD_none,show(1:Int) > 0 by decide,vy];by_cases h:i<0
   .simp only[h,vy]<;>omega
   .simp only[h,yE]<;>omega
def D3(its:qg)(lo a:Option Int):slicePick its.toArray lo a none=((its.drop (HT.xG its.length 0 lo)).take (HT.xG its.length its.length a-HT.xG its.length 0 lo)).toArray:=by
 obtain⟨b,c,d⟩:=FH lo a its.toArray.size;unfold slicePick;rw[b,c,d];simp only[sliceRange_one,pick_run,qS]<;>rfl
inductive Sv(K:Frag)(x:V)(lo:Option Int)(hi:Option Int)(H:Hp)(Q:VK):Prop
 |mk:∀a xs,x=.ref a->zQ K H a xs->(∀p,H p=none->Q (.ref p) (upd H p (.lst (Ca xs lo hi))))->Sv K x lo hi H Q
def rSlL(K:Frag):V->Option Int->Option Int->Hp->VK->Prop:=λx lo a H Q=>Sv K x lo a H Q
def bD:SlR X (rSlL X.K):=by
 intro pins s σ H x v i j lo c k Q I e f pl pu h;obtain⟨a,xs,rfl,g,q⟩:=h;cases e;obtain⟨its,r,d,hz⟩:=I.list g;have hlen:=r.length;refine⟨"list",_,slot_list_getitem.lookup,d.isList.typeIs,?_⟩;refine wpAny_getItem_list_slice d.isList f pl pu .none (by simp) ?_ (by rw[qS]<;>omega);rw[D3,<-hlen];refine⟨.ref s.heap.objs.size,_,I.laid (t':=s.toks) (o:=.lst (Ca xs lo c)) (λb l q=>qw _ q) (qB _) ?_,U,q _ (I.hok.fresh (qB _))⟩;exact⟨zm (BP xs lo c) hz,_,0,(r.drop (HT.xG xs.length 0 lo)).take (HT.xG xs.length xs.length c-HT.xG xs.length 0 lo),qK _ rfl⟩
def Gk:V->Bool
 |.non=>true
 |.bl _=>true
 |.int _=>true
 |.str _=>true
 |_=>false
def eqV:V->V->Bool
 |.non,.non=>true
 |.bl a,.bl b=>a==b
 |.bl a,.int b=>(if a then 1 else 0)==b
 |.int a,.bl b=>a==(if b then 1 else 0)
 |.int a,.int b=>a==b
 |.str a,.str b=>a==b
 |_,_=>false
def gp{A:Around}{y:V}{v:qd}(d:QO y u)(c:QO x v)(f:Gk y=true)(e:Gk x=true):SeqAt.EqAt A s u v (eqV y x):=by
 cases y with
 |non=>
  cases d
  cases x with
  |non=>cases c;exact SeqAt.EqAt.same _
  |bl b=>cases c;exact SeqAt.EqAt.none_bool b
  |int b=>obtain⟨t,rfl⟩:=c;exact SeqAt.EqAt.none_int b t
  |str b=>obtain⟨t,rfl⟩:=c;exact SeqAt.EqAt.none_str b t
  |_=>exact absurd (show false=true from e) qH
 |bl a=>
  cases d
  cases x with
  |non=>cases c;exact SeqAt.EqAt.bool_none a
  |bl b=>cases c;exact SeqAt.EqAt.bool_bool a b
  |int b=>obtain⟨t,rfl⟩:=c;exact SeqAt.EqAt.bool_int a b t
  |str b=>obtain⟨t,rfl⟩:=c;exact SeqAt.EqAt.bool_str a b t
  |_=>exact absurd (show false=true from e) qH
 |int a=>
  obtain⟨t',rfl⟩:=d
  cases x with
  |non=>cases c;exact SeqAt.EqAt.int_none a t'
  |bl b=>cases c;exact SeqAt.EqAt.int_bool a t' b
  |int b=>obtain⟨t,rfl⟩:=c;exact SeqAt.EqAt.int_int a t' b t
  |str b=>obtain⟨t,rfl⟩:=c;exact SeqAt.EqAt.int_str a t' b t
  |_=>exact absurd (show false=true from e) qH
 |str a=>
  obtain⟨t',rfl⟩:=d
  cases x with
  |non=>cases c;exact SeqAt.EqAt.str_none a t'
  |bl b=>cases c;exact SeqAt.EqAt.str_bool a t' b
  |int b=>obtain⟨t,rfl⟩:=c;exact SeqAt.EqAt.str_int a t' b t
  |str b=>obtain⟨t,rfl⟩:=c;exact SeqAt.EqAt.str_str a t' b t
  |_=>exact absurd (show false=true from e) qH
 |_=>exact absurd (show false=true from f) qH
def eqU(x:V)(u:qd):Bool:=match u with
 |.none=>eqV .non x
 |.bool b=>eqV (.bl b) x
 |.int i _=>eqV (.int i) x
 |.str z _=>eqV (.str z) x
 |_=>false
def aG{y:V}(r:QO y u)(f:Gk y=true):eqU x u=eqV y x:=by
 cases y with
 |non=>cases r;rfl
 |bl b=>cases r;rfl
 |int i=>obtain⟨t,rfl⟩:=r;rfl
 |str z=>obtain⟨t,rfl⟩:=r;rfl
 |_=>exact absurd (show false=true from f) qH
def Ax{x:V}:∀{xs:qa V}{us:qg},QK xs us->xs.all Gk=true->us.any (eqU x)=xs.any λy=>eqV y x
 |_,_,.nil,_=>rfl
 |y::xs,u::us,.cons r t,f=>by
  rw[List.all_cons,jc] at f;rw[kO,kO,aG r f.1,Ax t f.2]
def Km{A:Around}{s:Shared}{x:V}{v:qd}(b:QO x v)(c:Gk x=true):∀{xs:qa V}{us:qg},QK xs us->xs.all Gk=true->∀u∈us,SeqAt.EqAt A s u v (eqU x u)
 |_,_,.nil,_=>λu a=>by cases a
 |y::xs,u::us,.cons r t,f=>λd a=>by
  rw[List.all_cons,jc] at f;rcases qJ.mp a with rfl|a
  .rw[aG r f.1];exact gp r b f.1 c
  .exact Km b c t f.2 d a
def inV(x:V)(xs:qa V):Bool:=xs.any λy=>eqV y x
inductive dh(K:Frag)(neg:Bool)(x:V)(y:V)(H:Hp)(Q:VK):Prop
 |mk:∀p xs,y=.ref p->(zQ K H p xs\/jX K H p xs)->Gk x=true->xs.all Gk=true->Q (.bl (if neg then !inV x xs else inV x xs)) H->dh K neg x y H Q
def rIn(K:Frag)(neg:Bool):R2:=λx y H Q=>dh K neg x y H Q
def Pw:uz X (compareOp .In) (rIn X.K false):=by
 intro pins s σ H x y v u Q I b d h;obtain⟨p,xs,rfl,a,c,fs,q⟩:=h;cases d;rcases a with a|a
 .obtain⟨its,r,pl,hz⟩:=I.list a;refine SeqAt.in_listAt (eqU x) pl.isList (λw hw=>Km b c r fs w (by simpa using hw)) ⟨.bl _,H,I,U,?_⟩;rw[show its.toArray.any (eqU x)=its.any (eqU x) by simp,Ax r fs];exact q
 .obtain⟨its,r,pl,hz⟩:=I.tuple a;refine SeqAt.in_tupleAt (eqU x) pl (λw hw=>Km b c r fs w (by simpa using hw)) ⟨.bl _,H,I,U,?_⟩;rw[show its.toArray.any (eqU x)=its.any (eqU x) by simp,Ax r fs];exact q
def XB:uz X (compareOp .NotIn) (rIn X.K true):=by
 intro pins s σ H x y v u Q I b d h;obtain⟨p,xs,rfl,a,c,fs,q⟩:=h;cases d;rcases a with a|a
 .obtain⟨its,r,pl,hz⟩:=I.list a;refine SeqAt.notIn_listAt (eqU x) pl.isList (λw hw=>Km b c r fs w (by simpa using hw)) ⟨.bl _,H,I,U,?_⟩;rw[show its.toArray.any (eqU x)=its.any (eqU x) by simp,Ax r fs];exact q
 .obtain⟨its,r,pl,hz⟩:=I.tuple a;refine SeqAt.notIn_tupleAt (eqU x) pl (λw hw=>Km b c r fs w (by simpa using hw)) ⟨.bl _,H,I,U,?_⟩;rw[show its.toArray.any (eqU x)=its.any (eqU x) by simp,Ax r fs];exact q
def Yb:V0 X (.builtin "len") (λxs H Q=>∃p ys,xs=[.ref p]/\(zQ X.K H p ys\/jX X.K H p ys)/\Q (.int ys.length) H):=by
 intro pins s σ H xs us Q I r h;obtain⟨p,ys,rfl,a,q⟩:=h;obtain⟨u,rfl,c⟩:=V2 r;cases c;have d:=Gy;rcases a with a|a
 .obtain⟨its,b,pl,hz⟩:=I.list a;have hlen:=b.length;exact Calls.call_len_list pl.isList (by simp only[qS]<;>omega) ⟨.int ys.length,H,I.tok _,⟨s.toks+1,by rw[qS,hlen]⟩,q⟩
 .obtain⟨its,b,pl,hz⟩:=I.tuple a;have hlen:=b.length;exact len_tuple pl (by simp only[qS]<;>omega) ⟨.int ys.length,H,I.tok _,⟨s.toks+1,by rw[qS,hlen]⟩,q⟩
def Wi:V0 X (.builtin "len") (λxs H Q=>∃z,xs=[.str z]/\z.length<=sizeLine/\Q (.int z.length) H):=by
 intro pins s σ H xs us Q I r h;obtain⟨z,rfl,hz,q⟩:=h;obtain⟨u,rfl,t,rfl⟩:=V2 r;have a:=Gy;exact len_str (by omega) ⟨.int z.length,H,I.tok _,⟨_,U⟩,q⟩
def tyV(K:Frag)(T:String)(x:V)(H:Hp):Prop:=match x with
 |.str _=>T="str"
 |.int _=>T="int"
 |.ref p=>(T="list"/\∃xs,zQ K H p xs)\/(T="tuple"/\∃o,K.lookup p=some o/\o.cls=.type "tuple"/\o.dict=none) \/
   (T="dict"/\((∃kvs,H p=some (.dK kvs))\/∃kvs,H p=some (.dT kvs)))\/(T="set"/\∃S n,H p=some (.set S n))
 |_=>False
def RU{T:String}{v:qd}(I:Inv X pins σ H s)(r:QO x v)(ty:tyV X.K T x H) :
 s.TypeIs v T/\∀a,v=.ref a->∃b,s.heap.get? a=some b/\b.dict=none:=by
 cases x with
 |str z=>
  obtain⟨t,rfl⟩:=r;cases (show T="str" from ty);exact⟨pz s z t,λ_ e=>nomatch e⟩
 |int i=>
  obtain⟨t,rfl⟩:=r;cases (show T="int" from ty);exact⟨typeIs_int s i t,λ_ e=>nomatch e⟩
 |ref p=>
  cases r;rcases ty with⟨rfl,xs,f⟩|⟨rfl,o,b,hc,hd⟩|⟨rfl,b⟩|⟨rfl,S,n,b⟩
  .obtain⟨its,_,pl,_⟩:=I.list f;refine⟨pl.isList.typeIs,λa e=>?_⟩;cases e;obtain⟨o,n,e,c,hd,_⟩:=pl;exact⟨o,e,hd⟩
  .refine⟨⟨o,I.oQ p o b,hc⟩,λa e=>?_⟩;cases e;exact⟨o,I.oQ _ o b,hd⟩
  .have z:∃o,s.heap.get? p=some o/\o.ExactDict:=by
    rcases b with⟨kvs,b⟩|⟨kvs,b⟩
    .obtain⟨_,_,_,_,o,_,_,e,ex,_⟩:=I.hok p _ b;exact⟨o,e,ex⟩
    .obtain⟨_,_,_,_,o,_,_,e,ex,_⟩:=I.hok p _ b;exact⟨o,e,ex⟩
   obtain⟨o,e,ex⟩:=z;refine⟨⟨o,e,ex.1⟩,λa d=>?_⟩;cases d;exact⟨o,e,ex.2.1⟩
  .obtain⟨o,_,_,_,e,ex,_⟩:=I.hok p _ b;refine⟨⟨o,e,ex.1⟩,λa d=>?_⟩;cases d;exact⟨o,e,ex.2.1⟩
 |_=>exact False.elim ty
def hJ(K:Frag)(T:String)(r:V->qa V->Hp->VK->Prop)(to:TE):TE:=λσ H Q=>to σ H λx H1=>tyV K T x H1/\r x [] H1 Q
def tBM(K:Frag)(T:String)(r:V->qa V->Hp->VK->Prop)(to:TE)(t:TA):TE:=λσ H Q=>to σ H λx H1=>tyV K T x H1/\t σ H1 λxs a=>r x xs a Q
variable {o e:Expr}{es:qa Expr}{to:TE}{t:TA}{name:qb}{apos cpos:Pos}{T id:String}{r:V->qa V->Hp->VK->Prop}
def C8(f:PlainAttrs T)(slot:Slot T name id)(c:typeOf (.builtin id)=pure (.type "method_descriptor"))(hm:MtR X id r)(g:PE X o to)
 (a:attributeBase o name X.env (eval o X.env)=eval o X.env:=by rfl) (b:(apos.endLine==cpos.line)=true:=by rfl):PE X (.Call (.Attribute o name apos) [] [] cpos) (hJ X.K T r to):=by
 intro pins s σ H Q I h;refine wpAny_Call_method0_late a b (jE (g pins s σ H _ I h) λv s1 ⟨x,H1,d,e,ty,i⟩=>?_);obtain⟨j,k⟩:=RU d e ty;exact⟨T,id,f,slot,c,j,k,yK rfl (PySem.evalArgs_none (hm pins s1 σ H1 x [] v [] Q d e .nil i))⟩
def Vs(j:PlainAttrs T)(slot:Slot T name id)(d:typeOf (.builtin id)=pure (.type "method_descriptor"))(hm:MtR X id r)(k:PE X o to)(l:PA X (e::es) t)
 (a:attributeBase o name X.env (eval o X.env)=eval o X.env:=by rfl)
 (c:((backTo cpos (starEach (e::es) X.env)).all (λx=>!x.1)&&(backToKw cpos (keywordEach [] X.env)).all (λx=>x.1.isSome)
   &&decide ((e::es).length+([]:qa Keyword).length+(if ([]:qa Keyword).isEmpty then 0 else 1)<30))=true:=by rfl)
 (b:(apos.endLine==cpos.line)=true:=by rfl) (m:starEach (e::es) X.env=(false,eval e X.env)::starEach es X.env:=by rfl) (hplain:(backTo cpos (starEach es X.env)).any (·.1)=false:=by rfl) :
 PE X (.Call (.Attribute o name apos) (e::es) [] cpos) (tBM X.K T r to t):=by
 intro pins s σ H Q I h;refine wpAny_Call_method_late a c b rfl (jE (k pins s σ H _ I h) λv s1 ⟨x,H1,f,g,ty,n⟩=>?_);obtain⟨p,q⟩:=RU f g ty;refine⟨T,id,j,slot,d,p,q,?_⟩;have i:=l cpos pins s1 σ H1 _ f n;rw[m] at i⊢;refine yK (by show(false||(backTo cpos (starEach es X.env)).any (·.1))=false;rw[hplain]<;>rfl) (vT ?_);exact jE i λus s2 ⟨vs,u,w,y,z⟩=>hm pins s2 σ u x vs v us Q w g y z
end
def MtM(X:Cx)(id:String)(r:V->qa V->Hp->VK->Prop):Prop:=
 ∀(pins:qa (qc×Obj))(s:Shared)(σ:St)(H:Hp)(x:V)(xs:qa V)(v:qd)(us:qg)(Q:VK),Inv X pins σ H s->QO x v->QK xs us->r x xs H Q ->
  wpAny (model X.prog X.w) X.A (call (.builtin id) (v::us)) (EP X pins σ Q) X.xe s
def QK.one:∀{x:V}{us:qg},QK [x] us->∃u,us=[u]/\QO x u
 |_,_,.cons r .nil=>⟨_,U,r⟩
def QK.two:∀{x y:V}{us:qg},QK [x,y] us->∃u v,us=[u,v]/\QO x u/\QO y v
 |_,_,_,.cons r (.cons q .nil)=>⟨_,_,U,r,q⟩
def QK.zero:∀{us:qg},QK [] us->us=[]
 |_,.nil=>rfl
def QK.dropLast{xs:qa V}{us:qg}(h:QK xs us):QK xs.dropLast us.dropLast:=by
 induction h with
 |nil=>exact .nil
 |cons r t a=>
  cases t with
  |nil=>exact .nil
  |cons q t'=>exact .cons r a
def QK.eraseIdx:∀{xs:qa V}{us:qg}(i:Nat),QK xs us->QK (xs.eraseIdx i) (us.eraseIdx i)
 |_,_,_,.nil=>.nil
 |_,_,0,.cons _ t=>t
 |_,_,i+1,.cons r t=>.cons r (QK.eraseIdx i t)
def QK.rep{xs:qa V}{us:qg}(h:QK xs us):∀k:Nat,QK (List.replicate k xs).flatten (List.replicate k us).flatten
 |0=>.nil
 |k+1=>by
  rw[yh,yh,j9,j9];exact QK.append h (QK.rep h k)
def Nh{α:Type}(l:qa α):l.eraseIdx (l.length-1)=l.dropLast:=by
 induction l with
 |nil=>rfl
 |cons a r c=>
  cases r with
  |nil=>rfl
  |cons b r=>
   have e:(a::b::r).length-1=((b::r).length-1)+1:=by
    have d:(a::b::r).length=r.length+2:=rfl;have f:(b::r).length=r.length+1:=rfl;omega
   rw[e,List.eraseIdx_cons_succ,c]
   all_goals rfl
def E9{α:Type}:∀(l:qa α)(i:Nat),(l.eraseIdx i).length<=l.length
 |[],_=>qB _
 |_::_,0=>oO _
 |_::r,i+1=>Nat.succ_le_succ (E9 r i)
def Fm(its:qg):∀(k:Nat)(acc:qg),
 List.foldl (λa b=>a++b) acc.toArray (List.replicate k its.toArray)=(acc++(List.replicate k its).flatten).toArray
 |0,acc=>by simp
 |k+1,acc=>by
  have e:acc.toArray++its.toArray=(acc++its).toArray:=by simp
  have a:(acc++its)++(List.replicate k its).flatten=acc++(List.replicate (k+1) its).flatten:=by
   rw[yh,j9,jk]
  rw[<-a,<-Fm its k (acc++its),<-e,yh,zy]
section
variable {X:Cx}{pins:qa (qc×Obj)}{σ:St}{H:Hp}{s:Shared}{l b:qc}{xs ys zs:qa V}
def Inv.Qc6{its':qg}{f:Array qd->Array qd}(I:Inv X pins σ H s)(a:H l=some (.lst xs))
 (e:s.heap.get? l=some {cls:=.type "list",data:=.seq its.toArray n}) (hf:f its.toArray=its'.toArray) (b:QK ys its') (hz:ys.length<=sizeLine) :
 Inv X pins σ (upd H l (.lst ys)) {s with heap:=s.heap.update l (Obj.mapSeq f),toks:=t'}:=by
 have q:=PySem.IsL.update e f;rw[hf] at q;refine I.write (x:=l) (e:=l) (by rw[a];exact trivial) (.inl rfl) (λg u c d=>(yJ s.heap (Obj.mapSeq f) (xK c)).trans d) ⟨_,q⟩ ?_;exact⟨hz,its',_,b,q⟩
def Inv.QbU(I:Inv X pins σ H s)(a:QK ys its)(hz:ys.length<=sizeLine) :
 Inv X pins σ (upd H s.heap.objs.size (.lst ys)) {s with heap:=s.heap.push {cls:=.type "list",data:=.seq its.toArray},toks:=t'}:=
 I.laid (λ_ _ q=>qw _ q) (qB _) ⟨hz,its,0,a,qK _ rfl⟩
def Inv.fresh(I:Inv X pins σ H s):H s.heap.objs.size=none:=I.hok.fresh (qB _)
def Inv.Qba(I:Inv X pins σ H s)(a:H l=some (.lst xs)):xs.length<=sizeLine/\∃(its:qg)(n:Nat),QK xs its/\xs.length=its.length/\s.heap.get? l=some {cls:=.type "list",data:=.seq its.toArray n}:=by
 obtain⟨z,its,n,r,e⟩:=I.hok l _ a;exact⟨z,its,n,r,r.length,e⟩
def TC(h:n<=sizeLine):Builtin.List.listTooLong n=false:=by
 unfold Builtin.List.listTooLong;exact qE (by omega)
end
section
variable {X:Cx}
inductive ER(x:V)(vs:qa V)(H:Hp)(Q:VK):Prop
 |mk:∀l xs y,x=.ref l->vs=[y]->H l=some (.lst xs)->xs.length<sizeLine->Q .non (upd H l (.lst (xs++[y])))->ER x vs H Q
def bO:V->qa V->Hp->VK->Prop:=λx vs H Q=>ER x vs H Q
def YS:MtM X "list.append" bO:=by
 intro pins s σ H x vs v us Q I b c h;obtain⟨l,xs,y,rfl,rfl,a,hz,q⟩:=h;cases b;obtain⟨u,rfl,d⟩:=c.one;obtain⟨z,its,n,r,f,e⟩:=I.Qba a;refine vU F.slot_list_append ⟨_,e,U⟩ F.entry_list_append (F.args_list_append_2 _ _) (PySem.list_append l its.toArray n u (by rw[qS];omega)) ⟨e,?_⟩;refine⟨.non,_,I.Qc6 (its':=its++[u]) a e (by simp) (r.append (.cons d .nil)) ?_,U,q⟩;rw[qx,qO];omega
inductive Sy(x:V)(vs:qa V)(H:Hp)(Q:VK):Prop
 |mk:∀l xs y,x=.ref l->vs=[]->H l=some (.lst xs)->xs[xs.length-1]?=some y->Q y (upd H l (.lst xs.dropLast))->Sy x vs H Q
def rPop:V->qa V->Hp->VK->Prop:=λx vs H Q=>Sy x vs H Q
def fU:MtM X "list.pop" rPop:=by
 intro pins s σ H x vs v us Q I d f h;obtain⟨l,xs,y,rfl,rfl,c,g,q⟩:=h;cases d;have a:=f.zero;subst a;obtain⟨z,its,n,r,i,e⟩:=I.Qba c;obtain⟨u,j,k⟩:=r.get g;have b:its.toArray[its.toArray.size-1]?=some u:=by
  show its.toArray[its.length-1]?=some u;rw[<-zq,<-i];exact j
 refine vU F.slot_list_pop ⟨_,e,U⟩ F.entry_list_pop (F.args_list_pop_1 _) (MeetsSeq.list_pop_last l its.toArray n u b (by rw[qS];omega)) ⟨e,?_⟩;refine⟨y,_,I.Qc6 (its':=its.dropLast) c e ?_ r.dropLast ?_,k,q⟩
 .show its.toArray.eraseIdxIfInBounds (its.toArray.size-1)=its.dropLast.toArray;rw[qS,List.eraseIdxIfInBounds_toArray,Nh]
 .rw[List.length_dropLast];omega
inductive IM(x:V)(vs:qa V)(H:Hp)(Q:VK):Prop
 |mk:∀l xs i k y,x=.ref l->vs=[.int i]->H l=some (.lst xs)->-(2^63)<=i->i<2^63->seqIndex? i xs.length=some k->xs[k]?=some y->Q y (upd H l (.lst (xs.eraseIdx k)))->IM x vs H Q
def fc:V->qa V->Hp->VK->Prop:=λx vs H Q=>IM x vs H Q
def Dv:MtM X "list.pop" fc:=by
 intro pins s σ H x vs v us Q I c d h;obtain⟨l,xs,i,k,y,rfl,rfl,b,f,g,j,m,q⟩:=h;cases c;obtain⟨u,rfl,o⟩:=d.one;obtain⟨t,rfl⟩:=o;obtain⟨z,its,n,r,p,e⟩:=I.Qba b;obtain⟨w,hw,a⟩:=r.get m;refine vU F.slot_list_pop ⟨_,e,U⟩ F.entry_list_pop (F.args_list_pop_2 _ _)
  (MeetsSeq.list_pop_at l its.toArray n i t k w (fitsIndex_both f g) (by rw[qS,<-p];exact j) (by rw[<-zq];exact hw) (by rw[qS];omega)) ⟨e,?_⟩
 refine⟨y,_,I.Qc6 (its':=its.eraseIdx k) b e ?_ (r.eraseIdx k) ?_,a,q⟩
 .show its.toArray.eraseIdxIfInBounds k=(its.eraseIdx k).toArray;rw[List.eraseIdxIfInBounds_toArray]
 .have:=E9 xs k;omega
inductive SH(x:V)(y:V)(H:Hp)(Q:VK):Prop
 |mk:∀l b xs zs,x=.ref l->y=.ref b->H l=some (.lst xs)->H b=some (.lst zs)->xs.length+zs.length<=sizeLine->(∀p,H p=none->Q (.ref p) (upd H p (.lst (xs++zs))))->SH x y H Q
def rCat:R2:=λx y H Q=>SH x y H Q
def fJ:uz X (binaryOp .Add) rCat:=by
 intro pins s σ H x y v u Q I c d h;obtain⟨l,b,xs,zs,rfl,rfl,f,g,hz,q⟩:=h;cases c;cases d;obtain⟨z,its,n,r,o,e⟩:=I.Qba f;obtain⟨p,a,t,i,j,k⟩:=I.Qba g;refine PySem.P.add_list e k ?_ (by rw[qS,qS];omega);have m:its.toArray++a.toArray=(its++a).toArray:=by simp
 rw[m];exact⟨.ref _,_,I.QbU (t':=s.toks) (r.append i) (by rw[qx];omega),U,q _ I.fresh⟩
inductive Sx(x:V)(y:V)(H:Hp)(Q:VK):Prop
 |mk:∀l k xs,x=.ref l->y=.int k->H l=some (.lst xs)->-(2^63)<=k->k<2^63->xs.length*k.toNat<=sizeLine->(∀p,H p=none->Q (.ref p) (upd H p (.lst (List.replicate k.toNat xs).flatten)))->Sx x y H Q
def rRep:R2:=λx y H Q=>Sx x y H Q
def cw{α:Type}(xs:qa α)(k:Nat):(List.replicate k xs).flatten.length=k*xs.length:=by
 induction k with
 |zero=>simp
 |succ k a=>rw[yh,j9,qx,a,Nat.succ_mul,Nat.add_comm]
def fG:uz X (binaryOp .Mult) rRep:=by
 intro pins s σ H x y v u Q I j o h;obtain⟨l,k,xs,rfl,rfl,p,w,A,hz,q⟩:=h;cases j;obtain⟨t,rfl⟩:=o;obtain⟨z,its,n,r,B,e⟩:=I.Qba p;have hlen:its.toArray.size*k.toNat<=sizeLine:=by rw[qS,<-B];exact hz
 have c:¬its.toArray.size*k.toNat > (2^63-1) / 8:=by
  have:(sizeLine:Nat)<=(2^63-1) / 8:=by decide
  omega
 have d:¬(!Builtin.List.listFitsIndex k)=true:=by
  rw[fitsIndex_both w A];exact qH
 have b:¬Builtin.List.listTooLong (its.toArray.size*k.toNat)=true:=by
  rw[TC hlen];exact qH
 have f:List.foldl (λg i=>g++i) #[] (List.replicate (if its.toArray.isEmpty=true then 0 else k.toNat) its.toArray)=(List.replicate k.toNat its).flatten.toArray:=by
  have f0:∀m:Nat,List.foldl (λg i=>g++i) #[] (List.replicate m its.toArray)=(List.replicate m its).flatten.toArray:=λm=>by
   have:=Fm its m [];rw[List.nil_append] at this;exact this
  rw[f0]
  cases its with
  |nil=>simp
  |cons a C=>rw[qC (by simp)]
 refine wpAny_binaryOp_repeat_ref (T:="list") (U:="int") (by decide) ⟨_,e,U⟩ (λs'=>typeIs_int s' k t) noFill_list_mul F.fills_int_mul F.slot_int_rmul repeat_list F.slot_int_index.lookup
  (vU F.slot_int_rmul (typeIs_int s k t) F.entry_int_rmul (F.args_int_rmul_2 _ _) (int___rmul___int_list k t l its.toArray n)
    ⟨e,U,⟨_,e,U⟩,vU F.slot_list_mul ⟨_,e,U⟩ F.entry_list_mul (F.args_list_mul_2 _ _) (AutoListH.list___mul___list_int_3 l its.toArray n k t d c b) ⟨e,?_⟩⟩)
 rw[f];exact⟨.ref _,_,I.QbU (t':=s.toks) (r.rep k.toNat) (by rw[cw,Nat.mul_comm];exact hz),U,q _ I.fresh⟩
end
section
variable {prog:Program}{w:World}{A:Around}{E:qf}{s:Shared}
end
section
variable {X:Cx}
end
section
variable {κ:Type}[DecidableEq κ]
def Qx(kvs:qa (κ×V))(k:κ):Option V:=(kvs.find? λa=>decide (a.1=k)).map (·.2)
def Yc(kvs:qa (κ×V))(k:κ)(v:V):qa (κ×V):=
 if (kvs.any λa=>decide (a.1=k))=true then kvs.map (λa=>if a.1=k then (a.1,v) else a) else kvs++[(k,v)]
def Us(kvs:qa (κ×V))(k:κ):qa (κ×V):=kvs.filter λa=>decide (a.1≠k)
def Yy{p:κ×V}{r:qa (κ×V)}{k:κ}(e:p.1=k):Qx (p::r) k=some p.2:=by simp[Qx,yb,e]
def Yv{p:κ×V}{r:qa (κ×V)}{k:κ}(e:¬p.1=k):Qx (p::r) k=Qx r k:=by simp[Qx,yb,e]
def UK(k:κ):∀kvs:qa (κ×V),(kvs.any λa=>decide (a.1=k))=(Qx kvs k).isSome
 |[]=>rfl
 |p::r=>by
  rw[kO];by_cases e:p.1=k
  .simp only[Yy e,qt e,Bool.true_or,Option.isSome_some]
  .rw[Yv e,qE e,Bool.false_or];exact UK k r
def HN(k j:κ)(y:V):∀kvs:qa (κ×V),Qx (kvs.map λa=>if a.1=k then (a.1,y) else a) j=(Qx kvs j).map λx=>if j=k then y else x
 |[]=>rfl
 |p::r=>by
  have b:=HN k j y r;rw[qU];by_cases h:p.1=k
  .rw[qG h];by_cases e:p.1=j
   .rw[Yy (p:=(p.1,y)) e,Yy e,sr,qG (e.symm.trans h)]
   .rw[Yv (p:=(p.1,y)) e,Yv e,b]
  .rw[qC h];by_cases e:p.1=j
   .rw[Yy (p:=p) e,Yy e,sr,qC (λz=>h (e.trans z))]
   .rw[Yv (p:=p) e,Yv e,b]
def AE(k j:κ)(y:V):∀kvs:qa (κ×V),Qx kvs k=none->Qx (kvs++[(k,y)]) j=if j=k then some y else Qx kvs j
 |[],_=>by
  by_cases e:k=j
  .rw[qG e.symm];exact Yy (p:=(k,y)) e
  .rw[qC (λz=>e z.symm)];exact Yv (p:=(k,y)) e
 |p::r,a=>by
  rw[List.cons_append];have b:¬p.1=k:=λz=>by rw[Yy z] at a;cases a
  rw[Yv b] at a;have c:=AE k j y r a;by_cases e:p.1=j
  .rw[Yy e,Yy e,qC (λz=>b (e.trans z))]
  .rw[Yv e,Yv e,c]
def Cu(kvs:qa (κ×V))(k j:κ)(y:V):Qx (Yc kvs k y) j=if j=k then some y else Qx kvs j:=by
 unfold Yc;by_cases a:(kvs.any λb=>decide (b.1=k))=true
 .rw[qG a,HN];rw[UK] at a;by_cases e:j=k
  .obtain⟨x,c⟩:=Option.isSome_iff_exists.mp a;rw[qG e,e,c,sr,qG rfl]
  .rw[qC e]
   cases Qx kvs j with
   |none=>rfl
   |some x=>rw[sr,qC e]
 .rw[qC a];refine AE k j y kvs ?_;rw[UK] at a
  cases q:Qx kvs k with
  |none=>rfl
  |some x=>rw[q] at a;exact(a rfl).elim
def VT(kvs:qa (κ×V))(k:κ)(v:V):(Yc kvs k v).length<=kvs.length+1:=by
 unfold Yc;split
 .rw[qh];omega
 .rw[qx,qV,jZ];omega
def Ke{kvs:qa (κ×V)}{k:κ}(v:V)(h:Qx kvs k=none):Yc kvs k v=kvs++[(k,v)]:=by
 unfold Yc;rw[UK,h];exact qC (by decide)
def WH.wU{u:Option qd}(r:WH o u):o.isSome=u.isSome:=by
 cases o with
 |none=>cases u with
  |none=>rfl
  |some _=>exact(show False from r).elim
 |some _=>cases u with
  |none=>exact(show False from r).elim
  |some _=>rfl
def WH.getD{u:Option qd}{d:V}{d':qd}(r:WH o u)(a:QO d d'):QO (o.getD d) (u.getD d'):=by
 cases o with
 |none=>cases u with
  |none=>exact a
  |some _=>exact(show False from r).elim
 |some _=>cases u with
  |none=>exact(show False from r).elim
  |some _=>exact r
def KV.val{kvs:qa (κ×V)}{vs:qa (κ×qd)}(r:KV kvs vs)(k:κ):WH (Qx kvs k) (valueAt vs k):=by
 unfold KV at r
 induction r with
 |nil=>exact True.intro
 |@cons p q ps qs h t d=>
  obtain⟨c,f⟩:=h;by_cases e:p.1=k
  .have a:q.1=k:=c.symm.trans e;have b:valueAt (q::qs) k=some q.2:=by simp[valueAt,yb,a]
   rw[Yy e,b];exact f
  .have a:¬q.1=k:=λz=>e (c.trans z);have b:valueAt (q::qs) k=valueAt qs k:=by simp[valueAt,yb,a]
   rw[Yv e,b];exact d
def KV.any{kvs:qa (κ×V)}{vs:qa (κ×qd)}(r:KV kvs vs)(k:κ):(kvs.any λa=>decide (a.1=k))=vs.any λa=>decide (a.1=k):=by
 unfold KV at r
 induction r with
 |nil=>rfl
 |cons h t b=>rw[kO,kO,b,h.1]
def KV.repl{kvs:qa (κ×V)}{vs:qa (κ×qd)}(r:KV kvs vs)(k:κ){y:V}(b:QO y u) :
 KV (kvs.map λa=>if a.1=k then (a.1,y) else a) (vs.map λa=>if a.1=k then (a.1,u) else a):=by
 unfold KV at r⊢
 induction r with
 |nil=>exact .nil
 |@cons p q ps qs h t c=>
  rw[qU,qU];refine .cons ?_ c;obtain⟨a,d⟩:=h;by_cases e:p.1=k
  .rw[qG e,qG (a.symm.trans e)];exact⟨a,b⟩
  .rw[qC e,qC (λz=>e (a.trans z))];exact⟨a,d⟩
def KV.put{kvs:qa (κ×V)}{vs:qa (κ×qd)}(r:KV kvs vs)(k:κ){y:V}(a:QO y u):KV (Yc kvs k y) (stored vs k u):=by
 unfold Yc stored;rw[r.any k];by_cases e:(vs.any λb=>decide (b.1=k))=true
 .rw[qG e,qG e];exact r.repl k a
 .rw[qC e,qC e];exact Paired.snoc r ⟨U,a⟩
def KV.drop{kvs:qa (κ×V)}{vs:qa (κ×qd)}(r:KV kvs vs)(k:κ):KV (Us kvs k) (without vs k):=by
 unfold KV at r⊢;unfold Us without
 induction r with
 |nil=>exact .nil
 |@cons p q ps qs h t d=>
  obtain⟨c,f⟩:=h;rw[qM,qM];by_cases e:p.1=k
  .have a:¬decide (p.1≠k)=true:=by simp[e]
   have b:¬decide (q.1≠k)=true:=by simp[c.symm.trans e]
   rw[qC a,qC b];exact d
  .have g:¬q.1=k:=λz=>e (c.trans z);have a:decide (p.1≠k)=true:=by simp[e]
   have b:decide (q.1≠k)=true:=by simp[g]
   rw[qG a,qG b];exact .cons ⟨c,f⟩ d
def KV.length{kvs:qa (κ×V)}{vs:qa (κ×qd)}(r:KV kvs vs):kvs.length=vs.length:=Paired.length r
def aJ(kvs:qa (κ×V))(k:κ):(Us kvs k).length<=kvs.length:=qW _ _
end
def Gj{k:Key}(r:QO (kV k) u):(Q9 P w).is k u=true:=by
 cases k with
 |inl i=>obtain⟨t,e⟩:=(show ∃t,u=Value.int i t from r);subst e;exact Lo P w i t
 |inr x=>obtain⟨t,e⟩:=(show ∃t,u=Value.str x t from r);subst e;exact Ln P w x t
def Fh{P:Program}{w:World}:∀{ks:qa Key}{us:qg},QK (ks.map kV) us->ItemsAre (Q9 P w) ks us
 |[],_,r=>by rw[List.map_nil] at r;cases r;exact .nil
 |k::ks,_,r=>by
  rw[qU] at r
  cases r with
  |cons h t=>exact .cons (Gj h) (Fh t)
abbrev KT(H:Hp):qa (qa Key×V)->qa (qa Key×qc×qd)->Prop:=Paired λp q=>p.1=q.1/\H q.2.1=some (.tup (p.1.map kV))/\QO p.2 q.2.2
def KT.val(r:KT H kvs xs)(k:qa Key):WH (Qx kvs k) ((atKey xs k).map (·.2)):=by
 induction r with
 |nil=>exact True.intro
 |@cons p q ps qs h t d=>
  obtain⟨c,_,f⟩:=h;by_cases e:p.1=k
  .have a:q.1=k:=c.symm.trans e;have b:atKey (q::qs) k=some q.2:=by simp[atKey,yb,a]
   rw[Yy e,b];exact f
  .have a:¬q.1=k:=λz=>e (c.trans z);have b:atKey (q::qs) k=atKey qs k:=by simp[atKey,yb,a]
   rw[Yv e,b];exact d
def KT.repl(r:KT H kvs xs)(k:qa Key){y:V}(c:QO y u) :
 KT H (kvs.map λa=>if a.1=k then (a.1,y) else a) (xs.map (putAt k u)):=by
 induction r with
 |nil=>exact .nil
 |@cons p q ps qs h t d=>
  rw[qU,qU];refine .cons ?_ d;obtain⟨a,b,f⟩:=h;unfold putAt;by_cases e:p.1=k
  .rw[qG e,qG (a.symm.trans e)];exact⟨a,b,c⟩
  .rw[qC e,qC (λz=>e (a.trans z))];exact⟨a,b,f⟩
def KT.put(r:KT H kvs xs)(k:qa Key){y:V}(c:H b=some (.tup (k.map kV)))(a:QO y u) :
 KT H (Yc kvs k y) (storedH xs k b u):=by
 have e:(kvs.any λd=>decide (d.1=k))=(atKey xs k).isSome:=by
  rw[UK,(r.val k).wU,Option.isSome_map]
 unfold Yc storedH;rw[e];by_cases q:(atKey xs k).isSome=true
 .rw[qG q,qG q];exact r.repl k a
 .rw[qC q,qC q];exact Paired.snoc r ⟨U,c,a⟩
def KT.keeps(r:KT H kvs xs)(a:∀b ys,H b=some (.tup ys)->H' b=some (.tup ys)):KT H' kvs xs:=
 Paired.Qc5 r λ_ _ z=>⟨z.1,a _ _ z.2.1,z.2.2⟩
section
variable {P:Program}{w:World}{H:Hp}{h:Heap}{a:qc}
def de{u:HO}(ok:lF P w H h)(e:Rd H a u):QY P w H h a u:=e.ok ok
def BO{kvs:qa (Key×V)}(ok:lF P w H h)(e:Rd H a (.dK kvs)):kvs.length<=sizeLine/\(a==sysModules)=false/\∃vs,KV kvs vs/\h.DictOf (Q9 P w) a vs:=
 show QY P w H h a (.dK kvs) from de ok e
def DV{kvs:qa (Key×V)}(ok:lF P w H h)(e:H a=some (.dK kvs)):kvs.length<=sizeLine/\(a==sysModules)=false/\∃vs,KV kvs vs/\h.DictOf (Q9 P w) a vs:=BO ok (.inl e)
def Bo{ks:qa Key}(ok:lF P w H h)(e:H a=some (.tup (ks.map kV))):(tupleKind (Q9 P w)).is h ks a:=by
 obtain⟨_,its,r,o,b,c,n,d⟩:=(show QY P w H h a (.tup (ks.map kV)) from ok a _ e);exact⟨o,its.toArray,n,b,c,d,by simpa using Fh r⟩
def DT(ok:lF P w H h)(e:Rd H a (.dT kvs)):kvs.length<=sizeLine/\(a==sysModules)=false /\
 ∃xs,KT H kvs xs/\h.DictOfH (tupleKind (Q9 P w)) a xs:=by
 obtain⟨z,y,xs,r,o,es,d,f,g,i,j,k⟩:=(show QY P w H h a (.dT kvs) from de ok e);refine⟨z,y,xs,r,o,es,d,f,g,i,j,λx b=>?_,k⟩;have all:∀{l:qa (qa Key×V)}{m:qa (qa Key×qc×qd)},KT H l m->∀x∈m,(tupleKind (Q9 P w)).is h x.1 x.2.1:=by
  intro l m q
  induction q with
  |nil=>intro x b;exact nomatch b
  |@cons p q ps qs c t n=>
   intro x b;rcases qJ.mp b with e|b
   .subst e;exact Bo ok (by rw[<-c.1];exact c.2.1)
   .exact n x b
 exact all r x b
def iH(ok:lF P w H h)(e:H a=some (.dT kvs)):kvs.length<=sizeLine/\(a==sysModules)=false /\
 ∃xs,KT H kvs xs/\h.DictOfH (tupleKind (Q9 P w)) a xs:=DT ok (.inl e)
end
def Q3(H:Hp)(a:qc)(y:V)(r:Option V):Prop:=
 (∃kvs k,Rd H a (.dK kvs)/\y=kV k/\r=Qx kvs k)\/∃kvs k b,Rd H a (.dT kvs)/\y=.ref b/\H b=some (.tup (k.map kV))/\r=Qx kvs k
def UJ(H:Hp)(a:qc)(y v:V)(H':Hp):Prop:=
 (∃kvs k,H a=some (.dK kvs)/\y=kV k/\kvs.length<sizeLine/\H'=upd H a (.dK (Yc kvs k v))) \/
 ∃kvs k b,H a=some (.dT kvs)/\y=.ref b/\H b=some (.tup (k.map kV))/\kvs.length<sizeLine/\H'=upd H a (.dT (Yc kvs k v))
def Q3.k{kvs:qa (Key×V)}{k:Key}(e:H a=some (.dK kvs)):Q3 H a (kV k) (Qx kvs k):=.inl ⟨kvs,k,.inl e,U,U⟩
def Q3.t{k:qa Key}(e:H a=some (.dT kvs))(c:H b=some (.tup (k.map kV))):Q3 H a (.ref b) (Qx kvs k):=.inr ⟨kvs,k,b,.inl e,U,c,U⟩
def UJ.k{kvs:qa (Key×V)}{k:Key}(e:H a=some (.dK kvs))(b:kvs.length<sizeLine):UJ H a (kV k) v (upd H a (.dK (Yc kvs k v))):=.inl ⟨kvs,k,e,U,b,U⟩
def UJ.t{k:qa Key}(e:H a=some (.dT kvs))(c:H b=some (.tup (k.map kV)))(d:kvs.length<sizeLine) :
 UJ H a (.ref b) v (upd H a (.dT (Yc kvs k v))):=.inr ⟨kvs,k,b,e,U,c,d,U⟩
section
variable {X:Cx}{pins:qa (qc×Obj)}{σ:St}{H:Hp}{s:Shared}{a:qc}{y v:V}{u r:qd}{o:Option V}{A:Around}{E:qf}
def Inv.big(I:Inv X pins σ H s):sysModules<s.heap.objs.size:=by
 have h:mainGlobals<s.heap.objs.size:=(I.mod.glob.keeps I.bk).lt;exact Nat.lt_trans (by decide) h
def RA{Q:qf}(m:A.units+1<cLine)(I:Inv X pins σ H s)(g:Q3 H a y (some v))(j:QO y u)(h:∀d s',Inv X pins σ H s'->QO v d->Q d s') :
 wpAny (model X.prog X.w) A (getItem (.ref a) u) Q E s:=by
 rcases g with⟨kvs,k,e,f,l⟩|⟨kvs,k,b,e,f,n,l⟩
 .subst f;obtain⟨z,hd,vs,rel,dd⟩:=BO I.hok e;obtain⟨d,hw,c⟩:=WH.some_of (v:=v) (o:=valueAt vs k) (by rw[l];exact rel.val k);exact wpAny_getItem_of (Gj j) dd.mapOf hw (h d _ (I.tok _) c)
 .subst f;cases (show u=Value.ref b from j);obtain⟨z,hd,xs,rel,dd⟩:=DT I.hok e;obtain⟨d,hw,c⟩:=WH.some_of (v:=v) (o:=(atKey xs k).map (·.2)) (by rw[l];exact rel.val k);obtain⟨p,q,i⟩:=xM.mp hw;refine wpAny_getItem_heap (uf m) (Bo I.hok n) dd q ?_;rw[i];exact h d _ (I.tok _) c
def d_in{Q:qf}(f:A.units+1<cLine)(I:Inv X pins σ H s)(g:Q3 H a y o)(d:QO y u)(h:∀s',Inv X pins σ H s'->Q (.bool o.isSome) s') :
 wpAny (model X.prog X.w) A (compareOp .In u (.ref a)) Q E s:=by
 rcases g with⟨kvs,k,e,c,l⟩|⟨kvs,k,b,e,c,i,l⟩
 .subst c;obtain⟨z,hd,vs,rel,dd⟩:=BO I.hok e;refine wpAny_in_of (Gj d) hd dd.mapOf ?_;rw[<-(rel.val k).wU,<-l];exact h _ (I.tok _)
 .subst c;cases (show u=Value.ref b from d);obtain⟨z,hd,xs,rel,dd⟩:=DT I.hok e;refine wpAny_in_heap (uf f) (Bo I.hok i) hd dd ?_;have q:=(rel.val k).wU;rw[Option.isSome_map] at q;rw[<-q,<-l];exact h _ (I.tok _)
def cM{Q:qf}(f:A.units+1<cLine)(I:Inv X pins σ H s)(g:Q3 H a y o)(d:QO y u)(h:∀s',Inv X pins σ H s'->Q (.bool (!o.isSome)) s') :
 wpAny (model X.prog X.w) A (compareOp .NotIn u (.ref a)) Q E s:=by
 rcases g with⟨kvs,k,e,c,l⟩|⟨kvs,k,b,e,c,i,l⟩
 .subst c;obtain⟨z,hd,vs,rel,dd⟩:=BO I.hok e;refine wpAny_notIn_of (Gj d) hd dd.mapOf ?_;rw[<-(rel.val k).wU,<-l];exact h _ (I.tok _)
 .subst c;cases (show u=Value.ref b from d);obtain⟨z,hd,xs,rel,dd⟩:=DT I.hok e;refine wpAny_notIn_heap (uf f) (Bo I.hok i) hd dd ?_;have q:=(rel.val k).wU;rw[Option.isSome_map] at q;rw[<-q,<-l];exact h _ (I.tok _)
def Ar{h':Heap}{c:HO}(I:Inv X pins σ H s)(d:Mut (H a))(f:Heap.SameBut a s.heap h')(he:∃q,h'.get? a=some q)(new:QY X.prog X.w (upd H a c) h' a c) :
 Inv X pins σ (upd H a c) {s with heap:=h',toks:=t'}:=
 I.write (x:=a) (e:=a) d (.inl rfl) (λb q g z=>(f.2 b g).trans z) he new
def HD{h':Heap}{kvs:qa (Key×V)}{vs:qa (Key×qd)}(z:kvs.length<=sizeLine)(hd:(a==sysModules)=false)(rel:KV kvs vs)(dd:h'.DictOf (Q9 P w) a vs) :
 QY P w H' h' a (.dK kvs):=⟨z,hd,vs,rel,dd⟩
def Rz{Q:Unit->Shared->Prop}(x:A.units+1<cLine)(I:Inv X pins σ H s)(g:UJ H a y v H')(o:QO y u)(p:QO v r)(h:∀s',Inv X pins σ H' s'->Q () s') :
 wpAny (model X.prog X.w) A (setItem (.ref a) u r) Q E s:=by
 rcases g with⟨kvs,k,e,i,l,j⟩|⟨kvs,k,b,e,i,t,l,j⟩
 .subst i j;obtain⟨z,hd,vs,rel,dd⟩:=DV I.hok e;have hz:vs.length<=sizeLine:=by rw[<-rel.length];exact z
  have m:(Yc kvs k v).length<=sizeLine:=by have:=VT kvs k v;omega
  refine wpAny_setItem_pairs (hsz:=hz) (Gj o) dd λh' d n=>h _ ?_;have he:∃q,h'.get? a=some q:=let ⟨q,_,_,f,_⟩:=d;⟨q,f⟩;exact Ar I (by rw[e];exact True.intro) n he (HD m hd (rel.put k p) d)
 .subst i j;cases (show u=Value.ref b from o);obtain⟨z,hd,xs,rel,dd⟩:=iH I.hok e;have hz:xs.length<=sizeLine:=by rw[<-Paired.length rel];exact z
  have m:(Yc kvs k v).length<=sizeLine:=by have:=VT kvs k v;omega
  refine wpAny_setItem_heap (hsz:=hz) (uf x) (Bo I.hok t) dd λh' d n=>h _ ?_;obtain⟨q,es,B,f,C,D,F,_,G⟩:=d;refine Ar I (by rw[e];exact True.intro) n ⟨q,f⟩ ⟨m,hd,_,(rel.put k t p).keeps λc ys w=>?_,q,es,B,f,C,D,F,G⟩;rw[Qa (Q2 w e nofun)];exact w
end
section
variable {X:Cx}{pins:qa (qc×Obj)}{σ:St}{H:Hp}{s:Shared}{a:qc}{kvs:qa (Key×V)}{k:Key}{u:qd}{A:Around}{E:qf}
def dJ{more:qg}{Q:qf}(I:Inv X pins σ H s)(e:H a=some (.dK kvs))(d:QO (kV k) u)(l:Qx kvs k=some v)(hm:more=[]\/∃x,more=[x])
 (h:∀b s',Inv X pins σ (upd H a (.dK (Us kvs k))) s'->QO v b->Q b s'):wpAny (model X.prog X.w) A (call (.builtin "dict.pop") (.ref a::u::more)) Q E s:=by
 obtain⟨z,hd,vs,rel,dd⟩:=DV I.hok e;obtain⟨b,hw,f⟩:=WH.some_of (v:=v) (o:=valueAt vs k) (by rw[<-l];exact rel.val k);have g:(keyPart u).isSome=true:=by
  cases k with
  |inl i=>obtain⟨t,q⟩:=(show ∃t,u=Value.int i t from d);subst q;rfl
  |inr x=>obtain⟨t,q⟩:=(show ∃t,u=Value.str x t from d);subst q;rfl
 have j:argsOk "dict.pop" ⟨.ref a::u::more,[]⟩:=by
  rcases hm with q|⟨x,q⟩
  .subst q;exact PySem.F.args_dict_pop_2 _ _
  .subst q;exact PySem.F.args_dict_pop_3 _ _ _
 refine QaY slot_dict_pop dd.typeIs PySem.F.entry_dict_pop j (meets_dict_pop_there (Q9 X.prog X.w) a (Gj d) more hm g)
  ⟨vs,b,dd,by rw[<-rel.length];exact z,hw,λh' c m=>h b _ ?_ f⟩
 have he:∃q,h'.get? a=some q:=let ⟨q,_,_,n,_⟩:=c;⟨q,n⟩;exact Ar I (by rw[e];exact True.intro) m he (HD (zm (aJ kvs k) z) hd (rel.drop k) c)
def gs{r:qd}{Q:qf}(I:Inv X pins σ H s)(e:H a=some (.dK kvs))(b:QO (kV k) u)(l:Qx kvs k=none)(h:∀s',Inv X pins σ H s'->Q r s') :
 wpAny (model X.prog X.w) A (call (.builtin "dict.pop") [.ref a,u,r]) Q E s:=by
 obtain⟨z,hd,vs,rel,dd⟩:=DV I.hok e;have c:valueAt vs k=none:=WH.none_of (by rw[<-l];exact rel.val k);have d:(keyPart u).isSome=true:=by
  cases k with
  |inl i=>obtain⟨t,q⟩:=(show ∃t,u=Value.int i t from b);subst q;rfl
  |inr x=>obtain⟨t,q⟩:=(show ∃t,u=Value.str x t from b);subst q;rfl
 exact QaY slot_dict_pop dd.typeIs PySem.F.entry_dict_pop (PySem.F.args_dict_pop_3 _ _ _) (meets_dict_pop_default (Q9 X.prog X.w) a (Gj b) hd d r) ⟨vs,dd,c,h _ (I.tok _)⟩
def iI{Q:qf}(I:Inv X pins σ H s)(e:Rd H a (.dK kvs))(h:∀t s',Inv X pins σ H s'->Q (.int kvs.length t) s'):wpAny (model X.prog X.w) A (call (.builtin "len") [.ref a]) Q E s:=by
 obtain⟨z,hd,vs,rel,dd⟩:=BO I.hok e;refine call_len_dict hd dd (by rw[<-rel.length];rw[sizeLine_eq] at z;omega) ?_;rw[<-rel.length];exact h _ _ (I.tok _)
end
def iO(i:Expr):Prop:=∀a b,subscripted i false a b=operate [a,b] (getItem a b)
def bB{prog:Program}{A:Around}{E:qf}{env:Env}{value slice:Expr}{T id:String}{Q:qf}
 (j:typeLookup (.type T) "__getitem__"=pure (some (.builtin id))) (k:iO slice)
 (h:wpAny (model prog w) A (eval value env) (λo c=>wpAny (model prog w) A (eval slice env) (λi a=>a.TypeIs o T/\wpAny (model prog w) A (getItem o i) Q E a) E c) E s) :
 wpAny (model prog w) A (eval (.Subscript value slice pos) env) Q E s:=by
 refine Subscript_ (yQ h (λo c e=>yQ e (λi a b=>?_) λ_ _ x=>x) λ_ _ x=>x);obtain⟨g,b⟩:=b;unfold subscriptTail;refine qi ?_;rw[getitemInPython_of_ne g.not_modules];refine qi (wpAny_specialOf g j ?_);have fin:wpAny (model prog w) A (subscripted slice false o i) (λr d=>wpAny (model prog w) A (letTemporaryGo value o r>>=λ_=>pure r) Q E d) E a:=by
  rw[k o i];exact wpAny_operating (yQ b (λr d f=>qi (wpAny_letTemporaryGo (qu f))) λ_ _ x=>x)
 first
  |exact qu (qi fin)
  |exact qi (qu (qi fin))
  |exact qi fin
def LU{y:V}(I:Inv X pins σ H s)(g:Q3 H a y o):s.TypeIs (.ref a) "dict":=by
 rcases g with⟨kvs,k,e,_,_⟩|⟨kvs,k,b,e,_,_,_⟩
 .obtain⟨_,_,vs,_,dd⟩:=BO I.hok e;exact dd.typeIs
 .obtain⟨_,_,xs,_,dd⟩:=DT I.hok e;exact dd.typeIs
inductive NB(Q:VK)(x:V)(y:V)(H2:Hp):Prop
 |mk:∀a v,x=.ref a->Q3 H2 a y (some v)->Q v H2->NB Q x y H2
def hA(a ty:TE):TE:=λσ H Q=>a σ H λx H1=>ty σ H1 λy b=>NB Q x y b
inductive R4(Q:VK)(y:V)(x:V)(H2:Hp):Prop
 |mk:∀a o,x=.ref a->Q3 H2 a y o->Q (.bl o.isSome) H2->R4 Q y x H2
def tDIn(ty a:TE):TE:=λσ H Q=>ty σ H λy H1=>a σ H1 λx b=>R4 Q y x b
inductive Ez(Q:VK)(y:V)(x:V)(H2:Hp):Prop
 |mk:∀a o,x=.ref a->Q3 H2 a y o->Q (.bl (!o.isSome)) H2->Ez Q y x H2
def bz(ty a:TE):TE:=λσ H Q=>ty σ H λy H1=>a σ H1 λx b=>Ez Q y x b
inductive Od(D:Wl)(σ:St)(v:V)(x:V)(y:V)(H3:Hp):Prop
 |mk:∀a H4,x=.ref a->UJ H3 a y v H4->D.nx σ H4->Od D σ v x y H3
def hU(a ty b:TE):TS:=λD σ H=>b σ H λv H1=>a σ H1 λx c=>ty σ c λy d=>Od D σ v x y d
section
variable {X:Cx}{o i e value:Expr}{pos pos' tpos:Pos}{td ty tv:TE}
def QA(d:X.A.units+1<cLine)(e:PE X o td)(f:PE X i ty)(j:iO i:=by exact λ_ _=>rfl):PE X (.Subscript o i pos) (hA td ty):=by
 intro pins s σ H Q I h;refine bB PySem.F.slot_dict_getitem.lookup j (jE (e pins s σ H _ I h) λu s1 ⟨x,H1,k,l,m⟩=>jE (f pins s1 σ H1 _ k m) λt s2 ⟨y,n,c,p,a,v,ex,g,q⟩=>?_);subst ex;obtain rfl:u=Value.ref a:=l;exact⟨LU c g,RA d c g p λw s3 r b=>⟨v,n,r,b,q⟩⟩
def Kh(b:X.A.units+1<cLine)(c:PE X i ty)(d:PE X o td):PC X .In i o (tDIn ty td):=by
 intro pins s σ H Q I h;refine jE (c pins s σ H _ I h) λr s1 ⟨y,H1,e,f,j⟩=>jE (d pins s1 σ H1 _ e j) λu s2 ⟨x,k,l,m,a,n,ex,g,p⟩=>?_;subst ex;obtain rfl:u=Value.ref a:=m;exact d_in b l g f λs3 q=>⟨.bl n.isSome,k,q,U,p⟩
def U8(b:X.A.units+1<cLine)(c:PE X i ty)(d:PE X o td):PC X .NotIn i o (bz ty td):=by
 intro pins s σ H Q I h;refine jE (c pins s σ H _ I h) λr s1 ⟨y,H1,e,f,j⟩=>jE (d pins s1 σ H1 _ e j) λu s2 ⟨x,k,l,m,a,n,ex,g,p⟩=>?_;subst ex;obtain rfl:u=Value.ref a:=m;exact cM b l g f λs3 q=>⟨.bl (!n.isSome),k,q,U,p⟩
def Yp(b:X.A.units+1<cLine)(c:PE X o td)(d:PE X i ty)(e:PE X value tv)(f:swapsWith value (some (.Subscript o i pos')) pos.line X.env=pure false) :
 PS X (.Assign [.Subscript o i pos'] value pos) (hU td ty tv):=by
 intro pins s σ H D I h;refine wpAny_Assign_Subscript (jE (e pins s σ H _ I h) λr s1 ⟨v,H1,j,k,l⟩=>jE (c pins s1 σ H1 _ j l) λu s2 ⟨x,m,n,p,q⟩=>jE (d pins s2 σ m _ n q) λC s3 ⟨y,E,t,w,a,z,ex,g,A⟩=>?_) f;subst ex;obtain rfl:u=Value.ref a:=p;exact Rz b t g w k λs4 B=>⟨σ,z,B,A⟩
end
def LS(h:Heap)(a:sysModules<h.objs.size):QY P w H (h.push {cls:=.type "dict",data:=.dict #[]}) h.objs.size (.dK []):=
 ⟨q0 _,jS.mpr (xK (za a)),[],.nil,Heap.DictOf.new h⟩
def aI(h:Heap)(a:sysModules<h.objs.size):QY P w H (h.push {cls:=.type "dict",data:=.dict #[]}) h.objs.size (.dT []):=
 ⟨q0 _,jS.mpr (xK (za a)),[],.nil,_,#[],0,qK _ rfl,⟨U,U,U⟩,U,U,zB⟩
def eM:TE:=λ_ H Q=>∀p,H p=none->Q (.ref p) (upd H p (.dK []))
def eI:TE:=λ_ H Q=>∀p,H p=none->Q (.ref p) (upd H p (.dT []))
section
variable {X:Cx}{pos:Pos}
def Q8:PE X (.Dict [] [] pos) eM:=λpins s σ H Q I h=>
 wpAny_Dict_empty ⟨.ref s.heap.objs.size,_,I.laid (a:=s.heap.objs.size) (o:=.dK []) (t':=s.toks) (λ_ _ q=>qw _ q) (qB _) (LS s.heap I.big),U,h _ (I.hok.fresh (qB _))⟩
def Kg:PE X (.Dict [] [] pos) eI:=λpins s σ H Q I h=>
 wpAny_Dict_empty ⟨.ref s.heap.objs.size,_,I.laid (a:=s.heap.objs.size) (o:=.dT []) (t':=s.toks) (λ_ _ q=>qw _ q) (qB _) (aI s.heap I.big),U,h _ (I.hok.fresh (qB _))⟩
end
def Mp:qa (TE×TE)->St->Hp->(qa (V×V)->Hp->Prop)->Prop
 |[],_,H,Q=>Q [] H
 |(a,b)::r,σ,H,Q=>a σ H λx H1=>b σ H1 λy c=>Mp r σ c λps d=>Q ((x,y)::ps) d
abbrev VV:qa (V×V)->qa (qd×qd)->Prop:=Paired λp q=>QO p.1 q.1/\QO p.2 q.2
def PPs(X:Cx)(pos:Pos)(keys:qa (Option Expr))(values:qa Expr)(a:qa (TE×TE)):Prop:=
 ∀(pins:qa (qc×Obj))(s:Shared)(σ:St)(H:Hp)(Q:qa (V×V)->Hp->Prop),Inv X pins σ H s->Mp a σ H Q ->
  wpAny (model X.prog X.w) X.A (evalPairs (pairTrees keys values X.env pos)) (λvs s'=>∃ps H',Inv X pins σ H' s'/\VV ps vs/\Q ps H') X.xe s
def Oo  :PPs X pos [] [] []:=λpins s σ H Q I h=>pairTrees_nil_walk ⟨[],H,I,.nil,h⟩
def Xe{k v:Expr}{ks:qa (Option Expr)}{vs:qa Expr}{b c:TE}{a:qa (TE×TE)}(d:PE X k b)(e:PE X v c)(f:PPs X pos ks vs a) :
 PPs X pos (some k::ks) (v::vs) ((b,c)::a):=λpins s σ H Q I h=>
 pairTrees_cons_walk (jE (d pins s σ H _ I h) λu s1 ⟨x,H1,g,i,j⟩=>jE (e pins s1 σ H1 _ g j) λt s2 ⟨y,l,m,n,o⟩=>
  jE (f pins s2 σ l _ m o) λws s3 ⟨ps,p,q,rel,r⟩=>⟨(x,y)::ps,p,q,.cons ⟨i,n⟩ rel,r⟩)
def W2(kvs more:qa (Key×V)):qa (Key×V):=more.foldl (λacc a=>Yc acc a.1 a.2) kvs
def KV.merge:∀{more:qa (Key×V)}{rs:qa (Key×qd)}{kvs:qa (Key×V)}{vs:qa (Key×qd)},KV more rs->KV kvs vs->KV (W2 kvs more) (merged vs rs):=by
 intro more rs kvs vs r;unfold KV at r
 induction r generalizing kvs vs with
 |nil=>intro q;exact q
 |@cons p q ps qs h t a=>
  intro b;have e:KV (Yc kvs p.1 p.2) (stored vs q.1 q.2):=by
   have:=b.put p.1 h.2;rw[<-h.1];exact this
  exact a e
def Gi:∀(more kvs:qa (Key×V)),(W2 kvs more).length<=kvs.length+more.length
 |[],kvs=>by show kvs.length<=kvs.length+0;omega
 |p::r,kvs=>by
  have a:=Gi r (Yc kvs p.1 p.2);have b:=VT kvs p.1 p.2;show(W2 (Yc kvs p.1 p.2) r).length<=_;rw[qV];omega
def DX{P:Program}{w:World}:∀{kvs:qa (Key×V)}{ws:qa (qd×qd)},VV (kvs.map λd=>(kV d.1,d.2)) ws->∃rs,Carries (Q9 P w) ws rs/\KV kvs rs
 |[],_,r=>by rw[List.map_nil] at r;cases r;exact⟨[],True.intro,.nil⟩
 |p::kvs,_,r=>by
  rw[qU] at r
  cases r with
  |@cons a b as bs h t=>
   obtain⟨rs,c,q⟩:=DX (P:=P) (w:=w) t;obtain⟨f,e⟩:=b;exact⟨(p.1,e)::rs,⟨Gj h.1,U,c⟩,.cons ⟨U,h.2⟩ q⟩
def g8(a:qa (TE×TE)):TE:=λσ H Q=>∀p,H p=none->Mp a σ (upd H p (.dK [])) λps b=>b p=some (.dK [])/\∃kvs:qa (Key×V),ps=kvs.map (λc=>(kV c.1,c.2))/\kvs.length<=15/\Q (.ref p) (upd b p (.dK (W2 [] kvs)))
def Ou{keys:qa (Option Expr)}{values:qa Expr}{b:qa (TE×TE)}(h:PPs X pos keys values b)(d:keys.all (·.isSome)=true)(j:keys.length=values.length)(h0:keys≠[])
 (g:keys.length<=15):PE X (.Dict keys values pos) (g8 b):=by
 intro pins s σ H Q I q;have k:=I.hok.fresh (qB s.heap.objs.size);have l:=I.laid (a:=s.heap.objs.size) (o:=.dK []) (h':=s.heap.push {cls:=.type "dict",data:=.dict #[]}) (t':=s.toks) (λ_ _ q=>qw _ q) (qB _) (LS s.heap I.big);refine wpAny_Dict_walk (knd:=Q9 X.prog X.w) d j h0 g (jE (h pins _ σ _ _ l (q _ k)) λws s2 ⟨ps,x,i,rel,e,kvs,m,y,n⟩=>?_);subst m;obtain⟨rs,c,p⟩:=DX (P:=X.prog) (w:=X.w) rel;obtain⟨z,hd,r,t,dd⟩:=DV i.hok e;cases t;refine⟨rs,c,dd,λh' f u=>⟨.ref s.heap.objs.size,_,?_,U,n⟩⟩;have hz:(W2 [] kvs).length<=sizeLine:=by
  have v:=Gi kvs [];rw[jZ] at v;rw[sizeLine_eq];omega
 have he:∃q,h'.get? s.heap.objs.size=some q:=let ⟨q,_,_,v,_⟩:=f;⟨q,v⟩;exact Ar i (by rw[e];exact True.intro) u he (HD hz hd (p.merge .nil) f)
structure M1(X:Cx)(o:Expr)(m:qb)(apos:Pos)(e:Expr)(cpos:Pos):Prop where
 base:attributeBase o m X.env (eval o X.env)=eval o X.env
 few:((backTo cpos (starEach [e] X.env)).all (λx=>!x.1)&&(backToKw cpos (keywordEach [] X.env)).all (λx=>x.1.isSome)
  &&decide (([e]:qa Expr).length+([]:qa Keyword).length+(if ([]:qa Keyword).isEmpty then 0 else 1)<30))=true
 line:(apos.endLine==cpos.line)=true
 trees:backTo cpos (starEach [e] X.env)=[(false,eval e X.env)]
structure M2(X:Cx)(o:Expr)(m:qb)(apos:Pos)(e f:Expr)(cpos:Pos):Prop where
 base:attributeBase o m X.env (eval o X.env)=eval o X.env
 few:((backTo cpos (starEach [e,f] X.env)).all (λx=>!x.1)&&(backToKw cpos (keywordEach [] X.env)).all (λx=>x.1.isSome)
  &&decide (([e,f]:qa Expr).length+([]:qa Keyword).length+(if ([]:qa Keyword).isEmpty then 0 else 1)<30))=true
 line:(apos.endLine==cpos.line)=true
 trees:backTo cpos (starEach [e,f] X.env)=[(false,eval e X.env),(false,eval f X.env)]
def IsD(H:Hp)(a:qc):Prop:=(∃kvs,Rd H a (.dK kvs))\/∃kvs,Rd H a (.dT kvs)
def Hx(I:Inv X pins σ H s)(d:IsD H a) :
 s.TypeIs (.ref a) "dict"/\(∀b,Value.ref a=.ref b->∃c,s.heap.get? b=some c/\c.dict=none)/\(a==sysModules)=false:=by
 rcases d with⟨kvs,e⟩|⟨kvs,e⟩
 .obtain⟨_,hd,vs,_,dd⟩:=BO I.hok e;refine⟨dd.typeIs,λb q=>?_,hd⟩;cases q;obtain⟨c,_,_,f,g,_⟩:=dd;exact⟨c,f,g.2.1⟩
 .obtain⟨_,hd,xs,_,dd⟩:=DT I.hok e;refine⟨dd.typeIs,λb q=>?_,hd⟩;cases q;obtain⟨c,_,_,f,g,_⟩:=dd;exact⟨c,f,g.2.1⟩
section
variable {X:Cx}{pins:qa (qc×Obj)}{σ:St}{H:Hp}{s:Shared}{a:qc}{y d:V}{u r:qd}{o:Option V}{A:Around}{E:qf}
def gu{Q:qf}(m:A.units+1<cLine)(I:Inv X pins σ H s)(g:Q3 H a y o)(f:QO y u)(i:QO d r)(h:∀j s',Inv X pins σ H s'->QO (o.getD d) j->Q j s') :
 wpAny (model X.prog X.w) A (call (.builtin "dict.get") [.ref a,u,r]) Q E s:=by
 rcases g with⟨kvs,k,e,c,l⟩|⟨kvs,k,b,e,c,n,l⟩
 .subst c;obtain⟨z,hd,vs,rel,dd⟩:=BO I.hok e;refine QaY slot_dict_get dd.typeIs PySem.F.entry_dict_get (PySem.F.args_dict_get_3 _ _ _) (meets_dict_get_default (Q9 X.prog X.w) a (Gj f) hd r) ⟨_,dd.mapOf,h _ _ (I.tok _) ?_⟩;rw[l];exact(rel.val k).getD i
 .subst c;cases (show u=Value.ref b from f);obtain⟨z,hd,xs,rel,dd⟩:=DT I.hok e;refine QaY slot_dict_get dd.typeIs PySem.F.entry_dict_get (PySem.F.args_dict_get_3 _ _ _) (meetsH_dict_get_default (tupleKind (Q9 X.prog X.w)) a b hd r) ⟨uf m,k,xs,Bo I.hok n,dd,h _ _ (I.tok _) ?_⟩;rw[l];exact(rel.val k).getD i
end
inductive EA(Q:VK)(a:qc)(y:V)(z:V)(H3:Hp):Prop
 |mk:∀o,Q3 H3 a y o->Q (o.getD z) H3->EA Q a y z H3
inductive HZ(ty:TE)(tx:TE)(σ:St)(Q:VK)(x:V)(H1:Hp):Prop
 |mk:∀a,x=.ref a->IsD H1 a->(ty σ H1 λy H2=>tx σ H2 λz H3=>EA Q a y z H3)->HZ ty tx σ Q x H1
def eO(a ty b:TE):TE:=λσ H Q=>a σ H λx H1=>HZ ty b σ Q x H1
inductive Ey(Q:VK)(a:qc)(y:V)(H2:Hp):Prop
 |mk:∀kvs k v,H2 a=some (.dK kvs)->y=kV k->Qx kvs k=some v->Q v (upd H2 a (.dK (Us kvs k)))->Ey Q a y H2
inductive HY(ty:TE)(σ:St)(Q:VK)(x:V)(H1:Hp):Prop
 |mk:∀a,x=.ref a->IsD H1 a->(ty σ H1 λy H2=>Ey Q a y H2)->HY ty σ Q x H1
def eH(a ty:TE):TE:=λσ H Q=>a σ H λx H1=>HY ty σ Q x H1
inductive Ex(Q:VK)(a:qc)(y:V)(z:V)(H3:Hp):Prop
 |mk:∀kvs k,H3 a=some (.dK kvs)->y=kV k->((∀v,Qx kvs k=some v->Q v (upd H3 a (.dK (Us kvs k)))))->((Qx kvs k=none->Q z H3))->Ex Q a y z H3
inductive HX(ty:TE)(tx:TE)(σ:St)(Q:VK)(x:V)(H1:Hp):Prop
 |mk:∀a,x=.ref a->IsD H1 a->(ty σ H1 λy H2=>tx σ H2 λz H3=>Ex Q a y z H3)->HX ty tx σ Q x H1
def eG(a ty b:TE):TE:=λσ H Q=>a σ H λx H1=>HX ty b σ Q x H1
section
variable {X:Cx}{o e f:Expr}{apos cpos:Pos}{td ty tx:TE}
def Vo(i:X.A.units+1<cLine)(j:PE X o td)(he:PE X e ty)(hf:PE X f tx)(m:M2 X o "get" apos e f cpos):PE X (.Call (.Attribute o "get" apos) [e,f] [] cpos) (eO td ty tx):=by
 intro pins s σ H Q I h;refine su m.base m.few m.line plainAttrs_dict slot_dict_get PySem.F.type_dict_get (jE (j pins s σ H _ I h) λu s1 ⟨x,H1,c,k,a,ex,d,l⟩=>?_);subst ex;obtain rfl:u=Value.ref a:=k;obtain⟨t1,n,_⟩:=Hx c d;refine⟨t1,n,?_⟩;rw[m.trees];refine yK rfl (vT (j7 (jE (he pins s1 σ H1 _ c l) λD s2 ⟨y,p,q,r,t⟩=>
  j7 (jE (hf pins s2 σ p _ q t) λb s3 ⟨z,v,w,A,C,g,B⟩=>uQ ?_))))
 exact gu i w g r A λE s4 C b=>⟨_,v,C,b,B⟩
def UL(f:PE X o td)(he:PE X e ty)(m:M1 X o "pop" apos e cpos):PE X (.Call (.Attribute o "pop" apos) [e] [] cpos) (eH td ty):=by
 intro pins s σ H Q I h;refine su m.base m.few m.line plainAttrs_dict slot_dict_pop PySem.F.type_dict_pop (jE (f pins s σ H _ I h) λu s1 ⟨x,H1,c,g,a,ex,d,i⟩=>?_);subst ex;obtain rfl:u=Value.ref a:=g;obtain⟨t1,j,_⟩:=Hx c d;refine⟨t1,j,?_⟩;rw[m.trees];refine yK rfl (vT (j7 (jE (he pins s1 σ H1 _ c i) λz s2 ⟨y,A,n,p,kvs,k,v,q,r,l,t⟩=>uQ ?_)));subst r;exact dJ n q p l (.inl rfl) λB s3 w b=>⟨v,_,w,b,t⟩
def SW(p:PE X o td)(he:PE X e ty)(hf:PE X f tx)(m:M2 X o "pop" apos e f cpos):PE X (.Call (.Attribute o "pop" apos) [e,f] [] cpos) (eG td ty tx):=by
 intro pins s σ H Q I h;refine su m.base m.few m.line plainAttrs_dict slot_dict_pop PySem.F.type_dict_pop (jE (p pins s σ H _ I h) λu s1 ⟨x,H1,g,q,a,ex,d,r⟩=>?_);subst ex;obtain rfl:u=Value.ref a:=q;obtain⟨t1,t,_⟩:=Hx g d;refine⟨t1,t,?_⟩;rw[m.trees];refine yK rfl (vT (j7 (jE (he pins s1 σ H1 _ g r) λK s2 ⟨y,w,A,i,B⟩=>
  j7 (jE (hf pins s2 σ w _ A B) λC s3 ⟨z,D,j,E,kvs,k,n,F,G,J⟩=>uQ ?_))))
 subst F
 cases l:Qx kvs k with
 |some v=>exact dJ j n i l (.inr ⟨C,U⟩) λL s4 b c=>⟨v,_,b,c,G v l⟩
 |none=>exact gs j n i l λs4 b=>⟨z,D,b,E,J l⟩
end
section
variable {X:Cx}{pins:qa (qc×Obj)}{σ:St}{H:Hp}{s:Shared}{a:qc}{kvs:qa (Key×V)}{A:Around}{E:qf}
end
section
variable {X:Cx}{pins:qa (qc×Obj)}{σ:St}{H:Hp}{s:Shared}{a:qc}{y:V}{u:qd}{A:Around}{E:qf}
end
end L2
namespace Att
open PySem PySem.W PySem.Calls PyProof.Rows
def B8{P:Params}{h:Heap}:∀(ns:qa Int)(vs:qg),WellAll P h vs (ns.map WData.int)->IntsAre vs ns:=by
 intro ns
 induction ns with
 |nil=>
  intro vs w;rw[List.map_nil] at w;cases w;exact .nil
 |cons n ns c=>
  intro vs w;rw[qU] at w
  cases w with
  |cons a b=>
   cases a;exact .cons _ _ (c _ b)
def Pj{l:OpenLaw}{n:Nat}(i:l.most=some n){P:Params}{h:Heap}{args:qa WData}{vals:qg}
 (b:l.row.toRowW.claim.pre args=true) (f:WellAll P h vals args) :
 ∃a vs ns,vals=[Value.ref a]/\args=[WData.list (ns.map WData.int)]/\h.get? a=some {cls:=.type "list",data:=.seq vs.toArray}/\IntsAre vs ns/\ns.length<=n:=by
 have g:WShape.hasAll [] args [.list .int]=true:=(pre_splitW b).1;have hc:l.pre.holds [] {args:=args}=true:=(pre_splitW b).2;obtain⟨d,r,rfl,j,k⟩:=hasAllW_cons g;obtain rfl:=hasAllW_nil k;obtain⟨xs,rfl,m⟩:=hasW_list j;obtain⟨ns,rfl⟩:=items_int m;have hlen:ns.length<=n:=by
  unfold OpenLaw.pre at hc;have c:(WTm.not (.lt (.lit (.int (n:Int))) (.len (.arg 0)))).holds [] {args:=[.list (ns.map .int)]}=true:=by
   have c:=(holds_andW hc).1;rw[i] at c;exact c
  have e:=condW_of c (w_not (w_lt w_lit (w_len_list (w_arg rfl))));rw[qh] at e;refine Nat.le_of_not_lt λq=>?_;have o:(n:Int)<((ns.length:Nat):Int):=by omega
  first
   |(rw[qt o] at e;exact absurd e (by decide))
   |(simp at e;omega)
 cases f with
 |cons e o=>
  cases o
  cases e with
  |list p c=>exact⟨_,_,ns,U,U,p,B8 ns _ c,hlen⟩
def Pt(l:OpenLaw)(args:qa WData):l.row.toRowW.claim.post args (.bool true) args=true:=
 postW_of (r:=l.row.toRowW) (X:=(true==true))
  (show WShape.has [] (.bool true) .bool=true by first|rfl|decide|simp[WShape.has,WShape.arms,WShape.armsAll])
  (show(WTm.eq .res (.lit (.bool true))).value [] {args:=args,res:=some (.bool true),after:=args}=some (.bool (true==true)) from w_eq_bool (w_res rfl) w_lit) rfl
def QaI{l:OpenLaw}{n:Nat}{q:Program}{loose:qe}{XP:(qb->Option qd)->Heap->Prop}{YP:World->Heap->Prop}{d:DefRec}
 (t:l.most=some n) (h:d.params.defaults=[])
 (call:∀(w:World)(s₀ b:Shared)(mg i:qb->Option qd)(c:qc)(o:Obj)(pm cd doc:qd)(a:qc)(vs:qg)(ns:qa Int),
   Ground q loose [] XP w s₀ mg i b.heap->YP w b.heap ->
   b.heap.get? c=some o->o.data=.func (docDef d.name d.params d.body d.scope pm cd doc)->b.heap.CodeRec cd d.name->mg d.name=some (.ref c) ->
   b.heap.get? a=some {cls:=.type "list",data:=.seq vs.toArray}->IntsAre vs ns->ns.length<=n->b.gens=#[] ->
   codeAny (model l.prog w) callerA (.call (.ref c) ⟨[.ref a],[]⟩) (λr s'=>r=.ok (.ret (.bool true))/\OldK b.heap s'.heap/\s'.os=b.os/\AllBare s'.gens) b) :
 WalkO q loose XP YP l.row.toRowW d [] (λf vs=>PySem.call f vs):=by
 intro w s₀ b mg i G Y c o pm cd doc u kV v hd j p k hg args vals as e s x m y;obtain rfl:u=.none:=Dflts.none p h;obtain rfl:kV=.none:=Dflts.noKw p;obtain⟨a,vs,ns,rfl,rfl,g,hints,hlen⟩:=Pj t e m;refine enter_call (xn (call w s₀ b mg i c o pm cd doc a vs ns G Y v (fd_plain hd) j k g hints hlen hg) λr s' z=>?_);obtain⟨rfl,A,B,C⟩:=z;exact⟨.inl ⟨.bool true,.bool true,[],U,λ_=>rfl,.bool true,Pt l _,λ_=>⟨List.Pairwise.nil,λ_ hm=>(nomatch hm)⟩⟩,A,B,C⟩
section
variable {prog:Program}{w:World}{A:Around}{E:qf}{s:Shared}{K:Frag}
end
end Att
namespace L2
open PySem PySem.Spec PyProof.Rows
variable {fd:FuncData}{qual x:qb}{f:qc}{H:Hp}
def Ep:∀{vs:qg}{ns:qa Int},IntsAre vs ns->QK (ns.map V.int) vs
 |_,_,.nil=>.nil
 |_,_,.cons n t h=>.cons ⟨t,U⟩ (Ep h)
def gD(H:Hp):Prop:=∀b,H b=none\/∃o xs,H b=some (.jG o (.lst xs))
def T8{P:Program}{w:World}{K:Frag}{mg E:qb->Option qd}{O:CXT}{k:Nat}{G a:qc}{sp:Sp}{c:Shared}{vs:qg}{ns:qa Int}
 (KX:K.In c.heap) (j:c.heap.Ns mainGlobals mg) (f:c.heap.Ns builtinsNs E) (I:∀x:qb,x≠"__name__"->E x=bootBuiltins x) (l:c.heap.NoLimit) (hg:c.gens=#[])
 (D:c.heap.get? a=some {cls:=.type "list",data:=.seq vs.toArray}) (Q:IntsAre vs ns) (R:ns.length<=sizeLine) (Y:QG k callerA)
 (F:∀base:Heap,K.In base->base.Ns mainGlobals mg->AB P w K mg base O k G fd [x] sp) (i:∀(s:Shared)(u:qd),BindsTo s fd ⟨[u],[]⟩ [(x,u)])
 (J:∀H:Hp,gD H->zQ K H a (ns.map V.int)->sp [.ref a] H (λv _=>v=.bl true) λ_ _ _=>False)
 (C:∀H e s',O [] H c (λ_ _ _=>False) e s'->False) :
 codeAny (model P w) callerA (.call (.ref G) ⟨[.ref a],[]⟩) (λr s'=>r=.ok (.ret (.bool true))/\OldK c.heap s'.heap/\s'.os=c.os/\AllBare s'.gens) c:=by
 have S:=Ep Q;have p:=Q.length;have core:∀H:Hp,gD H->zQ K H a (ns.map V.int)->lF P w H c.heap->(∀b,H b≠none->b=a)->(H a≠none->K.lookup a=none) ->
  codeAny (model P w) callerA (.call (.ref G) ⟨[.ref a],[]⟩) (λr s'=>r=.ok (.ret (.bool true))/\OldK c.heap s'.heap/\s'.os=c.os/\AllBare s'.gens) c:=by
  intro H T hS y X Z;have QbI:∀{b:qc}{o:Obj},c.heap.get? b=some o->H b=none->(HC c.heap H).get? b=some o:=λe n=>av e n;have M:∀{b:qc}{o:Obj}{es:Array DictEntry}{A:Nat},c.heap.get? b=some o->o.data=.dict es A->H b=none:=λ{b o es A} e d=>by
   cases q:H b with
   |none=>rfl
   |some u=>
    have N:b=a:=X b (by rw[q];simp);subst N;rw[D] at e;cases e;have d':Data.seq vs.toArray _=Data.dict es A:=d;cases d'
  have g:∀{b:qc}{m:qb->Option qd},c.heap.Ns b m->(HC c.heap H).Ns b m:=λ{b m} ⟨o,es,A,e,d,r⟩=>⟨o,es,A,QbI e (M e d),d,r⟩;have B:K.In (HC c.heap H):=λb o e=>QbI (KX b o e) (by
   cases q:H b with
   |none=>rfl
   |some u=>
    have N:b=a:=X b (by rw[q];simp);subst N;rw[Z (by rw[q];simp)] at e;cases e)
  have hM:Mod K mg (HC c.heap H):=⟨B,g j,⟨E,g f,I⟩,let ⟨mc,h1,h2⟩:=l;⟨mc,g h1,h2⟩⟩;have e0:Nq P w K mg (HC c.heap H) callerA [] c H:=⟨U,hM,λb o e=>cf e,Nat.le_of_eq (Rt _ _),trivial,λb f=>absurd (show b∈([]:qa qc) from f) (by simp),y,.of_eq hg⟩;refine xn ((F _ B (g j)).run callerA [] c H ⟨[.ref a],[]⟩ [.ref a] [.ref a] _ _ Y e0 (i c (.ref a)) (.cons rfl .nil) (J H T hS)) λr s' h=>?_
  cases r with
  |error e=>exact(C H e s' h).elim
  |ok fl=>
   cases fl with
   |next=>exact False.elim h
   |brk=>exact False.elim h
   |cont=>exact False.elim h
   |ret u=>
    obtain⟨v,H',os,bare,un,C,r',q⟩:=h;have q':v=.bl true:=q;subst q';obtain rfl:u=Value.bool true:=r';refine⟨U,OldK.of_keep λb o e=>?_,os,bare⟩
    cases q:H b with
    |none=>exact un.keep b o e q (by intro z;exact absurd (show b∈([]:qa qc) from z) (by simp)) (by simp)
    |some u=>
     rcases T b with z|⟨ob,xs,z⟩
     .rw[q] at z;cases z
     .have z2:=un.nH b ob _ z;obtain⟨N,_⟩:=y b _ z;obtain⟨e2,_⟩:=C b _ z2;rw[e] at N;cases N;exact e2
 cases i:K.lookup a with
 |some o=>
  have e:=KX a o i;rw[D] at e;cases e;refine core (λ_=>none) (λ_=>.inl rfl) (.inr ⟨_,vs.toArray,_,i,U,U,U,by rw[qS,p];exact R,by simpa using S⟩) (λb u z=>by have g:(none:Option HO)=some u:=z;cases g) (λb z=>absurd rfl z) λz=>absurd rfl z
 |none=>
  refine core (λb=>if b=a then some (.jG {cls:=.type "list",data:=.seq vs.toArray} (.lst (ns.map V.int))) else none) (λb=>?_) (.inl (.inr ⟨{cls:=.type "list",data:=.seq vs.toArray},qG rfl⟩)) (λb u z=>?_) (λb z=>?_) λ_=>i
  .by_cases f:b=a
   .exact .inr ⟨_,_,qG f⟩
   .exact .inl (qC f)
  .by_cases f:b=a
   .have g:=(qG f).symm.trans z;cases g;subst f;exact⟨D,by rw[qh];exact R,vs,_,S,D⟩
   .have g:=(qC f).symm.trans z;cases g
  .by_cases f:b=a
   .exact f
   .exact absurd (qC f) z
def QH(s:Stmt)(j:Nat):Stmt:=match s with
 |.ClassDef _ _ _ body _ _ _ _ _ _ _=>body.getD j (.Pass ⟨0,0,0,0⟩)
 |_=>.Pass ⟨0,0,0,0⟩
def Y3(s:Stmt):Arguments:=match s with
 |.FunctionDef _ a _ _ _ _ _ _ _ _=>a
 |_=>{posonlyargs:=[],args:=[],vararg:=none,kwonlyargs:=[],kw_defaults:=[],kwarg:=none,defaults:=[]}
def YE(s:Stmt):qa Stmt:=match s with
 |.FunctionDef _ _ b _ _ _ _ _ _ _=>b
 |_=>[]
def Qg(s:Stmt):Scope:=match s with
 |.FunctionDef _ _ _ _ _ _ sc _ _ _=>sc
 |_=>{kind:=.function,names:=[],isGenerator:=false,isCoroutine:=false}
abbrev j6:CXT:=λ_ _ _ _ _ _=>False
abbrev E0:XK:=λ_ _ _=>False
def Ql{X:Cx}:Kv j6 X E0:=λ_ _ _ _ _ _ _ h=>h.elim
structure zX(K:Frag)(x qual:qb)(st:Stmt)(f:qc)(fd:FuncData):Prop where
 ex:∃(oc:qd)(od:Option qc)(kV doc pm:qd)(an:Option qc)(cdv ct:qd)(osl:Array (Option qd)),
  fd=fnOf x qual (Y3 st) (YE st) (Qg st) .none kV doc pm an cdv ct/\K.lookup f=some ⟨oc,od,.func fd,osl⟩/\codeIn K cdv qual=true
 kp:keepIn K (.ref f)=true
section
variable {P:Program}{w:World}{K:Frag}{mg:qb->Option qd}{base:Heap}
def zX.ok{st:Stmt}{N ps:qe}{k:Nat}{sp:Sp}(F:zX K x qual st f fd)(S:Qn N ps (Qg st))
 (b:∀(a:qd)(A:Around)(outer:qa Env)(s:Shared)(H:Hp)(vs:qa V)(Q:VK)(E:XK),QG k (A.deeper (envOfC qual (Qg st) s.heap.objs.size f a))->sp vs H Q E ->
   ∃t,PSs (HF j6 P w K mg base N qual (Qg st) f a A outer s H E).nox (YE st) t/\t {nx:=λ_ H'=>Q .non H',rt:=Q} (start N vs) H) (len:∀vs H Q E,sp vs H Q E->vs.length=ps.length:=by intro _ _ _ _ h;cases h;subst_vars;rfl):AB P w K mg base j6 (k+1) f fd ps sp:=by
 obtain⟨j,l,kV,doc,pm,an,a,ct,e,rfl,g,c⟩:=F.ex;refine dI g c S len λA outer s H vs Q E i d=>?_;obtain⟨t,h,q⟩:=b a A outer s H vs Q E i d;exact⟨t,h.nox,q⟩
def zX.binds{st:Stmt}{ps:qe}(F:zX K x qual st f fd)
 (h:∀(kV doc pm:qd)(an:Option qc)(a ct:qd)(us:qg),us.length=ps.length->bindArgs (fnOf x qual (Y3 st) (YE st) (Qg st) .none kV doc pm an a ct) ⟨us,[]⟩=pure (ps.zip us)):Qs K fd ps []:=by
 obtain⟨d,e,kV,doc,pm,an,a,ct,b,rfl,g,c⟩:=F.ex;exact .all (h kV doc pm an a ct)
def gm{st:Stmt}{d:qd}{e an:Option qc}{b:Array (Option qd)}{kV doc pm a ct:qd}(l:K.lookup f=some ⟨d,e,.func (fnOf x qual (Y3 st) (YE st) (Qg st) .none kV doc pm an a ct),b⟩)
 (c:codeIn K a qual=true) (k:keepIn K (.ref f)=true):zX K x qual st f (fnOf x qual (Y3 st) (YE st) (Qg st) .none kV doc pm an a ct):=⟨⟨d,e,kV,doc,pm,an,a,ct,b,U,l,c⟩,k⟩
end
def Q5{A:Around}{k:Nat}(a:QG k A):A.units+1<cLine:=xN (Nat.add_le_add_left (by decide:1<=64) _) a.units
def QD{n:Nat}(h:n<=1000):n<sizeLine:=xN h (by decide)
def Q6{n:Nat}(h:n<=1000):n<=sizeLine:=vw (QD h)
def dR:0<=sizeLine:=by decide
def RN:1<=sizeLine:=by decide
def Vr:2<=sizeLine:=by decide
def Mj:3<=sizeLine:=by decide
def ba:4<=sizeLine:=by decide
def a0:5<=sizeLine:=by decide
def zl_6:6<=sizeLine:=by decide
def gN:(0:Int)<2:=by decide
def RO:(0:Int)<3:=by decide
def bc:(0:Int)<4:=by decide
def zi_5:(0:Int)<5:=by decide
def zi_6:(0:Int)<6:=by decide
def gM:(0:Int)<9:=by decide
def gO:(0:Int)<12:=by decide
def cV:(0:Int)<26:=by decide
def D1:(0:Int)<2147483647:=by decide
section
variable {X:Cx}
def pv(i:Nat){pos:Pos}(b:X.N[i]?=some x:=by rfl)(c:Vis X.env.scope x:=by first|exact Or.inl rfl|exact Or.inr (Or.inl rfl)|exact Or.inr (Or.inr rfl))(hd:(x==("__debug__":qb))=false:=by decide)
 (a:(x==("__classdict__":qb))=false:=by decide):PE X (.Name x pos) (gT i):=fx b c hd a
end
def QU{A B:Prop}(h:B):if false=true then A else B:=by
 rw[qC qH];exact h
def Ya{A B:Prop}(h:A):if true=true then A else B:=by
 rw[qG rfl];exact h
def M5{c A B:Prop}[Decidable c](a:c->A)(b:¬c->B):if c then A else B:=by
 by_cases h:c
 .rw[qG h];exact a h
 .rw[qC h];exact b h
def Qj(H H':Hp):Prop:=∀b o,H b=some o->H' b=some o
def Qj.refl(H:Hp):Qj H H:=λ_ _ h=>h
def Qj.trans{H1 d:Hp}(a:Qj H H1)(b:Qj H1 d):Qj H d:=λc o h=>b c o (a c o h)
def Qj.free{H':Hp}(e:Qj H H'){l:qc}(h:H' l=Option.none):H l=Option.none:=by
 cases q:H l with
 |none=>rfl
 |some o=>
  rw[e l o q] at h;cases h
def Qj.seq{K:Frag}{H':Hp}{a:qc}{xs:qa V}(e:Qj H H')(h:zQ K H a xs):zQ K H' a xs:=by
 rcases h with(h|⟨o,h⟩)|h
 .exact .inl (.inl (e _ _ h))
 .exact .inl (.inr ⟨o,e _ _ h⟩)
 .exact .inr h
section
variable {X:Cx}
def RE:V0 X (.builtin "len") (λxs H Q=>∃a b,xs=[V.ref a]/\H a=some (.dK b)/\Q (.int b.length) H):=by
 intro pins s σ H xs us Q I r h;obtain⟨a,b,rfl,c,q⟩:=h;obtain⟨u,rfl,d⟩:=V2 r;cases d;exact iI I (.inl c) λt s' e=>⟨.int b.length,H,e,⟨t,U⟩,q⟩
end
section
variable {κ:Type}[DecidableEq κ]
def RQ{a:qa (κ×V)}{k:κ}(h:Qx a k=none):¬k∈a.map (·.1):=by
 intro m;obtain⟨p,b,e⟩:=qj.mp m;have q:(a.any λc=>decide (c.1=k))=true:=uN.mpr ⟨p,b,qt e⟩;rw[UK,h] at q;exact absurd q (by simp)
def Nv{a:qa (κ×V)}{k:κ}{v:V}(h:Qx a k=some v):k∈a.map (·.1):=by
 have q:(a.any λb=>decide (b.1=k))=true:=by
  rw[UK,h]
  all_goals rfl
 obtain⟨p,c,e⟩:=uN.mp q;exact qj.mpr ⟨p,c,ql e⟩
def Bu{p:κ×V}{r:qa (κ×V)}{k:κ}(e:p.1=k):Us (p::r) k=Us r k:=by
 unfold Us;rw[qM,qC (by simp[e])]
def Bv{p:κ×V}{r:qa (κ×V)}{k:κ}(e:¬p.1=k):Us (p::r) k=p::Us r k:=by
 unfold Us;rw[qM,qG (by simp[e])]
end
end L2
set_option maxHeartbeats 4000000
namespace L2
open PySem PySem.Spec PyProof.Rows
variable {x:qb}{X:Cx}{sc scope:Scope}{env:Env}{N:qe}{fr:qa (Nat×qb)}{pos px:Pos}{elt iter:Expr}{ifs:qa Expr}{wi:TI}{tt:TT}{te:TE}
def Its(x:qb):It:=⟨λi _=>i<x.cps.size,λi H y H'=>H'=H/\∃c,x.cps[i]?=some c/\y=.str ⟨#[c]⟩,λi _=>i=x.cps.size⟩
def Es{P:Program}{w:World}{K:Frag}{y:Expr}{t:Tok}{it:qc}{ty:String}
 (B:["enumerate","zip","dict_itemiterator","dict_reverseitemiterator","odict_iterator","itertools.zip_longest","itertools.pairwise"].contains ty=false)
 (W:∀e:Around,e.handled=none->Walks P w e it [it] [it] x.cps.size (SignAt x) (λi h=>h.IsStrIter it ty x t i))
 (a:∀(A:Around)(i:Nat)(s:Shared)(Q:qf)(E:qf),s.heap.IsStrIter it ty x t i->Q (.ref it) s->wpAny (model P w) A (pyIter (.ref it)) Q E s) :
 RK P w K y (Its x) [it] it (λi h=>h.IsStrIter it ty x t i) where
 mem:=qk.mpr rfl
 obj:=λi h st b e=>by
  cases qk.mp e;obtain⟨o,q,_,d⟩:=st;exact⟨o,q,λv z=>by rw[d] at z;cases z⟩
 keep:=λi h h' st k=>by
  obtain⟨o,q,r⟩:=st;exact⟨o,k it (qk.mpr rfl) o q,r⟩
 item:=by
  intro X j l m hc i pins s σ H E I hf st hg;subst j l m;have F:=hf it (qk.mpr rfl);refine(W X.A (I.ok.hd hc)).item i s _ _ hg st λv h' n C f p=>?_;obtain⟨c,u,D,rfl⟩:=C;have J:Inv X pins σ H {s with heap:=h',toks:=n}:=I.turned (λb o e q=>p b o (λz=>e (qk.mp z)) q) F.1 F.2.1 F.2.2.2.1 F.2.2.2.2.1 F.2.2.2.2.2;obtain⟨o,q,G,d⟩:=id f;exact⟨_,U,LK (s:={s with heap:=h',toks:=n}) q G d B ⟨.str ⟨#[c]⟩,H,J,⟨u,U⟩,⟨U,c,D,U⟩,f,λb e=>(hf b e).1⟩⟩
 done:=by
  intro X j l m hc i pins s σ H E I hf st hg;subst j l m;have F:=hf it (qk.mpr rfl);have g:i=x.cps.size:=hg;subst g;exact(W X.A (I.ok.hd hc)).done s _ _ st λh' n p=>⟨U,I.turned (λb o e q=>p b o (λz=>e (qk.mp z)) q) F.1 F.2.1 F.2.2.2.1 F.2.2.2.2.1 F.2.2.2.2.2⟩
 self:=a
inductive ar(R:(It->Hp->Prop))(x:V)(H1:Hp):Prop
 |mk:∀y,x=.str y->R (Its y) H1->ar R x H1
def iStr(te:TE):TI:=λσ H R=>te σ H λx H1=>ar R x H1
def MG{j l:Expr}{f:TE}(k:PE X l f):PI X j l (iStr f):=by
 intro pins s σ H R I h;refine jE (k pins s σ H _ I h) λv s1 ⟨x,H1,a,m,y,e,q⟩=>?_;subst e;obtain⟨t,rfl⟩:=m;have g:∀b∈[s1.heap.objs.size],Mh X pins H1 b:=λb n=>by
  cases qk.mp n;exact a.QbY (qB _) (a.hok.fresh (qB _))
 cases i:y.cps.all (·<128)
 .refine wpAny_pyIter_wide i ?_;exact⟨s1.heap.objs.size,[s1.heap.objs.size],_,_,H1,U,a.kept (t':=s1.toks) λb o z=>qw _ z,
   Es (x:=y) (t:=t) (ty:="str_iterator") (by decide) (λp c=>Walks.strWide c _ y t) (λ_ _ _ _ _ st d=>wpAny_pyIter_striter_wide st d),⟨_,qK _ rfl,U,U⟩,g,q⟩
 .refine wpAny_pyIter_ascii i ?_;exact⟨s1.heap.objs.size,[s1.heap.objs.size],_,_,H1,U,a.kept (t':=s1.toks) λb o z=>qw _ z,
   Es (x:=y) (t:=t) (ty:="str_ascii_iterator") (by decide) (λp c=>Walks.strAscii c _ y t) (λ_ _ _ _ _ st d=>wpAny_pyIter_striter_ascii st d),⟨_,qK _ rfl,U,U⟩,g,q⟩
def WB(cells:qa (qb×qc)):qa (qb×NameKind)->qa (qb×qc)->qa (qb×qc)
 |[],cs=>cs
 |(n,k)::r,cs=>WB cells r (if k==.free then (match cells.lookup n with|some c=>(n,c)::cs|none=>cs) else cs)
def El(h:∀y∈scope.names,y.2=.free->∃c,env.cells.lookup y.1=some c):closureFor scope env=pure (WB env.cells scope.names []):=by
 unfold closureFor;generalize ([]:qa (qb×qc))=cs
 revert cs
 generalize scope.names=names at h
 induction names with
 |nil=>intro cs;rfl
 |cons p r d=>
  obtain⟨n,k⟩:=p;intro cs;have a:=d λy f=>h y (qF _ f);by_cases b:k=.free
  .subst b;obtain⟨c,hc⟩:=h (n,.free) qz rfl;have e:cellOf env n=pure c:=by unfold cellOf;rw[hc]<;>rfl
   dsimp only at hc⊢;rw[List.forIn_cons];simp only[yu,vy,WB,hc];rw[e];exact a _
  .have g:(k==NameKind.free)=false:=by simpa using b
   dsimp only;rw[List.forIn_cons];simp only[g,zE,yE,WB];exact a _
def DW{cells:qa (qb×qc)}:∀(names:qa (qb×NameKind))(cs:qa (qb×qc)){y:qb}{c:qc},(WB cells names cs).lookup y=some c->cells.lookup y=some c\/cs.lookup y=some c
 |[],cs,y,c,h=>.inr h
 |(n,k)::r,cs,y,c,h=>by
  rcases DW r _ (show(WB cells r _).lookup y=some c from h) with a|a
  .exact .inl a
  .split at a
   .split at a
    .rename_i d b
     rw[jv] at a;split at a
     .rename_i e
      cases a;exact .inl (by rw[eq_of_beq e];exact b)
     .exact .inr a
    .exact .inr a
   .exact .inr a
def BS{cells:qa (qb×qc)}:∀(names:qa (qb×NameKind))(cs:qa (qb×qc)){y:qb},(∃c,cs.lookup y=some c)->∃c,(WB cells names cs).lookup y=some c
 |[],cs,y,h=>h
 |(n,k)::r,cs,y,h=>by
  refine BS r _ ?_;split
  .split
   .rw[jv];split
    .exact⟨_,U⟩
    .exact h
   .exact h
  .exact h
def GF{cells:qa (qb×qc)}:∀(names:qa (qb×NameKind))(cs:qa (qb×qc)){y:qb},(y,NameKind.free)∈names->(∃c,cells.lookup y=some c)->∃c,(WB cells names cs).lookup y=some c
 |(n,k)::r,cs,y,a,hc=>by
  rcases qJ.mp a with e|a
  .cases e;refine BS r _ ?_;obtain⟨c,hc⟩:=hc;simp only[yu,vy,hc];exact⟨c,by simp[jv]⟩
  .exact GF r _ a hc
def eZ(env:Env)(p:qb×NameKind):qb×NameKind:=if (p.2==NameKind.free&&env.scope.kind==.function&&env.kindOf p.1==some .cell)=true then (p.1,NameKind.cell) else (p.1,p.2)
def EL{env:Env}:∀{names:qa (qb×NameKind)}{x:qb},names.lookup x=some .free->(names.map (eZ env)).lookup x=some .cell\/(names.map (eZ env)).lookup x=some .free
 |[],_,h=>by simp at h
 |(n,k)::r,x,h=>by
  have b:=@EL env r x;rw[qU];unfold eZ
  cases a:x==n with
  |true=>
   rw[jv,a] at h;cases h;by_cases hc:(NameKind.free==NameKind.free&&env.scope.kind==.function&&env.kindOf n==some .cell)=true
   .left;rw[qG hc,jv,a]
   .right;rw[qC hc,jv,a]
  |false=>
   rw[jv,a] at h;by_cases hc:(k==NameKind.free&&env.scope.kind==.function&&env.kindOf n==some .cell)=true
   .rw[qG hc,jv,a];exact b h
   .rw[qC hc,jv,a];exact b h
def Ga(h:scope.names.lookup x=some .free):(relabel scope env).names.lookup x=some .cell\/(relabel scope env).names.lookup x=some .free:=
 EL (env:=env) h
def FV(b:∀y∈scope.names,y.2≠.cell){y:qb}(h:(relabel scope env).names.lookup y=some .cell\/(relabel scope env).names.lookup y=some .free):(y,NameKind.free)∈scope.names:=by
 have key:∀k,(relabel scope env).names.lookup y=some k->k=.cell\/k=.free->(y,NameKind.free)∈scope.names:=λk e d=>by
  have m:=jT e;obtain⟨⟨n,a⟩,hm,q⟩:=qj.mp m;dsimp only at q;split at q
  .rename_i c
   have f:(a==NameKind.free)=true:=by
    simp only[jc] at c;exact c.1.1
   have g:a=.free:=eq_of_beq f;cases q;rw[g] at hm;exact hm
  .cases q;rcases d with z|z
   .exact absurd z (b _ hm)
   .rw[z] at hm;exact hm
 rcases h with h|h
 .exact key _ h (.inl rfl)
 .exact key _ h (.inr rfl)
structure K3(sc scope:Scope)(N:qe)(x:qb)(fr:qa (Nat×qb)):Prop where
 kind:scope.kind=.function
 loc:scope.names.lookup x=some .local
 names:∀y∈scope.names,y.2=.local->scope.names.lookup y.1=some .local
 QcA:∀y∈scope.names,y.2≠.cell
 free:∀y∈scope.names,y.2=.free->sc.names.lookup y.1=some .cell\/sc.names.lookup y.1=some .free
 frk:∀p∈fr,N[p.1]?=some p.2/\scope.names.lookup p.2=some .free
 nd:(x::fr.map (·.2)).Nodup
def cs_(k:scope.kind=.function)(l:scope.names.lookup x=some .local)(h:((∀y∈scope.names,y.2=.local->scope.names.lookup y.1=some .local)/\(∀y∈scope.names,y.2≠.cell)/\(∀y∈scope.names,y.2=.free->sc.names.lookup y.1=some .cell\/sc.names.lookup y.1=some .free))/\(∀p∈fr,N[p.1]?=some p.2/\scope.names.lookup p.2=some .free)/\(x::fr.map (·.2)).Nodup:=by decide +kernel):K3 sc scope N x fr:=⟨k,l,h.1.1,h.1.2.1,h.1.2.2,h.2.1,h.2.2⟩
def W4(X:Cx)(scope:Scope)(C:qc)(N:qe)(s:Shared)(H:Hp)(a:qa qc):Cx where
 prog:=X.prog
 w:=X.w
 K:=X.K
 mg:=X.mg
 base:=X.base
 A:=X.A
 N:=N
 s₀:=s
 H₀:=H
 env:=compEnvC scope (WB X.env.cells scope.names []) C X.env
 outer:=X.stack
 stack:=X.stack
 ex:=a
 fn:=λ_=>false
 calm:=X.calm
 pn:=[]
 xe:=λ_ _=>False
def oS(σ:St)(fr:qa (Nat×qb)):St:=fr.map λp=>(σ[p.1]?).join
def PTs(X:Cx)(ifs:qa Expr)(t:TT):Prop:=
 ∀(pins:qa (qc×Obj))(s:Shared)(σ:St)(H:Hp)(Q:Bool->Hp->Prop),Inv X pins σ H s->t σ H Q ->
  wpAny (model X.prog X.w) X.A (forIn ifs true λc r=>if r=true then do let ok <-isTrue c X.env (eval c X.env);pure (ForInStep.yield ok) else pure (ForInStep.yield r)) (TP X pins σ Q) X.xe s
def Ew:TT:=λ_ H Q=>Q true H
def GJ{σ:St}{H:Hp}{Q:Bool->Hp->Prop}(h:Q true H):Ew σ H Q:=h
def Ae :PTs X [] Ew:=λ_ _ _ H _ I h=>wpAny_tests_nil ⟨H,I,h⟩
def We{c:Expr}{t:TT}(hc:PT X c t):PTs X [c] t:=λpins s σ H Q I h=>wpAny_tests_one (hc pins s σ H Q I h)
def Yr(J:It)(fr:qa (Nat×qb))(tt:TT)(te:TE)(σ:St)(H1:Hp)(Q:VK):Prop:=∀D,H1 D=none ->
 ∃W:Nat->Nat->qa V->Hp->Prop,(∃m,W 0 m [] (upd H1 D (.lst [])))/\∀i m ys a,W i m ys a->a D=some (.lst ys) /\
  ((J.stop i a/\Q (.ref D) a)\/(J.go i a/\∀v d,J.yld i a v d->tt (some v::oS σ fr) d λb e=>
    if b=true then te (some v::oS σ fr) e λy f=>f D=some (.lst ys)/\ys.length<sizeLine/\∃c,c<m/\W (i+1) c (ys++[y]) (upd f D (.lst (ys++[y])))
    else ∃c,c<m/\W (i+1) c ys e))
def R6(wi:TI)(fr:qa (Nat×qb))(tt:TT)(te:TE):TE:=λσ H Q=>wi σ H λJ H1=>Yr J fr tt te σ H1 Q
structure gH(X:Cx)(pins:qa (qc×Obj))(H:Hp)(C:qc):Prop where
 hn:H C=none
 hL:C≠X.env.locals
 h1:C∈X.ex\/X.s₀.heap.objs.size<=C
 h2:∀x c,X.env.cells.lookup x=some c->c≠C
 h3:∀p∈X.pn++pins,p.1≠C
def LW{pos':Pos}
 {pins:qa (qc×Obj)} {s:Shared} {σ:St} {H:Hp} {Q:VK} {Q':qf} {use:Option (qd->Sem Unit)}
 (S:K3 sc scope N x fr) (a:X.env.scope=sc) (hN:X.N=N) (hc:X.calm=true) (hi:PI X (.Name x px) iter wi)
 (ht:∀(C:qc)(s:Shared)(H:Hp)(f:qa qc),PTs (W4 X scope C (x::fr.map (·.2)) s H f) ifs tt)
 (he:∀(C:qc)(s:Shared)(H:Hp)(f:qa qc),PE (W4 X scope C (x::fr.map (·.2)) s H f) elt te)
 (hs:∀z,foldedSetIterable iter X.env z=pure z) (I:Inv X pins σ H s) (h:R6 wi fr tt te σ H Q)
 (hfin:∀(D C:qc)(H':Hp)(s':Shared)(m:qb->Option qd),Inv X pins σ H' s'->s'.heap.Ns C m->gH X pins H' C->Q (.ref D) H'->compPost (model X.prog X.w) X.A X.xe use Q' (.ref D) C (.ok .next) s') :
 wpAny (model X.prog X.w) X.A (comprehension (.ListComp elt [⟨.Name x px,iter,ifs,0⟩] scope pos) scope X.env pos' (newList []) false (eval iter X.env) use) Q' X.xe s:=by
 have kin:∀y,scope.names.lookup y=some .free->X.env.kindOf y=some .cell\/X.env.kindOf y=some .free:=λy M=>by
  show X.env.scope.names.lookup y=_\/X.env.scope.names.lookup y=_;rw[a];exact S.free (y,.free) (jT M) rfl
 have kin':∀y∈scope.names,y.2=.free->X.env.kindOf y.1=some .cell\/X.env.kindOf y.1=some .free:=λy M hf=>by
  show X.env.scope.names.lookup y.1=_\/X.env.scope.names.lookup y.1=_;rw[a];exact S.free y M hf
 have hkc:∀y∈scope.names,y.2=.free->∃c,X.env.cells.lookup y.1=some c:=λy M hf=>I.ok.has y.1 (kin' y M hf);refine wpAny_comprehension_free (use:=use) rfl hs (El hkc) S.kind S.names ?_;refine jE (hi pins s σ H _ I h) λxv s1 h1=>jE h1 λitv s2 h2=>?_;obtain⟨it,f,tn,J,H2,rfl,w,T,O,f2,q2⟩:=h2;refine zJ (wpAny_newFunctionEnv S.QcA (by intro y M;simp at M) (λB g j=>?_) S.kind);dsimp only at g j⊢;have A:Inv X pins σ (upd H2 s2.heap.objs.size (.lst [])) {s2 with heap:=s2.heap.push {cls:=.type "list",data:=.seq ([]:qg).toArray}}:=
  w.QbU (its:=[]) (t':=s2.toks) .nil (q0 _)
 unfold Yr at q2;obtain⟨W,⟨m0,w0⟩,turn⟩:=q2 s2.heap.objs.size (w.hok.fresh (qB _));generalize hG:s2.heap.push {cls:=.type "list",dict:=none,data:=.seq ([]:qg).toArray}=G at g j A⊢;generalize hD:s2.heap.objs.size=D at A turn w0⊢;generalize hH3:upd H2 D (.lst [])=P at A w0;have Z:∀b o,G.get? b=some o->b≠G.objs.size:=λb o e=>za (qR e);have old:∀b o,G.get? b=some o->B.get? b=some o:=λb o e=>(j.2 b (Z b o e)).trans (qw _ e);have E:∀b o,s2.heap.get? b=some o->G.get? b=some o:=λb o e=>by rw[<-hG];exact qw _ e
 have fpG:∀b∈f,b<G.objs.size:=λb a=>by
  obtain⟨o,e,_⟩:=T.obj _ _ O b a;exact qR (E b o e)
 have sub:∀{y:qb}{c:qc},(WB X.env.cells scope.names []).lookup y=some c->X.env.cells.lookup y=some c:=λ{y c} e=>by
  rcases DW _ _ e with z|z
  .exact z
  .simp at z
 have t:∀b∈f,(b∈X.ex\/X.s₀.heap.objs.size<=b)/\b≠X.env.locals/\(∀x c,X.env.cells.lookup x=some c->c≠b)/\∀p∈X.pn++pins,p.1≠b:=λb a=>
  ⟨(f2 b a).2.2.2.1,(f2 b a).2.1,(f2 b a).2.2.2.2.1,(f2 b a).2.2.2.2.2⟩
 have hCL:G.objs.size≠X.env.locals:=rG A.lt;have hC1:X.s₀.heap.objs.size<=G.objs.size:=A.sz;have hC2:∀x c,X.env.cells.lookup x=some c->c≠G.objs.size:=λx c e=>by
  obtain⟨v,o,ho,_⟩:=A.cell x c e;exact Z c o ho
 have hC3:∀p∈X.pn++pins,p.1≠G.objs.size:=λp R=>Z p.1 p.2 (A.pin p R).1;have okB:(W4 X scope G.objs.size (x::fr.map (·.2)) {s2 with heap:=G} P f).Ok:=by
  refine⟨w.ok.mod,S.kind,w.ok.glob,w.ok.blt,qB _,λy z c e1 e2=>w.ok.inj y z c (sub e1) (sub e2),λy M=>?_,λy c z=>Bool.noConfusion z,w.ok.hd,w.ok.frames,.inl rfl,λb a=>⟨za (fpG b a),λy c e=>(t b a).2.2.1 y c (sub e)⟩,
   λb o e=>A.bs b o e,zm w.ok.bsz A.sz,λb o e a=>?_,λb a hf=>?_,A.stack,A.Qbw⟩
  .have m:=FV S.QcA M;exact GF _ _ m (hkc _ m rfl)
  .rcases (t b a).1 with z|z
   .exact w.ok.Qcz b o e z
   .exact absurd (zj (qR e) (zm w.ok.bsz z)) (yp _)
  .rcases qJ.mp (w.Qa0 b hf) with z|z
   .exact(t b a).2.1 z
   .exact(f2 b a).2.2.1 z
 have I4:∀tk:Nat,Inv (W4 X scope G.objs.size (x::fr.map (·.2)) {s2 with heap:=G} P f) [] (none::oS σ fr) P {s2 with heap:=B,toks:=tk}:=λtk=>by
  refine⟨okB,U,w.bare,Un.kept old,⟨_,g,λi y v e1 e2 _=>?_⟩,λy c e=>?_,A.hok.fresh (qB _),λy c e=>A.vV y c (sub e),λp R=>absurd (show p∈([]:qa (qc×Obj)) from R) (by simp),A.hok.kept old,?_⟩
  .cases i with
   |zero=>simp at e2
   |succ i=>
    have F:(fr.map (·.2))[i]?=some y:=e1;have K:(fr.map λp=>(σ[p.1]?).join)[i]?=some (some v):=e2;rw[qQ] at F K
    cases R:fr[i]? with
    |none=>rw[R] at F;cases F
    |some p=>
     rw[R] at F K;have ey:p.2=y:=qN F;have ev:(σ[p.1]?).join=some v:=qN K;have ev':σ[p.1]?=some (some v):=by
      cases q:σ[p.1]? with
      |none=>rw[q] at ev;cases ev
      |some o=>rw[q] at ev;simp only[Option.join] at ev;exact zV some ev
     have hf:=S.frk p (qL R);rw[ey] at hf;have L:=kin y hf.2;obtain⟨m,_,hl⟩:=w.loc;obtain⟨u,ru,l⟩:=hl p.1 y v (by rw[hN];exact hf.1) ev' (.inr L);refine⟨u,ru,.inr ⟨Ga hf.2,?_⟩⟩;rcases l with⟨k,_⟩|⟨_,c,e,z⟩
     .rcases L with L|L
      .rw[L] at k;cases k
      .rw[L] at k;cases k
     .obtain⟨c',ec⟩:=GF (cells:=X.env.cells) scope.names [] (jT hf.2) ⟨c,e⟩;have:=sub ec;rw[e] at this;cases this;obtain⟨o,ho,hd⟩:=z;exact⟨c,ec,o,old c o (E c o ho),hd⟩
  .obtain⟨v,o,ho,hd⟩:=w.cell y c (sub e);exact⟨v,o,old c o (E c o ho),hd⟩
  .show(none::oS σ fr).length=(x::fr.map (·.2)).length;simp[oS]
 have F:(W4 X scope G.objs.size (x::fr.map (·.2)) {s2 with heap:=G} P f).env.scope.names.lookup x=some .local:=lookup_relabel_local S.loc;generalize K:W4 X scope G.objs.size (x::fr.map (·.2)) {s2 with heap:=G} P f=Y at I4 F;have eP:Y.prog=X.prog:=by rw[<-K];rfl
 have eW:Y.w=X.w:=by rw[<-K];rfl
 have eK:Y.K=X.K:=by rw[<-K];rfl
 have eA:Y.A=X.A:=by rw[<-K];rfl
 have eC:Y.calm=true:=by rw[<-K];exact hc
 have eE:Y.env=compEnvC scope (WB X.env.cells scope.names []) G.objs.size X.env:=by rw[<-K];rfl
 have eN:Y.N=x::fr.map (·.2):=by rw[<-K];rfl
 have eX:Y.xe=λ_ _=>False:=by rw[<-K];rfl
 have eB:∀{σ':St}{H':Hp}{s':Shared}{L:qa (qc×Obj)},Inv Y L σ' H' s'->s'.os=s2.os/\Un (frs X.stack) f P H' G s'.heap:=λ{σ' H' s' L} J=>by
  subst K;exact⟨J.os,J.base⟩
 have hT:=ht G.objs.size {s2 with heap:=G} P f;have hE:=he G.objs.size {s2 with heap:=G} P f;rw[K] at hT hE;have fpY:∀{H':Hp},(∀b∈f,H' b=none)->∀b∈f,Mh Y [] H' b:=λ{H'} hn b a=>by
  subst K;refine⟨hn b a,za (fpG b a),okB.QcI b a,.inl a,λy c e=>(okB.exf b a).2 y c e,λp R=>absurd (show p∈([]:qa (qc×Obj)) from R) (by simp)⟩
 have loop:∀s3:Shared,(∃tk,s3={s2 with heap:=B,toks:=tk}) ->
  codeAny (model X.prog X.w) X.A (.compLoop (.ListComp elt [⟨.Name x px,iter,ifs,0⟩] scope pos) 0 (.ref it) (.ref D) Y.env)
   (compPost (model X.prog X.w) X.A X.xe use Q' (.ref D) G.objs.size) s3:=by
  rintro s3 ⟨tk,rfl⟩;refine codeAny_compLoop_tests (λn s'=>∃i ys o H',Inv Y [] (o::oS σ fr) H' s'/\tn i s'.heap/\(∀b∈f,H' b=none)/\W i n ys H') ?_ m0
   ⟨0,[],none,P,I4 tk,T.keep _ _ _ O λb a o e=>old b o (E b o e),λb a=>?_,w0⟩
  .rintro n s' ⟨i,ys,o,H',J',st',fr',w'⟩;obtain⟨hD',hgo⟩:=turn i n ys H' w';rcases hgo with⟨stop,qn⟩|⟨go,step⟩
   .have Q1:=T.done Y eP eW eK eC i [] s' (o::oS σ fr) H' (notedBy (model X.prog X.w) X.A Y.env λe s''=>compPost (model X.prog X.w) X.A X.xe use Q' (.ref D) G.objs.size (.error e) s'') J' (fpY fr') st' stop;rw[eA] at Q1;refine jE Q1 λr s4 ⟨hr,J4⟩=>?_;subst hr;obtain⟨m,hn,_⟩:=J4.loc;rw[eE] at hn;obtain⟨os4,u4⟩:=eB J4;have free4:H' G.objs.size=none:=by have:=J4.free;rw[eE] at this;exact this
    have hok4:lF X.prog X.w H' s4.heap:=by have:=J4.hok;rw[eP,eW] at this;exact this
    exact hfin D G.objs.size H' s4 m (A.call' (ch:=f) (s':=s4) os4 u4 hok4 J4.bare t) hn ⟨free4,hCL,.inr hC1,hC2,hC3⟩ qn
   .have Q1:=T.item Y eP eW eK eC i [] s' (o::oS σ fr) H' (notedBy (model X.prog X.w) X.A Y.env λe s''=>compPost (model X.prog X.w) X.A X.xe use Q' (.ref D) G.objs.size (.error e) s'') J' (fpY fr') st' go;rw[eA] at Q1;refine jE Q1 λr s4 ⟨u,hr,h4⟩=>?_;subst hr;show wpAny _ _ (letOwnedTupleGo (.Name x px) (.ref it) u>>=λ_=>assign (.Name x px) Y.env u) _ _ s4;refine qi (jE h4 λ_ s5 ⟨v,H5,J5,r5,y5,st5,fr5⟩=>?_);have J5':=J5.pinned (fpY fr5) (T.obj _ _ st5);have G5:=Ye (X:=Y) (i:=0) (x:=x) (pos:=px) (by rw[eN];exact S.nd) (by rw[eN];rfl) (.inl F) (.inr F) ([]++AX f s5.heap) s5 (o::oS σ fr) H5 v u (λσ6 H6=>σ6=some v::oS σ fr/\H6=H5) J5' r5 ⟨U,U⟩;rw[eP,eW,eA,eX] at G5;refine yQ G5 (λ_ s6 ⟨σ6,H6,J6,e6,e6'⟩=>?_) λ_ _ z=>z.elim;subst e6 e6';have T6:=hT _ s6 _ _ _ J6 (step v _ y5);rw[eP,eW,eA,eX] at T6;have again:∀{s7:Shared}{H7:Hp}{zs:qa V},Inv Y ([]++AX f s5.heap) (some v::oS σ fr) H7 s7->(∃m',m'<n/\W (i+1) m' zs H7)->∃m,m<n/\∃i ys o H',Inv Y [] (o::oS σ fr) H' s7/\tn i s7.heap/\(∀b∈f,H' b=none)/\W i m ys H':=λ{s7 H7 zs} J7 ⟨m',hm,w7⟩=>by
     refine⟨m',hm,i+1,zs,some v,H7,J7.mC,T.keep _ _ _ st5 λb a o e=>(J7.pin (b,o) (qv _ (qv _ (XF a e)))).1,λb a=>?_,w7⟩;obtain⟨o,e,d⟩:=T.obj _ _ st5 b a;exact(J7.pin (b,o) (qv _ (qv _ (XF a e)))).2.1
    refine yQ T6 (λok s7 ⟨H7,J7,q7⟩=>?_) λ_ _ z=>z.elim
    cases ok with
    |false=>exact again J7 q7
    |true=>
     have E7:=hE _ s7 _ _ _ J7 q7;rw[eP,eW,eA,eX] at E7;show wpAny _ _ (eval elt Y.env) _ _ s7;refine yQ E7 (λu8 s8 ⟨y8,H8,J8,r8,hD8,hz8,w8⟩=>?_) λ_ _ z=>z.elim;have A8:=YS (X:=Y) _ s8 _ H8 (.ref D) [y8] (.ref D) [u8] (λz H9=>H9=upd H8 D (.lst (ys++[y8]))) J8 rfl (.cons r8 .nil) ⟨D,ys,y8,U,U,hD8,hz8,U⟩;rw[eP,eW,eA,eX] at A8;refine yQ A8 (λ_ s9 ⟨z9,H9,J9,_,e9⟩=>?_) λ_ _ z=>z.elim;subst e9;exact again J9 w8
  .rw[<-hH3];have hbD:b≠D:=by
    rw[<-hD];obtain⟨o,e,_⟩:=T.obj _ _ O b a;exact za (qR e)
   rw[Qa hbD];exact(f2 b a).1
 rw[eE] at loop;exact codeAny_compStart_list (loop _ ⟨_,U⟩) (T.self _ 0 _ _ _ (T.keep _ _ _ O λb a o e=>old b o (E b o e)) (loop _ ⟨_,U⟩))
def VO
 (S:K3 sc scope N x fr) (c:X.env.scope=sc) (f:X.N=N) (hc:X.calm=true) (g:PI X (.Name x px) iter wi)
 (i:∀(C:qc)(s:Shared)(H:Hp)(a:qa qc),PTs (W4 X scope C (x::fr.map (·.2)) s H a) ifs tt)
 (he:∀(C:qc)(s:Shared)(H:Hp)(a:qa qc),PE (W4 X scope C (x::fr.map (·.2)) s H a) elt te)
 (j:∀z,foldedSetIterable iter X.env z=pure z:=by intro _;rfl) :
 PE X (.ListComp elt [⟨.Name x px,iter,ifs,0⟩] scope pos) (R6 wi fr tt te):=by
 intro pins s σ H Q I h;rw[eval_ListComp];refine LW (use:=none) S c f hc g i he j I h λD C H' s' m J k a q=>?_;exact⟨m,k,λh' d=>⟨.ref D,H',J.turned (t':=s'.toks) (λb o l e=>(d.2 b l).trans e) a.hn a.hL a.h1 a.h2 a.h3,U,q⟩⟩
def XA{y:qb}{py c:Pos}{i:Nat}
 (S:K3 sc scope N x fr) (f:X.env.scope=sc) (t:X.N=N) (hc:X.calm=true) (g:X.N.Nodup) (j:X.N[i]?=some y) (r:X.env.scope.names.lookup y=some .local) (u:PI X (.Name x px) iter wi)
 (w:∀(C:qc)(s:Shared)(H:Hp)(d:qa qc),PTs (W4 X scope C (x::fr.map (·.2)) s H d) ifs tt)
 (he:∀(C:qc)(s:Shared)(H:Hp)(d:qa qc),PE (W4 X scope C (x::fr.map (·.2)) s H d) elt te)
 (A:∀z,foldedSetIterable iter X.env z=pure z:=by intro _;rfl)
 (k:swapsWith (.ListComp elt [⟨.Name x px,iter,ifs,0⟩] scope pos) (some (.Name y py)) c.line X.env=pure true:=by rfl) :
 PS X (.Assign [.Name y py] (.ListComp elt [⟨.Name x px,iter,ifs,0⟩] scope pos) c) (R8 (R6 wi fr tt te) (BM i)):=by
 intro pins s σ H B I h;rw[exec_Assign_Name_used _ _ _ _ k];refine qi (wpAny_standAt (qi ?_));show wpAny _ X.A (do let _ <-comprehension (.ListComp elt [⟨.Name x px,iter,ifs,0⟩] scope pos) scope X.env _ (newList []) false (eval iter X.env) (some (assign (.Name y py) X.env))) _ _ s;refine qi (jE (LW (use:=some (assign (.Name y py) X.env)) (Q':=λ_ s'=>SP X pins B .next s') S f t hc u w he A I h λD C H' s' m J E d q=>?_) λ_ s' F=>qu (qu F));show wpAny _ _ (assign (.Name y py) X.env (.ref D)) _ _ s';refine wpAny_assign_Name (EB J g j (.inl r) (v:=.ref D) rfl (λs5 G l=>?_) (.inr r));obtain⟨a,K,L⟩:=l;have n:C≠a:=by
  rcases L with z|z
  .rw[z];exact d.hL
  .exact xK (d.h2 _ _ z)
 refine⟨m,E.sameBut K n,λh' p=>⟨_,H',G.turned (t':=s5.toks) (λb o M e=>(p.2 b M).trans e) d.hn d.hL d.h1 d.h2 d.h3,q⟩⟩
def RJ{bs:qa Bool}:(List.range bs.length).all (λi=>bs.getD i true)=bs.all id:=by
 rw[v3,jd,jd];constructor
 .intro h b a;obtain⟨i,c,e⟩:=List.mem_iff_getElem.mp a;have q:=h i (xk.mpr c);simp only[zC,qA c,Option.getD_some] at q;rw[<-e];exact q
 .intro h i c;have a:=xk.mp c;simp only[zC,qA a,Option.getD_some];exact h _ (jj a)
def aQ(hc:X.calm=true):V0 X (.builtin "all") (λxs H Q=>∃(p:qc)(bs:qa Bool),xs=[.ref p]/\zQ X.K H p (bs.map V.bl)/\Q (.bl (bs.all id)) H):=by
 intro pins s σ H xs us Q I r h;obtain⟨p,bs,rfl,j,q⟩:=h;obtain⟨u,rfl,k⟩:=V2 r;cases k;obtain⟨its,f,pl,hz⟩:=I.list j;have hlen:=f.length;rw[qh] at hlen;have c:p<s.heap.objs.size:=by obtain⟨o,e,_⟩:=pl.isList;exact qR e
 refine call_all_walk (wpAny_pyIter_list pl.isList ?_);refine⟨s.heap.objs.size,_,[s.heap.objs.size],its.toArray.size,_,_,λi=>bs.getD i true,U,Walks.list (A:=X.A.in1) (I.ok.hd hc) s.heap.objs.size p (za c) its.toArray,⟨⟨_,qK _ rfl,U,U⟩,pl.isList.push _⟩,?_,?_⟩
 .intro i v s' Q' t l d;have a:its[i]?=some v:=by simpa using l
  have w:i<its.length:=(qY.mp a).1;have m:(bs.map V.bl)[i]?=some (V.bl (bs.getD i true)):=by
   rw[qQ,qA (by omega)];simp[zC,qA (show i<bs.length by omega)]
  obtain⟨u,g,n⟩:=f.get m;rw[a] at g;cases g;cases n;exact js d
 .intro h' a d;have hsz:its.toArray.size=bs.length:=by rw[qS];exact hlen.symm
  rw[hsz,RJ];exact⟨.bl (bs.all id),H,I.kept (t':=a) λb o e=>d b o (λz=>absurd (qR e) (by rw[qk.mp z];exact yp _)) (qw _ e),U,q⟩
def clsV:V->Option qd
 |.ty n=>some (.type n)
 |.ref a=>some (.ref a)
 |_=>none
def YX :V0 X (.builtin "isinstance") (λxs H Q=>∃x c f t b,xs=[x,c]/\clsV c=some f/\WG X.K H x t/\kitOne X.K t f=some b/\Q (.bl b) H):=by
 intro pins s σ H xs us Q I r h;obtain⟨x,c,f,t,b,rfl,d,ty,g,q⟩:=h;obtain⟨u,i,rfl,j,rc⟩:=gP r;have e:i=f:=by
  cases c with
  |ty n=>cases d;exact rc
  |ref a=>cases d;exact rc
  |_=>cases d
 subst e;exact Ro I j ty g λk=>⟨.bl b,H,I.tok k,U,q⟩
def Vu{xs:qe}:∀{us:qg},QK (xs.map V.str) us->StrsAre us xs:=by
 induction xs with
 |nil=>intro us r;rw[List.map_nil] at r;cases r;exact .nil
 |cons y ys a=>
  intro us r;rw[qU] at r
  cases r with
  |cons b c=>
   obtain⟨t,e⟩:=b;subst e;exact .cons y t (a c)
inductive Oh(K:Frag)(x:V)(xs:qa V)(H:Hp)(Q:VK):Prop
 |mk:∀(sep:qb)(p:qc)(ys:qe),x=.str sep->xs=[.ref p]->zQ K H p (ys.map V.str)->(ys.map (·.length)).sum+ys.length*sep.length<=16777216->Q (.str (Txt.join sep ys)) H->Oh K x xs H Q
def hZ(K:Frag):V->qa V->Hp->VK->Prop:=λx xs H Q=>Oh K x xs H Q
def Hs :MtR X "str.join" (hZ X.K):=by
 intro pins s σ H x xs v us Q I a b h;obtain⟨sep,p,ys,rfl,rfl,c,hz,q⟩:=h;obtain⟨t,rfl⟩:=a;obtain⟨u,rfl,d⟩:=V2 b;cases d;obtain⟨its,r,pl,_⟩:=I.list c;exact join_list pl.isList (by have:=Vu r;simpa using this) hz λt' k=>⟨.str (Txt.join sep ys),H,I.tok k,⟨t',U⟩,q⟩
inductive Su(x:V)(lo:Option Int)(hi:Option Int)(H:Hp)(Q:VK):Prop
 |mk:∀y,x=.str y->y.length<=sizeLine->Q (.str (Txt.slice y lo hi)) H->Su x lo hi H Q
def rSlS:V->Option Int->Option Int->Hp->VK->Prop:=λx lo a H Q=>Su x lo a H Q
def Mt :SlR X rSlS:=by
 intro pins s σ H x v f g lo a m Q I e b pl pu h;obtain⟨y,rfl,hz,q⟩:=h;obtain⟨t,rfl⟩:=e;refine⟨"str",_,F.slot_str_getitem.lookup,pz _ _ _,?_⟩;have fin:∀lo a,Q (.str (Txt.slice y lo a)) H->(Txt.slice y lo a).length<=sizeLine/\∀t' k,EP X pins σ Q (.str (Txt.slice y lo a) t') {s with toks:=k}:=λlo a q=>
  ⟨zm (Txt.slice_le y _ _) hz,λt' k=>⟨.str _,H,I.tok k,⟨t',U⟩,q⟩⟩
 cases pl with
 |none=>
  cases pu with
  |none=>exact uH (l:=none) (u:=none) (st:=none) b rfl (Qbt (fin _ _ q))
  |int j c=>exact uH (l:=none) (u:=some (j,c)) (st:=none) b rfl (Qbt (fin _ _ q))
 |int i d=>
  cases pu with
  |none=>exact uH (l:=some (i,d)) (u:=none) (st:=none) b rfl (Qbt (fin _ _ q))
  |int j c=>exact uH (l:=some (i,d)) (u:=some (j,c)) (st:=none) b rfl (Qbt (fin _ _ q))
mutual
inductive RD(K:Frag)(H:Hp):V->PyData->Prop
 |non:RD K H .non .none
 |bl (b:Bool):RD K H (.bl b) (.bool b)
 |int (i:Int):RD K H (.int i) (.int i)
 |str (x:qb):RD K H (.str x) (.str x)
 |lst {a:qc} {xs:qa V} {ds:qa PyData}:zQ K H a xs->RDs K H xs ds->RD K H (.ref a) (.list ds)
 |tup {a:qc} {xs:qa V} {ds:qa PyData}:jX K H a xs->RDs K H xs ds->RD K H (.ref a) (.tuple ds)
inductive RDs(K:Frag)(H:Hp):qa V->qa PyData->Prop
 |nil:RDs K H [] []
 |cons {x:V} {xs:qa V} {d:PyData} {ds:qa PyData}:RD K H x d->RDs K H xs ds->RDs K H (x::xs) (d::ds)
end
mutual
def RD.reads{X:Cx}{pins:qa (qc×Obj)}{σ:St}{H:Hp}{s:Shared}(I:Inv X pins σ H s):∀{x:V}{d:PyData}{u:qd},RD X.K H x d->QO x u->∃as,Reads s.heap u d as
 |_,_,_,.non,r=>by cases (show _=Value.none from r);exact⟨_,.none⟩
 |_,_,_,.bl b,r=>by cases (show _=Value.bool b from r);exact⟨_,.bool b⟩
 |_,_,_,.int i,r=>by obtain⟨t,e⟩:=r;subst e;exact⟨_,.int i t⟩
 |_,_,_,.str x,r=>by obtain⟨t,e⟩:=r;subst e;exact⟨_,.str x t⟩
 |_,_,_,.lst (a:=a) f g,r=>by
  cases (show _=Value.ref a from r);obtain⟨its,h,pl,_⟩:=I.list f;obtain⟨as,j⟩:=RDs.reads I g h;obtain⟨o,e,c,n,d⟩:=pl.isList;exact⟨_,.list e c d (by simpa using j)⟩
 |_,_,_,.tup (a:=a) f g,r=>by
  cases (show _=Value.ref a from r);obtain⟨its,h,pl,_⟩:=I.tuple f;obtain⟨as,j⟩:=RDs.reads I g h;obtain⟨o,e,c,n,d⟩:=pl;exact⟨_,.tuple e c d (by simpa using j)⟩
def RDs.reads{X:Cx}{pins:qa (qc×Obj)}{σ:St}{H:Hp}{s:Shared}(I:Inv X pins σ H s):∀{xs:qa V}{ds:qa PyData}{us:qg},RDs X.K H xs ds->QK xs us->∃as,ReadsAll s.heap us ds as
 |_,_,_,.nil,r=>by cases r;exact⟨_,.nil⟩
 |_,_,_,.cons a b,r=>by
  cases r with
  |cons c d=>
   obtain⟨as,a1⟩:=RD.reads I a c;obtain⟨bs,a2⟩:=RDs.reads I b d;exact⟨_,.cons a1 a2⟩
end
inductive SG(K:Frag)(x:V)(y:V)(H:Hp)(Q:VK):Prop
 |mk:∀d e,RD K H x d->RD K H y e->SeqAt.shaped d=true->SeqAt.shaped e=true->Q (.bl (PyData.eqv d e)) H->SG K x y H Q
def ia(K:Frag):R2:=λx y H Q=>SG K x y H Q
inductive Sz(K:Frag)(x:V)(y:V)(H:Hp)(Q:VK):Prop
 |mk:∀d e,RD K H x d->RD K H y e->SeqAt.shaped d=true->SeqAt.shaped e=true->Q (.bl (!PyData.eqv d e)) H->Sz K x y H Q
def hY(K:Frag):R2:=λx y H Q=>Sz K x y H Q
def S7(a:X.A.units+64<cLine):uz X (compareOp .Eq) (ia X.K):=by
 intro pins s σ H x y v u Q I b c h;obtain⟨d,e,hd,he,f,g,q⟩:=h;obtain⟨as,i⟩:=hd.reads I b;obtain⟨bs,j⟩:=he.reads I c;exact eq_dataH i j f g a ⟨.bl _,H,I,U,q⟩
def WY(a:X.A.units+64<cLine):uz X (compareOp .NotEq) (hY X.K):=by
 intro pins s σ H x y v u Q I b c h;obtain⟨d,e,hd,he,f,g,q⟩:=h;obtain⟨as,i⟩:=hd.reads I b;obtain⟨bs,j⟩:=he.reads I c;exact ne_dataH i j f g a ⟨.bl _,H,I,U,q⟩
def Pc{n:Nat}{P:qg->Prop}(h:∀a us,us.length=n->P (a::us)):∀us:qg,us.length=n+1->P us:=λus e=>by
 cases us with
 |nil=>exact absurd e (Nat.succ_ne_zero n).symm
 |cons a us=>exact h a us (Nat.succ.inj e)
def us_0{P:qg->Prop}(h:P []):∀us:qg,us.length=0->P us:=λus e=>by rw[List.eq_nil_of_length_eq_zero e];exact h
def gQ{P:qg->Prop}(h:∀a,P [a]):∀us:qg,us.length=1->P us:=Pc λa=>us_0 (P:=λus=>P (a::us)) (h a)
def Pe{P:qg->Prop}(h:∀a b,P [a,b]):∀us:qg,us.length=2->P us:=Pc λa=>gQ (P:=λus=>P (a::us)) (λb=>h a b)
def Pd{P:qg->Prop}(h:∀a b c,P [a,b,c]):∀us:qg,us.length=3->P us:=Pc λa=>Pe (P:=λus=>P (a::us)) (λb c=>h a b c)
def bh{P:qg->Prop}(h:∀a b c d,P [a,b,c,d]):∀us:qg,us.length=4->P us:=Pc λa=>Pd (P:=λus=>P (a::us)) (λb c d=>h a b c d)
def dU{P:qg->Prop}(h:∀a b c d e,P [a,b,c,d,e]):∀us:qg,us.length=5->P us:=Pc λa=>bh (P:=λus=>P (a::us)) (λb c d e=>h a b c d e)
def us_6{P:qg->Prop}(h:∀a b c d e f,P [a,b,c,d,e,f]):∀us:qg,us.length=6->P us:=Pc λa=>dU (P:=λus=>P (a::us)) (λb c d e f=>h a b c d e f)
inductive Ex2{α0 α1:Type}(P:α0->α1->Prop):Prop
 |mk:∀x0 x1,P x0 x1->Ex2 P
inductive Ex3{α0 α1 α2:Type}(P:α0->α1->α2->Prop):Prop
 |mk:∀x0 x1 x2,P x0 x1 x2->Ex3 P
inductive Ex5{α0 α1 α2 α3 α4:Type}(P:α0->α1->α2->α3->α4->Prop):Prop
 |mk:∀x0 x1 x2 x3 x4,P x0 x1 x2 x3 x4->Ex5 P
inductive gK(p0 p1 p2 p3 p4 p5 p6:Prop):Prop
 |mk:p0->p1->p2->p3->p4->p5->p6->gK p0 p1 p2 p3 p4 p5 p6
inductive iP(p0 p1 p2 p3 p4 p5 p6 p7:Prop):Prop
 |mk:p0->p1->p2->p3->p4->p5->p6->p7->iP p0 p1 p2 p3 p4 p5 p6 p7
inductive gJ(p0 p1 p2 p3 p4 p5 p6 p7 p8:Prop):Prop
 |mk:p0->p1->p2->p3->p4->p5->p6->p7->p8->gJ p0 p1 p2 p3 p4 p5 p6 p7 p8
variable {X:Cx}{pos:Pos}{e:Expr}{es:qa Expr}{te:TE}
def D0{α:Type}{xs:qa α}{i:Int}(h0:0<=i)(b:i<(xs.length:Int)):∃v,mv xs i=some v/\v∈xs/\xs[i.toNat]?=some v:=by
 have a:i.toNat<xs.length:=by omega
 refine⟨xs[i.toNat],?_,jj a,qA a⟩;have e:((i.toNat:Nat):Int)=i:=by omega
 have q:=QB (xs:=xs) (j:=i.toNat) (qA a);rw[e] at q;exact q
def cQ{α:Type}{xs:qa α}(i:Int)(h:0<xs.length):∃v,mv xs (i%(xs.length:Int))=some v/\v∈xs/\xs[(i%(xs.length:Int)).toNat]?=some v:=
 D0 (zt _ (by omega)) (zl _ (by omega))
def Qj.zi{H:Hp}{p:qc}{o:HO}(h:H p=none):Qj H (upd H p o):=λb u e=>by rw[Qa (Qb e h)];exact e
def Qj.z6{H H':Hp}{p:qc}{o:HO}(s:Qj H H')(h:H p=none):Qj H (upd H' p o):=λb u e=>by rw[Qa (Qb e h)];exact s b u e
def C7{x:qb}{v:V}(hg:Gl X x)(h:∃u,X.mg x=some u/\QO v u)(hd:(x==("__debug__":qb))=false:=by decide):PE X (.Name x pos) (tC v):=by
 obtain⟨u,hm,r⟩:=h;exact bR hg hm r hd
def LF(K:Frag)(a:X.K=K:=by rfl):IxR X (h7 K):=a▸QT
def Uj(K:Frag)(a:X.K=K:=by rfl):IxR X (h5 K):=a▸QR
def MH(K:Frag)(a:X.K=K:=by rfl):uz X (compareOp .In) (rIn K false):=a▸Pw
def D8(K:Frag)(a:X.K=K:=by rfl):uz X (compareOp .NotIn) (rIn K true):=a▸XB
section
variable {X:Cx}{o e:Expr}{es:qa Expr}{to:TE}{t:TA}{name:qb}{apos cpos:Pos}{T id:String}{r:V->qa V->Hp->VK->Prop}
def bS(K:Frag)(d:PlainAttrs T)(slot:Slot T name id)(c:typeOf (.builtin id)=pure (.type "method_descriptor"))(hm:MtR X id r)(e:PE X o to)(f:X.K=K:=by rfl)
 (a:attributeBase o name X.env (eval o X.env)=eval o X.env:=by rfl) (b:(apos.endLine==cpos.line)=true:=by rfl):PE X (.Call (.Attribute o name apos) [] [] cpos) (hJ K T r to):=
 f▸C8 d slot c hm e a b
end
def MD:Expr->Bool
 |.Starred ..=>false
 |_=>true
def CF{env:Env}(h:MD e=true):starEach (e::es) env=(false,eval e env)::starEach es env:=by
 cases e<;>first|rfl|(cases h)
def zg{t:TA}(a:PE X e te)(b:PA X es t)(h:MD e=true:=by rfl):PA X (e::es) (R5 te t):=Ov a b (CF h)
structure PAs(X:Cx)(es:qa Expr)(t:TA):Prop where
 h:PA X es t
def Qu :PAs X [] bu:=⟨Qe⟩
def Qh{t:TA}(a:PE X e te)(b:PAs X es t)(h:MD e=true:=by rfl):PAs X (e::es) (R5 te t):=⟨zg a b.h h⟩
def KN{t:TA}(h:PAs X es t):PE X (.List es pos) (g4 t):=fA h.h
def Af{t:TA}{a:Nat}(h:PAs X es t):PE X (.Tuple es a pos) (gW t):=fy h.h
def LV{x:qb}{fr:qa (Nat×qb)}{σ:St}{H1:Hp}{Q:VK}(f:Nat->V)(hz:x.cps.size<=sizeLine)
 (d:∀(c:Nat)(g:Hp)(Q':VK),c∈x.cps.toList->Q' (f c) g->te (some (.str ⟨#[c]⟩)::oS σ fr) g Q')
 (j:∀D,H1 D=none->Q (.ref D) (upd H1 D (.lst (x.cps.toList.map f)))) :
 Yr (Its x) fr Ew te σ H1 Q:=by
 unfold Yr;intro D k;refine⟨λi m ys h=>m=x.cps.size-i/\i<=x.cps.size/\ys=(x.cps.toList.take i).map f/\h=upd H1 D (.lst ys),⟨x.cps.size,by simp,q0 _,by simp,U⟩,?_⟩;rintro i m ys h ⟨rfl,l,rfl,rfl⟩;refine⟨Qc,?_⟩;by_cases a:i<x.cps.size
 .refine .inr ⟨a,?_⟩;rintro v g ⟨rfl,c,hc,rfl⟩;refine GJ (Ya ?_);have b:x.cps.toList[i]?=some c:=by simpa using hc
  refine d c _ _ (qL b) ⟨Qc,?_,x.cps.size-(i+1),by omega,U,a,?_,Kz⟩
  .rw[qh,zb];simp only[zf];omega
  .rw[zo,b];simp
 .have e:i=x.cps.size:=by omega
  subst e;have b:x.cps.toList.take x.cps.size=x.cps.toList:=zh (by simp);refine .inl ⟨U,?_⟩;rw[b];exact j D k
def CD{α:Type}(g:α->Nat):∀(l:qa α),(∀x∈l,g x=1)->(l.map g).sum=l.length
 |[],_=>rfl
 |a::r,h=>by
  rw[qU,List.sum_cons,h a qz,CD g r λx b=>h x (qF _ b),qV];omega
def O5(x y:qb):(x++y).length=x.length+y.length:=by
 show(x.cps++y.cps).size=_;rw[Array.size_append];rfl
def Hk(c:Nat):(⟨#[c]⟩:qb).length=1:=rfl
variable {x:qb}{X:Cx}
def ud(x:qb):Prop:=∀c∈x.cps.toList,c<128
def ud.ok(h:ud x):PyData.strOk x=true:=by
 unfold PyData.strOk;rw[Array.all_eq_true'];intro c hc;have:=h c (Array.mem_toList_iff.mpr hc);exact qt (by omega)
def ud.app{y:qb}(a:ud x)(b:ud y):ud (x++y):=λc hc=>by
 have e:(x++y).cps.toList=x.cps.toList++y.cps.toList:=by show(x.cps++y.cps).toList=_;simp
 rw[e] at hc;rcases qr.mp hc with z|z
 .exact a c z
 .exact b c z
def ud.one{c:Nat}(h:ud x)(hc:c∈x.cps.toList):ud ⟨#[c]⟩:=λd hd=>by
 have:d=c:=by simpa using hd
 rw[this];exact h c hc
inductive IL(x:V)(xs:qa V)(H:Hp)(Q:VK):Prop
 |mk:∀y,x=.str y->xs=[]->ud y->y.length<=1000000->Q (.str ⟨y.cps.map up1⟩) H->IL x xs H Q
def fb:V->qa V->Hp->VK->Prop:=λx xs H Q=>IL x xs H Q
def TX :MtR X "str.upper" fb:=by
 intro pins s σ H x xs v us Q I a b h;obtain⟨y,rfl,rfl,c,hz,q⟩:=h;obtain⟨t,rfl⟩:=a;cases b;refine SCL.upper (by omega) λ_=>?_;rw[upper_ascii c];exact⟨.str _,H,I.tok _,⟨_,U⟩,q⟩
inductive IP(x:V)(xs:qa V)(H:Hp)(Q:VK):Prop
 |mk:∀y,x=.str y->xs=[]->ud y->y.length<=1000000->Q (.str ⟨y.cps.map lo1⟩) H->IP x xs H Q
def fe:V->qa V->Hp->VK->Prop:=λx xs H Q=>IP x xs H Q
def Lm :MtR X "str.lower" fe:=by
 intro pins s σ H x xs v us Q I a b h;obtain⟨y,rfl,rfl,c,hz,q⟩:=h;obtain⟨t,rfl⟩:=a;cases b;refine SCL.lower (by omega) λ_=>?_;rw[lower_ascii c];exact⟨.str _,H,I.tok _,⟨_,U⟩,q⟩
def dY{c:Nat}(h:c<128):up1 c<128:=by unfold up1;split<;>omega
def ud.upper(h:ud x):ud ⟨x.cps.map up1⟩:=λc hc=>by
 have:c∈x.cps.toList.map up1:=by simpa using hc
 obtain⟨d,hd,rfl⟩:=qj.mp this;exact dY (h d hd)
def XW:∀{xs:qa V}{us:qg},xs.length=us.length->(∀(j:Nat)(x:V)(u:qd),xs[j]?=some x->us[j]?=some u->QO x u)->QK xs us
 |[],[],_,_=>.nil
 |[],_::_,h,_=>by cases h
 |_::_,[],h,_=>by cases h
 |x::xs,u::us,a,hg=>.cons (hg 0 x u rfl rfl) (XW (by simpa using a) λj y w b c=>hg (j+1) y w (by simpa using b) (by simpa using c))
def KV.at{b:Type}:∀{a:qa (b×V)}{vs:qa (b×qd)}{j:Nat}{p:b×V}{q:b×qd},KV a vs->a[j]?=some p->vs[j]?=some q->p.1=q.1
 |_,_,_,_,_,.nil,h,_=>by simp at h
 |_,_,0,_,_,.cons r _,c,d=>by
  simp only[List.getElem?_cons_zero,Option.some.injEq] at c d;subst c d;exact r.1
 |_,_,j+1,_,_,.cons _ t,c,d=>KV.at (j:=j) (show KV _ _ from t) (by simpa using c) (by simpa using d)
def Ku(hc:X.calm=true):V0 X (.type "list") (λxs H Q=>∃p a,xs=[.ref p]/\H p=some (.dK a)/\∀l,H l=none->Q (.ref l) (upd H l (.lst (a.map λd=>kV d.1)))):=by
 intro pins s σ H xs us Q I r h;obtain⟨p,a,rfl,n,q⟩:=h;obtain⟨u,rfl,v⟩:=V2 r;cases v;obtain⟨hz,f,vs,m,o,es,w,A,B,C,D,E,F⟩:=DV I.hok n;have G:s.heap.DictAt (Q9 X.prog X.w) p vs w:=⟨o,es,A,B,C,D,E,F⟩;have hlen:a.length=vs.length:=KV.length m;refine PySem.W.kdl_call (kdl_dict f) (I.ok.hd hc) G (by rw[<-hlen];exact hz) λh' J b K L hS c=>?_;have M:QK (a.map λd=>kV d.1) b.toList:=by
  refine XW (by rw[qh,hlen];exact c.1.symm.trans (by simp)) λj x u e N=>?_;rw[qQ] at e
  cases g:a[j]? with
  |none=>rw[g] at e;cases e
  |some d=>
   rw[g] at e;cases e;obtain⟨k,y,O,P⟩:=c.2 j u (by rw[<-zq];exact N);have R:d.1=k:=KV.at m g O;show QO (kV d.1) u;rw[R];rcases Yn (show Al k u=true from P) with⟨i,t,rfl,rfl⟩|⟨z,t,rfl,rfl⟩
   .exact⟨t,U⟩
   .exact⟨t,U⟩
 exact⟨.ref s.heap.objs.size,_,I.laid (t':=J) L (qB _) (show QY X.prog X.w _ h' _ (.lst _) from⟨by rw[qh];exact hz,b.toList,K,M,by rw[vo];exact hS⟩),U,q _ (I.hok.fresh (qB _))⟩
def Vb:∀l:qa (qb×Tok),QK ((l.map (·.1)).map V.str) (strValues l)
 |[]=>.nil
 |p::r=>.cons ⟨p.2,U⟩ (Vb r)
inductive EN(x:V)(xs:qa V)(H:Hp)(Q:VK):Prop
 |mk:∀y,x=.str y->xs=[]->y.length<=1000000->(∀l,H l=none->Q (.ref l) (upd H l (.lst ((Txt.words y).map V.str))))->EN x xs H Q
def bM:V->qa V->Hp->VK->Prop:=λx xs H Q=>EN x xs H Q
variable {xs ys:qe}{z:qb}
def Ad{K:Frag}{H:Hp}:∀xs:qe,RDs K H (xs.map V.str) (xs.map PyData.str)
 |[]=>.nil
 |x::r=>.cons (.str x) (Ad r)
def Uz{K:Frag}{H:Hp}{a:qc}(h:zQ K H a (xs.map V.str)):RD K H (.ref a) (.list (xs.map PyData.str)):=.lst h (Ad xs)
def DC:∀{xs:qe},(∀x∈xs,ud x)->PyData.canLayAll0 (xs.map PyData.str)=true/\PyData.depthAll (xs.map PyData.str)=0
 |[],_=>⟨U,U⟩
 |x::r,h=>by
  have q:=DC (xs:=r) λy a=>h y (qF _ a);have e:=(h x qz).ok;simp only[qU,PyData.canLayAll0,PyData.canLay0,PyData.depthAll,PyData.depth,q.1,q.2,e];exact⟨U,U⟩
def YV(h:∀x∈xs,ud x):SeqAt.shaped (.list (xs.map PyData.str))=true:=by
 have q:=DC h;unfold SeqAt.shaped;simp only[PyData.canLay0,PyData.depth,q.1,q.2];rfl
def BN:∀xs ys:qe,PyData.eqvAll (xs.map PyData.str) (ys.map PyData.str)=decide (xs=ys)
 |[],[]=>by simp[PyData.eqvAll]
 |[],_::_=>by simp[PyData.eqvAll]
 |_::_,[]=>by simp[PyData.eqvAll]
 |x::r,y::t=>by
  simp only[qU,PyData.eqvAll,PyData.eqv,BN r t];by_cases h:x=y<;>by_cases h':r=t<;>simp[h,h']
def LQ(xs ys:qe):PyData.eqv (.list (xs.map PyData.str)) (.list (ys.map PyData.str))=decide (xs=ys):=by
 simp only[PyData.eqv];exact BN xs ys
def YR(acc:qe)(t:qb):qe:=if t∈acc then acc else acc++[t]
def WZ(xs:qe):qe:=xs.foldl YR []
def ET(xs:qe)(t:qb):WZ (xs++[t])=YR (WZ xs) t:=by
 unfold WZ;rw[jB];rfl
def Gg:∀(xs acc:qe),(xs.foldl YR acc).length<=acc.length+xs.length
 |[],acc=>qB _
 |t::r,acc=>by
  rw[zy];refine zm (Gg r _) ?_;unfold YR;split
  .rw[qV];omega
  .rw[qx,qO,qV];omega
def S8(xs:qe):(WZ xs).length<=xs.length:=by
 have:=Gg xs [];rw[jZ,Nat.zero_add] at this;exact this
def Gf:∀(xs acc:qe){t:qb},t∈xs.foldl YR acc->t∈acc\/t∈xs
 |[],acc,t,h=>.inl h
 |u::r,acc,t,h=>by
  rw[zy] at h;rcases Gf r _ h with z|z
  .unfold YR at z;split at z
   .exact .inl z
   .rcases qr.mp z with y|y
    .exact .inl y
    .exact .inr (by rw[qk.mp y];exact qz)
  .exact .inr (qF _ z)
def I0{t:qb}(h:t∈WZ xs):t∈xs:=by
 rcases Gf xs [] h with z|z
 .exact nomatch z
 .exact z
def Fe{a:qa (Key×V)}{k:Key}{v:V}:(k∈a.map (·.1)->(Yc a k v).map (·.1)=a.map (·.1))/\(¬k∈a.map (·.1)->(Yc a k v).map (·.1)=a.map (·.1)++[k]):=by
 cases e:Qx a k with
 |none=>
  refine⟨λh=>absurd h (RQ e),λ_=>?_⟩;rw[Ke v e,qI];rfl
 |some u=>
  refine⟨λ_=>?_,λh=>absurd (Nv e) h⟩;unfold Yc;have q:(a.any λb=>decide (b.1=k))=true:=by rw[UK,e];rfl
  rw[qG q,qT];refine jU λp _=>?_;show(if p.1=k then (p.1,v) else p).1=p.1;split<;>rfl
def Ao{t:qb}:inV (.str t) (xs.map V.str)=decide (t∈xs):=by
 unfold inV;rw[List.any_map,v3,uN,decide_eq_true_eq];constructor
 .rintro⟨x,a,e⟩;have:x=t:=eq_of_beq (show(x==t)=true from e);rw[<-this];exact a
 .intro h;exact⟨t,h,show(t==t)=true from yu t⟩
def KZ(xs:qe):(xs.map V.str).all Gk=true:=by
 rw[List.all_map,jd];intro x _;rfl
abbrev aZ:qb:="abcdefghijklmnopqrstuvwxyz0123456789"
def gA:ud aZ:=by
 have h:(aZ.cps.toList.all λc=>decide (c<128))=true:=by decide +kernel
 intro c hc;exact ql (jd.mp h c hc)
structure UE(x:qb):Prop where
 lo:1<=x.length
 hi:x.length<=20
 in_:∀c∈x.cps.toList,c∈aZ.cps.toList
def UE.asc{x:qb}(h:UE x):ud x:=λc hc=>gA c (h.in_ c hc)
def OI(ys:qe):(Txt.join "" ys).cps.toList=(ys.map (·.cps.toList)).flatten:=by
 have key:∀(r:qe)(acc:Array Nat),(r.foldl (λacc p=>acc++("":qb).cps++p.cps) acc).toList=acc.toList++(r.map (·.cps.toList)).flatten:=by
  intro r
  induction r with
  |nil=>intro acc;simp
  |cons y r a=>
   intro acc;rw[zy,a,qU,j9];have e:("":qb).cps=#[]:=by decide +kernel
   rw[e];simp
 cases ys with
 |nil=>rfl
 |cons y r=>exact(key r y.cps).trans (by rw[qU,j9])
def VU(x:qb):x.length=x.cps.toList.length:=by simp[Str.length]
def Bp(h:∀y∈ys,y.length=1):(Txt.join "" ys).length=ys.length:=by
 rw[VU,OI,List.length_flatten,qT];exact CD _ _ λy a=>by
  have:=h y a;rw[VU] at this;exact this
def Yk(x y:qb):(x++y).cps.toList=x.cps.toList++y.cps.toList:=by show(x.cps++y.cps).toList=_;simp
def Fp:("":qb).length=0:=by decide +kernel
def O8(z y:qb):Prop:=∃c,c∈z.cps.toList/\y=⟨#[c]⟩
def O8.len{y:qb}(h:O8 z y):y.length=1:=by obtain⟨c,_,rfl⟩:=h;rfl
def M4(h:∀y∈ys,O8 z y):(Txt.join "" ys).length=ys.length/\∀c∈(Txt.join "" ys).cps.toList,c∈z.cps.toList:=by
 refine⟨Bp λy a=>(h y a).len,λc hc=>?_⟩;rw[OI] at hc;obtain⟨l,e,b⟩:=List.mem_flatten.mp hc;obtain⟨y,a,rfl⟩:=qj.mp e;obtain⟨d,hd,rfl⟩:=h y a;have:c=d:=by simpa using b
 rw[this];exact hd
def DD(h:∀y∈ys,y.length=1)(a:ys.length<=100000):(ys.map (·.length)).sum+ys.length*("":qb).length<=16777216:=by
 rw[CD _ _ h,Fp];omega
def Pu{i:Int}(h0:0<=i)(d:i<(z.cps.toList.length:Int)):∃c,mv z.cps.toList i=some c/\c∈z.cps.toList:=by
 obtain⟨c,a,b,_⟩:=D0 h0 d;exact⟨c,a,b⟩
def iL:1000002<=sizeLine:=by decide
def P6{X:Cx}:MtR X "str.split" bM:=by
 intro pins s σ H x xs v us Q I d e h;obtain⟨y,rfl,rfl,hz,q⟩:=h;obtain⟨t,rfl⟩:=d;cases e;have i:=iL;have j:=(StrLaws.sw_weight y).1;have k:=StrLaws.len_le_wsum (Builtin.Str.spaceWords y (y.length+1));have c:(Builtin.Str.spaceWords y (y.length+1)).length<=sizeLine:=by omega
 have f:(Builtin.Str.spaceWords y (y.length+1)).length<=y.length+1:=by omega
 refine vU Qaf (pz _ _ _) sv (F.args_str_split_1 _) (meets_str_split_space y t (by omega) c) ?_;cases hw:Builtin.Str.spaceWords y (y.length+1)==[(0,y.length)]
 .simp only[zE,yE];rw[strsFrom_eq];have a:(numbered s.toks (wordsOf y)).map (·.1)=Txt.words y:=(numbered_texts _ _).trans (qC (lJ hw)).symm;have g:(Txt.words y).length<=sizeLine:=by
   rw[<-a,numbered_texts];show(List.map _ _).length<=_;rw[qh];exact c
  have b:=Vb (numbered s.toks (wordsOf y));rw[a] at b;exact⟨.ref s.heap.objs.size,_,I.QbU b (by rw[qh];exact g),U,q _ I.fresh⟩
 .simp only[vy];have a:([(y,t)]:qa (qb×Tok)).map (·.1)=Txt.words y:=(qG hw).symm;have b:=Vb [(y,t)];rw[a] at b;exact⟨.ref s.heap.objs.size,_,I.QbU (t':=s.toks) b (by rw[qh,<-a];show 1<=sizeLine;decide),U,q _ I.fresh⟩
abbrev rS:qb:="abcdefghijklmnopqrstuvwxyzABCDEFGHIJKLMNOPQRSTUVWXYZ0123456789"
def AR(c:Nat):Bool:=decide (c∈rS.cps.toList)
def gS(c:Nat):Nat:=if AR c=true then lo1 c else 32
def IF:(rS.cps.toList.all λc=>!Unicode.isSpace (lo1 c))=true:=by decide +kernel
def L8:Unicode.isSpace 32=true:=by decide +kernel
def wJ(st:qe×qb)(c:Nat):qe×qb:=if AR c=true then (st.1,st.2++⟨#[lo1 c]⟩) else (st.1++[st.2],Str.empty)
def wK(l:qa Nat):qe×qb:=l.foldl wJ ([],Str.empty)
def B9(w:qb):Bool:=!(w==Str.empty)
def v8(x:qb):qe:=((wK x.cps.toList).1++[(wK x.cps.toList).2]).filter B9
def KU(w:qb):(w.length=0)↔w=Str.empty:=⟨KWd.len0,λh=>by rw[h];rfl⟩
def IA:∀(l:qa Nat)(st q:qe×qb),q.2=st.2->q.1=st.1.filter B9->((l.map gS).foldl KWd.step q).2=(l.foldl wJ st).2/\((l.map gS).foldl KWd.step q).1=(l.foldl wJ st).1.filter B9
 |[],st,q,a,b=>⟨a,b⟩
 |c::l,st,q,a,b=>by
  rw[qU,zy,zy];refine IA l _ _ ?_ ?_
  all_goals
   unfold KWd.step wJ gS;cases d:AR c
   .simp only[zE,yE,L8,vy];by_cases he:q.2.length=0
    .rw[qG he];have e:=(KU _).mp he
     first
     |exact e
     |(rw[b,q9,<-a,e];simp[B9])
    .have e:B9 q.2=true:=by
      unfold B9;rw[oP,jS];exact λz=>he ((KU _).mpr z)
     first
     |(rw[qC he];done)
     |(rw[qC he,b,q9,<-a];simp[e])
   .have f:Unicode.isSpace (lo1 c)=false:=by
     have:=jd.mp IF c (ql d);simpa using this
    simp only[vy,f,zE,yE]
    first
    |exact b
    |rw[a]
def Pa{x y:qb}(h:y.cps.toList=x.cps.toList.map gS):Txt.words y=v8 x:=by
 rw[KWd.words_scan];have q:=IA x.cps.toList ([],Str.empty) ([],Str.empty) rfl rfl;unfold KWd.fin KWd.scan v8 wK;rw[h,q9,q.1,q.2];by_cases he:(List.foldl wJ ([],Str.empty) x.cps.toList).2.length=0
 .rw[qG he];have e:=(KU _).mp he;rw[e];simp[B9]
 .rw[qC he];have e:B9 (List.foldl wJ ([],Str.empty) x.cps.toList).2=true:=by
   unfold B9;rw[oP,jS];exact λz=>he ((KU _).mpr z)
  rw[qM,e];simp
structure AA(K:Frag)(x qual:qb)(st:Stmt)(f:qc)(fd:FuncData):Prop where
 ex:∃(oc:qd)(od:Option qc)(dV kV doc pm:qd)(an:Option qc)(cdv ct:qd)(osl:Array (Option qd)),
  fd=fnOf x qual (Y3 st) (YE st) (Qg st) dV kV doc pm an cdv ct/\K.lookup f=some ⟨oc,od,.func fd,osl⟩/\codeIn K cdv qual=true
 kp:keepIn K (.ref f)=true
def AA.ok{P:Program}{w:World}{K:Frag}{mg:qb->Option qd}{base:Heap}{x qual:qb}{st:Stmt}{f:qc}{fd:FuncData}{N ps:qe}{k:Nat}{sp:Sp}(F:AA K x qual st f fd)(S:Qn N ps (Qg st))
 (b:∀(a:qd)(A:Around)(outer:qa Env)(s:Shared)(H:Hp)(vs:qa V)(Q:VK)(E:XK),QG k (A.deeper (envOfC qual (Qg st) s.heap.objs.size f a))->sp vs H Q E ->
   ∃t,PSs (HF j6 P w K mg base N qual (Qg st) f a A outer s H E).nox (YE st) t/\t {nx:=λ_ H'=>Q .non H',rt:=Q} (start N vs) H) (len:∀vs H Q E,sp vs H Q E->vs.length=ps.length:=by intro _ _ _ _ h;cases h;subst_vars;rfl):AB P w K mg base j6 (k+1) f fd ps sp:=by
 obtain⟨j,l,m,kV,doc,pm,an,a,ct,e,rfl,g,c⟩:=F.ex;refine dI g c S len λA outer s H vs Q E i d=>?_;obtain⟨t,h,q⟩:=b a A outer s H vs Q E i d;exact⟨t,h.nox,q⟩
def cF{K:Frag}{x qual:qb}{st:Stmt}{f:qc}{e d:qd}{g an:Option qc}{b:Array (Option qd)}{kV doc pm a ct:qd}(l:K.lookup f=some ⟨e,g,.func (fnOf x qual (Y3 st) (YE st) (Qg st) d kV doc pm an a ct),b⟩)
 (c:codeIn K a qual=true) (k:keepIn K (.ref f)=true):AA K x qual st f (fnOf x qual (Y3 st) (YE st) (Qg st) d kV doc pm an a ct):=⟨⟨e,g,d,kV,doc,pm,an,a,ct,b,U,l,c⟩,k⟩
def Wg{K:Frag}{H:Hp}{x y:V}{d:PyData}{Q:VK}(a:RD K H x d)(b:RD K H y d)(h:SeqAt.shaped d=true)(q:Q (.bl false) H):hY K x y H Q:=
 ⟨d,d,a,b,h,h,by rw[SeqAt.eqv_refl d (SeqAt.canLay_of_shaped h)];exact q⟩
def cK{K:Frag}{H:Hp}{x y:V}{d:PyData}{Q:VK}(a:RD K H x d)(b:RD K H y d)(h:SeqAt.shaped d=true)(q:Q (.bl true) H):ia K x y H Q:=
 ⟨d,d,a,b,h,h,by rw[SeqAt.eqv_refl d (SeqAt.canLay_of_shaped h)];exact q⟩
def Nr:∀(l:qa Nat)(p:qe)(st:qe×qb),l.foldl wJ (p++st.1,st.2)=(p++(l.foldl wJ st).1,(l.foldl wJ st).2)
 |[],_,_=>rfl
 |c::l,p,st=>by
  rw[zy,zy];have e:wJ (p++st.1,st.2) c=(p++(wJ st c).1,(wJ st c).2):=by
   unfold wJ;split
   .rfl
   .rw[jk]
  rw[e,Nr l p (wJ st c)]
open Builtin.Str in
def cC(a b n:Nat):strSliceIndices (some (a:Int)) (some (b:Int)) 1 n=(List.range (min b n-min a n)).map (λk=>min a n+k):=by
 have d:¬((a:Int)<0):=by omega
 have e:¬((b:Int)<0):=by omega
 have f:max (0:Int) (min (a:Int) (n:Int))=((min a n:Nat):Int):=by omega
 have g:max (0:Int) (min (b:Int) (n:Int))=((min b n:Nat):Int):=by omega
 simp only[strSliceIndices,sliceRange,d,e,yE,f,g,show((1:Int) > 0)=True from by simp,vy];by_cases c:((min a n:Nat):Int)<((min b n:Nat):Int)
 .have h:((((min b n:Nat):Int)-((min a n:Nat):Int)+1-1) / 1).toNat=min b n-min a n:=by first|omega|(simp;done)|(simp;omega)
  simp only[c,vy,h];refine jU λk _=>?_;omega
 .have:min b n-min a n=0:=by omega
  simp[c,this]
open Builtin.Str in
def M9(u:Option Int)(n:Nat):strSliceIndices none u 1 n=strSliceIndices (some ((0:Nat):Int)) u 1 n:=by
 have a:max (0:Int) (min (((0:Nat):Int)) (n:Int))=0:=by omega
 simp only[strSliceIndices,show ¬((((0:Nat):Int))<0) from by omega,yE,a,show((1:Int) > 0)=True from by simp,vy]
open Builtin.Str in
def M8(l:Option Int)(n:Nat):strSliceIndices l none 1 n=strSliceIndices l (some (n:Int)) 1 n:=by
 have a:max (0:Int) (min (n:Int) (n:Int))=n:=by omega
 simp only[strSliceIndices,show ¬((n:Int)<0) from by omega,yE,a,show((1:Int) > 0)=True from by simp,vy]
def CM(x:qb)(a b:Nat):(Txt.slice x (some (a:Int)) (some (b:Int))).cps.toList=(x.cps.toList.drop a).take (b-a):=by
 have g:=VU x;unfold Txt.slice;rw[cC,qh,jP];have f:=StrLaws.picks x.cps.toList (min b x.length-min a x.length) (min a x.length) (by omega);have key:((List.range (min b x.length-min a x.length)).map (λk=>min a x.length+k)).filterMap (x.cps[·]?)=(x.cps.toList.drop a).take (b-a):=by
  have e:(λi:Nat=>x.cps[i]?)=(λi:Nat=>x.cps.toList[i]?):=by funext i;simp
  rw[e,f];by_cases h:a<=x.length
  .rw[v5 (show a<=x.length from h)];by_cases c:b<=x.length
   .rw[v5 (show b<=x.length from c)]
   .rw[Nat.min_eq_right (show x.length<=b by omega),zh (by rw[yt];omega),zh (by rw[yt];omega)]
  .rw[Nat.min_eq_right (show x.length<=a by omega),List.drop_of_length_le (by omega),List.drop_of_length_le (by omega),List.take_nil,List.take_nil]
 split
 .rename_i h
  have h':min b x.length-min a x.length=x.length:=by
   have:=(zZ.mp h).2;exact mz.mp this
  rw[<-key,h'];have c:x.length=0\/min a x.length=0:=by omega
  rcases c with c|c
  .have:x.cps.toList=[]:=List.eq_nil_of_length_eq_zero (by omega);rw[this,c];rfl
  .have e:(λi:Nat=>x.cps[i]?)=(λi:Nat=>x.cps.toList[i]?):=by funext i;simp
   rw[e];have d:=StrLaws.picks x.cps.toList x.length 0 (by omega);rw[c,d,Qag,zh (by omega)]
 .rw[key]
def CL(x:qb)(b:Nat):(Txt.slice x none (some (b:Int))).cps.toList=x.cps.toList.take b:=by
 have e:Txt.slice x none (some (b:Int))=Txt.slice x (some ((0:Nat):Int)) (some (b:Int)):=by unfold Txt.slice;rw[M9]
 rw[e,CM,Qag,Nat.sub_zero]
def CN(x:qb)(a:Nat):(Txt.slice x (some (a:Int)) none).cps.toList=x.cps.toList.drop a:=by
 have e:Txt.slice x (some (a:Int)) none=Txt.slice x (some (a:Int)) (some (x.length:Int)):=by unfold Txt.slice;rw[M8]
 rw[e,CM,zh (by rw[yt,<-VU];omega)]
def GK{x y:qb}(h:x.cps.toList=y.cps.toList):x=y:=by
 cases x;cases y;have:=Array.toList_inj.mp h;simp only at this;rw[this]
def RB(x:qb)(b:Nat):(Txt.slice x none (some (b:Int))).length<=b:=by
 rw[VU,CL,zb];omega
inductive EM(x:V)(xs:qa V)(H:Hp)(Q:VK):Prop
 |mk:∀(z y:qb),x=.str z->xs=[.str y]->(y.length==0)=false->z.length<=1000000->(∀l,H l=none->Q (.ref l) (upd H l (.lst ((Txt.split z y).map V.str))))->EM x xs H Q
def bL:V->qa V->Hp->VK->Prop:=λx xs H Q=>EM x xs H Q
def S2(x y:qb):(Builtin.Str.partsBetween x (Builtin.Str.occurrences x y 0 x.length (x.length+1)) y.length).length<=x.length+2:=by
 rw[StrLaws.partsBetween_eq];have h:=StrLaws.occ_length_le_len x y 0 x.length (x.length+1);have e:∀(b:qa Nat)(w a:Nat),(StrLaws.partsFrom x w a b).length<=b.length+1:=by
  intro b
  induction b with
  |nil=>intro w a;simp[StrLaws.partsFrom]
  |cons c r d=>
   intro w a;have:=d w (c+w);simp only[StrLaws.partsFrom,qV];omega
 have:=e (Builtin.Str.occurrences x y 0 x.length (x.length+1)) y.length 0;omega
def P5{X:Cx}:MtR X "str.split" bL:=by
 intro pins s σ H x xs v us Q I c d h;obtain⟨x,y,rfl,rfl,b,hz,q⟩:=h;obtain⟨t,rfl⟩:=c;obtain⟨u,rfl,f⟩:=V2 d;obtain⟨t',rfl⟩:=f;have i:=iL;have j:=S2 x y;have g:=split_le x y;have fin:∀(l:qa (qb×Tok))(k:Nat),l.map (·.1)=Txt.split x y->EP X pins σ Q (.ref s.heap.objs.size) {s with toks:=k,heap:=s.heap.push {cls:=.type "list",data:=.seq (strValues l).toArray}}:=λl k e=>by
  have a:=Vb l;rw[e] at a;exact⟨.ref s.heap.objs.size,_,I.QbU (t':=k) a (by rw[qh];omega),U,q _ I.fresh⟩
 cases a:(decide (x.length<y.length)||decide (Builtin.Str.strKind x<Builtin.Str.strKind y))
 .cases hf:(Builtin.Str.occurrences x y 0 x.length (x.length+1)).isEmpty
  .refine vU Qaf (pz _ _ _) sv (F.args_str_split_2 _ _) (meets_str_split_sep x y t t' a b hf (by omega) (by omega)) ?_;show wants _ _ _ {s with toks:=_,heap:=s.heap.push {cls:=.type "list",data:=.seq (strsFrom s.toks (Builtin.Str.partsBetween x (Builtin.Str.occurrences x y 0 x.length (x.length+1)) y.length)).toArray}};rw[strsFrom_eq];exact fin (numbered s.toks _) _ ((numbered_texts _ _).trans ((qC (lJ a)).trans (qC (lJ hf))).symm)
  .exact vU Qaf (pz _ _ _) sv (F.args_str_split_2 _ _) (meets_str_split_not_found x y t t' a b hf) (fin [(x,t)] _ ((qC (lJ a)).trans (qG hf)).symm)
 .exact vU Qaf (pz _ _ _) sv (F.args_str_split_2 _ _) (meets_str_split_cannot_occur x y t t' a) (fin [(x,t)] _ (qG a).symm)
def aO{c:Nat}:∀{p q X Y:qa Nat},¬c∈p->¬c∈q->p++c::X=q++c::Y->p=q/\X=Y
 |[],[],_,_,_,_,h=>⟨U,(qD h).2⟩
 |[],b::q,_,_,_,d,h=>absurd (by rw[(qD h).1];exact qz) d
 |a::p,[],_,_,e,_,h=>absurd (by rw[<-(qD h).1];exact qz) e
 |a::p,b::q,X,Y,e,d,h=>by
  obtain⟨f,g⟩:=qD h;obtain⟨i,j⟩:=aO (λz=>e (qF _ z)) (λz=>d (qF _ z)) g;exact⟨by rw[f,i],j⟩
def leS(a b:qb):Bool:=!ltCps b.cps.toList a.cps.toList
def Rr(x:qb):qe->qe
 |[]=>[x]
 |y::r=>if leS x y=true then x::y::r else y::Rr x r
def Qz:qe->qe
 |[]=>[]
 |x::r=>Rr x (Qz r)
def Cm(a b:qb):leS a b=true↔¬b.cps.toList<a.cps.toList:=by
 unfold leS;rw[ltCps_eq];simp
def Rf(a b:qb):leS a b=true\/leS b a=true:=by
 rw[Cm,Cm];by_cases h:b.cps.toList<a.cps.toList
 .exact .inr (List.lt_asymm h)
 .exact .inl h
def Fb{a b c:qb}(d:leS a b=true)(e:leS b c=true):leS a c=true:=by
 rw[Cm] at *
 intro h;rcases strKind.negTrans c.cps.toList b.cps.toList a.cps.toList (by simpa using h) with z|z
 .exact e (by simpa using z)
 .exact d (by simpa using z)
def Hv{a b:qb}(c:leS a b=true)(d:leS b a=true):a=b:=by
 rw[Cm] at *
 exact GK (List.le_antisymm (List.not_lt.mp c) (List.not_lt.mp d))
abbrev Sor(l:qe):Prop:=l.Pairwise λa b=>leS a b=true
def C1:∀(p:qb)(l:qe),risingS p l=true->Sor (p::l)
 |p,[],_=>v7 _ _
 |p,x::r,h=>by
  have h:(leS p x&&risingS x r)=true:=h;rw[jc] at h;have b:=C1 x r h.2;refine jH.mpr ⟨λy a=>?_,b⟩;rcases qJ.mp a with rfl|a
  .exact h.1
  .exact Fb h.1 ((jH.mp b).1 y a)
def Ms:∀{l:qe},sortedS l=true->Sor l
 |[],_=>List.Pairwise.nil
 |x::r,h=>C1 x r h
def Kp(x:qb):∀l:qe,(Rr x l).Perm (x::l)
 |[]=>.refl _
 |y::r=>by
  unfold Rr;split
  .exact .refl _
  .exact((Kp x r).cons y).trans (.swap x y r)
def U1:∀l:qe,(Qz l).Perm l
 |[]=>.refl _
 |x::r=>(Kp x (Qz r)).trans ((U1 r).cons x)
def OK(x:qb):∀{l:qe},Sor l->Sor (Rr x l)
 |[],_=>v7 _ _
 |y::r,h=>by
  unfold Rr;obtain⟨b,c⟩:=jH.mp h;split
  .rename_i a
   refine jH.mpr ⟨λz hz=>?_,h⟩;rcases qJ.mp hz with rfl|hz
   .exact a
   .exact Fb a (b z hz)
  .rename_i a
   refine jH.mpr ⟨λz hz=>?_,OK x c⟩;rcases qJ.mp ((Kp x r).mem_iff.mp hz) with rfl|hz
   .exact(Rf y z).resolve_right a
   .exact b z hz
def AI:∀l:qe,Sor (Qz l)
 |[]=>.nil
 |x::r=>OK x (AI r)
def CK:∀{a b:qe},a.Perm b->Sor a->Sor b->a=b
 |[],b,p,_,_=>(List.nil_perm.mp p).symm
 |x::r,[],p,_,_=>absurd p.symm.nil_eq (by simp)
 |x::r,y::t,p,f,g=>by
  have e:x=y:=by
   have c:x∈y::t:=p.mem_iff.mp qz;have d:y∈x::r:=p.mem_iff.mpr qz;rcases qJ.mp c with e|c
   .exact e
   .rcases qJ.mp d with e|d
    .exact e.symm
    .exact Hv ((jH.mp f).1 y d) ((jH.mp g).1 x c)
  subst e;rw[CK (List.perm_cons _ |>.mp p) (jH.mp f).2 (jH.mp g).2]
def GL{a b:qe}(p:a.Perm b)(h:Sor a):a=Qz b:=CK (p.trans (U1 b).symm) h (AI b)
def YJ{a b:qe}(p:a.Perm b):Qz a=Qz b:=GL ((U1 a).trans p) (AI a)
def Uu(l:qe):(Qz l).length=l.length:=(U1 l).length_eq
def Yl{l:qe}{x:qb}:x∈Qz l↔x∈l:=(U1 l).mem_iff
def V4:∀{us:qg}{ss:qe},StrsAre us ss->QK (ss.map V.str) us
 |_,_,.nil=>.nil
 |_,_,.cons x t h=>.cons ⟨t,U⟩ (V4 h)
def VZ{X:Cx}:V0 X (.builtin "sorted") (λxs H Q=>∃p ss,xs=[.ref p]/\zQ X.K H p (ss.map V.str)/\ss.length<64/\∀l,H l=none->Q (.ref l) (upd H l (.lst ((Qz ss).map V.str)))):=by
 intro pins s σ H xs us Q I r h;obtain⟨p,ss,rfl,hS,j,q⟩:=h;obtain⟨u,rfl,f⟩:=V2 r;cases f;obtain⟨its,d,pl,_⟩:=I.list hS;have a:=Vu d;have hlen:its.length=ss.length:=by have:=d.length;rw[qh] at this;exact this.symm
 refine sorted_strs pl.isList a (by omega) λout c a1 a2 g=>?_;obtain⟨e,he⟩:=sortedAll_at s.heap its out;have es:c=Qz ss:=GL a2 (Ms g);subst es;have hsz:s.heap.objs.size<=s.heap.objs.size+1:=oO _;refine⟨.ref (s.heap.objs.size+1),_,I.laid (t':=s.toks) (λb u i=>sortedAll_old i) hsz (show QY X.prog X.w _ _ _ (.lst ((Qz ss).map V.str)) from⟨?_,out.toList,e,V4 a1,?_⟩),U,q _ (I.hok.fresh hsz)⟩
 .rw[qh,Uu];exact Q6 ((by omega))
 .rw[vo];exact he
def BR{prog:Program}{w:World}{A:Around}{E:qf}{s:Shared}{T:String}{r d:qc}{n:Nat}{P:Nat->qd->Prop}{j:Heap->Prop}{R:qg->Shared->Prop}
 (src:KdlSrc prog w T r d n P j) (calm:A.handled=none) (ok:j s.heap) (i:n<=sizeLine)
 (fin:∀(g:Heap)(k:Nat)(got:Array qd),(∀b o,s.heap.get? b=some o->g.get? b=some o)->s.heap.objs.size<g.objs.size->ItemsOf P got n->R got.toList {s with heap:=g,toks:=k}) :
 wpAny (model prog w) A (collect (.ref r)) R E s:=by
 obtain⟨l,ld⟩:=src.there _ ok
 let new:Obj:={cls:=.type "list",data:=.seq ([]:qg).toArray}
 have there:(s.heap.push new).get? s.heap.objs.size=some new:=qK _ rfl;have a:=src.keep _ _ ok (λb _ o e=>qw (h:=s.heap) new e);have walked:=PySem.W.kdl_extend (A:=A) (s:={s with heap:=s.heap.push new})
  (R:=λq t=>∃(g:Heap)(k:Nat)(got:Array qd)(c:Nat),q=Except.ok (Flow.ret (.ref s.heap.objs.size))/\t={s with heap:=g,toks:=k}/\(∀b o,s.heap.get? b=some o->g.get? b=some o) /\
    g.get? s.heap.objs.size=some {cls:=.type "list",dict:=none,data:=.seq got c,slots:=#[]}/\ItemsOf P got n)
  src calm a s.heap.objs.size (rG l) (rG ld) (.ref s.heap.objs.size) 0 there
  (λg k got c keep at' all=>⟨g,k,got,c,U,U,λb o e=>keep b o (za (qR e)) (qw _ e),at',all⟩) i
 have done:∀(g:Heap)(k:Nat)(got:Array qd)(c:Nat),(∀b o,s.heap.get? b=some o->g.get? b=some o)->g.get? s.heap.objs.size=some {cls:=.type "list",dict:=none,data:=.seq got c,slots:=#[]}->ItemsOf P got n ->
  wpAny (model prog w) A (do match (<-load s.heap.objs.size).data with
   |.seq xs _=>pure xs.toList
   |_=>unsupported "internal:collect") R E {s with heap:=g,toks:=k}:=λg k got c keep at' all=>
  qi (wpAny_load at' (qu (fin g k got keep (qR at') all)))
 unfold collect;apply qi;apply wpAny_runValue;apply yv entry_proto_collect';rw[yi F.plain_proto_collect _];show wpAny _ A.in1 (newList []>>=λz=>again (.builtin "list.__iadd__" ⟨[z,.ref r],[]⟩)) _ _ s;apply qi;refine zJ ?_;apply qu;refine⟨mr sy _,?_⟩;apply yv entry_list_iadd';rw[yi sy _];refine yQ walked (λf t q=>?_) (λe t q=>?_)
 .cases f with
  |done f=>
   obtain⟨g,k,got,c,e,rfl,keep,at',all⟩:=q;cases e;exact done g k got c keep at' all
  |again i=>
   refine⟨q.1,xn q.2 λz m y=>?_⟩;obtain⟨g,k,got,c,rfl,rfl,keep,at',all⟩:=y;exact done g k got c keep at' all
 .obtain⟨_,_,_,_,i,_⟩:=q;cases i
def Yd{X:Cx}(hc:X.calm=true):V0 X (.builtin "sorted") (λxs H Q=>∃p a ss,xs=[.ref p]/\H p=some (.dK a)/\a.map (λg=>kV g.1)=ss.map V.str/\ss.length<64/\∀l,H l=none->Q (.ref l) (upd H l (.lst ((Qz ss).map V.str)))):=by
 intro pins s σ H xs us Q I r h;obtain⟨p,a,ss,rfl,N,B,hl,q⟩:=h;obtain⟨u,rfl,O⟩:=V2 r;cases O;obtain⟨hz,C,vs,K,o,es,P,R,S,T,Y,Z,h6⟩:=DV I.hok N;have da:s.heap.DictAt (Q9 X.prog X.w) p vs P:=⟨o,es,R,S,T,Y,Z,h6⟩;have hlen:a.length=vs.length:=KV.length K;have hh:X.A.in1.handled=none:=I.ok.hd hc;refine rH kind_sorted plain_sorted entry_sorted (args_sorted1 _) ?_;unfold Builtin.«sorted»;refine qi (m:=checkCount "sorted" 1 1 _) (qu ?_);refine qi (BR (A:=X.A.in1) (kdl_dict C) hh da (by rw[<-hlen];exact hz) λh' tk acc hk D c=>?_);have E:QK (a.map λg=>kV g.1) acc.toList:=by
  refine XW (by rw[qh,hlen];exact c.1.symm.trans (by simp)) λj x u d n=>?_;rw[qQ] at d
  cases f:a[j]? with
  |none=>rw[f] at d;cases d
  |some g=>
   rw[f] at d;cases d;obtain⟨k,y,v,w⟩:=c.2 j u (by rw[<-zq];exact n);have F:g.1=k:=KV.at K f v;show QO (kV g.1) u;rw[F];rcases Yn (show Al k u=true from w) with⟨i,t,rfl,rfl⟩|⟨z,t,rfl,rfl⟩
   .exact⟨t,U⟩
   .exact⟨t,U⟩
 rw[B] at E;have d:=Vu E;have F:acc.toList.length=ss.length:=by have:=E.length;rw[qh] at this;exact this.symm
 refine qi (wpAny_newList ?_ (by rw[F];exact Q6 ((by omega))));have f:(h'.push (seqObj "list" acc.toList.toArray 0)).get? h'.objs.size=some (seqObj "list" acc.toList.toArray 0):=qK _ rfl;refine qi (jz (zU slot_list_sort ⟨_,f,U⟩ entry_list_sort (list_sort_treeK strKind_oneLt f d.keysOf (λL M rest e=>keyKind_strs (by rw[<-e];exact d)) (by omega) λn a1 a2=>⟨_,U,?_⟩) (args_list_sort _)));refine qu ⟨_,U,?_⟩;obtain⟨G,b1,b2,b3⟩:=sorted_out_str d a1 a2;obtain⟨e,he⟩:=sortedHeap_at (out:=(arrOf n).map (·.2)) f;have J:G=Qz ss:=GL b2 (Ms b3);subst J;have hsz:s.heap.objs.size<=h'.objs.size:=vw D;refine⟨.ref h'.objs.size,_,I.laid (t':=tk) (λb u hb=>?_) hsz (show QY X.prog X.w _ _ _ (.lst ((Qz ss).map V.str)) from⟨?_,((arrOf n).map (·.2)).toList,e,V4 b1,?_⟩),U,q _ (I.hok.fresh hsz)⟩
 .have v:=hk b u hb;have w:=qR v;rw[sortedHeap_old (za w) (by rw[size_push'];exact jQ w)];exact qw _ v
 .rw[qh,Uu];exact Q6 ((by omega))
 .rw[vo];exact he
def Ks{K:Frag}{a:qc}{α:Type}{xs:qa α}{fr:qa (Nat×qb)}{tt:TT}{n:TE}{σ:St}{H1:Hp}{Q:VK}(g:α->V)(pr:α->Bool)(f:α->V)(hz:xs.length<=sizeLine)(hS:zQ K H1 a (xs.map g))
 (j:∀(x:α)(c:Hp)(Q':Bool->Hp->Prop),x∈xs->Qj H1 c->Q' (pr x) c->tt (some (g x)::oS σ fr) c Q')
 (k:∀(x:α)(c:Hp)(Q':VK),x∈xs->Qj H1 c->pr x=true->Q' (f x) c->n (some (g x)::oS σ fr) c Q')
 (s:∀D,H1 D=none->Q (.ref D) (upd H1 D (.lst ((xs.filter pr).map f)))) :
 Yr (Itl K a) fr tt n σ H1 Q:=by
 unfold Yr;intro D o;refine⟨λi m ys p=>m=xs.length-i/\i<=xs.length/\ys=((xs.take i).filter pr).map f/\p=upd H1 D (.lst ys),⟨xs.length,by simp,q0 _,by simp,U⟩,?_⟩;rintro i m ys p ⟨rfl,u,rfl,rfl⟩;refine⟨Qc,?_⟩;have s1:Qj H1 (upd H1 D (.lst (((xs.take i).filter pr).map f))):=Qj.zi o;have d:=s1.seq hS;by_cases b:i<xs.length
 .have h:(xs.map g)[i]?=some (g xs[i]):=by rw[qQ,qA b];rfl
  refine .inr ⟨⟨xs.map g,g xs[i],d,h⟩,?_⟩;rintro v c ⟨rfl,t⟩;have q:(xs.map g)[i]?=some v:=t _ d;rw[h] at q;cases q;have hm:xs[i]∈xs:=jj b;have r:xs.take (i+1)=xs.take i++[xs[i]]:=by rw[zo,qA b];rfl
  refine j xs[i] _ _ hm s1 ?_;cases l:pr xs[i]
  .refine QU ⟨xs.length-(i+1),by omega,U,b,?_,U⟩;rw[r,q9,qM,l];simp
  .refine Ya (k xs[i] _ _ hm s1 l ⟨Qc,?_,xs.length-(i+1),by omega,U,b,?_,Kz⟩)
   .have:=qW pr (xs.take i);rw[zb] at this;rw[qh];omega
   .rw[r,q9,qM,l];simp
 .have e:i=xs.length:=by omega
  subst e;have c:xs.take xs.length=xs:=zh (qB _);refine .inl ⟨⟨xs.map g,d,by rw[qh];exact qB _⟩,?_⟩;rw[c];exact s D o
variable {a n:qb}{H:Hp}
abbrev Rows:=qa (qb×qb)
variable {rows:Rows}
def up(rows:Rows)(n:qb):Option qb:=(rows.find? λr=>decide (r.1=n)).map (·.2)
def QP(rows:Rows)(t:qb):qe:=(rows.filter λr=>decide (r.2=t)).map (·.1)
def QQ(rows:Rows):qa (Key×V):=rows.map λr=>(Sum.inr r.1,V.str r.2)
def Qp(ns:qe):qa (Key×V):=ns.map λn=>(Sum.inr n,V.bl true)
def without(rows:Rows)(n:qb):Rows:=rows.filter λr=>decide (r.1≠n)
def Yx(n:qb):∀rows:Rows,Qx (QQ rows) (Sum.inr n)=(up rows n).map V.str
 |[]=>rfl
 |r::rows=>by
  show Qx ((Sum.inr r.1,V.str r.2)::QQ rows) (Sum.inr n)=_;by_cases h:r.1=n
  .rw[Yy (by rw[h])];simp[up,yb,h]
  .rw[Yv (λe=>h (jJ e)),Yx n rows];simp[up,yb,h]
def WV(h:up rows n=some a):(n,a)∈rows:=by
 unfold up at h
 cases e:rows.find? λr=>decide (r.1=n) with
 |none=>rw[e] at h;cases h
 |some r=>
  rw[e] at h;have b:=List.find?_some e;have c:=List.mem_of_find?_eq_some e;have d:r.1=n:=ql b;have f:r.2=a:=qN h;rw[<-d,<-f];exact c
def VD  :up rows n=none↔¬n∈rows.map (·.1):=by
 unfold up;rw[Option.map_eq_none_iff,QbL];constructor
 .intro h z;obtain⟨r,a,e⟩:=qj.mp z;exact h r a (qt e)
 .intro h r a z;exact h (qj.mpr ⟨r,a,ql z⟩)
def VC(h:n∈rows.map (·.1)):∃a,up rows n=some a:=by
 cases e:up rows n with
 |none=>exact absurd h (VD.mp e)
 |some a=>exact⟨a,U⟩
def K0(n:qb):∀rows:Rows,Us (QQ rows) (Sum.inr n)=QQ (without rows n)
 |[]=>rfl
 |r::rows=>by
  show Us ((Sum.inr r.1,V.str r.2)::QQ rows) (Sum.inr n)=_;by_cases h:r.1=n
  .rw[Bu (by rw[h]),K0 n rows];simp[without,qM,h]
  .rw[Bv (λe=>h (jJ e)),K0 n rows];simp[without,qM,h,QQ]
def Wo(n:qb):∀ns:qe,Us (Qp ns) (Sum.inr n)=Qp (ns.filter λm=>decide (m≠n))
 |[]=>rfl
 |m::ns=>by
  show Us ((Sum.inr m,V.bl true)::Qp ns) (Sum.inr n)=_;by_cases h:m=n
  .rw[Bu (by rw[h]),Wo n ns];simp[qM,h]
  .rw[Bv (λe=>h (jJ e)),Wo n ns];simp[qM,h,Qp]
def Vc(n:qb):∀ns:qe,Qx (Qp ns) (Sum.inr n)=if n∈ns then some (V.bl true) else none
 |[]=>rfl
 |m::ns=>by
  show Qx ((Sum.inr m,V.bl true)::Qp ns) (Sum.inr n)=_;by_cases h:m=n
  .rw[Yy (by rw[h]),qG (by rw[h];exact qz)]
  .rw[Yv (λe=>h (jJ e)),Vc n ns];by_cases a:n∈ns
   .rw[qG a,qG (qF _ a)]
   .rw[qC a,qC (λz=>(qJ.mp z).elim (λe=>h e.symm) a)]
def IQ(h:up rows n=none):Yc (QQ rows) (Sum.inr n) (.str a)=QQ (rows++[(n,a)]):=by
 rw[Ke _ (by rw[Yx,h];rfl)];simp[QQ]
def Kd{ns:qe}(h:¬n∈ns):Yc (Qp ns) (Sum.inr n) (.bl true)=Qp (ns++[n]):=by
 rw[Ke _ (by rw[Vc,qC h])];simp[Qp]
def AS(rows:Rows)(n a t:qb):QP (rows++[(n,a)]) t=QP rows t++if a=t then [n] else []:=by
 unfold QP;rw[q9,qI];by_cases h:a=t<;>simp[qM,h]
def Xc{t:qb}(h:n∈QP rows t):n∈rows.map (·.1):=by
 obtain⟨r,a,e⟩:=qj.mp h;exact qj.mpr ⟨r,(qo.mp a).1,e⟩
def Wd(rows:Rows)(n t:qb):QP (without rows n) t=(QP rows t).filter λm=>decide (m≠n):=by
 unfold QP without;rw[ye,xO,xO];congr 1;refine kR λr _=>?_;show(decide (r.2=t)&&decide (r.1≠n))=(decide (r.1≠n)&&decide (r.2=t));rw[Bool.and_comm]
def Kc(rows:Rows)(t:qb):(QP rows t).length<=rows.length:=by
 unfold QP;rw[qh];exact qW _ _
def Wv{b:qb}(e:(rows.map (·.1)).Nodup)(d:(n,a)∈rows)(c:(n,b)∈rows):a=b:=by
 induction rows with
 |nil=>cases d
 |cons r rows h=>
  rw[qU,zN] at e;rcases qJ.mp d with f|d
  .rcases qJ.mp c with g|c
   .rw[<-g] at f;exact(Qah f).2
   .exact absurd (qj.mpr ⟨_,c,by rw[<-f]⟩) e.1
  .rcases qJ.mp c with g|c
   .exact absurd (qj.mpr ⟨_,d,by rw[<-g]⟩) e.1
   .exact h e.2 d c
def Le{t:qb}(b:(rows.map (·.1)).Nodup)(h:up rows n=some a)(c:t≠a):¬n∈QP rows t:=λz=>by
 obtain⟨r,d,e⟩:=qj.mp z;obtain⟨f,g⟩:=qo.mp d;have i:r.2=t:=ql g;have:(n,t)∈rows:=by rw[<-e,<-i];exact f
 exact c (Wv b this (WV h))
def Gz{l:qe}(h:¬n∈l):(l.filter λm=>decide (m≠n))=l:=jV.mpr λm hm=>qt λe=>h (e▸hm)
def Hy(h:up rows n=some a):n∈QP rows a:=qj.mpr ⟨(n,a),qo.mpr ⟨WV h,qt rfl⟩,U⟩
def Xr(a:(rows.map (·.1)).Nodup):((without rows n).map (·.1)).Nodup:=by
 unfold without;exact jI (List.Sublist.map _ zH) a
def N8(c:(rows.map (·.1)).Nodup)(h:up rows n=none):((rows++[(n,a)]).map (·.1)).Nodup:=by
 rw[qI];refine jf.mpr ⟨c,by simp,λx b y d e=>?_⟩;have:y=n:=by simpa using d
 rw[e,this] at b;exact VD.mp h b
def YM:∀{ms l:qe},ms.Nodup->(∀m∈ms,m∈l)->ms.length<=l.length
 |[],_,_,_=>q0 _
 |m::ms,l,d,h=>by
  obtain⟨f,g⟩:=zN.mp d;have hm:=h m qz;have e:=List.length_erase_of_mem hm;have i:=List.length_pos_of_mem hm;have:=YM (l:=l.erase m) g λx c=>(List.mem_erase_of_ne (a:=x) (b:=m) (λz=>f (by rw[<-z];exact c))).mpr (h x (qF _ c));rw[qV];omega
def Kp1(H H':Hp):Prop:=∀c o,H c=some o->(∀a,o≠.dK a)->H' c=some o
def Kp2(H H':Hp):Prop:=∀c o,H c=some o->(∀xs,o≠.lst xs)->H' c=some o
def Qj.kp2{H':Hp}(s:Qj H H'):Kp2 H H':=λc o e _=>s c o e
def Kp1.trans{H1 d:Hp}(a:Kp1 H H1)(b:Kp1 H1 d):Kp1 H d:=λc o e n=>b c o (a c o e n) n
def Kp1.upd{p:qc}{a b:qa (Key×V)}(h:H p=some (.dK a)):Kp1 H (upd H p (.dK b)):=λc o e n=>by
 by_cases z:c=p
 .rw[z,h] at e;cases e;exact absurd rfl (n a)
 .rw[Qa z];exact e
section
variable {X:Cx}{pins:qa (qc×Obj)}{σ:St}{H:Hp}{s:Shared}{a:qc}{oa:Obj}{kvs:qa (Key×V)}
def Inv.freeze(I:Inv X pins σ H s)(e:H a=some (.dK kvs)):∃oa,Inv X pins σ (upd H a (.jG oa (.dK kvs))) s:=by
 obtain⟨z,y,vs,r,b,es,f,d,c⟩:=(show QY X.prog X.w H s.heap a (.dK kvs) from I.hok a _ e);exact⟨b,I.write (x:=a) (e:=a) (o:=.jG b (.dK kvs)) (t':=s.toks) (h':=s.heap) (by rw[e];exact True.intro) (.inl rfl) (λ_ _ _ q=>q) ⟨b,d⟩ ⟨d,z,y,vs,r,b,es,f,d,c⟩⟩
def Inv.Qc0(I:Inv X pins σ H s)(j:∀o u,X.H₀ a≠some (.jG o u))(e:H a=some (.jG oa (.dK kvs))):Inv X pins σ (upd H a (.dK kvs)) s:=by
 have d:∀b,H b=none->b≠a:=λb n z=>by rw[z,e] at n;cases n
 have ne1:∀b o,H b=some o->o≠.jG oa (.dK kvs)->b≠a:=λb o q n z=>by rw[z,e] at q;cases q;exact n rfl
 obtain⟨_,g⟩:=(show QY X.prog X.w H s.heap a (.jG oa (.dK kvs)) from I.hok a _ e);refine⟨I.ok,I.os,I.bare,⟨I.base.keep,I.base.slot,λb o q n k=>?_,I.base.there,λb xs q=>?_,λb o u q=>?_,λb ps q=>?_⟩,I.loc,I.cell,?_,λx c q=>?_,λp l=>?_,λb u q=>?_,I.len⟩
 .have:=I.base.free b o q n k;rw[Qa (d b this)];exact this
 .have:=I.base.tups b xs q;rw[Qa (ne1 b _ this (λz=>by cases z))];exact this
 .have f:b≠a:=λz=>j o u (by rw[<-z];exact q);rw[Qa f];exact I.base.nH b o u q
 .obtain⟨m,h⟩:=I.base.rL b ps q;exact⟨m,by rw[Qa (ne1 b _ h (λz=>by cases z))];exact h⟩
 .rw[Qa (d _ I.free)];exact I.free
 .rw[Qa (d _ (I.vV x c q))];exact I.vV x c q
 .obtain⟨r,i,t⟩:=I.pin p l;exact⟨r,by rw[Qa (d _ i)];exact i,t⟩
 .by_cases f:b=a
  .subst f;rw[Qc] at q;cases q;exact QY.stay (show QY X.prog X.w H s.heap b (.dK kvs) from g) (λ_ _ _ z=>z) (λc z=>by rw[Qa (ne1 c _ z (λy=>by cases y))];exact z) λc xs z=>by rw[Qa (ne1 c _ z (λy=>by cases y))];exact z
  .rw[Qa f] at q;exact(I.hok b u q).stay (λ_ _ _ z=>z) (λc z=>by rw[Qa (ne1 c _ z (λy=>by cases y))];exact z) λc xs z=>by rw[Qa (ne1 c _ z (λy=>by cases y))];exact z
end
variable {P:Program}{w:World}{a:qc}{oa:Obj}{kvs:qa (Key×V)}
def gR(a:qc)(oa:Obj)(kvs:qa (Key×V))(D:Wl):Wl:={nx:=λσ H=>H a=some (.jG oa (.dK kvs))/\D.nx σ (upd H a (.dK kvs)),rt:=λv H=>H a=some (.jG oa (.dK kvs))/\D.rt v (upd H a (.dK kvs)),bk:=λσ H=>H a=some (.jG oa (.dK kvs))/\D.bk σ (upd H a (.dK kvs)),ct:=λσ H=>H a=some (.jG oa (.dK kvs))/\D.ct σ (upd H a (.dK kvs))}
inductive Nz(ts:TS)(D:Wl)(σ:St)(H:Hp):Prop
 |mk:∀a kvs,H a=some (.dK kvs)->(∀oa,ts (gR a oa kvs D) σ (upd H a (.jG oa (.dK kvs))))->Nz ts D σ H
def g6(ts:TS):TS:=λD σ H=>Nz ts D σ H
def KI{X:Cx}{st:Stmt}{ts:TS}(j:PS X st ts):PS X st (g6 ts):=by
 rintro pins s σ H D I ⟨a,kvs,e,h⟩;obtain⟨oa,J⟩:=I.freeze e;have g:∀o u,X.H₀ a≠some (.jG o u):=λo u z=>by have:=I.base.nH a o u z;rw[e] at this;cases this
 refine jE (j pins s σ _ _ J (h oa)) λf s' q=>?_
 cases f with
 |next=>obtain⟨b,i,d,c⟩:=q;exact⟨b,_,d.Qc0 g c.1,c.2⟩
 |cont=>obtain⟨b,i,d,c⟩:=q;exact⟨b,_,d.Qc0 g c.1,c.2⟩
 |brk=>obtain⟨b,i,d,c⟩:=q;exact⟨b,_,d.Qc0 g c.1,c.2⟩
 |ret v=>obtain⟨k,b,i,d,l,c⟩:=q;exact⟨k,b,_,d.Qc0 g c.1,l,c.2⟩
def Itd(a:qc)(oa:Obj)(kvs:qa (Key×V)):It:=⟨λi H=>H a=some (.jG oa (.dK kvs))/\i<kvs.length,λi H x H'=>H'=H/\∃b,kvs[i]?=some b/\x=kV b.1,λi H=>H a=some (.jG oa (.dK kvs))/\kvs.length<=i⟩
def Cr{H:Hp}{h:Heap}(ok:lF P w H h)(e:H a=some (.jG oa (.dK kvs))) :
 (a==sysModules)=false/\∃vs es b,KV kvs vs/\oa.data=.dict es b/\h.DictAt (Q9 P w) a vs b:=by
 obtain⟨c,z,y,vs,r,j,es,b,d,g,f,i⟩:=(show QY P w H h a (.jG oa (.dK kvs)) from ok a _ e);rw[c] at d;cases d;exact⟨y,vs,es,b,r,f,oa,es,c,g,f,i⟩
def bJ{k:Key}{u:qd}(e:(Q9 P w).is k u=true):QO (kV k) u:=by
 rcases Yn (show Al k u=true from e) with⟨i,t,rfl,rfl⟩|⟨z,t,rfl,rfl⟩
 .exact⟨t,U⟩
 .exact⟨t,U⟩
def Et{K:Frag}{C:Expr}(a it:qc)(oa:Obj)(kvs:qa (Key×V))(es:Array DictEntry)(n:Nat)(hd:oa.data=.dict es n):RK P w K C (Itd a oa kvs) [it] it (λi h=>h.IsKeyIter it a i kvs.length n) where
 mem:=by simp
 obj:=λi h st b g=>by
  have e:b=it:=by simpa using g
  subst e;obtain⟨o,e,c,d⟩:=st;exact⟨o,e,λv z=>by rw[d] at z;cases z⟩
 keep:=λi h h' st k=>by
  obtain⟨o,e,c⟩:=st;exact⟨o,k it (by simp) o e,c⟩
 item:=by
  intro X r hw t hc i pins s σ H E I hf st hg;subst r hw t;obtain⟨u,m⟩:=hg;obtain⟨_,vs,x,y,p,f,hm⟩:=Cr I.hok u;rw[hd] at f;cases f;have q:=KV.length p;have j:s.heap.IsKeyIter it a i vs.length n:=by rw[<-q];exact st
  obtain⟨f0,f1,f2,A,f4,B⟩:=hf it (by simp);refine wpAny_pyNext_dict_item (k:=(vs[i]'(by omega)).1) (v:=(vs[i]'(by omega)).2) j hm (qA (by omega)) λkey h' D l F=>?_;have G:Inv X pins σ H {s with heap:=h'}:=I.turned (t':=s.toks) (λb o g e=>(F.2 b g).trans e) f0 f1 A f4 B;have J:kvs[i].1=(vs[i]'(by omega)).1:=KV.at p (qA m) (qA (by omega));rw[<-q] at l;obtain⟨o,e,c,d⟩:=id l;exact⟨key,U,LK (s:={s with heap:=h'}) e c d (by decide) ⟨kV kvs[i].1,H,G,by rw[J];exact bJ D,⟨U,kvs[i],qA m,U⟩,l,λb g=>(hf b g).1⟩⟩
 done:=by
  intro X r hw t hc i pins s σ H E I hf st hg;subst r hw t;obtain⟨u,l⟩:=hg;obtain⟨_,vs,x,y,p,f,hm⟩:=Cr I.hok u;rw[hd] at f;cases f;have q:=KV.length p;have j:s.heap.IsKeyIter it a i vs.length n:=by rw[<-q];exact st
  obtain⟨f0,f1,f2,A,f4,B⟩:=hf it (by simp);exact wpAny_pyNext_dict_end (I.ok.hd hc) j hm (kP (by omega)) λh' m=>⟨U,I.turned (t':=s.toks) (λb o g e=>m b o g e) f0 f1 A f4 B⟩
 self:=λ_ _ _ _ _ st h=>wpAny_pyIter_keyiter st h
inductive OO(R:(It->Hp->Prop))(x:V)(H1:Hp):Prop
 |mk:∀a oa kvs,x=.ref a->H1 a=some (.jG oa (.dK kvs))->R (Itd a oa kvs) H1->OO R x H1
def iy(a:TE):TI:=λσ H R=>a σ H λx H1=>OO R x H1
def bQ{X:Cx}{i l:Expr}{g:TE}(d:PE X l g):PI X i l (iy g):=by
 intro pins s σ H R I h;refine jE (d pins s σ H _ I h) λv s1 ⟨x,H1,c,j,k⟩=>?_;obtain⟨a,oa,kvs,e,m,q⟩:=k;subst e;cases j;obtain⟨f,vs,es,n,p,hd,hm⟩:=Cr c.hok m;have d:=KV.length p;refine wpAny_pyIter_dict f hm ?_;refine⟨s1.heap.objs.size,[s1.heap.objs.size],_,_,H1,U,c.kept (t':=s1.toks) λb o e=>qw _ e,Et a _ oa kvs es n hd,⟨_,qK _ rfl,U,by rw[d];rfl⟩,λb r=>?_,q⟩;have e:b=s1.heap.objs.size:=by simpa using r
 subst e;exact c.QbY (qB _) (c.hok.fresh (qB _))
def Kt{α:Type}{xs:qa α}{fr:qa (Nat×qb)}{tt:TT}{q:TE}{σ:St}{H1:Hp}{Q:VK}(g:α->V)(pr:α->Bool)(f:α->V)(hz:xs.length<=sizeLine)(hS:H1 a=some (.jG oa (.dK kvs)))(r:kvs.map (λj=>kV j.1)=xs.map g)
 (k:∀(x:α)(c:Hp)(Q':Bool->Hp->Prop),x∈xs->Qj H1 c->Q' (pr x) c->tt (some (g x)::oS σ fr) c Q')
 (l:∀(x:α)(c:Hp)(Q':VK),x∈xs->Qj H1 c->pr x=true->Q' (f x) c->q (some (g x)::oS σ fr) c Q')
 (w:∀D,H1 D=none->Q (.ref D) (upd H1 D (.lst ((xs.filter pr).map f)))) :
 Yr (Itd a oa kvs) fr tt q σ H1 Q:=by
 have y:kvs.length=xs.length:=by have:=zV List.length r;simpa using this
 unfold Yr;intro D s;refine⟨λi m ys t=>m=xs.length-i/\i<=xs.length/\ys=((xs.take i).filter pr).map f/\t=upd H1 D (.lst ys),⟨xs.length,by simp,q0 _,by simp,U⟩,?_⟩;rintro i m ys t ⟨rfl,z,rfl,rfl⟩;refine⟨Qc,?_⟩;have s1:Qj H1 (upd H1 D (.lst (((xs.take i).filter pr).map f))):=Qj.zi s;have d:=s1 _ _ hS;by_cases b:i<xs.length
 .have n:(xs.map g)[i]?=some (g xs[i]):=by rw[qQ,qA b];rfl
  refine .inr ⟨⟨d,by omega⟩,?_⟩;rintro v c ⟨rfl,j,o,rfl⟩;have h:(xs.map g)[i]?=some (kV j.1):=by rw[<-r,qQ,o];rfl
  rw[n] at h;have h:=qN h;rw[<-h];have hm:xs[i]∈xs:=jj b;have u:xs.take (i+1)=xs.take i++[xs[i]]:=by rw[zo,qA b];rfl
  refine k xs[i] _ _ hm s1 ?_;cases p:pr xs[i]
  .refine QU ⟨xs.length-(i+1),by omega,U,b,?_,U⟩;rw[u,q9,qM,p];simp
  .refine Ya (l xs[i] _ _ hm s1 p ⟨Qc,?_,xs.length-(i+1),by omega,U,b,?_,Kz⟩)
   .have:=qW pr (xs.take i);rw[zb] at this;rw[qh];omega
   .rw[u,q9,qM,p,qI];simp
 .have e:i=xs.length:=by omega
  subst e;refine .inl ⟨⟨d,by omega⟩,?_⟩;have:=w D s;rw[jw];exact this
def LM{g:TG}{f:TS}{D:Wl}{σ:St}{H:Hp}(Pv:Nat->St->Hp->Prop)(h0:Pv 0 σ H)(h:∀i σ H,i<=kvs.length->Pv i σ H->H a=some (.jG oa (.dK kvs)))
 (j:∀i c σ H,kvs[i]?=some c->Pv i σ H->g (kV c.1) σ H λb d=>f {D with nx:=Pv (i+1),ct:=Pv (i+1),bk:=D.nx} b d) (hd:∀σ H,Pv kvs.length σ H->D.nx σ H) :
 CC g f D σ (Itd a oa kvs) H:=by
 refine⟨λi m σ H=>m=kvs.length-i/\i<=kvs.length/\Pv i σ H,⟨kvs.length,by simp,q0 _,h0⟩,?_⟩;rintro i m σ H ⟨rfl,k,p⟩;have q:=h i σ H k p;by_cases b:i<kvs.length
 .refine .inr ⟨⟨q,b⟩,Pv (i+1),λl H' n=>⟨kvs.length-(i+1),by omega,U,b,n⟩,?_⟩;rintro x H' ⟨rfl,c,d,rfl⟩;exact j i c σ _ d p
 .have e:i=kvs.length:=by omega
  subst e;exact .inl ⟨⟨q,qB _⟩,hd σ H p⟩
variable {rows:Rows}{a b here m n:qb}{rc wt:qe}
def upL(rows:Rows)(n:qb):qe:=match up rows n with
 |some a=>if a="" then [] else [a]
 |none=>[]
def rN(rows:Rows)(n:qb):qe:=QP rows n++upL rows n
inductive mx(rows:Rows)(n:qb):qb->Prop
 |refl:mx rows n n
 |step {m k:qb}:mx rows n m->k∈rN rows m->mx rows n k
def XC{k:qb}:k∈upL rows n↔up rows n=some k/\k≠"":=by
 unfold upL
 cases up rows n with
 |none=>simp
 |some a=>
  by_cases h:a=""
  .subst h;simp;intro e;exact e.symm
  .simp[h];constructor
   .rintro rfl;exact⟨U,h⟩
   .rintro⟨e,_⟩;exact e.symm
def Xl{t:qb}(d:(rows.map (·.1)).Nodup):n∈QP rows t↔up rows n=some t:=by
 constructor
 .intro h;obtain⟨r,f,e⟩:=qj.mp h;obtain⟨b,g⟩:=qo.mp f;have i:r.2=t:=ql g;obtain⟨a,c⟩:=VC (qj.mpr ⟨r,b,e⟩);have:(n,t)∈rows:=by rw[<-e,<-i];exact b
  rw[c,Wv d (WV c) this]
 .exact Hy
def NoE(rows:Rows):Prop:=∀n:qb,n∈rows.map (·.1)->n≠""
def cj(a:(rows.map (·.1)).Nodup){k:qb}(hm:m≠"")(h:k∈rN rows m):m∈rN rows k:=by
 rcases qr.mp h with h|h
 .exact qv _ (XC.mpr ⟨(Xl a).mp h,hm⟩)
 .exact qy _ ((Xl a).mpr (XC.mp h).1)
def fT(ne:NoE rows){k:qb}(h:k∈rN rows m):k≠"":=by
 rcases qr.mp h with h|h
 .exact ne k (Xc h)
 .exact(XC.mp h).2
def mx.ne(ne:NoE rows){k:qb}(a:n≠"")(h:mx rows n k):k≠"":=by
 cases h with
 |refl=>exact a
 |step _ h=>exact fT ne h
def mx.trans{c:qb}(d:mx rows a b)(e:mx rows b c):mx rows a c:=by
 induction e with
 |refl=>exact d
 |step _ h f=>exact .step f h
def mx.symm(c:(rows.map (·.1)).Nodup)(ne:NoE rows)(d:a≠"")(h:mx rows a b):mx rows b a:=by
 induction h with
 |refl=>exact .refl
 |step e f g=>exact(mx.step .refl (cj c (e.ne ne d) f)).trans g
open Classical in
noncomputable def Yj(rows:Rows)(n:qb):qe:=Qz ((rows.map (·.1)).filter λm=>decide (mx rows n m))
def XE  :m∈Yj rows n↔m∈rows.map (·.1)/\mx rows n m:=by
 unfold Yj;rw[Yl,qo];simp
def RV(a:(rows.map (·.1)).Nodup){l:qe}(b:l.Nodup)(h:∀m,m∈l↔m∈rows.map (·.1)/\mx rows n m):Qz l=Yj rows n:=by
 unfold Yj;refine YJ ((yF b (a.filter _)).mpr λm=>?_);rw[h,qo];simp
def CA(d:(rows.map (·.1)).Nodup)(ne:NoE rows)(c:a≠"")(h:mx rows a b):Yj rows b=Yj rows a:=by
 have f:=h.ne ne c;have h':=h.symm d ne c
 classical
 unfold Yj;congr 1;refine kR λm _=>?_;by_cases e:mx rows a m
 .rw[qt (h'.trans e),qt e]
 .rw[qE (λz=>e (h.trans z)),qE e]
noncomputable def Ug(rows:Rows)(acc:qa (qe))(n:qb):qa (qe):=if Yj rows n∈acc then acc else acc++[Yj rows n]
noncomputable def Ve(rows:Rows)(ns:qe):qa (qe):=ns.foldl (Ug rows) []
def HS(rows:Rows)(ns:qe)(n:qb):Ve rows (ns++[n])=Ug rows (Ve rows ns) n:=by
 unfold Ve;rw[jB];rfl
def LN{rows:Rows}:∀(ns:qe)(acc:qa (qe)){t:qe},t∈ns.foldl (Ug rows) acc->t∈acc\/∃n∈ns,t=Yj rows n
 |[],acc,t,h=>.inl h
 |n::ns,acc,t,h=>by
  rcases LN ns (Ug rows acc n) h with h|⟨m,hm,e⟩
  .unfold Ug at h;split at h
   .exact .inl h
   .rcases qr.mp h with h|h
    .exact .inl h
    .exact .inr ⟨n,qz,qk.mp h⟩
  .exact .inr ⟨m,qF _ hm,e⟩
def Gn(ns:qe){t:qe}(h:t∈Ve rows ns):∃n∈ns,t=Yj rows n:=(LN ns [] h).elim (λz=>by cases z) id
def LO{rows:Rows}:∀(ns:qe)(acc:qa (qe)),(ns.foldl (Ug rows) acc).length<=acc.length+ns.length
 |[],acc=>qB _
 |n::ns,acc=>by
  have h:=LO (rows:=rows) ns (Ug rows acc n);have a:(Ug rows acc n).length<=acc.length+1:=by
   unfold Ug;split
   .omega
   .rw[qx];simp
  rw[zy,qV];omega
def CB(ns:qe):(Ve rows ns).length<=ns.length:=by
 have:=LO (rows:=rows) ns [];unfold Ve;simpa using this
def bp(d:(rows.map (·.1)).Nodup)(ne:NoE rows){ns:qe}(a:∀m∈ns,m∈rows.map (·.1))(e:n∈rows.map (·.1)):(∃t∈Ve rows ns,n∈t)↔Yj rows n∈Ve rows ns:=by
 constructor
 .rintro⟨t,c,b⟩;obtain⟨m,hm,rfl⟩:=Gn ns c;rw[CA d ne (ne m (a m hm)) (XE.mp b).2];exact c
 .intro h;exact⟨_,h,XE.mpr ⟨e,.refl⟩⟩
structure DFS(rows:Rows)(n:qb)(rc wt:qe):Prop where
 nd:rc.Nodup
 start:n∈rc
 sound:∀m∈rc,mx rows n m
 sub:∀m∈wt,m∈rc
 clo:∀m∈rc,m∉wt->∀k∈rN rows m,k∈rc
def dZ(rows:Rows):qe:=rows.map (·.1)++rows.map (·.2)
def II(a:n∈rows.map (·.1))(h:mx rows n m):m∈dZ rows:=by
 cases h with
 |refl=>exact qy _ a
 |step _ h=>
  rcases qr.mp h with h|h
  .exact qy _ (Xc h)
  .exact qv _ (qj.mpr ⟨_,WV (XC.mp h).1,U⟩)
def DFS.len(d:DFS rows n rc wt)(a:n∈rows.map (·.1)):rc.length<=2*rows.length:=by
 have:=YM d.nd λm hm=>II a (d.sound m hm);unfold dZ at this;rw[qx,qh,qh] at this;omega
def DFS.init  :DFS rows n [n] [n]:=
 ⟨by simp,by simp,λm hm=>by rw[qk.mp hm];exact .refl,λm hm=>hm,λm hm h=>absurd hm h⟩
def DFS.done(nd:(rows.map (·.1)).Nodup)(d:DFS rows n rc []):Qz (rc.filter λm=>decide (m∈rows.map (·.1)))=Yj rows n:=by
 have all:∀m,mx rows n m->m∈rc:=λm h=>by
  induction h with
  |refl=>exact d.start
  |step _ h a=>exact d.clo _ a (by simp) _ h
 refine RV nd (d.nd.filter _) λm=>?_;rw[qo];constructor
 .rintro⟨a,b⟩;exact⟨ql b,d.sound m a⟩
 .rintro⟨a,b⟩;exact⟨all m b,qt a⟩
structure Ky(rows:Rows)(n here:qb)(seen:qe)(rc wt:qe):Prop where
 nd:rc.Nodup
 start:n∈rc
 hr:here∈rc
 sound:∀m∈rc,mx rows n m
 sub:∀m∈wt,m∈rc
 clo:∀m∈rc,m∉wt->m≠here->∀k∈rN rows m,k∈rc
 got:∀k∈seen,k∈rc
def DFS.pop(d:DFS rows n rc (wt++[here])):Ky rows n here [] rc wt:=
 ⟨d.nd,d.start,d.sub here (by simp),d.sound,λm hm=>d.sub m (qy _ hm),λm hm a b=>d.clo m hm λz=>(qr.mp z).elim a λy=>b (qk.mp y),λk c=>by cases c⟩
def Ky.old{k:qb}{seen:qe}(d:Ky rows n here seen rc wt)(a:k∈rc):Ky rows n here (seen++[k]) rc wt:=
 ⟨d.nd,d.start,d.hr,d.sound,d.sub,d.clo,λm hm=>(qr.mp hm).elim (d.got m) λy=>by rw[qk.mp y];exact a⟩
def Ky.new{k:qb}{seen:qe}(d:Ky rows n here seen rc wt)(c:¬k∈rc)(f:k∈rN rows here):Ky rows n here (seen++[k]) (rc++[k]) (wt++[k]):=by
 refine⟨jf.mpr ⟨d.nd,by simp,λx g y h e=>c ?_⟩,qy _ d.start,qy _ d.hr,λm hm=>?_,λm hm=>?_,λm hm b i=>?_,λm hm=>?_⟩
 .rw[qk.mp h] at e;rw[<-e];exact g
 .rcases qr.mp hm with z|z
  .exact d.sound m z
  .rw[qk.mp z];exact .step (d.sound here d.hr) f
 .rcases qr.mp hm with z|z
  .exact qy _ (d.sub m z)
  .exact qv _ z
 .rcases qr.mp hm with z|z
  .intro j a;exact qy _ (d.clo m z (λy=>b (qy _ y)) i j a)
  .exact absurd (qv _ z) b
 .rcases qr.mp hm with z|z
  .exact qy _ (d.got m z)
  .exact qv _ z
def Ky.out(d:Ky rows n here (rN rows here) rc wt):DFS rows n rc wt:=
 ⟨d.nd,d.start,d.sound,d.sub,λm hm a=>by
   by_cases e:m=here
   .subst e;exact d.got
   .exact d.clo m hm a e⟩
def Br(one other:qb×qb):Bool:=decide (one.2=other.1)||(decide (other.2=one.1)||(decide (one.2≠"")&&decide (one.2=other.2)))
def ay(b:(rows.map (·.1)).Nodup)(ne:NoE rows){one other:qb×qb}(c:one∈rows)(d:other∈rows)(h:Br one other=true):mx rows other.1 one.1:=by
 have u:∀r∈rows,up rows r.1=some r.2:=λr f=>by
  obtain⟨a,g⟩:=VC (qj.mpr ⟨r,f,U⟩);rw[g,Wv b (WV g) f]
 have g:=ne one.1 (qj.mpr ⟨one,c,U⟩);unfold Br at h;rw[sC,sC,jc] at h;rcases h with h|h|⟨h,h'⟩
 .have e:=ql h;exact .step .refl (qy _ ((Xl b).mpr (by rw[u one c,e])))
 .have e:=ql h;exact .step .refl (qv _ (XC.mpr ⟨by rw[u other d,e],g⟩))
 .have i:=ql h;have e:=ql h';refine .step (m:=one.2) (.step .refl (qv _ (XC.mpr ⟨by rw[u other d,e],i⟩))) (qy _ ((Xl b).mpr (u one c)))
def az(l:(rows.map (·.1)).Nodup)(ne:NoE rows){S:Rows}(sub:∀r∈S,r∈rows)(i:n∈S.map (·.1))(c:∀r∈S,∀q∈rows,Br q r=true->q∈S)(hm:m∈rows.map (·.1))(h:mx rows n m):m∈S.map (·.1):=by
 have p:n≠"":=by
  obtain⟨r,a,e⟩:=qj.mp i;exact ne n (qj.mpr ⟨r,sub r a,e⟩)
 have good:∀k,mx rows n k->(k∈rows.map (·.1)->k∈S.map (·.1))/\(k∉rows.map (·.1)->∃r∈S,r.2=k):=λk f=>by
  induction f with
  |refl=>exact⟨λ_=>i,λz=>by
    obtain⟨r,a,e⟩:=qj.mp i;exact absurd (qj.mpr ⟨r,sub r a,e⟩) z⟩
  |@step m k s d j=>
   have m0:=s.ne ne p;rcases qr.mp d with d|d
   .
    have f:=Xc d;refine⟨λ_=>?_,λz=>absurd f z⟩;have g:(k,m)∈rows:=WV ((Xl l).mp d);by_cases b:m∈rows.map (·.1)
    .obtain⟨r,a,e⟩:=qj.mp (j.1 b);exact qj.mpr ⟨(k,m),c r a _ g (by unfold Br;simp[e]),U⟩
    .obtain⟨r,a,e⟩:=j.2 b;exact qj.mpr ⟨(k,m),c r a _ g (by unfold Br;simp[e,m0]),U⟩
   .obtain⟨t,v⟩:=XC.mp d;have g:=WV t;have b:m∈rows.map (·.1):=qj.mpr ⟨_,g,U⟩;obtain⟨r,a,e⟩:=qj.mp (j.1 b);have o:r.2=k:=Wv l (by rw[<-e];exact sub r a) g;refine⟨λf=>?_,λ_=>⟨r,a,o⟩⟩;obtain⟨q,u,eq⟩:=qj.mp f;exact qj.mpr ⟨q,c r a q u (by unfold Br;simp[o,eq]),eq⟩
 exact(good m h).1 hm
variable {ns:qe}{n:qb}
def Ha{X:Cx}(K:Frag){e:Expr}{f:qb}{pos:Pos}{a:TE}(he:PE X e a)(b:attributeBase e f X.env (eval e X.env)=eval e X.env)(c:X.K=K:=by rfl):PE X (.Attribute e f pos) (g5 K a f):=c▸Qm he b
section
variable {prs S:qa PRow}{n:qb}{k:Nat}
end
def FX(h:n∈ns):Yc (Qp ns) (Sum.inr n) (.bl true)=Qp ns:=by
 unfold Yc;have hc:((Qp ns).any λa=>decide (a.1=(Sum.inr n:Key)))=true:=uN.mpr ⟨(Sum.inr n,.bl true),qj.mpr ⟨n,h,U⟩,qt rfl⟩;rw[qG hc];unfold Qp;rw[qT];apply jU;intro m _;show(if (Sum.inr m:Key)=Sum.inr n then (Sum.inr m,V.bl true) else (Sum.inr m,V.bl true))=_;split<;>rfl
def YH(ns:qe)(n:qb):qe:=if n∈ns then ns else ns++[n]
def FY(ns:qe)(n:qb):Yc (Qp ns) (Sum.inr n) (.bl true)=Qp (YH ns n):=by
 unfold YH;split
 .exact FX ‹_›
 .exact Kd ‹_›
def Ck{m:qb}:m∈YH ns n↔m∈ns\/m=n:=by
 unfold YH;split
 .exact⟨.inl,λh=>h.elim id λe=>e▸‹_›⟩
 .rw[qr,qk]
def HI(h:ns.Nodup):(YH ns n).Nodup:=by
 unfold YH;split
 .exact h
 .rename_i c
  rw[jf];exact⟨h,v7 _ _,λa d b f e=>c (by rw[qk.mp f] at e;rw[<-e];exact d)⟩
open PySem PySem.Spec
variable {T xs:qe}{w:qb}{x:qc}{H:Hp}
inductive HW(Q:VK)(a:qc)(y:V)(z:V)(H3:Hp):Prop
 |mk:∀kvs k,H3 a=some (.dK kvs)->y=kV k->kvs.length<sizeLine->((∀v,Qx kvs k=some v->Q v H3))->((Qx kvs k=none->Q z (upd H3 a (.dK (Yc kvs k z)))))->HW Q a y z H3
inductive NA(ty:TE)(tx:TE)(σ:St)(Q:VK)(x:V)(H1:Hp):Prop
 |mk:∀a,x=.ref a->IsD H1 a->(ty σ H1 λy H2=>tx σ H2 λz H3=>HW Q a y z H3)->NA ty tx σ Q x H1
def g9(a ty b:TE):TE:=λσ H Q=>a σ H λx H1=>NA ty b σ Q x H1
section
variable {X:Cx}{pins:qa (qc×Obj)}{σ:St}{H:Hp}{s:Shared}{a:qc}{kvs:qa (Key×V)}{k:Key}{z:V}{u r:qd}{A:Around}{E:qf}
def aN{Q:qf}(I:Inv X pins σ H s)(e:H a=some (.dK kvs))(g:QO (kV k) u)(h:QO z r)(l:kvs.length<sizeLine)
 (i:∀v,Qx kvs k=some v->∀f s',Inv X pins σ H s'->QO v f->Q f s') (j:Qx kvs k=none->∀s',Inv X pins σ (upd H a (.dK (Yc kvs k z))) s'->Q r s') :
 wpAny (model X.prog X.w) A (call (.builtin "dict.setdefault") [.ref a,u,r]) Q E s:=by
 obtain⟨hz,hd,vs,rel,dd⟩:=DV I.hok e;refine QaY PySem.F.slot_dict_setdefault dd.typeIs PySem.F.entry_dict_setdefault (PySem.F.args_dict_setdefault_3 _ _ _) (kt_meets_setdefault (Q9 X.prog X.w) a (Gj g) hd r) ⟨vs,dd,by rw[<-rel.length];exact hz,λf hw=>?_,λm h' d n=>?_⟩
 .have b:=rel.val k;rw[hw] at b
  cases c:Qx kvs k with
  |none=>rw[c] at b;exact absurd b (by simp[WH])
  |some v=>rw[c] at b;exact i v c f _ (I.tok _) b
 .have b:=rel.val k;rw[m] at b
  cases c:Qx kvs k with
  |some v=>rw[c] at b;exact absurd b (by simp[WH])
  |none=>
   have he:∃q,h'.get? a=some q:=let ⟨q,_,_,i,_⟩:=d;⟨q,i⟩;have o:(Yc kvs k z).length<=sizeLine:=by have:=VT kvs k z;omega
   exact j c _ (Ar I (by rw[e];exact True.intro) n he (HD o hd (rel.put k h) d))
end
section
variable {X:Cx}{o e f:Expr}{apos cpos:Pos}{td ty tx:TE}
def SV(j:PE X o td)(he:PE X e ty)(hf:PE X f tx)(m:M2 X o "setdefault" apos e f cpos):PE X (.Call (.Attribute o "setdefault" apos) [e,f] [] cpos) (g9 td ty tx):=by
 intro pins s σ H Q I h;refine su m.base m.few m.line plainAttrs_dict PySem.F.slot_dict_setdefault PySem.F.type_dict_setdefault (jE (j pins s σ H _ I h) λu s1 ⟨x,H1,g,n,a,ex,d,p⟩=>?_);subst ex;obtain rfl:u=Value.ref a:=n;obtain⟨t1,q,_⟩:=Hx g d;refine⟨t1,q,?_⟩;rw[m.trees];refine yK rfl (vT (j7 (jE (he pins s1 σ H1 _ g p) λL s2 ⟨y,r,t,w,A⟩=>j7 (jE (hf pins s2 σ r _ t A) λM s3 ⟨z,B,C,i,D,k,E,F,l,G,J⟩=>uQ ?_))));subst F;exact aN C E w i l (λv ev N s4 b c=>⟨_,B,b,c,G v ev⟩) λK s4 b=>⟨z,_,b,i,J K⟩
end
def Kj:∀(xs acc:qe){t:qb},t∈acc\/t∈xs->t∈xs.foldl YR acc
 |[],acc,t,h=>h.elim id λz=>nomatch z
 |x::xs,acc,t,h=>by
  refine Kj xs (YR acc x) ?_;unfold YR;rcases h with h|h
  .left;split
   .exact h
   .exact qy _ h
  .rcases qJ.mp h with rfl|h
   .left;split
    .assumption
    .exact qv _ (qk.mpr rfl)
   .exact .inr h
def Lr{t:qb}(h:t∈xs):t∈WZ xs:=Kj xs [] (.inr h)
def kn(T xs:qe):qa (Key×V):=(WZ xs).map λw=>(Sum.inr w,V.bl (decide (w∈T)))
def ab(T xs:qe):(kn T xs).length<=xs.length:=by unfold kn;rw[qh];exact S8 xs
def cy(T xs:qe):(kn T xs).map (λa=>kV a.1)=(WZ xs).map V.str:=by unfold kn;rw[qT];rfl
def Fd(T:qe)(w:qb):∀ys:qe,Qx (ys.map λw=>((Sum.inr w:Key),V.bl (decide (w∈T)))) (Sum.inr w)=if w∈ys then some (V.bl (decide (w∈T))) else none
 |[]=>rfl
 |y::ys=>by
  rw[qU];by_cases e:y=w
  .subst e;rw[Yy rfl,qG (qz ..)]
  .rw[Yv (λz=>e (jJ z)),Fd T w ys];by_cases m:w∈ys
   .rw[qG m,qG (qF _ m)]
   .rw[qC m,qC (λz=>(qJ.mp z).elim (λq=>e q.symm) m)]
def M3(T xs:qe)(w:qb):Qx (kn T xs) (Sum.inr w)=if w∈WZ xs then some (V.bl (decide (w∈T))) else none:=Fd T w (WZ xs)
def T9(h:w∈WZ xs):kn T (xs++[w])=kn T xs:=by
 unfold kn;rw[ET];unfold YR;rw[qG h]
def aa(h:¬w∈WZ xs):kn T (xs++[w])=kn T xs++[(Sum.inr w,V.bl (decide (w∈T)))]:=by
 unfold kn;rw[ET];unfold YR;rw[qC h,qI];rfl
def fW(h:w∈T):Yc (kn T xs) (Sum.inr w) (.bl true)=kn T (xs++[w]):=by
 unfold Yc;rw[UK,M3];by_cases m:w∈WZ xs
 .rw[qG m,T9 m,qG (show(some _:Option V).isSome=true from rfl)];unfold kn;rw[qT];refine jU λu _=>?_;show(if (Sum.inr u:Key)=Sum.inr w then ((Sum.inr u:Key),V.bl true) else (Sum.inr u,V.bl (decide (u∈T))))=_;by_cases e:u=w
  .subst e;rw[qG rfl,qt h]
  .rw[qC (λz=>e (jJ z))]
 .rw[qC m,qC nofun,aa m,qt h]
def Lx(a:∀u∈T,u∈xs)(h:Qx (kn T xs) (Sum.inr w)=none):Yc (kn T xs) (Sum.inr w) (.bl false)=kn T (xs++[w]):=by
 have m:¬w∈WZ xs:=λm=>by rw[M3,qG m] at h;cases h
 unfold Yc;rw[UK,h,qC nofun,aa m,qE (λz=>m (Lr (a w z)))]
def Lw{v:V}(h:Qx (kn T xs) (Sum.inr w)=some v):kn T (xs++[w])=kn T xs:=by
 refine T9 ?_;by_cases m:w∈WZ xs
 .exact m
 .rw[M3,qC m] at h;cases h
def SX(x:qc)(H H':Hp):Prop:=∀c o,c≠x->H c=some o->H' c=some o
def SX.of{H':Hp}(h:Qj H H'):SX x H H':=λc o _ e=>h c o e
def SX.trans{H1 a:Hp}(h:SX x H H1)(g:SX x H1 a):SX x H a:=λc o n e=>g c o n (h c o n e)
def SX.free{l:qc}{H1:Hp}{o:HO}(h:SX x H H1)(e:H1 x=some o)(n:H1 l=none):H l=none:=by
 cases q:H l with
 |none=>rfl
 |some u=>
  by_cases z:l=x
  .rw[z,e] at n;cases n
  .rw[h l u z q] at n;cases n
variable {led:Bool}{a:qc}{ks:qe}
def Gb:qd->qb
 |.str x _=>x
 |_=>""
def WE(prog:Program)(w:World)(led:Bool)(a:qc)(ks:qe)(h:Heap):Prop:=∃o es b t,h.get? a=some o/\o.ExactSet/\o.data=.set es b t/\ElemsOf (strKind prog w) es.toList/\es.size<scanBound/\t.fits es.size=true/\t.led=led /\
 (t.plain=true->es.size=0)/\(es.toList.map λe=>Gb e.2).Perm ks
def WE.at{prog:Program}{w:World}{h h':Heap}(x:WE prog w led a ks h)(k:∀o,h.get? a=some o->h'.get? a=some o):WE prog w led a ks h':=
 let ⟨o,es,b,t,e,r⟩:=x;⟨o,es,b,t,k o e,r⟩
def DS{prog:Program}{w:World}{l:qa (Int×qd)}(h:ElemsOf (strKind prog w) l){e:Int×qd}(he:e∈l):∃t,e.2=.str (Gb e.2) t:=by
 obtain⟨⟨k,a,_⟩,_⟩:=h e he;obtain⟨t,q⟩:=Value.isStrOf_shape (show Value.isStrOf k e.2=true from a);exact⟨t,by rw[q];rfl⟩
def ah{k:qb}{v:qd}{t:Tok}(h:v=.str (Gb v) t):Value.isStrOf k v=decide (k=Gb v):=by
 rw[h];show Value.isStrOf k (.str (Gb v) t)=decide (k=Gb v);by_cases e:k=Gb v
 .rw[<-e,qt rfl];simp[Value.isStrOf]
 .rw[qE e];simp[Value.isStrOf];exact λz=>e z.symm
def M0(t:SetTable)(es:Array (Int×qd))(h:Int)(x:qd):(layNew t es h x).2.1.led=t.led:=by
 unfold layNew;split
 .show(SetTable.orStandIn _ _).led=_;unfold SetTable.orStandIn;split<;>rfl
 .rfl
def FU(t:SetTable)(es:Array (Int×qd))(wanted:Nat):(relayAll t es wanted).2.1.led=t.led/\((relayAll t es wanted).2.1.plain=true->t.plain=true):=by
 unfold relayAll;split
 .rename_i t' order he
  have e:t'.led=t.led/\t'.plain=t.plain:=by
   unfold SetTable.relaid SetTable.laid at he
   cases hc:SetTable.layClean (SetTable.sizeAbove wanted-1) (es.map (·.1)) with
   |none=>rw[hc] at he;cases he
   |some a=>rw[hc] at he;cases he;exact⟨U,U⟩
  dsimp only;split
  .exact⟨e.1,λz=>by rw[<-e.2];exact z⟩
  .exact⟨U,λz=>by cases z⟩
 .exact⟨U,λz=>by cases z⟩
section
variable {prog:Program}{w:World}{A:Around}{E:qf}{s:Shared}
def CS{h:Heap}{o:Obj}{es:Array (Int×qd)}{c:Nat}{t:SetTable}(i:h.get? a=some o)(hex:o.ExactSet)(hd:o.data=.set es c t){b:Array (Int×qd)}{t':SetTable}
 (d:ElemsOf (strKind prog w) b.toList) (j:b.size<scanBound) (hf:t'.fits b.size=true) (k:t'.led=led) (l:t'.plain=true->b.size=0) (m:(b.toList.map λe=>Gb e.2).Perm ks) :
 (h.update a (Obj.putSet b t')).get? a=some {o with data:=.set b (c+1) t'}/\WE prog w led a ks (h.update a (Obj.putSet b t')):=by
 have hg:(h.update a (Obj.putSet b t')).get? a=some {o with data:=.set b (c+1) t'}:=by
  have f:=putSet_of b t' hd;have g:=jr (Obj.putSet b t') i (by rw[f];rfl);rw[f] at g;exact g
 exact⟨hg,_,b,c+1,t',hg,hex,U,d,j,hf,k,l,m⟩
def RW{g:Bool->Sem Unit}(hg:∀(b:Bool)(z:Shared)(R:Unit->Shared->Prop),R () z->wpAny (model prog w) A (g b) R E z){o:Obj}{es:Array (Int×qd)}{u:Nat}{t:SetTable}
 (l:s.heap.get? a=some o) (hex:o.ExactSet) (hd:o.data=.set es u t) {c:Array (Int×qd)} {d:SetTable} (f:ElemsOf (strKind prog w) c.toList) (i:c.size<scanBound) (hf:d.fits c.size=true) (m:d.led=led) (n:d.plain=false)
 (p:(c.toList.map λe=>Gb e.2).Perm ks) {j:Bool} {R:Option Bool->Shared->Prop} (h:∀h',Heap.SameBut a s.heap h'->WE prog w led a ks h'->R (some true) {s with heap:=h'}) :
 wpAny (model prog w) A (do
  storeSet a c d
  if (!j&&d.tooFull)=true then do
      g (relayAll d c (SetTable.grown c.size)).2.2
      storeSet a (relayAll d c (SetTable.grown c.size)).1 (relayAll d c (SetTable.grown c.size)).2.1
      pure (some true)
   else pure (some true)) R E s:=by
 refine qi (wpAny_storeSet_of l hd ?_ (fits_of_scanBound i));obtain⟨g1,v⟩:=CS (prog:=prog) (w:=w) l hex hd f i hf m (λz=>by rw[n] at z;cases z) p;have q:=jo s.heap a (Obj.putSet c d);split
 .have pm:=relayAll_perm d c (SetTable.grown c.size);have j:=relayAll_fits d c (SetTable.grown c.size);have ld:=FU d c (SetTable.grown c.size);generalize relayAll d c (SetTable.grown c.size)=Z at pm j ld⊢;obtain⟨k,t3,y⟩:=Z;dsimp only at pm j ld⊢;have r:k.size=c.size:=by rw[<-zf,pm.length_eq,zf]
  refine qi (hg _ _ _ (qi (wpAny_storeSet_of g1 rfl ?_ (fits_of_scanBound (by rw[r];exact i)))));obtain⟨_,x⟩:=CS (prog:=prog) (w:=w) (led:=led) (ks:=ks) g1 hex rfl (f.perm pm) (by rw[r];exact i) j (ld.1.trans m) (λz=>by have:=ld.2 z;rw[n] at this;cases this) ((pm.map _).trans p);exact qu (h _ (q.trans (jo _ a _)) x)
 .exact qu (h _ q v)
def Sm{k:qb}{u:Tok}{Q:Bool->Shared->Prop}(hS:WE prog w led a ks s.heap)(r:ks.length+1<scanBound)
 (h:∀(b:Bool)(h':Heap),Heap.SameBut a s.heap h'->WE prog w led a (YH ks k) h'->Q b {s with heap:=h'}):wpAny (model prog w) A (setAddHashed a (.str k u) (hashStr w k)) Q E s:=by
 obtain⟨o,es,M,t,B,hex,hd,f,J,hf,g,G,i⟩:=hS;have n:(strKind prog w).is k (.str k u)=true:=by show Value.isStrOf k (.str k u)=true;simp[Value.isStrOf]
 have v:(Value.str k u).scannable=true:=rfl;have hlen:es.size=ks.length:=by rw[<-i.length_eq,qh,zf]
 unfold setAddHashed setAddHashedIn;refine jz (qi (xo B hd hf ?_));dsimp only;rw[byScan_of v J f];simp only[↓reduceIte];unfold setAddByScan;refine qi (qi (QaZ (qi (wpAny_setScan_of (knd:=strKind prog w) n B hd hf f ?_))))
 cases K:List.findIdx? (λe=>(strKind prog w).is k e.2) es.toList with
 |some j=>
  dsimp only;obtain⟨m,c,_⟩:=List.findIdx?_eq_some_iff_getElem.mp K;have hm:=jj m;obtain⟨x,p⟩:=DS f hm;have d:k∈ks:=i.mem_iff.mp (qj.mpr ⟨_,hm,by
   have l:Value.isStrOf k es.toList[j].2=true:=c;rw[ah p] at l;exact(ql l).symm⟩)
  refine qu (qu ?_);have e:s={s with heap:=s.heap}:=by cases s;rfl
  rw[e];exact h false s.heap (Heap.SameBut.refl a s.heap) ⟨o,es,M,t,B,hex,hd,f,J,hf,g,G,by unfold YH;rw[qG d];exact i⟩
 |none=>
  dsimp only;have C:¬k∈ks:=λz=>by
   obtain⟨e,he,d⟩:=qj.mp (i.mem_iff.mpr z);obtain⟨p,l⟩:=DS f he;have m:=List.findIdx?_eq_none_iff.mp K e he;have c:Value.isStrOf k e.2=false:=m;rw[ah l,d,qt rfl] at c;cases c
  have c:=layNew_perm t es (hashStr w k) (.str k u);have d:=layNew_fits t es (hashStr w k) (.str k u);have l:=M0 t es (hashStr w k) (.str k u);have H:(YH ks k)=ks++[k]:=by unfold YH;rw[qC C]
  generalize layNew t es (hashStr w k) (.str k u)=Z at c d l⊢;obtain⟨m,t1,N,L⟩:=Z;dsimp only at c d l⊢;rw[Array.toList_push] at c;have p:ElemsOf (strKind prog w) m.toList:=(f.push (k:=k) n v).perm c;have O:m.size=es.size+1:=by rw[<-zf,c.length_eq,qx,zf];rfl
  have D:m.size<scanBound:=by rw[O,hlen];exact r
  have F:(m.toList.map λe=>Gb e.2).Perm (YH ks k):=by
   rw[H];refine(c.map _).trans ?_;rw[qI];exact i.append_right _
  have P:∀(b:Bool)(z:Shared)(R:Unit->Shared->Prop),R () z->wpAny (model prog w) A (match b with|true=>rule "set.scan.the-table-gave-way"|false=>pure ()) R E z:=λb z R q=>by cases b<;>first|exact qu q|exact QaZ q
  refine qi (P _ _ _ ?_);split
  .refine qi ?_;rw[hashByValue_scannable 8 v];refine qu ?_;refine RW (led:=led) (ks:=YH ks k) ?_ B hex hd p D ?_ ?_ ?_ F ?_
   .intro b z R q;cases b<;>first|exact qu q|exact QaZ q
   .exact SetTable.fits_plain_off d
   .exact l.trans g
   .rfl
   .intro h' x y;dsimp only;exact qu (h true h' x y)
  .rename_i I
   refine qi (qu ?_);simp only[↓reduceIte];refine RW (led:=led) (ks:=YH ks k) ?_ B hex hd p D d ?_ ?_ F ?_
   .intro b z R q;cases b<;>first|exact qu q|exact QaZ q
   .exact l.trans g
   .exact Bool.eq_false_iff.mpr I
   .intro h' x y;dsimp only;exact qu (h true h' x y)
def Dw(val:Nat->qb)(i:Nat):qe:=((List.range i).map val).foldl YH []
def E5(val:Nat->qb)(i:Nat):Dw val (i+1)=YH (Dw val i) (val i):=by
 unfold Dw;rw[List.range_succ,qI,jB];rfl
def Lq(val:Nat->qb):∀i,(Dw val i).length<=i
 |0=>qB _
 |i+1=>by
  rw[E5];have a:=Lq val i;unfold YH;split
  .omega
  .rw[qx,qO];omega
def CQ{R:Result->Shared->Prop}{I:qc}{x wr:qa qc}{G:Array GenState->Array GenState->Prop}{n:Nat}{P:Nat->qd->Prop}{St:Nat->Shared->Prop}(W:WalksS prog w A.in1 I x wr G n P St)(S:qc)(y:S∉x)
 (val:Nat->qb) (d:∀i v,P i v->∃t,v=.str (val i) t) (c:n+1<scanBound):∀(k i:Nat)(s:Shared),n-i=k->i<=n->St i s->WE prog w led S (Dw val i) s.heap ->
   (∀s',Moved (S::wr) G s s'->WE prog w led S (Dw val n) s'.heap->R (.ok (.ret .none)) s')->codeAny (model prog w) A (.builtin "set.update.loop" ⟨[.ref S,.ref I],[]⟩) R s:=by
 have nw:S∉wr:=λh=>y (W.sub _ h);have sub:∀b∈wr,b∈S::wr:=λb c=>qF _ c;intro k
 induction k with
 |zero=>
  intro i s B C a hS p;obtain rfl:i=n:=by omega
  refine yv F.entry_set_update_loop ?_;rw[yi F.plain_set_update_loop _];refine qi (m:=pyNext (.ref I)) (W.done s _ _ a λs' f=>?_);exact qu (p s' (f.mono sub) (hS.at λo e=>f.heap S o nw e))
 |succ k D=>
  intro i s B C a hS p;have lt:i<n:=by omega
  refine yv F.entry_set_update_loop ?_;rw[yi F.plain_set_update_loop _];refine qi (m:=pyNext (.ref I)) (W.item i s _ _ lt a λv s' E g f=>?_);obtain⟨t,rfl⟩:=d i v E;have q:=hS.at (h':=s'.heap) λo e=>f.heap S o nw e;refine qi (m:=holding [Value.str (val i) t] (setAdd S (.str (val i) t))) (jz ?_);unfold setAdd;refine jz (qi ((strKind prog w).pyHash (k:=val i) (show Value.isStrOf (val i) (.str (val i) t)=true by simp[Value.isStrOf]) ?_));have room:(Dw val i).length+1<scanBound:=by have:=Lq val i;omega
  refine Sm (s:={s' with toks:=s'.toks+1}) (led:=led) q room λb h' z j=>?_;rw[<-E5] at j;refine qu ⟨mr F.plain_set_update_loop _,D (i+1) _ (by omega) lt (W.frame _ s' _ _ g (oO _) λb c o e=>?_) j λr u l=>?_⟩
  .rw[z.2 b (λh:b=S=>y (by rw[<-h];exact c))];exact e
  .refine p r (Moved.trans W.gtrans ((f.mono sub).then_heap (oO _) λb o c e=>?_) u) l;rw[z.2 b (λh:b=S=>c (by rw[h];exact qz))];exact e
def UG(w:World):Obj:={cls:=.type "set",dict:=none,data:=.set #[] 0 (.fresh 0 0 (!w.params.followText "set-order"))}
def EZ(v:qd){R:qf}(h:R (.ref s.heap.objs.size) {s with heap:=s.heap.push (UG w)}):codeAny (model prog w) A (.call (.builtin "set.__new__") ⟨[.type "set",v],[]⟩) (wants R E) s:=by
 refine codeAny_of_tree ?_;refine qi (m:=checkBuiltinCall "set.__new__" ⟨[.type "set",v],[]⟩) (wpAny_of_eq (F.newCall_set_1 v) (qu ⟨mr F.plain_set_new _,yv F.entry_set_new ?_⟩));rw[yi F.plain_set_new _];unfold Builtin.«set.__new__» Builtin.Frozenset.newClass;have sub:=sub_set_self;obtain⟨a,g,d,b,os⟩:=s;dsimp only
 wp_walk
 refine xS (qu ?_);dsimp only;simp only[newObj];exact qi (wpAny_alloc (qu (qu h)))
def FC:∀{vs:qg}{ss:qe},StrsAre vs ss->∀(i:Nat)(v:qd),vs[i]?=some v->∃t,v=.str (ss.getD i "") t
 |_,_,.nil,i,v,h=>by simp at h
 |_,_,.cons x t r,0,v,h=>by simp at h;exact⟨t,by rw[<-h];rfl⟩
 |_,_,.cons x t r,i+1,v,h=>by
  rw[List.getElem?_cons_succ] at h;obtain⟨t',e⟩:=FC r i v h;exact⟨t',by rw[e];rfl⟩
def XY:∀{vs:qg}{ss:qe},StrsAre vs ss->vs.length=ss.length
 |_,_,.nil=>rfl
 |_,_,.cons x t r=>by rw[qV,qV,XY r]
def C2(ss:qe):(List.range ss.length).map (λi=>ss.getD i "")=ss:=by
 apply List.ext_getElem
 .rw[qh,jP]
 .intro i b a;rw[List.getElem_map,QbM,zC,qA a];rfl
def dC:WE prog w (!w.params.followText "set-order") s.heap.objs.size [] (s.heap.push (UG w)):=
 ⟨_,#[],0,_,qK _ rfl,⟨U,U,U⟩,U,(λe he=>by simp at he),by decide,by rfl,U,(λ_=>rfl),by simp⟩
end
section
variable {prog:Program}{w:World}{A:Around}{E:qf}{s:Shared}
set_option maxHeartbeats 3200000 in
def Nl{l:qc}{items:Array qd}{ss:qe}{Q:qf}(M:A.handled=none)(N:s.heap.IsList l items)(C:StrsAre items.toList ss)(k:items.size+1<scanBound)
 (h:∀(h':Heap)(m:Nat),WE prog w (!w.params.followText "set-order") s.heap.objs.size (ss.foldl YH []) h'->(∀b o,b<s.heap.objs.size->s.heap.get? b=some o->h'.get? b=some o)->Q (.ref s.heap.objs.size) {s with heap:=h',toks:=m}) :
 wpAny (model prog w) A (call (.type "set") [.ref l]) Q E s:=by
 obtain⟨c,Z,m1⟩:=jt.mro;have m2:=jt.made;have m3:=jt.sub;have m4:=jt.notType;have m5:=jt.canCreate;have m6:=F.typeCall_set_1 (.ref l);refine wpAny_call (codeAny_of_tree ?_);show wpAny _ _ (callAny (.type "set") _) _ _ _;refine qu ⟨Code.quiet_builtin _ (by decide +kernel),yv F.entry_type_call ?_⟩;rw[Around.under_plain (weight_type_call_type "set" [.ref l] []) rfl]
 repeat (any_goals (first|assumption|wp_step))
 refine xn (EZ (.ref l) (E:=E) (R:=λz n=>z=.ref s.heap.objs.size/\n={s with heap:=s.heap.push (UG w)}) ⟨U,U⟩) λr D p=>?_
 cases r with
 |error e=>exact p
 |ok O=>
  cases O with
  |ret z=>
   obtain⟨rfl,rfl⟩:=p;have n:(s.heap.push (UG w)).get? s.heap.objs.size=some (UG w):=qK _ rfl;have G:Shared.TypeIs {s with heap:=s.heap.push (UG w)} (.ref s.heap.objs.size) "set":=⟨_,n,U⟩;have z3:=jt.init.lookup;have z4:=jt.init.bind (.ref s.heap.objs.size)
   repeat (any_goals (first|assumption|wp_step))
   refine xn (codeAny_call_builtin (R:=wants (λr d=>r=.none/\∃h' m,d={s with heap:=h',toks:=m}/\WE prog w (!w.params.followText "set-order") s.heap.objs.size (ss.foldl YH []) h' /\
    (∀b o,b<s.heap.objs.size->s.heap.get? b=some o->h'.get? b=some o)) E) jt.init.plain F.entry_set_init (check_set_init_1 G ?_)) λg d a=>?_
   .obtain⟨ol,H,I,nl,J⟩:=N;obtain⟨K,f,q,oslots⟩:=ol;simp only at I J;subst I;subst J;have L:(s.heap.push (UG w)).get? l=some {cls:=.type "list",dict:=f,data:=.seq items nl,slots:=oslots}:=qw _ H;have y2:=F.sub_list_set;have y3:=F.sub_list_frozenset;have y4:(Value.type "list"==Value.type "dict")=false:=by decide
    have u:(s.heap.push (UG w)).IsList l items:=⟨_,L,U,nl,U⟩;unfold Builtin.«set.__init__» noKeywords Builtin.Frozenset.updateFrom;generalize x:pyIter=PI;unfold UG at n G L u⊢
    wp_walk
    subst x;refine wpAny_pyIter_list u ?_;refine qi (wpAny_runValue ?_);have lt:l<s.heap.objs.size:=qR H;have P:A.in1.in1.in1.handled=none:=by simp[M]
    have ne:l≠(s.heap.push {cls:=.type "set",dict:=none,data:=.set #[] 0 (.fresh 0 0 (!w.params.followText "set-order"))}).objs.size:=by
     rw[yg];exact za (jQ lt)
    have S:s.heap.objs.size∉[(s.heap.push {cls:=.type "set",dict:=none,data:=.set #[] 0 (.fresh 0 0 (!w.params.followText "set-order"))}).objs.size,l]:=by
     rw[yg];intro z;rcases qJ.mp z with z|z
     .omega
     .rw[qk.mp z] at lt;exact yp _ lt
    have T:∀(i:Nat)(v:qd),items[i]?=some v->∃t,v=.str ((λi=>ss.getD i "") i) t:=λi v e=>FC C i v (by rw[zq];exact e);have es:Dw (λi=>ss.getD i "") items.size=ss.foldl YH []:=by
     unfold Dw;rw[<-zf,XY C,C2]
    refine CQ (led:=!w.params.followText "set-order") ((Walks.list P _ l ne items).toS) s.heap.objs.size S (λi=>ss.getD i "") T k (items.size-0) 0 _ (by omega) (q0 _) ⟨⟨_,qK _ rfl,U,U⟩,u.push _⟩ ?S0 ?R0
    case S0=>exact(dC (prog:=prog) (w:=w) (s:=s)).at λo e=>qw _ e
    case R0=>
     intro s' hm j;obtain⟨h',g',d',y,B⟩:=s';have V:g'=s.gens:=hm.gens;have X:d'=s.drawn:=hm.drawn;have Y:B=s.os:=hm.os;subst V;subst X;subst Y;rw[es] at j;refine qu (qu ⟨U,h',y,U,j,λb o k e=>?_⟩);refine hm.heap b o (λz=>?_) (qw _ (qw _ e));rcases qJ.mp z with z|z
     .exact absurd z (za k)
     .have z:=qk.mp z;rw[yg] at z;exact absurd z (za (jQ k))
   .cases g with
    |error e=>exact a
    |ok f=>
     cases f with
     |ret r=>
      obtain⟨rfl,h',m,rfl,a1,a2⟩:=a
      repeat (any_goals (first|assumption|wp_step))
      exact h _ _ a1 a2
     |_=>exact a.elim
  |_=>exact p.elim
end
variable {i:Nat}
def VA{α:Type}:∀(l:qa α)(i:Nat)(h:i<l.length),(l[i]::l.eraseIdx i).Perm l
 |x::l,0,_=>.refl _
 |x::l,i+1,h=>by
  show(l[i]'(yo h)::x::l.eraseIdx i).Perm (x::l);exact(List.Perm.swap x _ _).trans ((VA l i (yo h)).cons x)
def Oq{α:Type}(next:Nat->Nat):∀(fuel k:Nat)(left:qa α)(out:Array α),left.length=fuel->(pickOrder.go next fuel k left out).toList.Perm (out.toList++left)
 |0,k,left,out,h=>by
  obtain rfl:left=[]:=ya.mp h;rw[zr];exact .refl _
 |n+1,k,left,out,h=>by
  have a:next k%left.length<left.length:=Nat.mod_lt _ (by omega);unfold pickOrder.go;rw[qA a];dsimp only;refine(Oq next n (k+1) _ _ (by rw[List.length_eraseIdx_of_lt a,h];rfl)).trans ?_;rw[Array.toList_push,jk];exact(VA left _ a).append_left _
def AY{α:Type}(next:Nat->Nat)(xs:Array α):(pickOrder next xs).toList.Perm xs.toList:=by
 have:=Oq next xs.size 0 xs.toList #[] (by simp);exact this
def Q7:Slot "set_iterator" "__next__" "set_iterator.__next__":=.of (owner:="set_iterator") (n:="__next__") (by rw[typeLookup_type,builtinLookup_eq_fast];kernel_rfl) (by decide +kernel) (by decide +kernel) (by decide +kernel) (by first|exact .inl (by decide +kernel)|exact .inr (by decide +kernel)) (by rw[pA];kernel_rfl)
def Vp:entryFor table "set_iterator.__next__"=some Builtin.«set_iterator.__next__»:=entryFor_of_tree (by kernel_rfl)
def VP(a:qd):argsOk "set_iterator.__next__" ⟨[a],[]⟩:=by unfold argsOk;kernel_rfl
def Kr:entryFor table "set.__iter__"=some Builtin.«frozenset.__iter__»:=entryFor_alias (id':="frozenset.__iter__") (by kernel_rfl) rfl (by decide +kernel) (by kernel_rfl)
def Gd:Slot "set_iterator" "__iter__" "set_iterator.__iter__":=.of (owner:="set_iterator") (n:="__iter__") (by rw[typeLookup_type,builtinLookup_eq_fast];kernel_rfl) (by decide +kernel) (by decide +kernel) (by decide +kernel) (by first|exact .inl (by decide +kernel)|exact .inr (by decide +kernel)) (by rw[pA];kernel_rfl)
def Fx{M:Model}{A:Around}{E:qf}{s:Shared}{src:Source}{n:Nat}{Q:Nat->Shared->Prop}(a:n≠0)(h:∀i d',i<n->Q i {s with drawn:=d'}):wpAny M A (choose src n) Q E s:=
 λ_ _ _=>⟨a,h _ _ (Nat.mod_lt _ (Nat.pos_of_ne_zero a))⟩
def XI{M:Model}{A:Around}{E:qf}{α:Type}:∀(n:Nat)(xs:qa α)(s:Shared)(Q:qa α->Shared->Prop),xs.length=n->(∀ys d',ys.Perm xs->Q ys {s with drawn:=d'})->wpAny M A (drawOrder n xs) Q E s
 |0,xs,s,Q,a,h=>by
  obtain rfl:xs=[]:=ya.mp a;have e:s={s with drawn:=s.drawn}:=by cases s;rfl
  unfold drawOrder;refine qu ?_;rw[e];exact h [] _ (.refl _)
 |n+1,[],s,Q,a,h=>by cases a
 |n+1,x::xs,s,Q,a,h=>by
  unfold drawOrder;refine qi (Fx (by simp) λi d' b=>?_);have e:(x::xs)[i]?=some (x::xs)[i]:=qA b;rw[e];dsimp only;refine qi (XI n ((x::xs).eraseIdx i) _ _ (by rw[List.length_eraseIdx_of_lt b,a];rfl) λys c d=>qu ?_);exact h _ c ((d.cons _).trans (VA _ i b))
def Vt(h:Heap)(it a:qc)(first:qd)(i n b:Nat):Prop:=∃o,h.get? it=some o/\o.cls=.type "set_iterator"/\o.data=.fields #[first,.int i 0,.ref a,.int n 0,.int b 0]
def SAt(h:Heap)(a:qc)(es:Array (Int×qd))(b:Nat)(t:SetTable):Prop:=∃o,h.get? a=some o/\o.cls=.type "set"/\o.data=.set es b t
section
variable {prog:Program}{w:World}{A:Around}{E:qf}{s:Shared}{a it:qc}{es:Array (Int×qd)}{ep:Nat}{t:SetTable}
def Vt.typeIs{first:qd}{n:Nat}(h:Vt s.heap it a first i n ep):s.TypeIs (.ref it) "set_iterator":=let ⟨o,e,c,_⟩:=h;⟨o,e,c⟩
def Ko{Q:qf}(hS:SAt s.heap a es ep t)(hf:t.fits es.size=true)(c:(!w.params.followText "set-order"&&(!t.plain&&decide (es.size > 1)))=false)
 (h:Q (.ref s.heap.objs.size) {s with heap:=s.heap.push {cls:=.type "set_iterator",data:=.fields #[.int 0 0,.int 0 0,.ref a,.int es.size 0,.int ep 0]}}) :
 wpAny (model prog w) A (pyIter (.ref a)) Q E s:=by
 obtain⟨o,b,hc,hd⟩:=hS;have d:s.TypeIs (.ref a) "set":=⟨o,b,hc⟩;refine sD d slot_set_iter (zU slot_set_iter d Kr ?_ (PySem.F.args_set_iter_1 _));unfold Builtin.«frozenset.__iter__» Builtin.Frozenset.slot0 slotArgs;simp only[vz,uO,zE,↓reduceIte,bind_assoc,jZ,yS];unfold Builtin.Frozenset.addrOf Builtin.Frozenset.sizeOf;refine qi (qu ?_)
 try dsimp only
 refine qi (qu ?_);refine qi (qi (xQ b hd hf (qu ?_)));unfold setDrawn setsByText;refine qi (qi (xo b hd hf ?_));refine qi (qi (xS (qu ?_)));refine qu ?_;refine yw (λz=>?_) (λ_=>?_)
 .have e:(!w.params.followText "set-order"&&(!t.plain&&decide (es.size > 1)))=true:=z;rw[c] at e;cases e
 refine qi (qu ?_);refine qi (wpAny_setEpoch_of b hd hf ?_);unfold newFields;refine qi (zJ (qu ⟨_,U,"set_iterator",_,⟨_,qK _ rfl,U⟩,Q7.lookup,?_⟩));exact h
def UA(ps:qa Nat):Obj:={cls:=.type "tuple",data:=.seq (ps.map λ(i:Nat)=>rawInt i).toArray}
def DE{Q:qf}(hS:SAt s.heap a es ep t)(hf:t.fits es.size=true)(c:(!w.params.followText "set-order"&&(!t.plain&&decide (es.size > 1)))=true)(hz:es.size<=sizeLine)
 (h:∀ps d',ps.Perm (List.range es.size)->Q (.ref (s.heap.push (UA ps)).objs.size) {s with heap:=(s.heap.push (UA ps)).push {cls:=.type "set_iterator",data:=.fields #[.ref s.heap.objs.size,.int 0 0,.ref a,.int es.size 0,.int ep 0]},drawn:=d'}) :
 wpAny (model prog w) A (pyIter (.ref a)) Q E s:=by
 obtain⟨o,b,hc,hd⟩:=hS;have d:s.TypeIs (.ref a) "set":=⟨o,b,hc⟩;refine sD d slot_set_iter (zU slot_set_iter d Kr ?_ (PySem.F.args_set_iter_1 _));unfold Builtin.«frozenset.__iter__» Builtin.Frozenset.slot0 slotArgs;simp only[vz,uO,zE,↓reduceIte,bind_assoc,jZ,yS];unfold Builtin.Frozenset.addrOf Builtin.Frozenset.sizeOf;refine qi (qu ?_)
 try dsimp only
 refine qi (qu ?_);refine qi (qi (xQ b hd hf (qu ?_)));unfold setDrawn setsByText;refine qi (qi (xo b hd hf ?_));refine qi (qi (xS (qu ?_)));refine qu ?_;refine yw (λ_=>?_) (λz=>absurd (show(!w.params.followText "set-order"&&(!t.plain&&decide (es.size > 1)))=true from c) z);refine qi (XI _ _ _ _ jP λps d' e=>?_);have f:(ps.map λi:Nat=>rawInt i).length<=sizeLine:=by rw[qh,e.length_eq,jP];exact hz
 refine qi (wpAny_newTuple ?_ f);refine qi (wpAny_setEpoch_of (s:={s with heap:=s.heap.push (UA ps),drawn:=d'}) (qw _ b) hd hf ?_);unfold newFields;refine qi (zJ (qu ⟨_,U,"set_iterator",_,⟨_,qK _ rfl,U⟩,Q7.lookup,?_⟩));exact h ps d' e
def Kk{Q:Option qd->Shared->Prop}{slot:Nat}(d:Vt s.heap it a (.int slot 0) i es.size ep)(hS:SAt s.heap a es ep t)(hf:t.fits es.size=true)(g:a≠it)(x:qd)(nx:Nat)
 (j:∀(b:Around)(c:qf)(R:Option (qd×Nat)->Shared->Prop),R (some (x,nx)) s->wpAny (model prog w) b (setNext a slot i ep) R c s)
 (h:∀h',Vt h' it a (.int nx 0) (i+1) es.size ep->Heap.SameBut it s.heap h'->Q (some x) {s with heap:=h'}):wpAny (model prog w) A (pyNext (.ref it)) Q E s:=by
 obtain⟨m,c,e,b⟩:=id d;obtain⟨o,k,hc,hd⟩:=hS;unfold pyNext;refine qi (mu (ju (name:=Str.ofString "__next__") d.typeIs Q7 (zU Q7 d.typeIs Vp ?_ (VP _))));unfold Builtin.«set_iterator.__next__» slotArgs;simp only[vz,uO,zE,↓reduceIte,bind_assoc,jZ,yS];refine qi (qu ?_);refine qi (uR c b ?_);dsimp only;refine qi (xQ k hd hf ?_);rw[qC (by simp)];simp only[jO];refine qi (j _ _ _ ?_);dsimp only;refine qi (xU c b (by simp) ?_);have g1:=jr (Obj.mapFields (·.setIfInBounds 0 (rawInt (nx:Int)))) c (vA (jx b _));have f:=jx b (·.setIfInBounds 0 (rawInt (nx:Int)));refine qi (xU (s:={s with heap:=s.heap.update it (Obj.mapFields (·.setIfInBounds 0 (rawInt (nx:Int))))}) g1 f (by simp) ?_);have g2:=jr (Obj.mapFields (·.setIfInBounds 1 (rawInt ((i:Int)+1)))) g1 (vA (jx f _));have l:=jx f (·.setIfInBounds 1 (rawInt ((i:Int)+1)));refine qu ⟨_,U,qu (h _ ⟨_,g2,(sE ..).trans ((sE ..).trans e),?_⟩ ?_)⟩
 .rw[l];simp[rawInt]
 .exact(jo ..).trans (jo ..)
def W0{Q:Option qd->Shared->Prop}{slot:Nat}(f:A.handled=none)(e:Vt s.heap it a (.int slot 0) i es.size ep)(hS:SAt s.heap a es ep t)(hf:t.fits es.size=true)
 (g:∀(c:Around)(d:qf)(R:Option (qd×Nat)->Shared->Prop),R none s->wpAny (model prog w) c (setNext a slot i ep) R d s)
 (h:∀h',Heap.ExtBut it s.heap h'->Q none {s with heap:=h'}):wpAny (model prog w) A (pyNext (.ref it)) Q E s:=by
 obtain⟨l,c,j,d⟩:=id e;obtain⟨o,k,hc,hd⟩:=hS;unfold pyNext;refine qi (mu (ju (name:=Str.ofString "__next__") e.typeIs Q7 (zU Q7 e.typeIs Vp ?_ (VP _))));unfold Builtin.«set_iterator.__next__» slotArgs;simp only[vz,uO,zE,↓reduceIte,bind_assoc,jZ,yS];refine qi (qu ?_);refine qi (uR c d ?_);dsimp only;refine qi (xQ k hd hf ?_);rw[qC (by simp)];simp only[jO];refine qi (g _ _ _ ?_);dsimp only;refine qi (xU c d (by simp) ?_);refine qi ?_;simp only[newExc,newTuple];refine qi (zJ ?_ (by size_fits));refine qi (m:=firstArgMember _ _) (wpAny_of_eq (a:=Value.none) (by first|rfl|(simp only[firstArgMember];rfl)) ?_);refine zJ ?_ (by size_fits);simp only[raiseNew];refine qi (wpAny_handled ?_);rw[show A.in1.handled=none from f];refine qi (qu (wpAny_throw ?_));refine qi (Qai (T:="StopIteration") (b:=true) ⟨_,qK _ rfl,U⟩ isSubtype_stop ?_);exact qu (h _ (((jo ..).extBut.push _).push _))
def Df{Q:Option qd->Shared->Prop}{T:qc}{ps:qa Nat}{p:Nat}(d:Vt s.heap it a (.ref T) i es.size ep)(j:s.heap.get? T=some (UA ps))(hS:SAt s.heap a es ep t)(hf:t.fits es.size=true)(k:ps[i]?=some p){e:Int×qd}(he:es[p]?=some e)
 (h:∀h',Vt h' it a (.ref T) (i+1) es.size ep->Heap.SameBut it s.heap h'->Q (some e.2) {s with heap:=h'}):wpAny (model prog w) A (pyNext (.ref it)) Q E s:=by
 obtain⟨n,c,f,b⟩:=id d;obtain⟨o,g,hc,hd⟩:=hS;unfold pyNext;refine qi (mu (ju (name:=Str.ofString "__next__") d.typeIs Q7 (zU Q7 d.typeIs Vp ?_ (VP _))));unfold Builtin.«set_iterator.__next__» slotArgs;simp only[vz,uO,zE,↓reduceIte,bind_assoc,jZ,yS];refine qi (qu ?_);refine qi (uR c b ?_);dsimp only;refine qi (xQ g hd hf ?_);rw[qC (by simp)];simp only[jO];refine qi (wpAny_seqItems j rfl ?_);dsimp only;have l:((ps.map λ(i:Nat)=>rawInt i).toArray)[i]?=some (rawInt p):=by rw[List.getElem?_toArray,qQ,k];rfl
 rw[l];dsimp only[rawInt];unfold setNextDrawn;simp only[jO,bind_assoc];refine qi (xo g hd hf ?_);rw[qC (by simp)];rw[he];dsimp only;simp only[pure_bind];refine qi (xU c b (by simp) ?_);have g1:=jr (Obj.mapFields (·.setIfInBounds 1 (rawInt ((i:Int)+1)))) c (vA (jx b _));have m:=jx b (·.setIfInBounds 1 (rawInt ((i:Int)+1)));refine qu ⟨_,U,qu (h _ ⟨_,g1,(sE ..).trans f,?_⟩ (jo ..))⟩;rw[m];simp[rawInt]
def K7{Q:Option qd->Shared->Prop}{T:qc}{ps:qa Nat}(f:A.handled=none)(e:Vt s.heap it a (.ref T) i es.size ep)(g:s.heap.get? T=some (UA ps))(hS:SAt s.heap a es ep t)(hf:t.fits es.size=true)(j:ps[i]?=none)
 (h:∀h',Heap.ExtBut it s.heap h'->Q none {s with heap:=h'}):wpAny (model prog w) A (pyNext (.ref it)) Q E s:=by
 obtain⟨q,d,k,c⟩:=id e;obtain⟨o,l,hc,hd⟩:=hS;unfold pyNext;refine qi (mu (ju (name:=Str.ofString "__next__") e.typeIs Q7 (zU Q7 e.typeIs Vp ?_ (VP _))));unfold Builtin.«set_iterator.__next__» slotArgs;simp only[vz,uO,zE,↓reduceIte,bind_assoc,jZ,yS];refine qi (qu ?_);refine qi (uR d c ?_);dsimp only;refine qi (xQ l hd hf ?_);rw[qC (by simp)];simp only[jO];refine qi (wpAny_seqItems g rfl ?_);dsimp only;have n:((ps.map λ(i:Nat)=>rawInt i).toArray)[i]?=none:=by rw[List.getElem?_toArray,qQ,j];rfl
 rw[n];dsimp only;refine qi (xU d c (by simp) ?_);have g1:=jr (Obj.mapFields (·.setIfInBounds 0 (rawInt 0))) d (vA (jx c _));have p:=jx c (·.setIfInBounds 0 (rawInt 0));refine qi (xU (s:={s with heap:=s.heap.update it (Obj.mapFields (·.setIfInBounds 0 (rawInt 0)))}) g1 p (by simp) ?_);refine qi ?_;simp only[newExc,newTuple];refine qi (zJ ?_ (by size_fits));refine qi (m:=firstArgMember _ _) (wpAny_of_eq (a:=Value.none) (by first|rfl|(simp only[firstArgMember];rfl)) ?_);refine zJ ?_ (by size_fits);simp only[raiseNew];refine qi (wpAny_handled ?_);rw[show A.in1.handled=none from f];refine qi (qu (wpAny_throw ?_));refine qi (Qai (T:="StopIteration") (b:=true) ⟨_,qK _ rfl,U⟩ isSubtype_stop ?_);exact qu (h _ ((((jo ..).trans (jo ..)).extBut.push _).push _))
end
section
variable {prog:Program}{w:World}{A:Around}{E:qf}{s:Shared}{a it:qc}{es:Array (Int×qd)}{ep:Nat}{t:SetTable}
def GW{i slot:Nat}{R:Option (qd×Nat)->Shared->Prop}(hS:SAt s.heap a es ep t)(hf:t.fits es.size=true)(b:w.params.followText "set-order"=true)
 (h:R (((pickOrder (w.params.setOrder a ep) es)[i]?).map λe=>(e.2,slot)) s):wpAny (model prog w) A (setNext a slot i ep) R E s:=by
 obtain⟨o,c,hc,hd⟩:=hS;unfold setNext setsByText;refine qi (xo c hd hf ?_);refine qi (qi (xS (qu ?_)));refine yw (λ_=>?_) (λz=>absurd (show w.params.followText "set-order"=true from b) z);rw[qC (by simp)];refine qi ?_;unfold setWalk setsByText;refine qi (xo c hd hf ?_);refine qi (qi (xS (qu ?_)));refine yw (λ_=>?_) (λz=>absurd (show w.params.followText "set-order"=true from b) z);refine qi (xS ?_);exact qu (qu h)
def X5{i slot:Nat}{R:Option (qd×Nat)->Shared->Prop}(hS:SAt s.heap a es ep t)(hf:t.fits es.size=true)(c:w.params.followText "set-order"=false)(d:t.led=true)(hz:es.size<=1)
 (h:R (match es[SetTable.below t.place slot]?,t.place[SetTable.below t.place slot]? with|some (_,x),some j=>some (x,j+1)|_,_=>none) s):wpAny (model prog w) A (setNext a slot i ep) R E s:=by
 obtain⟨o,e,hc,hd⟩:=hS;unfold setNext setsByText;refine qi (xo e hd hf ?_);refine qi (qi (xS (qu ?_)));refine yw (λz=>absurd (show w.params.followText "set-order"=true from z) (by rw[c];exact qH)) (λ_=>?_);refine yw (λz=>?_) (λ_=>?_)
 .have b:(!t.plain&&decide (es.size > 1))=true:=z;rw[jc] at b;have:=ql b.2;omega
 refine qi ?_;show wpAny _ _ (if (!t.led&&!es.isEmpty)=true then _ else pure ()) _ _ s;rw[qC (by rw[d];simp)];exact qu (qu h)
def SAt.at{h h':Heap}(x:SAt h a es ep t)(k:∀o,h.get? a=some o->h'.get? a=some o):SAt h' a es ep t:=let ⟨o,e,r⟩:=x;⟨o,k o e,r⟩
def Vt.at{h h':Heap}{first:qd}{i n:Nat}(x:Vt h it a first i n ep)(k:∀o,h.get? it=some o->h'.get? it=some o):Vt h' it a first i n ep:=let ⟨o,e,r⟩:=x;⟨o,k o e,r⟩
def DR:entryFor table "set_iterator.__iter__"=some Builtin.«dict_keyiterator.__iter__»:=entryFor_alias (id':="dict_keyiterator.__iter__") (by kernel_rfl) rfl (by decide +kernel) (by kernel_rfl)
def Em(a:qd):argsOk "set_iterator.__iter__" ⟨[a],[]⟩:=by unfold argsOk;kernel_rfl
def CP{first:qd}{i n:Nat}{Q:qf}(b:Vt s.heap it a first i n ep)(h:Q (.ref it) s):wpAny (model prog w) A (pyIter (.ref it)) Q E s:=by
 refine sD b.typeIs Gd (zU Gd b.typeIs DR ?_ (Em _));show wpAny _ _ (ret (.ref it)) _ _ s;exact qu ⟨_,U,"set_iterator",_,b.typeIs,Q7.lookup,h⟩
def Mm(c:w.params.followText "set-order"=true)(hf:t.fits es.size=true)(m:A.handled=none)(d:a≠it) :
 Walks prog w A it [it,a] [it] es.size (λi v=>((pickOrder (w.params.setOrder a ep) es).toList.map (·.2))[i]?=some v) (λi h=>Vt h it a (.int 0 0) i es.size ep/\SAt h a es ep t) where
 sub:=λb c=>by simp at c;simp[c]
 frame:=λ_ _ _ st j=>⟨st.1.at λo e=>j it (by simp) o e,st.2.at λo e=>j a (by simp) o e⟩
 item:=λi s Q E u st f=>by
  have n:(pickOrder (w.params.setOrder a ep) es).size=es.size:=by have:=(AY (w.params.setOrder a ep) es).length_eq;simpa using this
  have k:(pickOrder (w.params.setOrder a ep) es)[i]?=some ((pickOrder (w.params.setOrder a ep) es)[i]'(by omega)):=jh (by omega);refine Kk (slot:=0) (nx:=0) st.1 st.2 hf d _ (λp q R r=>GW st.2 hf c (by rw[k];exact r)) λh' g l=>?_;refine f _ h' s.toks ?_ ⟨g,st.2.at λo e=>(l.2 a d).trans e⟩ λb o c e=>(l.2 b (λz=>c (by simp[z]))).trans e;rw[qQ,zq,k];rfl
 done:=λs Q E st f=>by
  have n:(pickOrder (w.params.setOrder a ep) es).size=es.size:=by have:=(AY (w.params.setOrder a ep) es).length_eq;simpa using this
  refine W0 (slot:=0) m st.1 st.2 hf (λp q R r=>GW st.2 hf c (by rw[xP (by omega)];exact r)) λh' g=>f h' s.toks λb o c e=>g b o (λz=>c (by simp[z])) e
 self:=λ_ _ _ _ st f=>CP st.1 f
def Me(j:Nat):SetTable.below #[j] 0=0:=by
 unfold SetTable.below;simp[SetTable.below.go]
def Md(j:Nat):SetTable.below #[j] (j+1)=1:=by
 unfold SetTable.below;simp[SetTable.below.go]
def OU(es:Array (Int×qd))(pl:Array Nat)(a:es.size=1)(b:pl.size=es.size):∃e j,es=#[e]/\pl=#[j]:=by
 obtain⟨l⟩:=es;obtain⟨m⟩:=pl;simp only[qS] at a b;obtain⟨e,rfl⟩:=List.length_eq_one_iff.mp a;obtain⟨j,rfl⟩:=List.length_eq_one_iff.mp (b.trans a);exact⟨e,j,U,U⟩
def Pb(c:w.params.followText "set-order"=false)(hf:t.fits es.size=true)(n:t.led=true)(hz:es.size<=1)(x:A.handled=none)(f:a≠it) :
 Walks prog w A it [it,a] [it] es.size (λi v=>(es.toList.map (·.2))[i]?=some v) (λi h=>Vt h it a (.int ((if i=0 then 0 else t.place.getD 0 0+1:Nat):Int) 0) i es.size ep/\SAt h a es ep t) where
 sub:=λb c=>by simp at c;simp[c]
 frame:=λ_ _ _ st y=>⟨st.1.at λo e=>y it (by simp) o e,st.2.at λo e=>y a (by simp) o e⟩
 item:=λi s Q E D st d=>by
  have l:es.size=1:=by omega
  have h0:i=0:=by omega
  subst h0;have p:t.place.size=es.size:=by unfold SetTable.fits at hf;rw[jc] at hf;exact eq_of_beq hf.1
  obtain⟨e,j,m,g⟩:=OU es t.place l p;refine Kk (slot:=0) (nx:=j+1) st.1 st.2 hf f e.2 (λB C R r=>X5 st.2 hf c n hz (by rw[g,Me,m];exact r)) λh' k u=>?_;refine d _ h' s.toks (by rw[m];rfl) ⟨?_,st.2.at λo e=>(u.2 a f).trans e⟩ λb o c e=>(u.2 b (λz=>c (by simp[z]))).trans e;have q:(if 0+1=0 then 0 else t.place.getD 0 0+1:Nat)=j+1:=by rw[g];rfl
  rw[q];exact k
 done:=λs Q E st d=>by
  by_cases l:es.size=1
  .have p:t.place.size=es.size:=by unfold SetTable.fits at hf;rw[jc] at hf;exact eq_of_beq hf.1
   obtain⟨e,j,m,g⟩:=OU es t.place l p;have q:(if es.size=0 then 0 else t.place.getD 0 0+1:Nat)=j+1:=by rw[l,g];rfl
   have k:=st.1;rw[q] at k;refine W0 (slot:=j+1) x k st.2 hf (λB C R r=>X5 st.2 hf c n hz (by rw[g,Md,m];exact r)) λh' u=>d h' s.toks λb o c e=>u b o (λz=>c (by simp[z])) e
  .refine W0 x st.1 st.2 hf (λB C R r=>X5 st.2 hf c n hz (by rw[xP (by omega)];exact r)) λh' u=>d h' s.toks λb o c e=>u b o (λz=>c (by simp[z])) e
 self:=λ_ _ _ _ st d=>CP st.1 d
def HL{T:qc}{ps:qa Nat}(c:ps.Perm (List.range es.size))(hf:t.fits es.size=true)(r:A.handled=none)(g:a≠it)(j:T≠it) :
 Walks prog w A it [it,a,T] [it] es.size (λi v=>((ps.map λp=>es.toList.getD p (0,.none)).map (·.2))[i]?=some v) (λi h=>Vt h it a (.ref T) i es.size ep/\SAt h a es ep t/\h.get? T=some (UA ps)) where
 sub:=λb d=>by simp at d;simp[d]
 frame:=λ_ _ _ st k=>⟨st.1.at λo e=>k it (by simp) o e,st.2.1.at λo e=>k a (by simp) o e,k T (by simp) _ st.2.2⟩
 item:=λi s Q E y st f=>by
  have u:ps.length=es.size:=by rw[c.length_eq,jP]
  have q:ps[i]?=some (ps[i]'(by omega)):=qA (by omega);have l:ps[i]'(by omega)<es.size:=xk.mp (c.mem_iff.mp (jj (by omega)));have x:es[ps[i]'(by omega)]?=some (es.toList.getD (ps[i]'(by omega)) (0,.none)):=by
   rw[zC,zq,jh l];rfl
  refine Df st.1 st.2.2 st.2.1 hf q x λh' m n=>?_;refine f _ h' s.toks ?_ ⟨m,st.2.1.at λo e=>(n.2 a g).trans e,(n.2 T j).trans st.2.2⟩ λb o d e=>(n.2 b (λz=>d (by simp[z]))).trans e;rw[qQ,qQ,q];rfl
 done:=λs Q E st f=>by
  have u:ps.length=es.size:=by rw[c.length_eq,jP]
  refine K7 r st.1 st.2.2 st.2.1 hf (kP (by omega)) λh' l=>f h' s.toks λb o d e=>l b o (λz=>d (by simp[z])) e
 self:=λ_ _ _ _ st f=>CP st.1 f
def Xs:∀{l:qa (Int×qd)},ElemsOf (strKind prog w) l->StrsAre (l.map (·.2)) (l.map λe=>Gb e.2)
 |[],_=>.nil
 |e::l,h=>by
  obtain⟨t,q⟩:=DS h (qz ..);have a:=Xs (l:=l) λe he=>h e (qF _ he);show StrsAre (e.2::l.map (·.2)) (Gb e.2::l.map λe=>Gb e.2);rw[q];exact .cons _ _ a
def MC{α:Type}(l:qa α)(d:α):(List.range l.length).map (λi=>l.getD i d)=l:=by
 apply List.ext_getElem
 .rw[qh,jP]
 .intro i b a;rw[List.getElem_map,QbM,zC,qA a];rfl
def FZ(h:Heap)(o:Obj):h.objs.size<(h.push o).objs.size:=by rw[yg];exact Nat.lt_succ_self _
def Rn{ks:qe}{Q:qf}(hS:WE prog w (!w.params.followText "set-order") a ks s.heap)
 (h:∀(I:qc)(h':Heap)(d':Drawn)(c:qa qc)(vs:qg)(ss:qe)(St:Nat->Heap->Prop),(∀b o,s.heap.get? b=some o->h'.get? b=some o)->s.heap.objs.size<=I->I<h'.objs.size->(∀b∈c,b=a\/s.heap.objs.size<=b) ->
   StrsAre vs ss->ss.Perm ks->(∀l:Around,l.handled=none->Walks prog w l I c [I] vs.length (λi v=>vs[i]?=some v) St)->St 0 h'->Q (.ref I) {s with heap:=h',drawn:=d'}) :
 wpAny (model prog w) A (pyIter (.ref a)) Q E s:=by
 obtain⟨o,es,ep,t,z,hex,hd,f,c,hf,m,x,g⟩:=hS;have hS:SAt s.heap a es ep t:=⟨o,z,hex.1,hd⟩;have lt:a<s.heap.objs.size:=qR z;have ne:a≠s.heap.objs.size:=za lt;have n:∀b∈[s.heap.objs.size,a],b=a\/s.heap.objs.size<=b:=λb c=>by
  rcases qJ.mp c with e|c
  .exact .inr (by omega)
  .exact .inl (qk.mp c)
 by_cases j:w.params.followText "set-order"=true
 .have pp:=AY (w.params.setOrder a ep) es;have q:((pickOrder (w.params.setOrder a ep) es).toList.map (·.2)).length=es.size:=by rw[qh,pp.length_eq,zf]
  refine Ko hS hf (by rw[j];rfl) ?_;refine h s.heap.objs.size _ s.drawn [s.heap.objs.size,a] ((pickOrder (w.params.setOrder a ep) es).toList.map (·.2)) ((pickOrder (w.params.setOrder a ep) es).toList.map λe=>Gb e.2) (λi h=>Vt h s.heap.objs.size a (.int 0 0) i es.size ep/\SAt h a es ep t) (λb o e=>qw _ e) (qB _) (FZ _ _) n
   (Xs (f.perm pp)) ((pp.map _).trans g) (λl d=>by rw[q];exact Mm j hf d ne) ⟨⟨_,qK _ rfl,U,U⟩,hS.at λo e=>qw _ e⟩
 .have k:w.params.followText "set-order"=false:=Bool.eq_false_iff.mpr j;by_cases hz:es.size<=1
  .have q:(es.toList.map (·.2)).length=es.size:=by rw[qh,zf]
   refine Ko hS hf (by rw[qE (show ¬es.size > 1 by omega),Bool.and_false,Bool.and_false]) ?_;refine h s.heap.objs.size _ s.drawn [s.heap.objs.size,a] (es.toList.map (·.2)) (es.toList.map λe=>Gb e.2) (λi h=>Vt h s.heap.objs.size a (.int ((if i=0 then 0 else t.place.getD 0 0+1:Nat):Int) 0) i es.size ep/\SAt h a es ep t) (λb o e=>qw _ e) (qB _) (FZ _ _) n
    (Xs f) g (λl d=>by rw[q];exact Pb k hf (by rw[m,k];rfl) hz d ne) ⟨⟨_,qK _ rfl,U,U⟩,hS.at λo e=>qw _ e⟩
  .have B:t.plain=false:=by
    cases e:t.plain with
    |false=>rfl
    |true=>have:=x e;omega
   refine DE hS hf (by rw[k,B,qt (show es.size > 1 by omega)];rfl) (vw (zj c (by decide))) λps d' r=>?_;have pp:(ps.map λp=>es.toList.getD p (0,Value.none)).Perm es.toList:=by
    have u:=r.map (λp=>es.toList.getD p (0,Value.none));have y:=MC es.toList (0,Value.none);rw[zf] at y;rw[y] at u;exact u
   have q:((ps.map λp=>es.toList.getD p (0,Value.none)).map (·.2)).length=es.size:=by rw[qh,pp.length_eq,zf]
   have u:(s.heap.push (UA ps)).objs.size=s.heap.objs.size+1:=yg ..;have y:a≠(s.heap.push (UA ps)).objs.size:=by rw[u];exact za (jQ lt)
   have neT:s.heap.objs.size≠(s.heap.push (UA ps)).objs.size:=by rw[u];omega
   refine h (s.heap.push (UA ps)).objs.size _ d' [(s.heap.push (UA ps)).objs.size,a,s.heap.objs.size] ((ps.map λp=>es.toList.getD p (0,Value.none)).map (·.2)) ((ps.map λp=>es.toList.getD p (0,Value.none)).map λe=>Gb e.2) (λi h=>Vt h (s.heap.push (UA ps)).objs.size a (.ref s.heap.objs.size) i es.size ep/\SAt h a es ep t/\h.get? s.heap.objs.size=some (UA ps))
    (λb o e=>qw _ (qw _ e)) (by rw[u];omega) (FZ _ _) (λb c=>?_)
    (Xs (f.perm pp)) ((pp.map _).trans g) (λl d=>by rw[q];exact HL r hf d y neT) ⟨⟨_,qK _ rfl,U,U⟩,hS.at λo e=>qw _ (qw _ e),qw _ (qK _ rfl)⟩
   rcases qJ.mp c with e|c
   .exact .inr (by rw[e,u];omega)
   .rcases qJ.mp c with e|c
    .exact .inl e
    .exact .inr (by rw[qk.mp c];exact qB _)
end
section
variable {prog:Program}{w:World}{A:Around}{E:qf}{s:Shared}
def au{r:qc}{Q:Bool->Shared->Prop}(d:s.TypeIs (.ref r) "set")(h:Q false s):wpAny (model prog w) A (Builtin.List.listLengthHint (.ref r)) Q E s:=by
 unfold Builtin.List.listLengthHint;refine qi (wpAny_specialOf d PySem.F.slot_set_len.lookup ?_);generalize c:("set.__len__":String)=e
 wp_delta
 rw[show splitId e=some ("set","__len__") from by subst c;decide +kernel];subst c;refine qi (Qai (T:="set") (b:=true) d (by rw[pA];kernel_rfl) ?_);refine yw (λa=>absurd a (by decide)) (λ_=>?_);refine yw (λ_=>?_) (λa=>absurd (by decide +kernel) a);refine qi (QaX d ?_);exact qu h
def WE.typeIs{led:Bool}{a:qc}{ks:qe}(x:WE prog w led a ks s.heap):s.TypeIs (.ref a) "set":=let ⟨o,_,_,_,e,hex,_⟩:=x;⟨o,e,hex.1⟩
def WE.lt{led:Bool}{a:qc}{ks:qe}{h:Heap}(x:WE prog w led a ks h):a<h.objs.size:=let ⟨o,_,_,_,e,_⟩:=x;qR e
def ag{acc:Array qd}{vs:qg}(h:ItemsOf (λi v=>vs[i]?=some v) acc vs.length):acc.toList=vs:=by
 have b:acc.size=vs.length:=h.1;apply List.ext_getElem?;intro i;by_cases a:i<acc.size
 .rw[zq,jh a];exact(h.2 i _ (jh a)).symm
 .rw[kP (by rw[zf];omega),kP (by omega)]
def Nf{R:Result->Shared->Prop}{r:qc}{ks:qe}(D:A.handled=none)(g:WE prog w (!w.params.followText "set-order") r ks s.heap)(S:qc)(k:S≠r)(res:qd)(c₀:Nat)(hS:s.heap.get? S=some {cls:=.type "list",data:=.seq #[] c₀})(v:ks.length<=sizeLine)
 (E:∀h' t d' c j ss,(∀b o,b≠S->s.heap.get? b=some o->h'.get? b=some o)->h'.get? S=some {cls:=.type "list",dict:=none,data:=.seq c j,slots:=#[]}->StrsAre c.toList ss->ss.Perm ks->R (.ok (.ret res)) {s with heap:=h',toks:=t,drawn:=d'}) :
 wpAny (model prog w) A.in1 (Builtin.List.listExtendWith (.ref S) (.ref r) res)
  (λfin s'=>match fin with|.done f=>R (.ok f) s'|.again j=>j.quiet=true/\codeAny (model prog w) A j R s') (λe s'=>R (.error e) s') s:=by
 have x:=qR hS;unfold Builtin.List.listExtendWith;refine qi (QaX (T:="set") g.typeIs ?_);have u:Builtin.List.listSameRef (.ref S) (.ref r)=false:=by simp[Builtin.List.listSameRef,k]
 simp only[u,show(Value.type "set"==Value.type "list")=false by decide,show(Value.type "set"==Value.type "tuple")=false by decide,Bool.or_false,zE,yE];refine qi (Rn g λI u d' F vs ss St keep y ltI B l m W st=>?_);have n:S∉F:=λz=>by
  rcases B S z with e|e
  .exact k e
  .exact yp _ (zj x e)
 have hlen:vs.length<=sizeLine:=by rw[XY l,m.length_eq];exact v
 have key:∀(h:Heap)(c₁ t:Nat),St 0 h->(∀b o,b≠S->s.heap.get? b=some o->h.get? b=some o)->h.get? S=some {cls:=.type "list",data:=.seq #[] c₁} ->
  codeAny (model prog w) A (.builtin "list.extend.loop" ⟨[.ref S,.ref I,res],[]⟩) R {s with heap:=h,toks:=t,drawn:=d'}:=by
  intro h c₁ t p G a;refine codeAny_extend_loopS (W A.in1 D).toS hlen S n res vs.length 0 _ #[] c₁ rfl (q0 _) p a (ItemsOf.nil _) λs' c j hm C q=>?_;rw[Moved.eq_with hm];refine E s'.heap s'.toks d' c j ss (λb o i e=>hm.heap b o (λd=>?_) (G b o i e)) C (by rw[ag q];exact l) m;rcases qJ.mp d with H|d
  .exact i H
  .exact absurd (qR e) (by rw[qk.mp d];exact Nat.not_lt.mpr y)
 have a:=keep _ _ hS;have j:=g.at (h':=u) λo e=>keep _ _ e;refine qi (jz (au (s:={s with heap:=u,drawn:=d'}) j.typeIs ?_));refine yw (λ_=>?_) (λ_=>qu ⟨mr PySem.F.plain_extend_loop _,key _ c₀ _ st (λb o _ e=>keep _ _ e) a⟩);refine qi (QaZ ?_);refine qi ?_;show wpAny _ _ (updateSeq S (·.push .none)>>=λ_=>updateSeq S (·.pop)) _ _ _;refine qi (wpAny_updateSeq a rfl ?_);have c:=jr (Obj.mapSeq (·.push Value.none)) a rfl;refine wpAny_updateSeq (hz:=by seq_fits) c rfl ?_;have d:=jr (Obj.mapSeq (·.pop)) c rfl;refine qu ⟨mr PySem.F.plain_extend_loop _,key _ _ _ ?_ (λb o i e=>?_) d⟩
 .refine(W A.in1 D).frame 0 _ _ st λb i o e=>?_;have p:b≠S:=λh=>n (h▸i);exact(yJ _ _ (xK p)).trans ((yJ _ _ (xK p)).trans e)
 .exact(yJ _ _ (xK i)).trans ((yJ _ _ (xK i)).trans (keep _ _ e))
def L3{r:qc}{ks:qe}{R:qg->Shared->Prop}(calm:A.handled=none)(ok:WE prog w (!w.params.followText "set-order") r ks s.heap)(d:ks.length<=sizeLine)
 (fin:∀(g:Heap)(k:Nat)(d':Drawn)(got:qg)(ss:qe),(∀b o,s.heap.get? b=some o->g.get? b=some o)->s.heap.objs.size<g.objs.size->StrsAre got ss->ss.Perm ks->R got {s with heap:=g,toks:=k,drawn:=d'}) :
 wpAny (model prog w) A (collect (.ref r)) R E s:=by
 have i:=ok.lt
 let new:Obj:={cls:=.type "list",data:=.seq ([]:qg).toArray}
 have there:(s.heap.push new).get? s.heap.objs.size=some new:=qK _ rfl;have a:=ok.at (h':=s.heap.push new) λo e=>qw (h:=s.heap) new e;have walked:=Nf (A:=A) (s:={s with heap:=s.heap.push new})
  (R:=λq t=>∃(g:Heap)(k:Nat)(d':Drawn)(got:Array qd)(c:Nat)(ss:qe),q=Except.ok (Flow.ret (.ref s.heap.objs.size))/\t={s with heap:=g,toks:=k,drawn:=d'}/\(∀b o,s.heap.get? b=some o->g.get? b=some o) /\
    g.get? s.heap.objs.size=some {cls:=.type "list",dict:=none,data:=.seq got c,slots:=#[]}/\StrsAre got.toList ss/\ss.Perm ks)
  calm a s.heap.objs.size (rG i) (.ref s.heap.objs.size) 0 there d
  (λg k d' got c ss keep at' all pm=>⟨g,k,d',got,c,ss,U,U,λb o e=>keep b o (za (qR e)) (qw _ e),at',all,pm⟩)
 have done:∀(g:Heap)(k:Nat)(d':Drawn)(got:Array qd)(c:Nat)(ss:qe),(∀b o,s.heap.get? b=some o->g.get? b=some o)->g.get? s.heap.objs.size=some {cls:=.type "list",dict:=none,data:=.seq got c,slots:=#[]}->StrsAre got.toList ss->ss.Perm ks ->
  wpAny (model prog w) A (do match (<-load s.heap.objs.size).data with
   |.seq xs _=>pure xs.toList
   |_=>unsupported "internal:collect") R E {s with heap:=g,toks:=k,drawn:=d'}:=λg k d' got c ss keep at' all pm=>
  qi (wpAny_load at' (qu (fin g k d' got.toList ss keep (qR at') all pm)))
 unfold collect;apply qi;apply wpAny_runValue;apply yv entry_proto_collect';rw[yi F.plain_proto_collect _];show wpAny _ A.in1 (newList []>>=λz=>again (.builtin "list.__iadd__" ⟨[z,.ref r],[]⟩)) _ _ s;apply qi;refine zJ ?_;apply qu;refine⟨mr sy _,?_⟩;apply yv entry_list_iadd';rw[yi sy _];refine yQ walked (λf t q=>?_) (λe t q=>?_)
 .cases f with
  |done f=>
   obtain⟨g,k,d',got,c,ss,e,rfl,keep,at',all,pm⟩:=q;cases e;exact done g k d' got c ss keep at' all pm
  |again j=>
   refine⟨q.1,xn q.2 λz l y=>?_⟩;obtain⟨g,k,d',got,c,ss,rfl,rfl,keep,at',all,pm⟩:=y;exact done g k d' got c ss keep at' all pm
 .obtain⟨_,_,_,_,_,_,j,_⟩:=q;cases j
end
variable {X:Cx}
def Inv.drew{pins:qa (qc×Obj)}{σ:St}{H:Hp}{s:Shared}(I:Inv X pins σ H s)(d:Drawn):Inv X pins σ H {s with drawn:=d}:=
 ⟨I.ok,I.os,I.bare,I.base,I.loc,I.cell,I.free,I.vV,I.pin,I.hok,I.len⟩
def XH(P:Program)(w:World)(a:qc)(ks:qe):HO:=.ext λh=>WE P w (!w.params.followText "set-order") a ks h
def Oa{P:Program}{w:World}{a:qc}{ks:qe}{H:Hp}{h:Heap}(x:WE P w (!w.params.followText "set-order") a ks h):QY P w H h a (XH P w a ks):=
 ⟨x,let ⟨o,_,_,_,e,_⟩:=x;⟨o,e⟩,λ_ _ y k=>y.at k⟩
def aP(hc:X.calm=true):V0 X (.type "set") (λxs H Q=>∃(p:qc)(ss:qe),xs=[.ref p]/\zQ X.K H p (ss.map V.str)/\ss.length<=1000/\∀l,H l=none->Q (.ref l) (upd H l (XH X.prog X.w l (ss.foldl YH [])))):=by
 intro pins s σ H xs us Q I r h;obtain⟨p,ss,rfl,hS,g,q⟩:=h;obtain⟨u,rfl,e⟩:=V2 r;cases e;obtain⟨its,c,pl,_⟩:=I.list hS;have a:=Vu c;have hlen:its.length=ss.length:=by have:=c.length;rw[qh] at this;exact this.symm
 refine Nl (ss:=ss) (I.ok.hd hc) pl.isList (by simpa using a) (by rw[qS];show _<4096;omega) λh' f a1 a2=>?_;exact⟨.ref s.heap.objs.size,_,I.laid (t':=f) (λb u d=>a2 b u (qR d) d) (qB _) (Oa a1),U,q _ (I.hok.fresh (qB _))⟩
def XQ(hc:X.calm=true):V0 X (.builtin "sorted") (λxs H Q=>∃p ks,xs=[.ref p]/\H p=some (XH X.prog X.w p ks)/\ks.length<64/\∀l,H l=none->Q (.ref l) (upd H l (.lst ((Qz ks).map V.str)))):=by
 intro pins s σ H xs us Q I r h;obtain⟨p,ks,rfl,w,K,q⟩:=h;obtain⟨u,rfl,x⟩:=V2 r;cases x;obtain⟨hS,_,_⟩:=(show QY X.prog X.w H s.heap p (XH X.prog X.w p ks) from I.hok p _ w);have y:X.A.in1.handled=none:=I.ok.hd hc;refine rH kind_sorted plain_sorted entry_sorted (args_sorted1 _) ?_;unfold Builtin.«sorted»;refine qi (m:=checkCount "sorted" 1 1 _) (qu ?_);refine qi (L3 (A:=X.A.in1) y hS (Q6 ((by omega))) λh' z d' acc ss B j a f=>?_);have k:acc.length=ss.length:=XY a;have C:ss.length=ks.length:=f.length_eq;refine qi (wpAny_newList ?_ (by rw[k];exact Q6 ((by omega))));have c:(h'.push (seqObj "list" acc.toArray 0)).get? h'.objs.size=some (seqObj "list" acc.toArray 0):=qK _ rfl;refine qi (jz (zU slot_list_sort ⟨_,c,U⟩ entry_list_sort (list_sort_treeK strKind_oneLt c a.keysOf (λt v rest e=>keyKind_strs (by rw[<-e];exact a)) (by omega) λd a1 a2=>⟨_,U,?_⟩) (args_list_sort _)));refine qu ⟨_,U,?_⟩;obtain⟨n,D,E,F⟩:=sorted_out_str a a1 a2;obtain⟨e,he⟩:=sortedHeap_at (out:=(arrOf d).map (·.2)) c;have o:n=Qz ks:=(GL E (Ms F)).trans (YJ f);subst o;have hsz:s.heap.objs.size<=h'.objs.size:=vw j;have old:∀b u,s.heap.get? b=some u->(sortedHeap (h'.push (seqObj "list" acc.toArray 0)) h'.objs.size acc ((arrOf d).map (·.2))).get? b=some u:=λb u G=>by
  have g:=B b u G;have i:=qR g;rw[sortedHeap_old (za i) (by rw[size_push'];exact jQ i)];exact qw _ g
 have J:=I.laid (t':=z) old hsz (show QY X.prog X.w (upd H h'.objs.size (.lst ((Qz ks).map V.str))) _ _ (.lst ((Qz ks).map V.str)) from⟨by rw[qh,Uu];exact Q6 ((by omega)),((arrOf d).map (·.2)).toList,e,V4 D,by rw[vo];exact he⟩);exact⟨.ref h'.objs.size,_,J.drew d',U,q _ (I.hok.fresh hsz)⟩
def D2:isSubtype (.type "tuple") (.type "set")=pure false:=by rw[pA];kernel_rfl
def K4:isSubtype (.type "tuple") (.type "frozenset")=pure false:=by rw[pA];kernel_rfl
section
variable {prog:Program}{w:World}{A:Around}{E:qf}{s:Shared}
set_option maxHeartbeats 3200000 in
def L5{l:qc}{items:Array qd}{ss:qe}{Q:qf}(M:A.handled=none)(N:s.heap.IsTuple l items)(C:StrsAre items.toList ss)(k:items.size+1<scanBound)
 (h:∀(h':Heap)(m:Nat),WE prog w (!w.params.followText "set-order") s.heap.objs.size (ss.foldl YH []) h'->(∀b o,b<s.heap.objs.size->s.heap.get? b=some o->h'.get? b=some o)->Q (.ref s.heap.objs.size) {s with heap:=h',toks:=m}) :
 wpAny (model prog w) A (call (.type "set") [.ref l]) Q E s:=by
 obtain⟨c,Z,m1⟩:=jt.mro;have m2:=jt.made;have m3:=jt.sub;have m4:=jt.notType;have m5:=jt.canCreate;have m6:=F.typeCall_set_1 (.ref l);refine wpAny_call (codeAny_of_tree ?_);show wpAny _ _ (callAny (.type "set") _) _ _ _;refine qu ⟨Code.quiet_builtin _ (by decide +kernel),yv F.entry_type_call ?_⟩;rw[Around.under_plain (weight_type_call_type "set" [.ref l] []) rfl]
 repeat (any_goals (first|assumption|wp_step))
 refine xn (EZ (.ref l) (E:=E) (R:=λz n=>z=.ref s.heap.objs.size/\n={s with heap:=s.heap.push (UG w)}) ⟨U,U⟩) λr D p=>?_
 cases r with
 |error e=>exact p
 |ok O=>
  cases O with
  |ret z=>
   obtain⟨rfl,rfl⟩:=p;have n:(s.heap.push (UG w)).get? s.heap.objs.size=some (UG w):=qK _ rfl;have G:Shared.TypeIs {s with heap:=s.heap.push (UG w)} (.ref s.heap.objs.size) "set":=⟨_,n,U⟩;have z3:=jt.init.lookup;have z4:=jt.init.bind (.ref s.heap.objs.size)
   repeat (any_goals (first|assumption|wp_step))
   refine xn (codeAny_call_builtin (R:=wants (λr d=>r=.none/\∃h' m,d={s with heap:=h',toks:=m}/\WE prog w (!w.params.followText "set-order") s.heap.objs.size (ss.foldl YH []) h' /\
    (∀b o,b<s.heap.objs.size->s.heap.get? b=some o->h'.get? b=some o)) E) jt.init.plain F.entry_set_init (check_set_init_1 G ?_)) λg d a=>?_
   .obtain⟨ol,H,I,nl,J⟩:=N;obtain⟨K,f,q,oslots⟩:=ol;simp only at I J;subst I;subst J;have L:(s.heap.push (UG w)).get? l=some {cls:=.type "tuple",dict:=f,data:=.seq items nl,slots:=oslots}:=qw _ H;have y2:=D2;have y3:=K4;have y4:(Value.type "tuple"==Value.type "dict")=false:=by decide
    have u:(s.heap.push (UG w)).IsTuple l items:=⟨_,L,U,nl,U⟩;unfold Builtin.«set.__init__» noKeywords Builtin.Frozenset.updateFrom;generalize x:pyIter=PI;unfold UG at n G L u⊢
    wp_walk
    subst x;refine wpAny_pyIter_tuple u ?_;refine qi (wpAny_runValue ?_);have lt:l<s.heap.objs.size:=qR H;have P:A.in1.in1.in1.handled=none:=by simp[M]
    have ne:l≠(s.heap.push {cls:=.type "set",dict:=none,data:=.set #[] 0 (.fresh 0 0 (!w.params.followText "set-order"))}).objs.size:=by
     rw[yg];exact za (jQ lt)
    have S:s.heap.objs.size∉[(s.heap.push {cls:=.type "set",dict:=none,data:=.set #[] 0 (.fresh 0 0 (!w.params.followText "set-order"))}).objs.size,l]:=by
     rw[yg];intro z;rcases qJ.mp z with z|z
     .omega
     .rw[qk.mp z] at lt;exact yp _ lt
    have T:∀(i:Nat)(v:qd),items[i]?=some v->∃t,v=.str ((λi=>ss.getD i "") i) t:=λi v e=>FC C i v (by rw[zq];exact e);have es:Dw (λi=>ss.getD i "") items.size=ss.foldl YH []:=by
     unfold Dw;rw[<-zf,XY C,C2]
    refine CQ (led:=!w.params.followText "set-order") ((Walks.tuple P _ l ne items).toS) s.heap.objs.size S (λi=>ss.getD i "") T k (items.size-0) 0 _ (by omega) (q0 _) ⟨⟨_,qK _ rfl,U,U⟩,u.push _⟩ ?S0 ?R0
    case S0=>exact(dC (prog:=prog) (w:=w) (s:=s)).at λo e=>qw _ e
    case R0=>
     intro s' hm j;obtain⟨h',g',d',y,B⟩:=s';have V:g'=s.gens:=hm.gens;have X:d'=s.drawn:=hm.drawn;have Y:B=s.os:=hm.os;subst V;subst X;subst Y;rw[es] at j;refine qu (qu ⟨U,h',y,U,j,λb o k e=>?_⟩);refine hm.heap b o (λz=>?_) (qw _ (qw _ e));rcases qJ.mp z with z|z
     .exact absurd z (za k)
     .have z:=qk.mp z;rw[yg] at z;exact absurd z (za (jQ k))
   .cases g with
    |error e=>exact a
    |ok f=>
     cases f with
     |ret r=>
      obtain⟨rfl,h',m,rfl,a1,a2⟩:=a
      repeat (any_goals (first|assumption|wp_step))
      exact h _ _ a1 a2
     |_=>exact a.elim
  |_=>exact p.elim
end
def L6{X:Cx}(hc:X.calm=true):V0 X (.type "set") (λxs H Q=>∃(p:qc)(ss:qe),xs=[.ref p]/\jX X.K H p (ss.map V.str)/\ss.length<=1000/\∀l,H l=none->Q (.ref l) (upd H l (XH X.prog X.w l (ss.foldl YH [])))):=by
 intro pins s σ H xs us Q I r h;obtain⟨p,ss,rfl,hS,g,q⟩:=h;obtain⟨u,rfl,e⟩:=V2 r;cases e;obtain⟨its,c,pl,_⟩:=I.tuple hS;have a:=Vu c;have hlen:its.length=ss.length:=by have:=c.length;rw[qh] at this;exact this.symm
 refine L5 (ss:=ss) (I.ok.hd hc) pl (by simpa using a) (by rw[qS];show _<4096;omega) λh' f a1 a2=>?_;exact⟨.ref s.heap.objs.size,_,I.laid (t':=f) (λb u d=>a2 b u (qR d) d) (qB _) (Oa a1),U,q _ (I.hok.fresh (qB _))⟩
def dd(ss:qe):qe:=ss.foldl YH []
def O1:∀(ss acc:qe){x:qb},x∈ss.foldl YH acc↔x∈acc\/x∈ss
 |[],acc,x=>by simp
 |y::ss,acc,x=>by
  rw[zy,O1 ss (YH acc y),Ck,qJ,or_assoc]
def aL:∀(ss acc:qe),acc.Nodup->(ss.foldl YH acc).Nodup
 |[],_,h=>h
 |y::ss,acc,h=>aL ss (YH acc y) (HI h)
def Dz{ss:qe}{x:qb}:x∈dd ss↔x∈ss:=by unfold dd;rw[O1];simp
def O3(ss:qe):(dd ss).Nodup:=aL ss [] zB
def O2:∀(ss acc:qe),(ss.foldl YH acc).length<=acc.length+ss.length
 |[],acc=>by simp
 |y::ss,acc=>by
  have a:=O2 ss (YH acc y);have:(YH acc y).length<=acc.length+1:=by unfold YH;split<;>simp
  rw[zy,qV];omega
def aM(ss:qe):(dd ss).length<=ss.length:=by have:=O2 ss [];simpa[dd] using this
def SS(ss:qe):qe:=Qz (dd ss)
def Ht{ss:qe}{x:qb}:x∈SS ss↔x∈ss:=Yl.trans Dz
def Ay{a b:qe}(h:∀x,x∈a↔x∈b):SS a=SS b:=YJ ((yF (O3 a) (O3 b)).mpr λx=>Dz.trans ((h x).trans Dz.symm))
def dO(ss:qe):(SS ss).Nodup:=(U1 _).nodup_iff.mpr (O3 ss)
def aX{l:qe}(a:l.Nodup):SS l=Qz l:=YJ ((yF (O3 l) a).mpr λx=>Dz)
def cS(l:qe):SS (SS l)=SS l:=Ay λ_=>Ht
def BU{X:Cx}(hc:X.calm=true):V0 X (.type "set") (λxs H Q=>∃(p:qc)(ss:qe),xs=[.ref p]/\(zQ X.K H p (ss.map V.str)\/jX X.K H p (ss.map V.str))/\ss.length<=1000/\∀l,H l=none->Q (.ref l) (upd H l (XH X.prog X.w l (dd ss)))):=by
 intro pins s σ H xs us Q I r h;obtain⟨p,ss,e,hS|hS,a,q⟩:=h
 .exact aP hc pins s σ H xs us Q I r ⟨p,ss,e,hS,a,q⟩
 .exact L6 hc pins s σ H xs us Q I r ⟨p,ss,e,hS,a,q⟩
inductive LH(R:(It->Hp->Prop))(x:V)(H1:Hp):Prop
 |mk:∀a kvs,x=.ref a->((∃oa,H1 a=some (.jG oa (.dK kvs))/\R (Itd a oa kvs) H1)\/(H1 a=some (.dK kvs)/\∀oa,R (Itd a oa kvs) (upd H1 a (.jG oa (.dK kvs)))))->LH R x H1
def gh(a:TE):TI:=λσ H R=>a σ H λx H1=>LH R x H1
def Kf{X:Cx}{n l:Expr}{k:TE}(p:PE X l k):PI X n l (gh k):=by
 intro pins s σ H R I h;refine jE (p pins s σ H _ I h) λv s1 ⟨x,H1,m,r,t⟩=>?_;obtain⟨a,d,e,q⟩:=t;subst e;cases r;obtain⟨c,f,i,g,u⟩:∃(c:Obj)(f:Hp),Inv X pins σ f s1/\f a=some (.jG c (.dK d))/\R (Itd a c d) f:=by
  rcases q with⟨c,g,q⟩|⟨g,q⟩
  .exact⟨c,H1,m,g,q⟩
  .obtain⟨c,J⟩:=m.freeze g;exact⟨c,_,J,Qc,q c⟩
 obtain⟨j,vs,es,w,y,hd,hm⟩:=Cr i.hok g;have z:=KV.length y;refine wpAny_pyIter_dict j hm ⟨s1.heap.objs.size,[s1.heap.objs.size],_,_,f,U,i.kept (t':=s1.toks) λb o e=>qw _ e,Et a _ c d es w hd,⟨_,qK _ rfl,U,by rw[z];rfl⟩,λb A=>?_,u⟩;obtain rfl:b=s1.heap.objs.size:=by simpa using A
 exact i.QbY (qB _) (i.hok.fresh (qB _))
def LY{K:Frag}{a:qc}{α:Type}{xs:qa α}{fr:qa (Nat×qb)}{tt:TT}{r:TE}{σ:St}{H1:Hp}{Q:VK}(g:α->V)(pr:α->Bool)(f:α->V)(hz:xs.length<=sizeLine)(hS:zQ K H1 a (xs.map g))
 (n:∀(x:α)(c:Hp)(Q':Bool->Hp->Prop),x∈xs->Qj H1 c->(∀j,Qj c j->Q' (pr x) j)->tt (some (g x)::oS σ fr) c Q')
 (o:∀(x:α)(c:Hp)(Q':VK),x∈xs->Qj H1 c->pr x=true->(∀j,Qj c j->Q' (f x) j)->r (some (g x)::oS σ fr) c Q')
 (u:∀D d,H1 D=none->Qj H1 d->d D=some (.lst ((xs.filter pr).map f))->Q (.ref D) d) :
 Yr (Itl K a) fr tt r σ H1 Q:=by
 intro D p;refine⟨λi m ys d=>m=xs.length-i/\i<=xs.length/\ys=((xs.take i).filter pr).map f/\Qj H1 d/\d D=some (.lst ys),⟨xs.length,by simp,q0 _,by simp,Qj.zi p,Qc⟩,?_⟩;rintro i m ys d ⟨rfl,y,rfl,s2,k⟩;refine⟨k,?_⟩;have h:=s2.seq hS;by_cases b:i<xs.length
 .have l:(xs.map g)[i]?=some (g xs[i]):=by rw[qQ,qA b];rfl
  refine .inr ⟨⟨xs.map g,g xs[i],h,l⟩,?_⟩;rintro v c ⟨rfl,w⟩;have s:(xs.map g)[i]?=some v:=w _ h;rw[l] at s;cases s;have hm:xs[i]∈xs:=jj b;have t:xs.take (i+1)=xs.take i++[xs[i]]:=by rw[zo,qA b];rfl
  refine n xs[i] _ _ hm s2 λj s4=>?_
  cases q:pr xs[i] with
  |false=>
   refine QU ⟨xs.length-(i+1),by omega,U,b,?_,s2.trans s4,s4 _ _ k⟩;rw[t,q9,qM,q];simp
  |true=>
   refine Ya (o xs[i] _ _ hm (s2.trans s4) q λz s5=>⟨s5 _ _ (s4 _ _ k),?_,xs.length-(i+1),by omega,U,b,?_,((s2.trans s4).trans s5).z6 p,Qc⟩)
   .have:=qW pr (xs.take i);rw[zb] at this;rw[qh];omega
   .rw[t,q9,qM,q];simp
 .have e:i=xs.length:=by omega
  subst e;have c:xs.take xs.length=xs:=zh (qB _);rw[c] at k;exact .inl ⟨⟨xs.map g,h,by rw[qh];exact qB _⟩,u D d p s2 k⟩
def Nk{K:Frag}{a:qc}{xs:qa V}{fr:qa (Nat×qb)}{l:TE}{σ:St}{H1:Hp}{Q:VK}(Pv:qc->Nat->qa V->Hp->Prop)(hz:xs.length<=sizeLine)(hS:zQ K H1 a xs)(h0:∀D,H1 D=none->Pv D 0 [] (upd H1 D (.lst [])))(hlen:∀D i ys H,Pv D i ys H->ys.length=i)
 (k:∀(D:qc)(i:Nat)(x:V)(ys:qa V)(d:Hp)(Q':VK),xs[i]?=some x->H1 D=none->Pv D i ys d->d D=some (.lst ys)->Qj H1 d->(∀y h,Qj d h->Pv D (i+1) (ys++[y]) (upd h D (.lst (ys++[y])))->Q' y h)->l (some x::oS σ fr) d Q')
 (n:∀D ys b,H1 D=none->Pv D xs.length ys b->Qj H1 b->b D=some (.lst ys)->Q (.ref D) b) :
 Yr (Itl K a) fr Ew l σ H1 Q:=by
 intro D f;refine⟨λi m ys b=>m=xs.length-i/\i<=xs.length/\Pv D i ys b/\Qj H1 b/\b D=some (.lst ys),⟨xs.length,by simp,q0 _,h0 D f,Qj.zi f,Qc⟩,?_⟩;rintro i m ys b ⟨rfl,r,p,s2,j⟩;refine⟨j,?_⟩;have c:=s2.seq hS;by_cases g:i<xs.length
 .refine .inr ⟨⟨xs,xs[i],c,qA g⟩,?_⟩;rintro v d ⟨rfl,o⟩;refine GJ (Ya ?_);refine k D i v ys _ _ (o xs c) f p j s2 λy h s5 q=>⟨s5 _ _ j,?_,xs.length-(i+1),by omega,U,g,q,(s2.trans s5).z6 f,Qc⟩;rw[hlen D i ys _ p];omega
 .have e:i=xs.length:=by omega
  subst e;exact .inl ⟨⟨xs,c,qB _⟩,n D ys b f p s2 j⟩
section
variable {X:Cx}{pins:qa (qc×Obj)}{σ:St}{Hc H':Hp}{sc:Shared}
end
section
variable {P:Program}{w:World}{K:Frag}{mg:qb->Option qd}{base:Heap}{N:qe}{qual:qb}{scope:Scope}{f:qc}{cd:qd}{A:Around}{outer:qa Env}{s:Shared}{H:Hp}{E:XK}
end
section
variable {P:Program}{w:World}{K:Frag}{mg:qb->Option qd}{base:Heap}{N:qe}{qual:qb}{scope:Scope}{f:qc}{cd:qd}{A:Around}{outer:qa Env}{s:Shared}{H:Hp}{E:XK}
end
section
variable {X:Cx}{CX:CXT}{k:Nat}{f C:qc}{fd:FuncData}{ps:qe}{sp:Sp}{pN:qa V}{ds:qg}{R:St->XK}{x m:qb}{p pos apos:Pos}{e o:Expr}{es:qa Expr}{ta:TE}{t:TA}
end
section
variable {X:Cx}{pins pins':qa (qc×Obj)}{σ:St}{H:Hp}{s:Shared}{R:St->XK}
end
def Wr{t u:TS}{D:Wl}{σ:St}{H:Hp}(h:∀N:St->Hp->Prop,N=u D->t {D with nx:=N} σ H):YY t u D σ H:=h _ rfl
end L2
set_option maxHeartbeats 400000
namespace L2
open PySem PySem.Spec PyProof.Rows
open PySem.Builtin PySem.Builtin.ObjectAttr PySem.Builtin.Getset_descriptor
section
variable {prog:Program}{w:World}{A:Around}{E:qf}{K:Frag}{x C:qc}{h:Heap}{g:Array GenState}{d:Drawn}{t:Nat}{os:OsState}
end
end L2
set_option maxHeartbeats 4000000
namespace L2
open PySem PySem.Spec PyProof.Rows
section
variable {X:Cx}{pins:qa (qc×Obj)}{σ:St}{H:Hp}{s:Shared}
end
end L2
set_option maxHeartbeats 400000
namespace L2
open PySem PySem.Spec PyProof.Rows
section
variable {X:Cx}{k:Nat}{f:qc}{fd:FuncData}{ps:qe}{sp:Sp}{pN:qa V}{ds:qg}{E:XK}{x:qb}{p pos:Pos}{e:Expr}{es:qa Expr}{t:TA}
end
section
variable {X:Cx}{o e:Expr}{es:qa Expr}{to:TE}{t:TA}{name:qb}{apos cpos:Pos}{T id:String}{r:V->qa V->Hp->VK->Prop}
end
end L2
set_option maxHeartbeats 4000000
namespace L2
open PySem PySem.Spec PyProof.Rows
variable {n:Nat}{p:Array Nat}{x:qb}
def pC{α:Type}(lt:Nat->Nat->Bool):W.KasT α->α
 |.ret a=>a
 |.ask i j k=>pC lt (k (lt i j))
inductive mW{α:Type}(n:Nat)(R:α->Prop):W.KasT α->Prop
 |ret {a:α} (h:R a):mW n R (.ret a)
 |ask {i j:Nat} {k:Bool->W.KasT α} (hi:i<n) (hj:j<n) (h:∀b,mW n R (k b)):mW n R (.ask i j k)
def mW.end_{α:Type}{R:α->Prop}{lt:Nat->Nat->Bool}{t:W.KasT α}(h:mW n R t):R (pC lt t):=by
 induction h with
 |ret h=>exact h
 |ask _ _ _ a=>exact a _
def mW.wp{α:Type}{n:Nat}{R:α->Prop}{lt:Nat->Nat->Bool}{cmp:Nat->Nat->(Bool->Shared->Prop)->Shared->Prop}{s:Shared}{post:α->Shared->Prop}(hc:∀(i j:Nat)(C:Bool->Shared->Prop),i<n->j<n->C (lt i j) s->cmp i j C s):∀{t:W.KasT α},mW n R t->post (pC lt t) s->W.KasT.kasWp cmp t post s
 |_,.ret _,a=>a
 |.ask i j k,.ask b c h,a=>hc i j _ b c (mW.wp hc (h _) a)
def mW.bind{α β:Type}{n:Nat}{R:α->Prop}{c:β->Prop}{f:α->W.KasT β}(hf:∀a,R a->mW n c (f a)):∀{t:W.KasT α},mW n R t->mW n c (t.bind f)
 |_,.ret h=>hf _ h
 |_,.ask d e h=>.ask d e λb=>mW.bind hf (h b)
def Wk(n:Nat)(p:Array Nat):Prop:=p.toList.Perm (List.range n)
def Wk.lt(h:Wk n p)(a:0<n)(i:Nat):p.getD i 0<n:=by
 unfold Array.getD;split
 .rename_i b
  have:p.toList[i]'(by simpa using b)∈List.range n:=h.mem_iff.mp (jj _);exact xk.mp this
 .exact a
def R9(i j:Nat):(p.swapIfInBounds i j).toList.Perm p.toList:=by
 unfold Array.swapIfInBounds;split
 .split
  .exact(Array.swap_perm _ _).toList
  .exact .refl _
 .exact .refl _
def AG(f g:Nat->Nat):∀(l:qa Nat)(p:Array Nat),(l.foldl (λa k=>a.swapIfInBounds (f k) (g k)) p).toList.Perm p.toList
 |[],_=>.refl _
 |k::l,p=>(AG f g l _).trans (R9 _ _)
def Wk.rev(h:Wk n p)(i j:Nat):Wk n (W.kas_rev p i j):=(AG (λk=>i+k) (λk=>j-1-k) _ p).trans h
def Wk.bubble(h:Wk n p)(i j:Nat):Wk n (PyProof.Rows.bubble p i j):=(AG (λk=>i-k) (λk=>i-k-1) _ p).trans h
section
variable {n:Nat}
def M7(a:0<n){p:Array Nat}(h:Wk n p):∀(m k:Nat),mW n (λ_=>True) (W.kas_asc p m k)
 |0,_=>.ret trivial
 |m+1,k=>.ask (h.lt a _) (h.lt a _) λb=>by
  cases b with
  |true=>exact .ret trivial
  |false=>exact M7 a h m (k+1)
def Cq(a:0<n):∀(m:Nat){p:Array Nat}(k q:Nat),Wk n p->mW n (λr=>Wk n r.1) (W.kas_desc m p k q)
 |0,_,_,_,h=>.ret h
 |m+1,p,k,q,h=>.ask (h.lt a _) (h.lt a _) λb=>by
  cases b with
  |true=>
   show mW n _ (if q > 0 then _ else _);split
   .exact Cq a m _ _ (h.rev _ _)
   .exact Cq a m _ _ h
  |false=>
   refine .ask (h.lt a _) (h.lt a _) λc=>?_
   cases c with
   |true=>exact .ret h
   |false=>exact Cq a m _ _ h
def LG(c:0<n)(h:Wk n p)(a b:Nat):mW n (λr=>Wk n r.2) (W.kas_tail3 a b p):=
 mW.bind (R:=λ_=>True) (f:=λm=>.ret (m,W.kas_rev p 0 a)) (λ_ _=>.ret (h.rev _ _)) (M7 c (h.rev _ _) _ _)
def BK(c:0<n)(h:Wk n p)(a b:Nat):mW n (λr=>Wk n r.2) (W.kas_descPart a b p):=by
 refine mW.bind (R:=λr=>Wk n r.1) (λr d=>?_) (Cq c _ _ _ h);split
 .exact LG c (d.rev _ _) _ _
 .exact LG c d _ _
def ak(a:0<n)(h:Wk n p)(m:Nat):mW n (λr=>Wk n r.2) (W.kas_count m p):=by
 refine mW.bind (R:=λ_=>True) (λk _=>?_) (M7 a h _ _);split
 .exact .ret h
 .split
  .refine .ask (h.lt a _) (h.lt a _) λb=>?_
   cases b with
   |true=>exact .ret h
   |false=>exact BK a (h.rev _ _) _ _
  .exact BK a h _ _
def DG(a:0<n){p:Array Nat}(h:Wk n p)(k:Nat):∀(m l r:Nat),mW n (λ_=>True) (W.kas_place p k m l r)
 |0,_,_=>.ret trivial
 |m+1,l,r=>by
  show mW n _ (if l>=r then _ else _);split
  .exact .ret trivial
  .refine .ask (h.lt a _) (h.lt a _) λb=>?_
   cases b with
   |true=>exact DG a h k m _ _
   |false=>exact DG a h k m _ _
def ao(a:0<n):∀(m:Nat){p:Array Nat}(k:Nat),Wk n p->mW n (Wk n) (W.kas_bin m p k)
 |0,_,_,h=>.ret h
 |m+1,p,k,h=>mW.bind (R:=λ_=>True) (λl _=>ao a m _ (h.bubble _ _)) (DG a h k _ _ _)
def OL(a:0<n):mW n (Wk n) (W.kas_sort n):=by
 refine mW.bind (R:=λr=>Wk n r.2) (λr b=>?_) (ak a (p:=(List.range n).toArray) (.refl _) _);split
 .exact ao a _ _ b
 .exact .ret b
end
def Rc(fin:Bool):qe->qe->Bool
 |x::xs,y::ys=>if x=y then Rc fin xs ys else decide (x.cps.toList<y.cps.toList)
 |_,_=>fin
def ih(xs ys:qe):Bool:=Rc (decide (xs.length<ys.length)) xs ys
def Wy(ts:qa (qe)):qa Nat:=if ts.length<2 then List.range ts.length else (pC (λi j=>ih (ts.getD i []) (ts.getD j [])) (W.kas_sort ts.length)).toList
def Bq(ts:qa (qe)):(Wy ts).Perm (List.range ts.length):=by
 unfold Wy;split
 .exact .refl _
 .rename_i h
  exact(OL (n:=ts.length) (by omega)).end_
def DI(ts:qa (qe)):(Wy ts).length=ts.length:=by rw[(Bq ts).length_eq,jP]
def Hz{ts:qa (qe)}{i:Nat}(h:i∈Wy ts):i<ts.length:=xk.mp ((Bq ts).mem_iff.mp h)
inductive Y6(h:Heap)(a:qc):qg->qa (qe)->Prop
 |nil:Y6 h a [] []
 |cons {b:qc} {ob:Obj} {xs:Array qd} {k:Nat} {t:qe} {vs:qg} {ts:qa (qe)} (ne:b≠a) (e:h.get? b=some ob) (c:ob.cls=.type "tuple") (d:ob.data=.seq xs k) (st:StrsAre xs.toList t) (t0:t≠[]) (r:Y6 h a vs ts):Y6 h a (.ref b::vs) (t::ts)
def Y6.len{h:Heap}{a:qc}:∀{vs:qg}{ts:qa (qe)},Y6 h a vs ts->vs.length=ts.length
 |_,_,.nil=>rfl
 |_,_,.cons _ _ _ _ _ _ r=>zV (·+1) (Y6.len r)
def Y6.mono{h h':Heap}{a f:qc}(k:∀b o,b≠a->h.get? b=some o->h'.get? b=some o/\b≠f):∀{vs:qg}{ts:qa (qe)},Y6 h a vs ts->Y6 h' f vs ts
 |_,_,.nil=>.nil
 |_,_,.cons ne e c d st t0 r=>.cons (k _ _ ne e).2 (k _ _ ne e).1 c d st t0 (Y6.mono k r)
def Y6.at{h:Heap}{a:qc}:∀{vs:qg}{ts:qa (qe)}(i:Nat),Y6 h a vs ts->i<ts.length->∃b f xs k,vs.getD i .none=.ref b/\h.get? b=some f/\f.data=.seq xs k/\StrsAre xs.toList (ts.getD i [])
 |_,_,i,.nil,c=>absurd c (sI _)
 |_,_,0,.cons _ e _ d st _ _,_=>⟨_,_,_,_,U,e,d,st⟩
 |_,_,i+1,.cons _ _ _ _ _ _ r,c=>Y6.at i r (yo c)
def Y6.firsts{h:Heap}{a:qc}:∀{vs:qg}{ts:qa (qe)},Y6 h a vs ts->∃fs,W.KatTups h vs fs/\fs.length=ts.length/\∀v∈fs,∃x t,v=.str x t
 |_,_,.nil=>⟨[],trivial,U,λ_ z=>nomatch z⟩
 |_,_,.cons (xs:=xs) (t:=t) ne e c d st t0 r=>by
  obtain⟨fs,g,i,j⟩:=Y6.firsts r;obtain⟨x,b,k⟩:∃x b,xs[0]?=some (.str x b):=by
   rw[<-zq]
   cases f:xs.toList with
   |nil=>rw[f] at st;cases st;exact absurd rfl t0
   |cons v vs=>rw[f] at st;cases st with|cons x b _=>exact⟨x,b,rfl⟩
  refine⟨.str x b::fs,⟨⟨_,_,_,_,U,e,c,d,k⟩,g⟩,zV (·+1) i,λv f=>?_⟩;rcases qJ.mp f with rfl|f
  .exact⟨x,b,U⟩
  .exact j v f
def T4{fin:Bool}{xs ys:qe}:Rc fin (x::xs) (x::ys)=Rc fin xs ys:=qG rfl
def T7{fin:Bool}{y:qb}{xs ys:qe}(h:x≠y):Rc fin (x::xs) (y::ys)=decide (x.cps.toList<y.cps.toList):=qC h
def T5{prog:Program}{w:World}{A:Around}{fin:Bool}{Q:Bool->Shared->Prop}{s:Shared}:∀{us vs:qg}{xs ys:qe}(i:Nat),StrsAre us xs->StrsAre vs ys->Q (Rc fin xs ys) s->W.KatLex prog w A true fin Q (us.zip vs) i s
 |_,_,_,_,i,.nil,a,q=>by cases a<;>exact q
 |_,_,_,_,i,.cons _ _ _,.nil,q=>q
 |_,_,_,_,i,.cons x t c,.cons y u a,q=>by
  refine W.kat_cons (SeqAt.EqAt.str_str x t y u _ _ _ _ ?_);refine W.kat_go (λe=>?_) (λe=>?_)
  .have e:x=y:=eq_of_beq e;subst e;refine W.kat_yes (T5 (i+1) c a ?_);rw[T4] at q;exact q
  .have ne:x≠y:=λz=>by rw[z,yu] at e;cases e
   have b:Q (decide (x.cps.toList<y.cps.toList)) s:=by
    rw[T7 ne] at q;exact q
   refine W.kat_no ?_
   cases i with
   |zero=>exact strKind_oneLt prog w A _ s _ _ x.cps.toList y.cps.toList rfl rfl b
   |succ i=>exact W.kat_one _ _ (lt_str b)
def AH:∀{us:qg}{xs:qe},StrsAre us xs->us.length=xs.length
 |_,_,.nil=>rfl
 |_,_,.cons _ _ h=>zV (·+1) (AH h)
def Ra{M:Model}{h:Heap}{t:Tok}:W.Looks M h (typeOf (.str x t)) (.type "str"):=λA Q E s _ q=>qu q
def Lv{prog:Program}{w:World}{A:Around}{E:qf}{s:Shared}{a:qc}{vs:qg}{ts:qa (qe)}{P:PySem.Fin->Shared->Prop}(y:s.heap.get? a=some (seqObj "list" vs.toArray n))(D:Y6 s.heap a vs ts)(z:vs.length<64)
 (h:P (.done (.ret .none)) {s with heap:=sortedHeap s.heap a vs ((Wy ts).map λi=>vs.getD i .none).toArray}):wpAny (model prog w) A (Builtin.«list.sort» {pos:=[.ref a]}) P E s:=by
 have hlen:=D.len;have m:vs.length<=sizeLine:=Q6 ((by omega));have F:=qR y;rw[list_sort_plain a];refine qi (listItems_at y rfl (qi (listUpdate_at y rfl ?_ (by simpa using m) (q0 _))));obtain⟨d,t⟩:∃d,(s.heap.update a (Obj.mapSeq λx=>#[])).get? a=some (seqObj "list" #[] d):=⟨_,get?_update_seq y λx=>#[]⟩;refine qi (seqEpoch_at t rfl (qi (wpAny_newTuple ?_ (by simpa using m))));refine qi (wpAny_newList ?_ (q0 _));refine jz ?_;have c:(s.heap.update a (Obj.mapSeq λx=>#[])).objs.size=s.heap.objs.size:=Heap.size_update _ _ _;have u:(((s.heap.update a (Obj.mapSeq λx=>#[])).push (seqObj "tuple" vs.toArray 0)).push (seqObj "list" #[] 0)).get? a=some (seqObj "list" #[] d):=by
  rw[sJ _ a _ (by rw[size_push',c];exact za (jQ F)),sJ _ a _ (by rw[c];exact za F)];exact t
 have f:Y6 (((s.heap.update a (Obj.mapSeq λx=>#[])).push (seqObj "tuple" vs.toArray 0)).push (seqObj "list" #[] 0)) a vs ts:=D.mono λb o ne e=>by
  refine⟨?_,ne⟩;have k:=qR e;rw[sJ _ b _ (by rw[size_push',c];exact za (jQ k)),sJ _ b _ (by rw[c];exact za k)];exact(Heap.get?_update_ne _ _ _ _ ne).trans e
 have fin:∀st:SortSt,(arrOf st).map (λx=>x.2)=((Wy ts).map λi=>vs.getD i .none).toArray->failedOf st=none ->
  wpAny (model prog w) A (do
   let __do_lift <-seqEpoch a
   Builtin.List.listUpdate (Value.ref a) λx=>Array.map (λx=>x.snd) (arrOf st)
   match failedOf st with
    |some e=>do
     rule "list.sort.comparison-raised"
     throw e
     if (__do_lift != d)=true then do
         rule "list.sort.modified"
         raiseErrorWords "ValueError" "list modified during sort"
         ret Value.none
      else ret Value.none
    |x=>
     if (__do_lift != d)=true then do
      rule "list.sort.modified"
      raiseErrorWords "ValueError" "list modified during sort"
      ret Value.none
     else ret Value.none) P E {s with heap:=((s.heap.update a (Obj.mapSeq λx=>#[])).push (seqObj "tuple" vs.toArray 0)).push (seqObj "list" #[] 0)}:=λst k B=>by
  refine qi (seqEpoch_at u rfl (qi (listUpdate_at u rfl ?_ (q0 _) ?_)))
  .rw[B];simp only[yS,zE,yE];rw[k];exact qu h
  .rw[k];simp only[qS,qh,DI];omega
 have hsz:vs.toArray.size=vs.length:=by simp
 have got:∀l:qa Nat,l=List.range vs.length->l.map (λi=>vs.getD i Value.none)=vs:=λl e=>by
  subst e;refine List.ext_getElem (by simp) λi B k=>?_;simp only[List.getElem_map,QbM];rw[zC,qA k];rfl
 by_cases k:vs.toArray.size<2
 .show wpAny _ _ (if vs.toArray.size<2 then _ else _) _ _ _;rw[qG k];refine qi (qu ?_);dsimp only;rw[qG k,StateT.run_pure];refine qi (qu ?_);refine fin _ ?_ rfl;have d:Wy ts=List.range vs.length:=by
   unfold Wy;rw[qG (by omega),hlen]
  rw[got _ d];show Array.map (λx=>x.2) (vs.toArray.zip vs.toArray)=vs.toArray;rw[show(λx:qd×qd=>x.2)=Prod.snd from rfl];apply Array.ext';rw[Array.toList_map,Array.toList_zip];exact List.map_snd_zip (qB _)
 .show wpAny _ _ (if vs.toArray.size<2 then _ else _) _ _ _;rw[qC k];obtain⟨fs,K,k2,L⟩:=f.firsts;have M:2<=vs.length:=by omega
  refine qi (W.kat_kind (T:=.type "str") K (by omega) (λv N=>?_) (by decide) ?_)
  .obtain⟨x,B,rfl⟩:=L v N;exact Ra
  rw[qC k];refine qi (yQ (W.kat_run (E:=E) (ks:=vs) (Q:=λst s'=>(arrOf st).map (λx=>x.2)=((Wy ts).map λi=>vs.getD i .none).toArray/\failedOf st=none/\s'={s with heap:=((s.heap.update a (Obj.mapSeq λx=>#[])).push (seqObj "tuple" vs.toArray 0)).push (seqObj "list" #[] 0)}) (G:=λp s'=>p.toList=Wy ts/\s'={s with heap:=((s.heap.update a (Obj.mapSeq λx=>#[])).push (seqObj "tuple" vs.toArray 0)).push (seqObj "list" #[] 0)}) rfl M z (λp O s' _ S V g=>?_) ?_) (λr s' q=>?_) λ_ _ x=>x)
  rotate_left
  rotate_left
  .obtain⟨B,H,rfl⟩:=q;exact fin r.2 B H
  .obtain⟨g1,g2⟩:=g;refine⟨?_,V,g2⟩;rw[S];apply Array.ext';simp only[Array.toList_map,qT];rw[g1];refine jU λi _=>?_;show(W.kas_item (pairsOf vs) i).2=_;rw[W.kas_item_eq]
  .refine mW.wp (n:=vs.length) (R:=Wk vs.length) (lt:=λi j=>ih (ts.getD i []) (ts.getD j [])) (λi j C hi hj q=>?_) (OL (by omega)) ⟨?_,U⟩
   .obtain⟨b1,o1,x1,n1,a1,a2,X,B⟩:=f.at i (by omega);obtain⟨b2,o2,x2,n2,Y,Z,c3,H⟩:=f.at j (by omega);show wpAny _ _ (keyLt' _ (vs.getD i .none) (vs.getD j .none)) _ _ _;rw[a1,Y];refine W.kat_lt a2 X Z c3 (T5 0 B H ?_);have I:=AH B;have J:=AH H;rw[zf] at I J;rw[I,J];exact q
   .unfold Wy;rw[qC (by omega),hlen]
inductive WC(H:Hp):qa qc->qa (qe)->Prop
 |nil:WC H [] []
 |cons {b:qc} {t:qe} {bs:qa qc} {ts:qa (qe)} (e:H b=some (.tup (t.map V.str))) (t0:t≠[]) (r:WC H bs ts):WC H (b::bs) (t::ts)
def WC.len{H:Hp}:∀{bs:qa qc}{ts:qa (qe)},WC H bs ts->bs.length=ts.length
 |_,_,.nil=>rfl
 |_,_,.cons _ _ r=>zV (·+1) (WC.len r)
def WC.of{X:Cx}{pins:qa (qc×Obj)}{σ:St}{H:Hp}{s:Shared}{h':Heap}{a:qc}(I:Inv X pins σ H s)(k:∀b o,s.heap.get? b=some o->h'.get? b=some o/\b≠a):∀{bs:qa qc}{ts:qa (qe)}{us:qg},WC H bs ts->QK (bs.map V.ref) us->Y6 h' a us ts
 |_,_,_,.nil,v=>by cases v;exact .nil
 |_,_,_,.cons e t0 r,v=>by
  cases v with
  |cons h v=>
   cases h;obtain⟨its,d,⟨o,c,hc,n,hd⟩,_⟩:=I.tuple (jX.of e);exact .cons (k _ _ c).2 (k _ _ c).1 hc hd (by simpa using Vu d) t0 (WC.of I k r v)
def Er:∀{xs:qa V}{us:qg}(i:Nat),QK xs us->i<xs.length->QO (xs.getD i .non) (us.getD i .none)
 |_,_,0,.cons h _,_=>h
 |_,_,i+1,.cons _ v,a=>Er i v (yo a)
def HM{xs:qa V}{us:qg}(v:QK xs us):∀{l:qa Nat},(∀i∈l,i<xs.length)->QK (l.map λi=>xs.getD i .non) (l.map λi=>us.getD i .none)
 |[],_=>.nil
 |i::l,h=>.cons (Er i v (h i qz)) (HM v λj a=>h j (qF _ a))
section
variable {X:Cx}{pins:qa (qc×Obj)}{σ:St}{H:Hp}{s:Shared}{h':Heap}
end
end L2
namespace HT
open PySem PyProof.Rows
def pB(a:Int)(x:qb)(c:Int)(y:qb):Bool:=if a=c then (if x=y then true else !decide (y.cps.toList<x.cps.toList)) else decide (a<=c)
def Qak(a:Int)(x:qb)(c:Int)(y:qb):Bool:=if a=c then (if x=y then false else decide (y.cps.toList<x.cps.toList)) else decide (c<a)
def Qcv(a:Int)(x:qb)(c:Int)(y:qb):Qak a x c y = !pB a x c y:=by
 unfold Qak pB;split
 .split
  .rfl
  .rw[Bool.not_not]
 .by_cases h:c<a
  .rw[qt h,qE (by omega)];rfl
  .rw[qE h,qt (by omega)];rfl
section
open PySem.SeqAt
open PySem.AutoSeq1 (wpAny_loadPart')
open PySem.MeetsSeq PySem.MeetsSeq2 PySem.MeetsSeq3
def Fo(A:Around)(s:Shared)(a:qb)(t:Tok)(c:qb)(u:Tok):∃e,SeqAt.EqAt A s (.str a t) (.str c u) e/\(e=true↔a=c):=
 ⟨(a==c),SeqAt.EqAt.str_str a t c u,by simp⟩
def Pr(A:Around)(s:Shared)(a:Int)(t:Tok)(c:Int)(u:Tok)(prog:Program)(w:World)(E:qf)(Q:qf)(h:Q (.bool (decide (a<=c))) s) :
 wpAny (model prog w) A (richCompare .LtE (.int a t) (.int c u)) Q E s:=
 (le_int h:wpAny (model prog w) A (compareOp .LtE (.int a t) (.int c u)) Q E s)
def Pp(A:Around)(s:Shared)(a:qb)(t:Tok)(c:qb)(u:Tok)(prog:Program)(w:World)(E:qf)(Q:qf)(h:Q (.bool (!decide (c.cps.toList<a.cps.toList))) s) :
 wpAny (model prog w) A (richCompare .LtE (.str a t) (.str c u)) Q E s:=
 (PySem.P.le_str h:wpAny (model prog w) A (compareOp .LtE (.str a t) (.str c u)) Q E s)
inductive Kw(a:Int)(x:qb)(c:Int)(y:qb):qa (qd×qd)->Prop
 |both (t1 t2 u1 u2:Tok):Kw a x c y [(.int a t1,.int c u1),(.str x t2,.str y u2)]
 |one (e:a=c) (t2 u2:Tok):Kw a x c y [(.str x t2,.str y u2)]
 |none (e:a=c) (e2:x=y):Kw a x c y []
def rK(l b:qc)(n B:Nat)(dd u:Option qc)(C v:Array (Option qd))(a:Int)(x:qb)(c:Int)(y:qb)(t1 k r m:Tok) :
 Meets (Builtin.«tuple.__le__» ⟨[.ref l,.ref b],[]⟩)
  (λ_ R s=>s.heap.get? l=some {cls:=.type "tuple",dict:=dd,data:=.seq #[.int a t1,.str x k] n,slots:=C}/\s.heap.get? b=some {cls:=.type "tuple",dict:=u,data:=.seq #[.int c r,.str y m] B,slots:=v} /\
    R (.ok (.ret (.bool (pB a x c y)))) s):=
 .of_wp λprog w A R s h=>by
  obtain⟨o,g,d,p,os⟩:=s;obtain⟨D,E,h⟩:=h;have f2:=AutoSeq1.sub_tuple_tuple
  wp_walk using Qbu D,Qbu E,wpAny_forIn_list _ (λrest b s'=>b.1=none/\s'=⟨o,g,d,p,os⟩/\Kw a x c y rest) _
  case turn=>
   rintro⟨F,G⟩ rest b s' ⟨i,rfl,z⟩
   cases z with
   |both t1 k r m=>
    obtain⟨e,he,f⟩:=LR A.in1 ⟨o,g,d,p,os⟩ a t1 c r;refine qi (he prog w _ _ ?_)
    cases e with
    |true=>
     wp_walk
     exact⟨U,U,.one (f.mp rfl) _ _⟩
    |false=>
     have ne:a≠c:=λq=>absurd (f.mpr q) qH;have j:=Pr A.in1 ⟨o,g,d,p,os⟩ a t1 c r prog w
     wp_walk using j
     unfold pB at h;rw[qC ne] at h;exact⟨_,U,by simpa using h⟩
   |one t k m=>
    obtain⟨e,he,f⟩:=Fo A.in1 ⟨o,g,d,p,os⟩ x k y m;refine qi (he prog w _ _ ?_)
    cases e with
    |true=>
     wp_walk
     exact⟨U,U,.none t (f.mp rfl)⟩
    |false=>
     have ne:x≠y:=λq=>absurd (f.mpr q) qH;have j:=Pp A.in1 ⟨o,g,d,p,os⟩ x k y m prog w
     wp_walk using j
     unfold pB at h;rw[qG t,qC ne] at h;exact⟨_,U,h⟩
  case fin=>
   rintro⟨j,F⟩ s' ⟨i,rfl,z⟩;simp only at i;subst i
   cases z with
   |none t f=>
    unfold pB at h;rw[qG t,qG f] at h
    wp_walk
    exact⟨_,U,by simpa[Builtin.Tuple.tupleCompareSizes] using h⟩
  case h=>
   exact⟨U,U,.both _ _ _ _⟩
end
end HT
namespace L2
open PySem PySem.Spec PyProof.Rows
inductive Oi(K:Frag)(f:Int->qb->Int->qb->Bool)(x:V)(y:V)(H:Hp)(Q:VK):Prop
 |mk:∀p q a s c t,x=.ref p->y=.ref q->jX K H p [.int a,.str s]->jX K H q [.int c,.str t]->Q (.bl (f a s c t)) H->Oi K f x y H Q
def dq(K:Frag)(f:Int->qb->Int->qb->Bool):R2:=λx y H Q=>Oi K f x y H Q
def KO{a:Int}{s:qb}{its:qg}(r:QK [.int a,.str s] its):∃t1 b,its=[.int a t1,.str s b]:=by
 cases r with
 |cons h r=>
  cases r with
  |cons c r=>
   cases r;obtain⟨t1,rfl⟩:=h;obtain⟨b,rfl⟩:=c;exact⟨t1,b,U⟩
def fI{X:Cx}(l:X.A.units<cLine):uz X (compareOp .LtE) (dq X.K HT.pB):=by
 intro pins s σ H x y v u Q I m o h;obtain⟨p,q,a,z,c,r,rfl,rfl,t,w,k⟩:=h;cases m;cases o;obtain⟨its,A,B,_⟩:=I.tuple t;obtain⟨g,C,D,_⟩:=I.tuple w;obtain⟨t1,E,rfl⟩:=KO A;obtain⟨F,G,rfl⟩:=KO C;obtain⟨⟨cls,dd,data,J⟩,i,hc,n,hd⟩:=id B;obtain⟨⟨j,e,data2,f⟩,b,d,K,hd2⟩:=id D;simp only at hc hd d hd2;subst hc hd d hd2;exact richCompare_meets_room (op:=.LtE) ⟨_,i,U⟩ ⟨_,b,U⟩ PySem.F.slot_tuple_le PySem.F.entry_tuple_le (PySem.F.args_tuple_le_2 _ _) (HT.rK p q n K dd e J f a z c r t1 E F G)
  ⟨i,b,⟨nofun,.bl _,H,I,U,k⟩⟩ l
variable {d:qc}{es:Array DictEntry}{ep:Nat}
def Uk(h:Heap)(d:qc)(es:Array DictEntry)(ep:Nat):Prop:=∃o,h.get? d=some o/\o.ExactDict/\o.data=.dict es ep
def Uk.lt{h:Heap}(x:Uk h d es ep):d<h.objs.size:=let ⟨_,e,_⟩:=x;qR e
def Uk.at{h h':Heap}(x:Uk h d es ep)(k:∀o,h.get? d=some o->h'.get? d=some o):Uk h' d es ep:=let ⟨o,e,r⟩:=x;⟨o,k o e,r⟩
def Uk.ty{s:Shared}(x:Uk s.heap d es ep):s.TypeIs (.ref d) "dict":=let ⟨o,e,c,_⟩:=x;⟨o,e,c.1⟩
section
variable {prog:Program}{w:World}{A:Around}{E:qf}{s:Shared}{d it:qc}{es:Array DictEntry}{ep i:Nat}
def IJ{Q:qf}(hd:(d==sysModules)=false)(hm:Uk s.heap d es ep)
 (e:Q (.ref s.heap.objs.size) {s with heap:=s.heap.push {cls:=.type "dict_keyiterator",data:=.fields #[.ref d,.int 0 0,.int es.size 0,.int ep 0]}}):wpAny (model prog w) A (pyIter (.ref d)) Q E s:=by
 have b:=hm.ty;obtain⟨o,c,_,a⟩:=hm;refine sD b F.slot_dict_iter (zU F.slot_dict_iter b F.entry_dict_iter ?_ (F.args_dict_iter_1 _));unfold Builtin.«dict.__iter__»;refine qi ?_;unfold Builtin.Dict.dictSlotNone;refine qi (wpAny_notOrdered_dict b (qu ?_));show wpAny _ _ (Builtin.Dict.showsAll d>>=_) _ _ s;unfold Builtin.Dict.showsAll;rw[qC (by rw[hd];exact qH)];refine qi (qu (qi (wpAny_dictEntries c a (qi (wpAny_dictEpoch c a ?_)))));exact qi (zJ (qu ⟨_,U,"dict_keyiterator",_,⟨_,qK _ rfl,U⟩,yy.lookup,by simpa[rawInt] using e⟩))
def IK{Q:Option qd->Shared->Prop}(hit:s.heap.IsKeyIter it d i es.size ep)(hm:Uk s.heap d es ep){f:DictEntry}(h:es[i]?=some f)
 (j:∀h',h'.IsKeyIter it d (i+1) es.size ep->Heap.SameBut it s.heap h'->Q (some f.key) {s with heap:=h'}):wpAny (model prog w) A (pyNext (.ref it)) Q E s:=by
 obtain⟨o,g,hc,hd⟩:=id hit;obtain⟨k,b,_,c⟩:=hm;unfold pyNext;refine qi (mu (ju (name:=Str.ofString "__next__") hit.typeIs yy
  (zU yy hit.typeIs F.entry_dict_keyiterator_next ?_ (F.args_dict_keyiterator_next_1 _))))
 refine qi (qu (qi (qi ?_)))
 first|refine qi (kS hit.typeIs (qu ?_))|refine qi (wM hit.typeIs (qu ?_))
 refine qi (uR g hd ?_);have e:Builtin.Dict_items.ownsTuple "dict_keyiterator"=false:=by decide
 simp only[e,zE,yE];show wpAny _ _ (if (Value.ref d==Value.none)=true then _ else _) _ _ s;rw[qC (show ¬((Value.ref d==Value.none)=true) from qH)];refine qi (qu (qi (wpAny_dictEntries b c ?_)));rw[qC (by simp)];refine qi (qu (qi (wpAny_dictEpoch b c ?_)));rw[qC (by simp)];refine qu ?_;simp only[show ¬((i:Int)<0) from by omega,yE,jO,h];refine qi ?_
 first|refine qi (kS hit.typeIs (qu ?_))|refine qi (wM hit.typeIs (qu ?_))
 refine qi (wpAny_isOneOf_keyiter hit.typeIs ?_);show wpAny _ _ (setField (.ref it) 1 (rawInt ((i:Int)+1))>>=_) _ _ s;refine qi (xU g hd (by simp) ?_);have a:(s.heap.update it (Obj.mapFields (·.setIfInBounds 1 (rawInt ((i:Int)+1))))).IsKeyIter it d (i+1) es.size ep:=
  ⟨_,jr _ g (vA (jx hd _)),(sE ..).trans hc,by rw[jx hd];simp[rawInt]⟩
 refine qi (jz (qi (wpAny_isOneOf_keyiter (s:={s with heap:=s.heap.update it (Obj.mapFields (·.setIfInBounds 1 (rawInt ((i:Int)+1))))}) a.typeIs ?_)));show wpAny _ _ (pure f.key) _ _ _;exact qu (qu ⟨_,U,qu (j _ a (jo ..))⟩)
def Of{Q:Option qd->Shared->Prop}(h:A.handled=none)(hit:s.heap.IsKeyIter it d i es.size ep)(hm:Uk s.heap d es ep)(j:es.size<=i)
 (k:∀h',Heap.ExtBut it s.heap h'->Q none {s with heap:=h'}):wpAny (model prog w) A (pyNext (.ref it)) Q E s:=by
 obtain⟨o,g,hc,hd⟩:=id hit;obtain⟨l,c,_,e⟩:=hm;unfold pyNext;refine qi (mu (ju (name:=Str.ofString "__next__") hit.typeIs yy
  (zU yy hit.typeIs F.entry_dict_keyiterator_next ?_ (F.args_dict_keyiterator_next_1 _))))
 refine qi (qu (qi (qi ?_)))
 first|refine qi (kS hit.typeIs (qu ?_))|refine qi (wM hit.typeIs (qu ?_))
 refine qi (uR g hd ?_);have f:Builtin.Dict_items.ownsTuple "dict_keyiterator"=false:=by decide
 simp only[f,zE,yE];show wpAny _ _ (if (Value.ref d==Value.none)=true then _ else _) _ _ s;rw[qC (show ¬((Value.ref d==Value.none)=true) from qH)];refine qi (qu (qi (wpAny_dictEntries c e ?_)));rw[qC (by simp)];refine qi (qu (qi (wpAny_dictEpoch c e ?_)));rw[qC (by simp)];refine qu ?_;simp only[show ¬((i:Int)<0) from by omega,yE,jO,xP j];refine qi ?_
 first|refine qi (kS hit.typeIs (qu ?_))|refine qi (wM hit.typeIs (qu ?_))
 show wpAny _ _ (setField (.ref it) 0 .none>>=_) _ _ s;refine qi (xU g hd (by simp) ?_);show wpAny _ _ (newExc (.type "StopIteration") []>>=_) _ _ _;refine qi ?_;simp only[newExc,newTuple];refine qi (zJ ?_ (by size_fits));refine qi (m:=firstArgMember _ _) (wpAny_of_eq (a:=Value.none) (by first|rfl|(simp only[firstArgMember];rfl)) ?_);refine zJ ?_ (by size_fits);simp only[raiseNew];refine qi (wpAny_handled ?_);rw[show A.in1.handled=none from h];refine qi (qu (wpAny_throw ?_));refine qi (Qai (T:="StopIteration") (b:=true) ⟨_,qK _ rfl,U⟩ isSubtype_stop ?_);exact qu (k _ (((jo ..).extBut.push _).push _))
def bK(lo:(d==sysModules)=false):KdlSrc prog w "dict" d d es.size (λi v=>∃l,es[i]?=some l/\v=l.key) (λh=>Uk h d es ep) where
 type:=λ_ hm=>hm.ty
 there:=λ_ hm=>⟨hm.lt,hm.lt⟩
 keep:=λ_ _ hm j=>hm.at λo e=>j d (.inl rfl) o e
 notList:=by decide
 notTuple:=by decide
 hint:=λ_ _ _ _ hm k=>PySem.W.kdl_hint_dict hm.ty k
 iter:=λA s n hm=>⟨_,λi h=>h.IsKeyIter s.heap.objs.size d i es.size ep/\Uk h d es ep,(λ_ _ k=>IJ lo hm k),{
  sub:=λb a=>by simp at a;simp[a]
  frame:=λ_ _ _ st j=>⟨st.1.at λo e=>j _ (by simp) o e,st.2.at λo e=>j d (by simp) o e⟩
  item:=λi s2 Q E p st c=>by
   have m:es[i]?=some es[i]:=jh p;refine IK st.1 st.2 m λh' f g=>?_;exact c _ h' s2.toks ⟨_,m,U⟩ ⟨f,st.2.at λo e=>g.extBut d o (za hm.lt) e⟩ λb o a e=>g.extBut b o (λh=>a (by simp[h])) e
  done:=λs2 Q E st c=>Of n st.1 st.2 (qB _) λh' f=>c h' s2.toks λb o a e=>f b o (λh=>a (by simp[h])) e
  self:=λ_ _ _ _ st c=>wpAny_pyIter_keyiter st.1 c},⟨⟨_,qK _ rfl,U,U⟩,hm.at λ_ e=>qw _ e⟩⟩
end
inductive Xo(H:Hp):qa qc->qa (qa Key)->Prop
 |nil:Xo H [] []
 |cons {b:qc} {k:qa Key} {bs:qa qc} {ks:qa (qa Key)} (e:H b=some (.tup (k.map kV))) (r:Xo H bs ks):Xo H (b::bs) (k::ks)
def Xo.len{H:Hp}:∀{bs:qa qc}{ks:qa (qa Key)},Xo H bs ks->bs.length=ks.length
 |_,_,.nil=>rfl
 |_,_,.cons _ r=>zV (·+1) (Xo.len r)
def QW(t:qe):qa Key:=t.map Sum.inr
def VW(t:qe):(QW t).map kV=t.map V.str:=by unfold QW;rw[qT];rfl
def Xo.texts{H:Hp}:∀{bs:qa qc}{ts:qa (qe)},Xo H bs (ts.map QW)->(∀t∈ts,t≠[])->WC H bs ts
 |[],[],_,_=>.nil
 |_::_,t::ts,.cons e r,h=>.cons (by rw[e,VW]) (h t qz) (Xo.texts r λz hz=>h z (qF _ hz))
def cx{H:Hp}{a:qa (qa Key×V)}{xs:qa (qa Key×qc×qd)}(r:KT H a xs):Xo H (xs.map (·.2.1)) (a.map (·.1)):=by
 induction r with
 |nil=>exact .nil
 |cons h _ b=>exact .cons (h.2.1) b
def Eo:∀bs:qa qc,QK (bs.map V.ref) (bs.map Value.ref)
 |[]=>.nil
 |_::bs=>.cons rfl (Eo bs)
def Sq{P:Program}{w:World}{H:Hp}{h:Heap}{a:qc}{b:qa (qa Key×V)}(ok:QY P w H h a (.dT b)) :
 b.length<=sizeLine/\(a==sysModules)=false/\∃(bs:qa qc)(es:Array DictEntry)(c:Nat),Xo H bs (b.map (·.1))/\Uk h a es c/\es.toList.map (·.key)=bs.map Value.ref:=by
 obtain⟨z,y,xs,r,o,es,c,d,e,f,g,_⟩:=ok;refine⟨z,y,xs.map (·.2.1),es,c,cx r,⟨o,d,e,f⟩,?_⟩;rw[g,qT,qT];rfl
inductive AV(xs:qa V)(H:Hp)(Q:VK):Prop
 |mk:∀(p:qc)(kvs:qa (qa Key×V))(ts:qa (qe)),xs=[.ref p]->H p=some (.dT kvs)->kvs.map (·.1)=ts.map QW->(∀t∈ts,t≠[])->ts.length<64->(∀l bs,H l=none->WC H bs ts->Q (.ref l) (upd H l (.lst ((Wy ts).map λi=>(bs.map V.ref).getD i .non))))->AV xs H Q
def Av{X:Cx}(hc:X.calm=true):V0 X (.builtin "sorted") (λxs H Q=>AV xs H Q):=by
 intro pins s σ H xs us Q I r h;obtain⟨p,l,ts,rfl,E,n,h0,N,q⟩:=h;obtain⟨u,rfl,F⟩:=V2 r;cases F;obtain⟨hz,t,bs,es,O,k,hm,B⟩:=Sq (show QY X.prog X.w H s.heap p (.dT l) from I.hok p _ E);rw[n] at k;have v:=k.texts h0;have f:bs.length=ts.length:=v.len;have hsz:es.size=bs.length:=by have:=zV List.length B;simpa using this
 have G:X.A.in1.handled=none:=I.ok.hd hc;refine rH kind_sorted plain_sorted entry_sorted (args_sorted1 _) ?_;unfold Builtin.«sorted»;refine qi (m:=checkCount "sorted" 1 1 _) (qu ?_);refine qi (BR (A:=X.A.in1) (bK t) G hm (by rw[hsz,f];exact Q6 ((by omega))) λh' J acc w x c=>?_);have K:acc.toList=bs.map Value.ref:=by
  rw[<-B];refine List.ext_getElem? λj=>?_;rw[qQ];by_cases y:j<es.size
  .have d:j<acc.size:=by rw[c.1];exact y
   obtain⟨C,g,z⟩:=c.2 j acc[j] (jh d);rw[zq,zq,g,jh d,z];rfl
  .rw[zq,zq,xP (by rw[c.1];omega),xP (by omega)];rfl
 rw[K];have C:=Eo bs;have y:(bs.map Value.ref).length<=sizeLine:=by rw[qh];exact Q6 ((by omega))
 refine qi (wpAny_newList ?_ y);have d:(h'.push (seqObj "list" (bs.map Value.ref).toArray 0)).get? h'.objs.size=some (seqObj "list" (bs.map Value.ref).toArray 0):=qK _ rfl;have old:∀b o,s.heap.get? b=some o->(h'.push (seqObj "list" (bs.map Value.ref).toArray 0)).get? b=some o/\b≠h'.objs.size:=λb o e=>by
  have g:=w b o e;exact⟨qw _ g,za (qR g)⟩
 have z:=v.of I (a:=h'.objs.size) old C;refine qi (jz (zU slot_list_sort ⟨_,d,U⟩ entry_list_sort (Lv d z (by rw[qh];omega) ⟨_,U,?_⟩) (args_list_sort _)));refine qu ⟨_,U,?_⟩;obtain⟨e,he⟩:=sortedHeap_at (out:=((Wy ts).map λi=>(bs.map Value.ref).getD i .none).toArray) d;have g:s.heap.objs.size<=h'.objs.size:=vw x;refine⟨.ref h'.objs.size,_,I.laid (t':=J) (λb u k=>?_) g (show QY X.prog X.w _ _ _ (.lst ((Wy ts).map λi=>(bs.map V.ref).getD i .non)) from⟨?_,(Wy ts).map (λi=>(bs.map Value.ref).getD i .none),e,HM C λi L=>?_,he⟩),U,q _ bs (I.hok.fresh g) v⟩
 .obtain⟨D,M⟩:=old b u k;rw[sortedHeap_old M (qR D)];exact D
 .rw[qh,DI];exact Q6 ((by omega))
 .rw[qh,f];exact Hz L
inductive EO(x:V)(vs:qa V)(H:Hp)(Q:VK):Prop
 |mk:∀(l:qc)(xs:qa V)(i:Int)(y:V),x=.ref l->vs=[.int i,y]->H l=some (.lst xs)->0<=i->i<=xs.length->xs.length<1000->Q .non (upd H l (.lst (xs.take i.toNat++y::xs.drop i.toNat)))->EO x vs H Q
def bN:V->qa V->Hp->VK->Prop:=λx vs H Q=>EO x vs H Q
def RP{xs ys:qa V}{us vs:qg}(a:QK xs us)(b:QK ys vs):QK (xs++ys) (us++vs):=by
 induction a with
 |nil=>exact b
 |cons h _ c=>exact .cons h c
def P7{X:Cx}:MtM X "list.insert" bN:=by
 intro pins s σ H x vs v us Q I d f h;obtain⟨l,xs,i,y,rfl,rfl,c,h0,k,m,q⟩:=h;cases d;obtain⟨o,a,rfl,g,j⟩:=f.two;obtain⟨t,rfl⟩:=g;obtain⟨z,its,n,r,hlen,e⟩:=I.Qba c;have hf:¬(!Builtin.List.listFitsIndex i)=true:=by
  have:Builtin.List.listFitsIndex i=true:=fitsIndex_both (by omega) (by omega);rw[this];exact qH
 have b:its.toArray.size<=sizeLine:=by rw[qS,<-hlen];exact z
 refine vU F.slot_list_insert ⟨_,e,U⟩ F.entry_list_insert (F.args_list_insert_3 _ _ _) (PySem.AutoSeq1.list_insert_list_int_val_1 l its.toArray n i t a hf b) ⟨e,?_⟩;refine⟨.non,_,I.Qc6 (its':=its.take i.toNat++a::its.drop i.toNat) c e ?_ (RP (r.take i.toNat) (.cons j (r.drop i.toNat))) ?_,U,q⟩
 .show(its.toArray.extract 0 (if i<0 then (i+(its.toArray.size:Int)).toNat else min i.toNat its.toArray.size)).push a++its.toArray.extract (if i<0 then (i+(its.toArray.size:Int)).toNat else min i.toNat its.toArray.size)=_;rw[PySem.W.kl_ins_eq,qC (by omega),qS,v5 (by omega)]
 .rw[qx,qV,zb,yt];have:=QD (n:=xs.length+1) (by omega);omega
end L2
namespace HT
open PySem PyProof.Rows
variable {prog:Program}{w:World}{A:Around}{E:qf}{s:Shared}
def ly{t b:qc}{items:Array qd}{g i:qd}{lo c:Option Int}{Q:qf}(a:IsTup s.heap t items)(j:s.heap.IsSliceOf b g i .none)(pl:IsPart g lo)(pu:IsPart i c)
 (hw:xG items.size 0 lo=0/\xG items.size items.size c=items.size) (h:Q (.ref t) s):wpAny (model prog w) A (getItem (.ref t) (.ref b)) Q E s:=by
 have d:s.TypeIs (.ref b) "slice":=let ⟨os,e,f,_⟩:=j;⟨os,e,f⟩;unfold getItem
 try with_reducible refine jz ?_
 first|refine qi (qu ?_)|skip
 refine qi (wpAny_sequenceKey a.typeIs (by decide) ?_);refine qi (ju (name:=Str.ofString "__getitem__") a.typeIs slot_tuple_getitem
  (zU slot_tuple_getitem a.typeIs entry_tuple_getitem ?_ (args_tuple_getitem _ _)))
 show wpAny _ _ (Builtin.Tuple.tupleItemsOf (.ref t)>>=_) _ _ s;refine qi (tupleItemsOf_ a (qi (QaX d ?_)));rw[qG (by decide)];refine qi (W7 j pl pu ?_);show wpAny _ _ (if (((xG items.size 0 lo:Nat):Int)==0&&(1:Int)==1&&(xG items.size items.size c-xG items.size 0 lo)==items.size)=true then _ else _) _ _ s;rw[qG (by rw[hw.1,hw.2];simp)];show wpAny _ _ (Builtin.Tuple.tupleIsExact (.ref t)>>=_) _ _ s;unfold Builtin.Tuple.tupleIsExact;refine qi ?_;refine qi (QaX a.typeIs (qu ?_));show wpAny _ _ (if (Value.type "tuple"==Value.type "tuple")=true then _ else _) _ _ s;rw[qG (by decide)];refine qi (QaZ ?_);exact qu ⟨_,U,qu h⟩
end HT
namespace L2
open PySem PySem.Spec PyProof.Rows
variable {X:Cx}
inductive Sw(K:Frag)(x:V)(lo:Option Int)(hi:Option Int)(H:Hp)(Q:VK):Prop
 |mk:∀a xs,x=.ref a->jX K H a xs->((HT.xG xs.length 0 lo=0/\HT.xG xs.length xs.length hi=xs.length)->Q (.ref a) H)->(∀p,H p=none->Q (.ref p) (upd H p (.tup (Ca xs lo hi))))->Sw K x lo hi H Q
def rSlA(K:Frag):V->Option Int->Option Int->Hp->VK->Prop:=λx lo a H Q=>Sw K x lo a H Q
def N9 :SlR X (rSlA X.K):=by
 intro pins s σ H x v g i lo b j Q I c d pl pu h;obtain⟨a,xs,rfl,e,k,l⟩:=h;by_cases hw:HT.xG xs.length 0 lo=0/\HT.xG xs.length xs.length b=xs.length
 .cases c;obtain⟨its,r,f,hz⟩:=I.tuple e;have hlen:its.toArray.size=xs.length:=by rw[qS];exact r.length.symm
  exact⟨"tuple",_,slot_tuple_getitem.lookup,f.typeIs,HT.ly f d pl pu (by rw[hlen];exact hw) ⟨.ref a,H,I,U,k hw⟩⟩
 .exact eU pins s σ H (.ref a) v g i lo b j Q I c d pl pu ⟨a,xs,U,e,hw,l⟩
section
variable {X:Cx}{pins:qa (qc×Obj)}{σ:St}{H:Hp}{s:Shared}{a:qc}{oa:Obj}{kvs:qa (qa Key×V)}
def Inv.Qc9(I:Inv X pins σ H s)(e:H a=some (.dT kvs)):∃oa,Inv X pins σ (upd H a (.jG oa (.dT kvs))) s:=by
 obtain⟨z,y,xs,r,b,es,f,d,c⟩:=(show QY X.prog X.w H s.heap a (.dT kvs) from I.hok a _ e);have g:Paired (λ(p:qa Key×V)(q:qa Key×qc×qd)=>p.1=q.1/\(upd H a (.jG b (.dT kvs))) q.2.1=some (.tup (p.1.map kV))/\QO p.2 q.2.2) kvs xs:=Paired.Qc5 r λp q z=>⟨z.1,by rw[Qa (λw=>by have:=z.2.1;rw[w,e] at this;cases this)];exact z.2.1,z.2.2⟩;exact⟨b,I.write (x:=a) (e:=a) (o:=.jG b (.dT kvs)) (t':=s.toks) (h':=s.heap) (by rw[e];exact True.intro) (.inl rfl) (λ_ _ _ q=>q) ⟨b,d⟩ ⟨d,z,y,xs,g,b,es,f,d,c⟩⟩
def Inv.sM(I:Inv X pins σ H s)(l:∀o u,X.H₀ a≠some (.jG o u))(e:H a=some (.jG oa (.dT kvs))):Inv X pins σ (upd H a (.dT kvs)) s:=by
 have d:∀b,H b=none->b≠a:=λb n z=>by rw[z,e] at n;cases n
 have ne1:∀b o,H b=some o->o≠.jG oa (.dT kvs)->b≠a:=λb o q n z=>by rw[z,e] at q;cases q;exact n rfl
 obtain⟨_,g⟩:=(show QY X.prog X.w H s.heap a (.jG oa (.dT kvs)) from I.hok a _ e);have i:∀c xs,H c=some (.tup xs)->(upd H a (.dT kvs)) c=some (.tup xs):=λc xs z=>by rw[Qa (ne1 c _ z (λy=>by cases y))];exact z
 have j:∀b c,H c=some (.own b)->(upd H a (.dT kvs)) c=some (.own b):=λb c z=>by rw[Qa (ne1 c _ z (λy=>by cases y))];exact z
 refine⟨I.ok,I.os,I.bare,⟨I.base.keep,I.base.slot,λb o q n r=>?_,I.base.there,λb xs q=>i _ _ (I.base.tups b xs q),λb o u q=>?_,λb ps q=>?_⟩,I.loc,I.cell,?_,λx c q=>?_,λp t=>?_,λb u q=>?_,I.len⟩
 .have:=I.base.free b o q n r;rw[Qa (d b this)];exact this
 .have f:b≠a:=λz=>l o u (by rw[<-z];exact q);rw[Qa f];exact I.base.nH b o u q
 .obtain⟨m,h⟩:=I.base.rL b ps q;exact⟨m,by rw[Qa (ne1 b _ h (λz=>by cases z))];exact h⟩
 .rw[Qa (d _ I.free)];exact I.free
 .rw[Qa (d _ (I.vV x c q))];exact I.vV x c q
 .obtain⟨v,k,w⟩:=I.pin p t;exact⟨v,by rw[Qa (d _ k)];exact k,w⟩
 .by_cases f:b=a
  .subst f;rw[Qc] at q;cases q;exact QY.stay (show QY X.prog X.w H s.heap b (.dT kvs) from g) (λ_ _ _ z=>z) (j b) i
  .rw[Qa f] at q;exact(I.hok b u q).stay (λ_ _ _ z=>z) (j b) i
end
def sM(a:qc)(c:Obj)(b:qa (qa Key×V))(D:Wl):Wl:=
 {nx:=λσ H=>H a=some (.jG c (.dT b))/\D.nx σ (upd H a (.dT b)),rt:=λv H=>H a=some (.jG c (.dT b))/\D.rt v (upd H a (.dT b)),bk:=λσ H=>H a=some (.jG c (.dT b))/\D.bk σ (upd H a (.dT b)),ct:=λσ H=>H a=some (.jG c (.dT b))/\D.ct σ (upd H a (.dT b))}
inductive HV(ts:TS)(D:Wl)(σ:St)(H:Hp):Prop
 |mk:∀a kvs,H a=some (.dT kvs)->(∀oa,ts (sM a oa kvs D) σ (upd H a (.jG oa (.dT kvs))))->HV ts D σ H
def ee(ts:TS):TS:=λD σ H=>HV ts D σ H
def SM{st:Stmt}{ts:TS}(j:PS X st ts):PS X st (ee ts):=by
 rintro pins s σ H D I ⟨a,k,e,h⟩;obtain⟨l,J⟩:=I.Qc9 e;have g:∀o u,X.H₀ a≠some (.jG o u):=λo u z=>by have:=I.base.nH a o u z;rw[e] at this;cases this
 refine jE (j pins s σ _ _ J (h l)) λf s' q=>?_
 cases f with
 |next=>obtain⟨b,i,d,c⟩:=q;exact⟨b,_,d.sM g c.1,c.2⟩
 |cont=>obtain⟨b,i,d,c⟩:=q;exact⟨b,_,d.sM g c.1,c.2⟩
 |brk=>obtain⟨b,i,d,c⟩:=q;exact⟨b,_,d.sM g c.1,c.2⟩
 |ret v=>obtain⟨m,b,i,d,n,c⟩:=q;exact⟨m,b,_,d.sM g c.1,n,c.2⟩
def gF(a:qc)(d:Obj)(c:qa (qa Key×V))(bs:qa qc):It:=⟨λi H=>H a=some (.jG d (.dT c))/\i<bs.length,λi H x H'=>H'=H/\∃b,bs[i]?=some b/\x=.ref b,λi H=>H a=some (.jG d (.dT c))/\bs.length<=i⟩
def OR{P:Program}{w:World}{H:Hp}{h:Heap}{a:qc}{c:Obj}{b:qa (qa Key×V)}{es:Array DictEntry}{d:Nat}(ok:lF P w H h)(e:H a=some (.jG c (.dT b)))(hd:c.data=.dict es d):Uk h a es d:=by
 obtain⟨f,z,y,xs,r,l,i,j,g,k,m,n⟩:=(show QY P w H h a (.jG c (.dT b)) from ok a _ e);rw[f] at g;cases g;exact⟨c,f,k,hd⟩
def Mo{P:Program}{w:World}{K:Frag}{A:Expr}(a it:qc)(u:Obj)(m:qa (qa Key×V))(bs:qa qc)(es:Array DictEntry)(x:Nat)(hd:u.data=.dict es x)(f:es.toList.map (·.key)=bs.map Value.ref):RK P w K A (gF a u m bs) [it] it (λi h=>h.IsKeyIter it a i es.size x) where
 mem:=by simp
 obj:=λi h st b f=>by
  have e:b=it:=by simpa using f
  subst e;obtain⟨o,e,c,d⟩:=st;exact⟨o,e,λv z=>by rw[d] at z;cases z⟩
 keep:=λi h h' st k=>by
  obtain⟨o,e,c⟩:=st;exact⟨o,k it (by simp) o e,c⟩
 item:=by
  intro X n hw p hc i pins s σ H E I hf st hg;subst n hw p;obtain⟨q,g⟩:=hg;have hm:=OR I.hok q hd;have hsz:es.size=bs.length:=by have:=zV List.length f;simpa using this
  obtain⟨f0,f1,f2,r,f4,t⟩:=hf it (by simp);have y:es[i]?=some es[i]:=jh (by omega);have j:(es[i]'(by omega)).key=Value.ref bs[i]:=by
   have l:(es.toList.map (·.key))[i]?=(bs.map Value.ref)[i]?:=by rw[f]
   rw[qQ,qQ,zq,y,qA g] at l;exact qN l
  refine IK st hm y λh' l B=>?_;rw[j];have C:Inv X pins σ H {s with heap:=h'}:=I.turned (t':=s.toks) (λb o f e=>(B.2 b f).trans e) f0 f1 r f4 t;obtain⟨o,e,c,d⟩:=id l;exact⟨_,U,LK (s:={s with heap:=h'}) e c d (by decide) ⟨.ref bs[i],H,C,U,⟨U,bs[i],qA g,U⟩,l,λb f=>(hf b f).1⟩⟩
 done:=by
  intro X n hw p hc i pins s σ H E I hf st hg;subst n hw p;obtain⟨q,g⟩:=hg;have hm:=OR I.hok q hd;have hsz:es.size=bs.length:=by have:=zV List.length f;simpa using this
  obtain⟨f0,f1,f2,r,f4,t⟩:=hf it (by simp);exact Of (I.ok.hd hc) st hm (by omega) λh' j=>⟨U,I.turned (t':=s.toks) (λb o f e=>j b o f e) f0 f1 r f4 t⟩
 self:=λ_ _ _ _ _ st h=>wpAny_pyIter_keyiter st h
inductive LI(R:(It->Hp->Prop))(x:V)(H1:Hp):Prop
 |mk:∀a oa kvs,x=.ref a->H1 a=some (.jG oa (.dT kvs))->(∀bs,Xo H1 bs (kvs.map (·.1))->R (gF a oa kvs bs) H1)->LI R x H1
def gi(a:TE):TI:=λσ H R=>a σ H λx H1=>LI R x H1
def SQ{r l:Expr}{k:TE}(t:PE X l k):PI X r l (gi k):=by
 intro pins s σ H R I h;refine jE (t pins s σ H _ I h) λv s1 ⟨x,H1,d,u,w⟩=>?_;obtain⟨a,f,c,e,y,q⟩:=w;subst e;cases u;obtain⟨m,g⟩:=(show QY X.prog X.w H1 s1.heap a (.jG f (.dT c)) from d.hok a _ y);obtain⟨_,i,bs,es,z,j,⟨o,n,A,p⟩,B⟩:=Sq g;rw[m] at n;cases n;refine IJ i ⟨f,m,A,p⟩ ?_;refine⟨s1.heap.objs.size,[s1.heap.objs.size],_,_,H1,U,d.kept (t':=s1.toks) λb o e=>qw _ e,Mo a _ f c bs es z p B,⟨_,qK _ rfl,U,U⟩,λb j=>?_,q bs j⟩;have e:b=s1.heap.objs.size:=by simpa using j
 subst e;exact d.QbY (qB _) (d.hok.fresh (qB _))
def LZ{a:qc}{q:Obj}{h:qa (qa Key×V)}{bs:qa qc}{α:Type}{xs:qa α}{fr:qa (Nat×qb)}{tt:TT}{r:TE}{σ:St}{H1:Hp}{Q:VK}(g:α->V)(pr:α->Bool)(f:α->V)(hz:xs.length<=sizeLine)(hS:H1 a=some (.jG q (.dT h)))(s:bs.map V.ref=xs.map g)
 (l:∀(x:α)(d:Hp)(Q':Bool->Hp->Prop),x∈xs->Qj H1 d->Q' (pr x) d->tt (some (g x)::oS σ fr) d Q')
 (n:∀(x:α)(d:Hp)(Q':VK),x∈xs->Qj H1 d->pr x=true->Q' (f x) d->r (some (g x)::oS σ fr) d Q')
 (y:∀D,H1 D=none->Q (.ref D) (upd H1 D (.lst ((xs.filter pr).map f)))) :
 Yr (gF a q h bs) fr tt r σ H1 Q:=by
 have A:bs.length=xs.length:=by have:=zV List.length s;simpa using this
 unfold Yr;intro D t;refine⟨λi m ys u=>m=xs.length-i/\i<=xs.length/\ys=((xs.take i).filter pr).map f/\u=upd H1 D (.lst ys),⟨xs.length,by simp,q0 _,by simp,U⟩,?_⟩;rintro i m ys u ⟨rfl,B,rfl,rfl⟩;refine⟨Qc,?_⟩;have s1:Qj H1 (upd H1 D (.lst (((xs.take i).filter pr).map f))):=Qj.zi t;have j:=s1 _ _ hS;by_cases c:i<xs.length
 .have o:(xs.map g)[i]?=some (g xs[i]):=by rw[qQ,qA c];rfl
  refine .inr ⟨⟨j,by omega⟩,?_⟩;rintro v d ⟨rfl,b,z,rfl⟩;have k:(xs.map g)[i]?=some (V.ref b):=by rw[<-s,qQ,z];rfl
  rw[o] at k;have k:=qN k;rw[<-k];have hm:xs[i]∈xs:=jj c;have w:xs.take (i+1)=xs.take i++[xs[i]]:=by rw[zo,qA c];rfl
  refine l xs[i] _ _ hm s1 ?_;cases p:pr xs[i]
  .refine QU ⟨xs.length-(i+1),by omega,U,c,?_,U⟩;rw[w,q9,qM,p];simp
  .refine Ya (n xs[i] _ _ hm s1 p ⟨Qc,?_,xs.length-(i+1),by omega,U,c,?_,Kz⟩)
   .have:=qW pr (xs.take i);rw[zb] at this;rw[qh];omega
   .rw[w,q9,qM,p,qI];simp
 .have e:i=xs.length:=by omega
  subst e;refine .inl ⟨⟨j,by omega⟩,?_⟩;have:=y D t;rw[jw];exact this
end L2
namespace Hd
open PySem PySem.W PySem.Calls PyProof.Rows L2
variable {q:Program}{r:Option (Option qd)}{x:qb}{b:qd}
noncomputable def pC(st:SharedT->Thread->Option (SharedT×Thread))(ok:Thread->Bool)(n:Nat):SharedT->Thread->Option SharedT:=
 @Nat.rec (λ_=>SharedT->Thread->Option SharedT) (λ_ _=>none) (λ_ a s t=>match through t with
  |true=>some s
  |false=>match ok t with
   |false=>none
   |true=>match st s t with
    |some (s',t')=>a s' t'
    |none=>none) n
def Pl(st:SharedT->Thread->Option (SharedT×Thread))(ok:Thread->Bool)(n:Nat)(s:SharedT)(t:Thread):pC st ok (n+1) s t=(match through t with
 |true=>some s
 |false=>match ok t with
  |false=>none
  |true=>match st s t with
   |some (s',t')=>pC st ok n s' t'
   |none=>none):=rfl
def Oe{d:String->Option Builtin}{p:Program}{w:World}{a:Nat}{ann:Option qd}:∀(n:Nat)(s:SharedT)(t:Thread)(s':SharedT),
 pC (stepT (denote d) p w) (stepOk a ann) n s t=some s'->topRun d p w a ann n s.abs t=some s'.abs
 |0,_,_,_,h=>nomatch (h:none=some _)
 |n+1,s,t,s',h=>by
  rw[Pl] at h;unfold topRun
  cases f:through t with
  |true=>rw[f] at h;cases h;rfl
  |false=>
   rw[f] at h
   cases g:stepOk a ann t with
   |false=>rw[g] at h;cases h
   |true=>
    rw[g] at h;dsimp only at h⊢
    cases e:stepT (denote d) p w s t with
    |none=>rw[e] at h;cases h
    |some x=>
     obtain⟨b,c⟩:=x;rw[e] at h;rw[stepT_spec e];exact Oe n b c s' h
def aR(t:BT)(n:Nat):qa Obj->BT
 |[]=>t
 |o::r=>aR (t.ins n o) (n+1) r
noncomputable def dM(P:Params):BT:=aR .nil 0 (boot_heap P).objs.toList
def RH(P:Params):((boot_heap P).isNs mainGlobals,(boot_heap P).objs.size,(boot_heap P).nsMap mainGlobals "__annotations__")=(true,11,some (.ref 6)):=by kernel_rfl
def aS(P:Params):absHeap (dM P) 11 {}=boot_heap P:=by kernel_rfl
noncomputable def S0(w:World)(os:OsState):SharedT:=⟨dM w.params,11,{},#[],boot_drawn,boot_toks,os⟩
def gC(w:World)(os:OsState):(S0 w os).abs=⟨boot_heap w.params,#[],boot_drawn,boot_toks,os⟩:=zV (λh=>(⟨h,#[],boot_drawn,boot_toks,os⟩:Shared)) (aS w.params)
noncomputable def chk(p:Program)(P:Params)(s:Shared):Bool:=staticsOk (importedModules p.main.body) (boot_heap P) s.heap&&namesBound p s.heap&&gensDone s&&laidKept (boot_heap P) s.heap
noncomputable abbrev Qbx:(Code->Sem Fin)->Program->World->SharedT->Thread->Option (SharedT×Thread):=PySem.W.Fast.tw10156331382660048174
noncomputable abbrev Qda:Code->Sem Fin:=PySem.W.Fast.tw11892475500146522536 PySem.W.Fast.tw14364793385576792824
noncomputable abbrev okQ:Nat->Option qd->Thread->Bool:=PySem.W.Fast.tw6613529449190102663
noncomputable abbrev seenQ:=@PySem.W.Fast.tw4187177175401517315
def left{p:Program}{loose:qe}{Xt:Shared->Bool}{α:Type}{a:Shared->α}{b:World->α}{N:Nat}(e:opening p=plainProg p.main.scope.names)(c:Nat.ble 600 N=true)(f:∀s,fenceModules? p s=some s)
 (h:∀(w:World)(os:OsState),(pC (Qbx Qda p w) (okQ 11 (some (.ref 6))) N (S0 w os) (topStub p)).map (λs=>(chk p w.params s.abs,seenQ q loose (importedModules p.main.body) Xt true s.abs,a s.abs))=some (true,openGood q loose,b w)) :
 LeftO p q loose Xt a b N:=λw=>by
 obtain⟨⟨g,i,d,k,os⟩,j,m⟩:=xM.mp (boot_open e c f w);obtain⟨rfl,rfl,rfl,rfl⟩:g=boot_heap w.params/\i=#[]/\d=boot_drawn/\k=boot_toks:=by simpa using m
 have h:=h w os;unfold Qbx Qda okQ seenQ at h;rw[<-PySem.W.Fast.te10156331382660048174,<-PySem.W.Fast.te11892475500146522536,<-PySem.W.Fast.te14364793385576792824,<-PySem.W.Fast.te6613529449190102663,<-PySem.W.Fast.te4187177175401517315] at h;obtain⟨s,r,l⟩:=xM.mp h;obtain⟨n,o,u⟩:_/\_/\_:=by simpa only[Qbv] using l
 have r:=Oe N _ _ _ r;rw[gC] at r;obtain⟨v,x,y⟩:_/\_/\_:=by simpa only[Qbv] using RH w.params
 have t:topFrom treeTable p w N ⟨boot_heap w.params,#[],boot_drawn,boot_toks,os⟩=some s.abs:=by
  unfold topFrom;dsimp only;rw[v,x,y,r];show(match staticsOk (importedModules p.main.body) (boot_heap w.params) s.abs.heap&&namesBound p s.abs.heap&&gensDone s.abs&&laidKept (boot_heap w.params) s.abs.heap with|true=>_|false=>_)=_;rw[show(staticsOk (importedModules p.main.body) (boot_heap w.params) s.abs.heap&&namesBound p s.abs.heap&&gensDone s.abs&&laidKept (boot_heap w.params) s.abs.heap)=true from n]
 unfold openEnds;rw[j];show(topFrom treeTable p w N _).map _=_;rw[t];exact zV some (Prod.ext o u)
def Fj(h:Heap):Frag:=(List.range h.objs.size).filterMap λa=>(h.get? a).map λo=>(a,o)
def DB(f:Nat->Option Obj)(a:qc)(o:Obj):∀l:qa Nat,(l.filterMap λa=>(f a).map λo=>(a,o)).lookup a=some o->f a=some o
 |[],e=>nomatch e
 |b::l,e=>by
  cases c:f b with
  |none=>rw[List.filterMap_cons_none (by rw[c];rfl)] at e;exact DB f a o l e
  |some x=>
   rw[List.filterMap_cons_some (by rw[c];rfl),jv] at e;split at e
   .rename_i q;cases e;rw[mz.mp q];exact c
   .exact DB f a o l e
def cG(h:Heap):(Fj h).In h:=λa o e=>DB h.get? a o _ e
def Qaz(s:SharedT):Frag:=(List.range s.n).filterMap λa=>(match Nat.blt a s.n with|true=>alive ((s.tree.get a).getD default)|false=>none).map λo=>(a,o)
def aC(s:SharedT):Qaz s=Fj s.abs.heap:=by
 unfold Qaz Fj;show _=(List.range (absHeap s.tree s.n s.life).objs.size).filterMap λa=>((absHeap s.tree s.n s.life).get? a).map λo=>(a,o);rw[absHeap_size];congr 1;funext a;congr 1;unfold Heap.get?;rw[absHeap_at]
 cases h:Nat.blt a s.n with
 |true=>
  rw[qG (show a<s.n from Nat.le_of_ble_eq_true h)];dsimp only
  cases (s.tree.get a).getD default with
  |mk c d b e=>cases b<;>rfl
 |false=>
  rw[qC (λq=>by rw[show Nat.blt a s.n=true from Nat.ble_eq_true_of_le q] at h;cases h)]
def eV{α:Type}(obs:Frag->α)(good:α)(_:World)(h:Heap):Prop:=∃K:Frag,K.In h/\obs K=good
def close{l:OpenLaw}{loose:qe}{d:DefRec}{α:Type}{obs:Frag->α}{good:α}{N:Nat}
 (look:PySem.W.Fast.tw9446332074065402090 l=true) (e:opening l.prog=plainProg l.prog.main.scope.names) (g:Nat.ble 600 N=true) (f:∀s,fenceModules? l.prog s=some s)
 (h:∀(w:World)(os:OsState),(pC (Qbx Qda l.prog w) (okQ 11 (some (.ref 6))) N (S0 w os) (topStub l.prog)).map (λs=>(chk l.prog w.params s.abs,seenQ q loose (importedModules l.prog.main.body) (λs=>recOk [] s) true s.abs,obs (Qaz s)))=some (true,openGood q loose,good))
 (a:defOf q l.name=some (d,[])) (i:l.prog.theDef l.name=some (d.params,d.body,d.scope)) (j:kwWritten? d.params.kwonlyargs d.params.kw_defaults=some []) (c:(!l.writes||([]:WRecords).isEmpty)=true)
 (ok:(chainsOk q&&opensWell l.prog&&(frees l.row.toRowW&&l.row.within.isEmpty))=true) (m:l.prog.bare) (hw:l.row.toRowW.promised)
 (call:WalkO q loose (λ_ _=>True) (eV obs good) l.row.toRowW d [] λf vs=>PySem.call f vs):l.Holds:=by
 rw[<-PySem.W.Fast.te9446332074065402090] at look;refine holds_law look λb=>?_;have lf:LeftO l.prog q loose (λs=>recOk [] s) (λs=>obs (Fj s.heap)) (λ_=>good) N:=left e g f λw os=>by
  have:=h w os;rw[show(λs:SharedT=>(chk l.prog w.params s.abs,seenQ q loose (importedModules l.prog.main.body) (λs=>recOk [] s) true s.abs,obs (Qaz s)))=λs=>(chk l.prog w.params s.abs,seenQ q loose (importedModules l.prog.main.body) (λs=>recOk [] s) true s.abs,obs (Fj s.abs.heap)) from funext λs=>by rw[aC]] at this;exact this
 exact holds_open (r:=l.row) (q:=q) (loose:=loose) (Xt:=λs=>recOk [] s) (XP:=λ_ _=>True) (YP:=eV obs good) lf (λ_ s y=>⟨Fj s.heap,cG _,y⟩) (λ_ _ _ ⟨K,X,y⟩ k=>⟨K,X.keeps k,y⟩) (λ_ _=>trivial) (λ_ _ _ _ _=>trivial) a i j (λ_ e=>recFacts_of e) c b ok m hw call
def uX:qd->qd
 |.int n _=>.int n 0
 |.str x _=>.str x 0
 |v=>v
def OY(K:Frag):qd->Option (qg)
 |.none=>none
 |.ref D=>(match K.lookup D with
  |some ⟨_,_,.seq items _,_⟩=>some (items.toList.map uX)
  |_=>some [])
 |_=>some []
def zP:Option (Option qd)->qc
 |some (some (.ref f))=>f
 |_=>0
def see(K:Frag)(r:Option (Option qd))(q:qb):Option (FuncData×Option (qg))×Bool:=match r with
 |some (some (.ref f))=>(match K.lookup f with
  |some ⟨_,_,.func fd,_⟩=>(some ({fd with defaults:=.none,kwdefaults:=.none,doc:=.none,pyModule:=.none,annotations:=none,code:=.none,closureTuple:=.none},OY K fd.defaults),codeIn K fd.code q&&(keepIn K (.ref f)&&isFn K (.ref f)))
  |_=>(none,false))
 |_=>(none,false)
abbrev tH(x q:qb)(st:Stmt):FuncData:=fnOf x q (Y3 st) (YE st) (Qg st) .none .none .none .none none .none .none
def Oc{K:Frag}{q:qb}{st:Stmt}{ds:Option (qg)}(h:see K r q=(some (tH x q st,ds),true)):∃(e:qd)(i:Option qc)(d kV doc pm:qd)(an:Option qc)(a ct:qd)(c:Array (Option qd)),
 r=some (some (.ref (zP r)))/\K.lookup (zP r)=some ⟨e,i,.func (fnOf x q (Y3 st) (YE st) (Qg st) d kV doc pm an a ct),c⟩/\OY K d=ds/\codeIn K a q=true/\keepIn K (.ref (zP r))=true/\isFn K (.ref (zP r))=true:=by
 unfold see at h;split at h
 .rename_i f
  split at h
  .rename_i e i fd c l
   obtain⟨m,o⟩:=Qah h;obtain⟨k,p⟩:=Qah (qN m);obtain⟨s,j⟩:=zZ.mp o;obtain⟨j,t⟩:=zZ.mp j;obtain⟨n,u,ps,b,sc,g,cl,d,kV,doc,pm,an,a,ct,bs⟩:=fd;simp only[FuncData.mk.injEq] at k;obtain⟨rfl,rfl,rfl,rfl,rfl,rfl,rfl,-,-,-,-,-,-,-,rfl⟩:=k;exact⟨e,i,d,kV,doc,pm,an,a,ct,c,U,l,p,s,j,t⟩
  .cases h
 .cases h
def qX{K:Frag}{q:qb}{st:Stmt}(h:see K r q=(some (tH x q st,none),true)):r=some (some (.ref (zP r)))/\keepIn K (.ref (zP r))=true/\isFn K (.ref (zP r))=true/\∃fd,zX K x q st (zP r) fd:=by
 obtain⟨k,l,b,kV,doc,pm,an,d,ct,e,f,g,a,i,c,j⟩:=Oc h;have:b=.none:=by
  cases b with
  |none=>rfl
  |ref D=>simp only[OY] at a;split at a<;>cases a
  |_=>cases a
 subst this;exact⟨f,c,j,_,gm g i c⟩
def uU{K:Frag}{q:qb}{st:Stmt}{bs:qg}(h:see K r q=(some (tH x q st,some (b::bs)),true)):r=some (some (.ref (zP r)))/\keepIn K (.ref (zP r))=true/\isFn K (.ref (zP r))=true /\
 ∃(D:qc)(kV doc pm:qd)(an:Option qc)(a ct:qd)(o:Obj)(items:qg)(n:Nat),AA K x q st (zP r) (fnOf x q (Y3 st) (YE st) (Qg st) (.ref D) kV doc pm an a ct)/\K.lookup D=some o/\o.data=.seq items.toArray n/\items.map uX=b::bs:=by
 obtain⟨p,s,f,kV,doc,pm,an,a,ct,g,i,j,d,k,e,l⟩:=Oc h
 cases f with
 |none=>cases d
 |ref D=>
  simp only[OY] at d;split at d
  .rename_i c dd items n t m
   refine⟨i,e,l,D,kV,doc,pm,an,a,ct,_,items.toList,n,cF j k e,m,?_,qN d⟩;rw[vo]
  .cases d
 |_=>cases d
def QdQ{f:qd->qd}{l:qg}(h:l.map f=[b]):∃u,l=[u]/\f u=b:=by
 match l,h with
 |[u],h=>exact⟨u,U,(qD h).1⟩
def map2{f:qd->qd}{c:qd}{l:qg}(h:l.map f=[b,c]):∃u v,l=[u,v]/\f u=b/\f v=c:=by
 match l,h with
 |[u,v],h=>exact⟨u,v,U,(qD h).1,(qD (qD h).2).1⟩
def bv:V->qd
 |.int n=>.int n 0
 |.str x=>.str x 0
 |.bl b=>.bool b
 |_=>.none
def iG:V->Bool
 |.int _|.str _|.bl _|.non=>true
 |_=>false
def xq{v:V}{u:qd}(h:uX u=bv v)(b:iG v=true:=by rfl):QO v u:=by
 cases v<;>first|(cases b;done)|skip
 all_goals (cases u<;>first|(cases h;done)|skip)
 all_goals first|rfl|(injection h with a;subst a;exact⟨_,rfl⟩)|(injection h with a _;subst a;exact⟨_,rfl⟩)|(injection h with a;subst a;rfl)
abbrev gl(K:Frag)(x:qb):Option (Option qd):=nsIn K mainGlobals x
abbrev cl(K:Frag)(x:qb):qc:=zP (gl K x)
def qZ{l:qa Bool}(h:l.all id=true)(i:Nat){b:Bool}(e:l[i]?=some b):b=true:=jd.mp h b (qL e)
def zw{α:Type}{l m:qa α}(h:l=m)(i:Nat){a b:α}(e:l[i]?=some a)(c:m[i]?=some b):a=b:=by
 subst h;exact qN (e.symm.trans c)
def walk{l:OpenLaw}{n k:Nat}{loose:qe}{XP:(qb->Option qd)->Heap->Prop}{α:Type}{obs:Frag->α}{good:α}{d:DefRec}{sp:Frag->Sp}
 (p:l.most=some n) (e:n<=sizeLine) (g:d.params.defaults=[]) (r:QG k callerA)
 (F:∀(w:World)(K:Frag)(mg:qb->Option qd)(c:qc)(h:Heap),K.In h->obs K=good->h.Ns mainGlobals mg->mg d.name=some (.ref c) ->
   ∃fd:FuncData,(∀(s:Shared)(u:qd),BindsTo s fd ⟨[u],[]⟩ [(x,u)])/\∀base:Heap,K.In base->base.Ns mainGlobals mg->AB l.prog w K mg base j6 k c fd [x] (sp K))
 (i:∀(K:Frag)(H:Hp)(a:qc)(ns:qa Int),ns.length<=n->gD H->zQ K H a (ns.map V.int)->sp K [.ref a] H (λv _=>v=.bl true) λ_ _ _=>False) :
 WalkO q loose XP (eV obs good) l.row.toRowW d [] (λf vs=>PySem.call f vs):=by
 refine Att.QaI p g λw s₀ m mg D c o pm cd doc a vs ns G Y E hd t j b hints hlen hg=>?_;obtain⟨K,KX,y⟩:=Y;obtain⟨fd,A,B⟩:=F w K mg c _ KX y G.T.g j;exact T8 KX G.T.g G.T.b G.T.builtins G.T.nolimit hg b hints (zm hlen e) r B A (λH C hS=>i K H a ns hlen C hS) λ_ _ _ z=>z
def vW{K:Frag}{h:Heap}{mg:qb->Option qd}{v:V}(X:K.In h)(G:h.Ns mainGlobals mg)(e:(gl K x).map (Option.map uX)=some (some (bv v)))(a:iG v=true:=by rfl):∃u,mg x=some u/\QO v u:=by
 obtain⟨r,b,c⟩:=xM.mp e;obtain⟨u,d,f⟩:=xM.mp c;subst d;exact⟨u,mg_of X G b,xq f a⟩
def xj{K:Frag}{C:qc}{f:qb}(h:decide (findIn K (.ref C) f=some none)=true):Yi K C f:=by have e:findIn K (.ref C) f=some none:=ql h;exact e
end Hd
namespace L2
open PySem PySem.Spec PyProof.Rows
variable {X:Cx}
abbrev WU(o:HO)(H:Hp)(Q:VK):Prop:=∀p H',H p=none->Qj H H'->H' p=some o->Q (.ref p) H'
def WU.put{o:HO}{H:Hp}{Q:VK}(k:WU o H Q){p:qc}(a:H p=none):Q (.ref p) (upd H p o):=k p _ a (Qj.zi a) Qc
inductive dH(xs:qa V)(H:Hp)(Q:VK):Prop
 |mk:xs.length<=sizeLine->WU (.lst xs) H Q->dH xs H Q
inductive dF(xs:qa V)(H:Hp)(Q:VK):Prop
 |mk:xs.length<=sizeLine->WU (.tup xs) H Q->dF xs H Q
def g0(t:TA):TE:=λσ H Q=>t σ H λxs H1=>dH xs H1 Q
def gU(t:TA):TE:=λσ H Q=>t σ H λxs H1=>dF xs H1 Q
def Yf{es:qa Expr}{t:TA}{pos:Pos}(h:PAs X es t):PE X (.List es pos) (g0 t):=by
 intro pins s σ H Q I c;refine wpAny_List_spliced (jE (h.h pos pins s σ H _ I c) λus s1 ⟨xs,H1,a,r,z,q⟩=>⟨by rw[<-r.length];exact z,?_⟩);have hf:H1 s1.heap.objs.size=none:=a.hok.fresh (qB _);refine⟨.ref s1.heap.objs.size,upd H1 s1.heap.objs.size (.lst xs),a.laid (t':=s1.toks) (λb u e=>qw _ e) (qB _) ?_,U,WU.put q hf⟩;exact⟨z,us,0,r,qK _ rfl⟩
def Yq{es:qa Expr}{t:TA}{c:Nat}{pos:Pos}(h:PAs X es t):PE X (.Tuple es c pos) (gU t):=by
 intro pins s σ H Q I d;refine wpAny_Tuple_spliced (jE (h.h pos pins s σ H _ I d) λus s1 ⟨xs,H1,a,r,z,q⟩=>⟨by rw[<-r.length];exact z,?_⟩);have hf:H1 s1.heap.objs.size=none:=a.hok.fresh (qB _);refine⟨.ref s1.heap.objs.size,upd H1 s1.heap.objs.size (.tup xs),a.laid (t':=s1.toks) (λb u e=>qw _ e) (qB _) ?_,U,WU.put q hf⟩;exact⟨z,us,r,⟨_,qK _ rfl,U,_,U⟩⟩
def SlR.mono{r b:V->Option Int->Option Int->Hp->VK->Prop}(h:SlR X r)(k:∀x lo a H Q,b x lo a H Q->r x lo a H Q):SlR X b:=
 λpins s σ H x v c d lo a e Q I f g pl pu q=>h pins s σ H x v c d lo a e Q I f g pl pu (k _ _ _ _ _ q)
def uz.mono{f:qd->qd->Sem qd}{r a:R2}(h:uz X f r)(k:∀x y H Q,a x y H Q->r x y H Q):uz X f a:=
 λpins s σ H x y v u Q I b c q=>h pins s σ H x y v u Q I b c (k _ _ _ _ q)
def MtR.mono{id:String}{r a:V->qa V->Hp->VK->Prop}(h:MtR X id r)(k:∀x y H Q,a x y H Q->r x y H Q):MtR X id a:=
 λpins s σ H x xs v us Q I b c q=>h pins s σ H x xs v us Q I b c (k _ _ _ _ q)
inductive iB(K:Frag)(x:V)(lo hi:Option Int)(H:Hp)(Q:VK):Prop
 |mk:∀a xs,x=.ref a->zQ K H a xs->WU (.lst (Ca xs lo hi)) H Q->iB K x lo hi H Q
def Sl :SlR X (iB X.K):=bD.mono λx lo c H Q ⟨a,xs,e,h,k⟩=>⟨a,xs,e,h,λp b=>WU.put k b⟩
inductive iF(x y:V)(H:Hp)(Q:VK):Prop
 |mk:∀l b xs zs,x=.ref l->y=.ref b->H l=some (.lst xs)->H b=some (.lst zs)->xs.length+zs.length<=sizeLine->WU (.lst (xs++zs)) H Q->iF x y H Q
def bU :uz X (binaryOp .Add) iF:=fJ.mono λx y H Q ⟨l,b,xs,zs,a,c,d,e,hz,k⟩=>⟨l,b,xs,zs,a,c,d,e,hz,λp f=>WU.put k f⟩
inductive aB(x:V)(xs:qa V)(H:Hp)(Q:VK):Prop
 |mk:∀(z y:qb),x=.str z->xs=[.str y]->(y.length==0)=false->z.length<=1000000->WU (.lst ((Txt.split z y).map V.str)) H Q->aB x xs H Q
def P4 :MtR X "str.split" aB:=P5.mono λx xs H Q ⟨z,y,a,b,c,hz,k⟩=>⟨z,y,a,b,c,hz,λp d=>WU.put k d⟩
def FE{x y:qb}:(!decide (V.str x=V.str y)) = !decide (x=y):=by
 by_cases h:x=y
 .rw[h,qt rfl,qt rfl]
 .rw[qE h,qE λz=>h (V.str.inj z)]
def Um{x y:qb}:decide (V.str x=V.str y)=decide (x=y):=by
 by_cases h:x=y
 .rw[h,qt rfl,qt rfl]
 .rw[qE h,qE λz=>h (V.str.inj z)]
def gf{x y:Int}:decide (V.int x=V.int y)=decide (x=y):=by
 by_cases h:x=y
 .rw[h,qt rfl,qt rfl]
 .rw[qE h,qE λz=>h (V.int.inj z)]
section
variable {X:Cx}{o e:Expr}{es:qa Expr}{ta:TE}{t:TA}{m:qb}{apos pos:Pos}
end
end L2
namespace Hd
open PySem PySem.W L2
end Hd
namespace L2
open PySem PySem.Spec PyProof.Rows
section
variable {X:Cx}{e:Expr}{es:qa Expr}{te:TE}{t:TF}{pos:Pos}
end
section
variable {X:Cx}{pins:qa (qc×Obj)}{σ:qa (Option V)}{H:Hp}{s:Shared}
end
section
variable {P:Program}{w:World}{K:Frag}{mg:qb->Option qd}{base:Heap}
end
section
variable {X:Cx}{CX:CXT}{k:Nat}{f C:qc}{fd:FuncData}{ps:qe}{ds:qg}{pN:qa V}{sp:Sp}{E:XK}{x:qb}{p pos:Pos}{e o:Expr}{es:qa Expr}{t:TA}{st:Stmt}{rest:qa Stmt}{ts u:TS}{te ta tv:TE}
end
section
variable {prog:Program}{w:World}{A:Around}{R:Result->Shared->Prop}{I:qc}{fp wr:qa qc}{n:Nat}{P:Nat->qd->Prop}{St:Nat->Heap->Prop}{dv:qd}
end
def aT:(" ":qb).cps.toList=[32]:=by decide +kernel
def iK:(" ":qb)=⟨#[32]⟩:=by decide +kernel
def Va(a b:qb)(r:qe):(Str.join " " (a::b::r)).cps.toList=a.cps.toList++32::(Str.join " " (b::r)).cps.toList:=by
 show((a++" ")++Str.join " " (b::r)).cps.toList=_;rw[Yk,Yk,aT,jk];rfl
def Fs:∀{ps qs:qe},ps≠[]->qs≠[]->(∀p∈ps,¬32∈p.cps.toList)->(∀p∈qs,¬32∈p.cps.toList)->Str.join " " ps=Str.join " " qs->ps=qs
 |[],_,h,_,_,_,_=>absurd rfl h
 |_,[],_,h,_,_,_=>absurd rfl h
 |[p],[q],_,_,_,_,h=>by have h:p=q:=h;rw[h]
 |[p],q::a::r,_,_,b,_,h=>by
  have h:p=Str.join " " (q::a::r):=h;have:=b p qz;rw[h,Va] at this;exact absurd (qv _ qz) this
 |p::c::r,[q],_,_,_,d,h=>by
  have h:Str.join " " (p::c::r)=q:=h;have:=d q qz;rw[<-h,Va] at this;exact absurd (qv _ qz) this
 |p::c::r,q::a::f,_,_,b,d,h=>by
  have e:(Str.join " " (p::c::r)).cps.toList=(Str.join " " (q::a::f)).cps.toList:=by rw[h]
  rw[Va,Va] at e;obtain⟨g,i⟩:=aO (b p qz) (d q qz) e;have j:=Fs (ps:=c::r) (qs:=a::f) (by simp) (by simp) (λz hz=>b z (qF _ hz)) (λz hz=>d z (qF _ hz)) (GK i);rw[GK g,j]
def RF(x:qb):Txt.split x " "≠[]:=λz=>by
 have:=split_pos x " ";rw[z] at this;exact absurd this (by decide)
def L7(x:qb):∀p∈Txt.split x " ",¬32∈p.cps.toList:=λp a=>by
 rw[iK] at a;exact StrLaws.split_free _ 32 p a
def RG{x:qb}{ps:qe}(h0:ps≠[])(h:∀p∈ps,¬32∈p.cps.toList)(e:Str.join " " ps=x):Txt.split x " "=ps:=by
 refine Fs (RF x) h0 (L7 x) h ?_;rw[e];exact StrLaws.join_split _ _
def K2:∀{ps qs:qe},ps≠[]->qs≠[]->Str.join " " (ps++qs)=(Str.join " " ps++" ")++Str.join " " qs
 |[],_,h,_=>absurd rfl h
 |[p],q::qs,_,_=>rfl
 |[p],[],_,h=>absurd rfl h
 |p::a::r,qs,_,b=>by
  have c:=K2 (ps:=a::r) (qs:=qs) (by simp) b;apply GK;show(Str.join " " (p::a::(r++qs))).cps.toList=_;rw[Va,Yk,Yk,Va,show a::(r++qs)=(a::r)++qs from rfl,c,Yk,Yk];simp
end L2
namespace HT
open PySem PyProof.Rows
def Qa1(a:Int)(x:qb)(c:Int)(y:qb):Bool:=if a=c then (if x=y then false else decide (x.cps.toList<y.cps.toList)) else decide (a<c)
def Qc1(a:Int)(x:qb)(c:Int)(y:qb):Qa1 a x c y=Qak c y a x:=by
 unfold Qa1 Qak;by_cases h:a=c
 .rw[qG h,qG h.symm];by_cases e:x=y
  .rw[qG e,qG e.symm]
  .rw[qC e,qC (λz=>e z.symm)]
 .rw[qC h,qC (λz=>h z.symm)]
section
open PySem.SeqAt
open PySem.AutoSeq1 (wpAny_loadPart')
open PySem.MeetsSeq PySem.MeetsSeq2 PySem.MeetsSeq3
def Pq(A:Around)(s:Shared)(a:Int)(t:Tok)(c:Int)(u:Tok)(prog:Program)(w:World)(E:qf)(Q:qf)(h:Q (.bool (decide (a<c))) s) :
 wpAny (model prog w) A (richCompare .Lt (.int a t) (.int c u)) Q E s:=
 (lt_int h:wpAny (model prog w) A (compareOp .Lt (.int a t) (.int c u)) Q E s)
def Po(A:Around)(s:Shared)(a:qb)(t:Tok)(c:qb)(u:Tok)(prog:Program)(w:World)(E:qf)(Q:qf)(h:Q (.bool (decide (a.cps.toList<c.cps.toList))) s) :
 wpAny (model prog w) A (richCompare .Lt (.str a t) (.str c u)) Q E s:=
 (PySem.P.lt_str h:wpAny (model prog w) A (compareOp .Lt (.str a t) (.str c u)) Q E s)
def rJ(l b:qc)(n B:Nat)(dd u:Option qc)(C v:Array (Option qd))(a:Int)(x:qb)(c:Int)(y:qb)(t1 k r m:Tok) :
 Meets (Builtin.«tuple.__lt__» ⟨[.ref l,.ref b],[]⟩)
  (λ_ R s=>s.heap.get? l=some {cls:=.type "tuple",dict:=dd,data:=.seq #[.int a t1,.str x k] n,slots:=C}/\s.heap.get? b=some {cls:=.type "tuple",dict:=u,data:=.seq #[.int c r,.str y m] B,slots:=v} /\
    R (.ok (.ret (.bool (Qa1 a x c y)))) s):=
 .of_wp λprog w A R s h=>by
  obtain⟨o,g,d,p,os⟩:=s;obtain⟨D,E,h⟩:=h;have f2:=AutoSeq1.sub_tuple_tuple
  wp_walk using Qbu D,Qbu E,wpAny_forIn_list _ (λrest b s'=>b.1=none/\s'=⟨o,g,d,p,os⟩/\Kw a x c y rest) _
  case turn=>
   rintro⟨F,G⟩ rest b s' ⟨i,rfl,z⟩
   cases z with
   |both t1 k r m=>
    obtain⟨e,he,f⟩:=LR A.in1 ⟨o,g,d,p,os⟩ a t1 c r;refine qi (he prog w _ _ ?_)
    cases e with
    |true=>
     wp_walk
     exact⟨U,U,.one (f.mp rfl) _ _⟩
    |false=>
     have ne:a≠c:=λq=>absurd (f.mpr q) qH;have j:=Pq A.in1 ⟨o,g,d,p,os⟩ a t1 c r prog w
     wp_walk using j
     unfold Qa1 at h;rw[qC ne] at h;exact⟨_,U,by simpa using h⟩
   |one t k m=>
    obtain⟨e,he,f⟩:=Fo A.in1 ⟨o,g,d,p,os⟩ x k y m;refine qi (he prog w _ _ ?_)
    cases e with
    |true=>
     wp_walk
     exact⟨U,U,.none t (f.mp rfl)⟩
    |false=>
     have ne:x≠y:=λq=>absurd (f.mpr q) qH;have j:=Po A.in1 ⟨o,g,d,p,os⟩ x k y m prog w
     wp_walk using j
     unfold Qa1 at h;rw[qG t,qC ne] at h;exact⟨_,U,h⟩
  case fin=>
   rintro⟨j,F⟩ s' ⟨i,rfl,z⟩;simp only at i;subst i
   cases z with
   |none t f=>
    unfold Qa1 at h;rw[qG t,qG f] at h
    wp_walk
    exact⟨_,U,by simpa[Builtin.Tuple.tupleCompareSizes] using h⟩
  case h=>
   exact⟨U,U,.both _ _ _ _⟩
end
end HT
namespace L2
open PySem PySem.Spec PyProof.Rows
def fH{X:Cx}(l:X.A.units<cLine):uz X (compareOp .Lt) (dq X.K HT.Qa1):=by
 intro pins s σ H x y v u Q I m o h;obtain⟨p,q,a,z,c,r,rfl,rfl,t,w,k⟩:=h;cases m;cases o;obtain⟨its,A,B,_⟩:=I.tuple t;obtain⟨g,C,D,_⟩:=I.tuple w;obtain⟨t1,E,rfl⟩:=KO A;obtain⟨F,G,rfl⟩:=KO C;obtain⟨⟨cls,dd,data,J⟩,i,hc,n,hd⟩:=id B;obtain⟨⟨j,e,data2,f⟩,b,d,K,hd2⟩:=id D;simp only at hc hd d hd2;subst hc hd d hd2;exact richCompare_meets_room (op:=.Lt) ⟨_,i,U⟩ ⟨_,b,U⟩ PySem.F.slot_tuple_lt PySem.F.entry_tuple_lt (PySem.F.args_tuple_lt_2 _ _) (HT.rJ p q n K dd e J f a z c r t1 E F G)
  ⟨i,b,⟨nofun,.bl _,H,I,U,k⟩⟩ l
inductive iC(x y:V)(H:Hp)(Q:VK):Prop
 |mk:∀l k xs,x=.ref l->y=.int k->H l=some (.lst xs)->-(2^63)<=k->k<2^63->xs.length*k.toNat<=sizeLine->WU (.lst (List.replicate k.toNat xs).flatten) H Q->iC x y H Q
def Hj{X:Cx}:uz X (binaryOp .Mult) iC:=fG.mono λx y H Q ⟨l,k,xs,a,b,c,d,e,hz,q⟩=>⟨l,k,xs,a,b,c,d,e,hz,λp f=>WU.put q f⟩
def QF{N P:qe}{sc:Scope}(h:(sc.kind=.function/\sc.isCoroutine=false/\sc.isGenerator=false)/\N.Nodup/\N.take P.length=P/\(∀x∈P,sc.names.lookup x=some .local\/sc.names.lookup x=some .cell)/\∀y∈sc.names,y.2≠.free:=by decide +kernel):Qn N P sc:=⟨h.1.1,h.1.2.1,h.1.2.2,h.2.1,h.2.2.1,h.2.2.2.1,h.2.2.2.2⟩
abbrev Tab:=Option qb×qb×qb×Stmt×Option (qg)
def tF(x:qb)(s:Stmt):Tab:=(none,x,x,s,none)
def tM(c x q:qb)(s:Stmt):Tab:=(some c,x,q,s,none)
def tD(c:Option qb)(x q:qb)(s:Stmt)(d:qg):Tab:=(c,x,q,s,some d)
section
variable {K:Frag}{x qual:qb}{st:Stmt}{f:qc}{fd:FuncData}{ps:qe}
def zX.lL(F:zX K x qual st f fd)(h:∀(a kV doc pm:qd)(an:Option qc)(b ct:qd),bindArgs (fnOf x qual (Y3 st) (YE st) (Qg st) .none kV doc pm an b ct) ⟨[a],[]⟩=pure (ps.zip [a]):=by intros;rfl)(n:ps.length=1:=by rfl):Qs K fd ps []:=F.binds λkV doc pm an b ct us c=>by
 rw[n] at c;revert us;refine gQ ?_;intros;exact h _  kV doc pm an b ct
def zX.uy(F:zX K x qual st f fd)(h:∀(a b kV doc pm:qd)(an:Option qc)(c ct:qd),bindArgs (fnOf x qual (Y3 st) (YE st) (Qg st) .none kV doc pm an c ct) ⟨[a,b],[]⟩=pure (ps.zip [a,b]):=by intros;rfl)(n:ps.length=2:=by rfl):Qs K fd ps []:=F.binds λkV doc pm an c ct us d=>by
 rw[n] at d;revert us;refine Pe ?_;intros;exact h _ _  kV doc pm an c ct
def zX.bd3(F:zX K x qual st f fd)(h:∀(a b c kV doc pm:qd)(an:Option qc)(d ct:qd),bindArgs (fnOf x qual (Y3 st) (YE st) (Qg st) .none kV doc pm an d ct) ⟨[a,b,c],[]⟩=pure (ps.zip [a,b,c]):=by intros;rfl)(n:ps.length=3:=by rfl):Qs K fd ps []:=F.binds λkV doc pm an d ct us e=>by
 rw[n] at e;revert us;refine Pd ?_;intros;exact h _ _ _  kV doc pm an d ct
def zX.bd4(F:zX K x qual st f fd)(h:∀(a b c d kV doc pm:qd)(an:Option qc)(e ct:qd),bindArgs (fnOf x qual (Y3 st) (YE st) (Qg st) .none kV doc pm an e ct) ⟨[a,b,c,d],[]⟩=pure (ps.zip [a,b,c,d]):=by intros;rfl)(n:ps.length=4:=by rfl):Qs K fd ps []:=F.binds λkV doc pm an e ct us g=>by
 rw[n] at g;revert us;refine bh ?_;intros;exact h _ _ _ _  kV doc pm an e ct
def zX.bd5(F:zX K x qual st f fd)(h:∀(a b c d e kV doc pm:qd)(an:Option qc)(g ct:qd),bindArgs (fnOf x qual (Y3 st) (YE st) (Qg st) .none kV doc pm an g ct) ⟨[a,b,c,d,e],[]⟩=pure (ps.zip [a,b,c,d,e]):=by intros;rfl)(n:ps.length=5:=by rfl):Qs K fd ps []:=F.binds λkV doc pm an g ct us i=>by
 rw[n] at i;revert us;refine dU ?_;intros;exact h _ _ _ _ _  kV doc pm an g ct
end
def BQ{a:qc}{w:Obj}{c:qa (Key×V)}{α:Type}{xs:qa α}{fr:qa (Nat×qb)}{tt:TT}{y:TE}{σ:St}{H1:Hp}{Q:VK}(g:α->V)(pr:α->Bool)(f:α->V)(hz:xs.length<=sizeLine)(hS:H1 a=some (.jG w (.dK c)))(z:c.map (λo=>kV o.1)=xs.map g)
 (p:∀(x:α)(d:Hp)(Q':Bool->Hp->Prop),x∈xs->Qj H1 d->(∀j,Qj d j->Q' (pr x) j)->tt (some (g x)::oS σ fr) d Q')
 (q:∀(x:α)(d:Hp)(Q':VK),x∈xs->Qj H1 d->pr x=true->(∀j,Qj d j->Q' (f x) j)->y (some (g x)::oS σ fr) d Q')
 (B:∀D h,H1 D=none->Qj H1 h->h D=some (.lst ((xs.filter pr).map f))->Q (.ref D) h) :
 Yr (Itd a w c) fr tt y σ H1 Q:=by
 have C:c.length=xs.length:=by have:=zV List.length z;simpa using this
 unfold Yr;intro D r;refine⟨λi m ys h=>m=xs.length-i/\i<=xs.length/\ys=((xs.take i).filter pr).map f/\Qj H1 h/\h D=some (.lst ys),⟨xs.length,by simp,q0 _,by simp,Qj.zi r,Qc⟩,?_⟩;rintro i m ys h ⟨rfl,E,rfl,s2,k⟩;refine⟨k,?_⟩;have l:=s2 _ _ hS;by_cases b:i<xs.length
 .have s:(xs.map g)[i]?=some (g xs[i]):=by rw[qQ,qA b];rfl
  refine .inr ⟨⟨l,by omega⟩,?_⟩;rintro v d ⟨rfl,o,t,rfl⟩;have n:(xs.map g)[i]?=some (kV o.1):=by rw[<-z,qQ,t];rfl
  rw[s] at n;have n:=qN n;rw[<-n];have hm:xs[i]∈xs:=jj b;have A:xs.take (i+1)=xs.take i++[xs[i]]:=by rw[zo,qA b];rfl
  refine p xs[i] _ _ hm s2 λj s4=>?_
  cases u:pr xs[i] with
  |false=>
   refine QU ⟨xs.length-(i+1),by omega,U,b,?_,s2.trans s4,s4 _ _ k⟩;rw[A,q9,qM,u];simp
  |true=>
   refine Ya (q xs[i] _ _ hm (s2.trans s4) u λF s5=>⟨s5 _ _ (s4 _ _ k),?_,xs.length-(i+1),by omega,U,b,?_,((s2.trans s4).trans s5).z6 r,Qc⟩)
   .have:=qW pr (xs.take i);rw[zb] at this;rw[qh];omega
   .rw[A,q9,qM,u];simp
 .have e:i=xs.length:=by omega
  subst e;have d:xs.take xs.length=xs:=zh (qB _);rw[d] at k;exact .inl ⟨⟨l,by omega⟩,B D h r s2 k⟩
def RC{x:qb}{fr:qa (Nat×qb)}{n:TE}{σ:St}{H1:Hp}{Q:VK}(f:Nat->V)(hz:x.cps.size<=sizeLine)
 (j:∀(c:Nat)(g:Hp)(Q':VK),c∈x.cps.toList->Qj H1 g->(∀k,Qj g k->Q' (f c) k)->n (some (.str ⟨#[c]⟩)::oS σ fr) g Q')
 (o:∀D a,H1 D=none->Qj H1 a->a D=some (.lst (x.cps.toList.map f))->Q (.ref D) a) :
 Yr (Its x) fr Ew n σ H1 Q:=by
 unfold Yr;intro D l;refine⟨λi m ys a=>m=x.cps.size-i/\i<=x.cps.size/\ys=(x.cps.toList.take i).map f/\Qj H1 a/\a D=some (.lst ys),⟨x.cps.size,by simp,q0 _,by simp,Qj.zi l,Qc⟩,?_⟩;rintro i m ys a ⟨rfl,p,rfl,s2,h⟩;refine⟨h,?_⟩;by_cases b:i<x.cps.size
 .refine .inr ⟨b,?_⟩;rintro v g ⟨rfl,c,hc,rfl⟩;refine GJ (Ya ?_);have d:x.cps.toList[i]?=some c:=by simpa using hc
  refine j c _ _ (qL d) s2 λk s4=>⟨s4 _ _ h,?_,x.cps.size-(i+1),by omega,U,b,?_,(s2.trans s4).z6 l,Qc⟩
  .rw[qh,zb];simp only[zf];omega
  .rw[zo,d];simp
 .have e:i=x.cps.size:=by omega
  subst e;have d:x.cps.toList.take x.cps.size=x.cps.toList:=zh (by simp);refine .inl ⟨U,?_⟩;rw[d] at h;exact o D a l s2 h
def tf(x:qb):qe:=(wK x.cps.toList).1++[(wK x.cps.toList).2]
def bI:(rS.cps.toList.all λc=>!decide (lo1 c=32))=true:=by decide +kernel
def dz:∀(n:Nat)(l:qa Nat),l.length=n->(∀p∈(wK l).1++[(wK l).2],¬32∈p.cps.toList)/\(Str.join " " ((wK l).1++[(wK l).2])).cps.toList=l.map gS
 |0,l,h=>by
  rw[ya.mp h];refine⟨λp d=>?_,U⟩;have:p=Str.empty:=qk.mp d;rw[this];exact λz=>nomatch z
 |n+1,l,h=>by
  obtain⟨r,c,rfl⟩:∃r c,l=r++[c]:=by
   rcases sV l with e|⟨a,b,e⟩
   .rw[e] at h;cases h
   .exact⟨a,b,by rw[e,sW]⟩
  obtain⟨g,i⟩:=dz n r (by rw[qx] at h;simpa using h);have e:wK (r++[c])=wJ (wK r) c:=by unfold wK;rw[jB];rfl
  rw[e];generalize wK r=st at g i;have f:gS c=if AR c=true then lo1 c else 32:=rfl
  unfold wJ
  cases j:AR c with
  |true=>
   rw[qG rfl];rw[j,qG rfl] at f;have k:lo1 c≠32:=by
    have:=jd.mp bI c (ql j);exact yG (by simpa using this)
   refine⟨λp d=>?_,?_⟩
   .rcases qr.mp d with q|q
    .exact g p (qy _ q)
    .rw[qk.mp q];show ¬32∈(st.2++(⟨#[lo1 c]⟩:qb)).cps.toList;rw[Yk];intro z;rcases qr.mp z with z|z
     .exact g st.2 (qv _ (qk.mpr rfl)) z
     .exact k (by simpa using z:32=lo1 c).symm
   .show(Str.join " " (st.1++[st.2++(⟨#[lo1 c]⟩:qb)])).cps.toList=_;rw[qI,<-i];by_cases h0:st.1=[]
    .rw[h0];show(st.2++(⟨#[lo1 c]⟩:qb)).cps.toList=st.2.cps.toList++[gS c];rw[Yk,f]
    .rw[K2 h0 (by simp),K2 h0 (by simp),Yk,Yk,Yk,Yk];show _++(st.2++(⟨#[lo1 c]⟩:qb)).cps.toList=(_++st.2.cps.toList)++[gS c];rw[Yk,f];simp
  |false=>
   rw[qC qH];rw[j,qC qH] at f;refine⟨λp d=>?_,?_⟩
   .rcases qr.mp d with q|q
    .exact g p q
    .rw[qk.mp q];exact λz=>nomatch z
   .show(Str.join " " ((st.1++[st.2])++[Str.empty])).cps.toList=_;rw[K2 (by simp) (by simp),Yk,Yk,qI,<-i];show(_++[32])++[]=_++[gS c];rw[f,zr]
def S1{x y:qb}(h:y.cps.toList=x.cps.toList.map gS):Txt.split y " "=tf x:=by
 obtain⟨a,b⟩:=dz _ x.cps.toList rfl;exact RG (by unfold tf;simp) a (GK (b.trans h.symm))
def fC(t b:qb):tf ((t++" ")++b)=tf t++tf b:=by
 unfold tf wK;rw[Yk,Yk,jB,jB];generalize t.cps.toList.foldl wJ ([],Str.empty)=st;have e:(" ":qb).cps.toList.foldl wJ st=(st.1++[st.2],Str.empty):=by
  show wJ st 32=_;unfold wJ;rw[qC (by decide +kernel)]
 rw[e];have:=Nr b.cps.toList (st.1++[st.2]) ([],Str.empty);rw[zr] at this;rw[this,jk]
def fD{t b w:qb}(hw:w≠Str.empty):w∈tf ((t++" ")++b)↔w∈v8 t++v8 b:=by
 have e:∀x:qb,w∈v8 x↔w∈tf x:=λx=>by
  unfold v8 tf;rw[qo];refine⟨λh=>h.1,λh=>⟨h,?_⟩⟩;unfold B9;simpa using hw
 rw[fC,qr,qr,e t,e b]
end L2
variable {i:Nat}{r:qc}{ks:qe}
namespace K52
open PySem L2
abbrev ZZ:qb:="self"
abbrev ZJ:qb:="name"
abbrev Za:qb:="_law_state"
abbrev Zb:qb:="Folders"
abbrev Zc:qb:="_law_letters"
abbrev Zd:qb:="mark"
abbrev Ze:qb:="folder"
abbrev Zf:qb:="__init__"
abbrev Zg:qb:="Threads"
abbrev Zh:qb:="place"
abbrev Zi:qb:="Board"
abbrev Zj:qb:="_law_best"
abbrev Zk:qb:="Registers"
abbrev Zl:qb:="names"
abbrev Zm:qb:="Letter"
abbrev Zn:qb:="_law_s"
abbrev Zo:qb:="take_out"
abbrev Zp:qb:="inbox"
abbrev Zq:qb:="answers"
abbrev Zr:qb:="words"
abbrev Zs:qb:="letters"
abbrev Zt:qb:="drop"
abbrev Zu:qb:="facts"
abbrev Zv:qb:="boxes"
abbrev Zw:qb:="Index"
abbrev Zx:qb:="put"
abbrev Zy:qb:="_law_board"
abbrev Zz:qb:="entries"
abbrev ZA:qb:="thing"
abbrev ZC:qb:="_law_names_told"
abbrev ZD:qb:="_law_name"
abbrev ZE:qb:="_law_script"
abbrev ZF:qb:="_law_word_here"
abbrev ZG:qb:="abcdefghijklmnopqrstuvwxyzABCDEFGHIJKLMNOPQRSTUVWXYZ0123456789"
abbrev ZH:qb:="word"
abbrev ZI:qb:="_law_stamped"
abbrev ZK:qb:="_law_shuffled"
abbrev ZL:qb:="clocks"
abbrev ZM:qb:="marks"
abbrev ZN:qb:="hands"
abbrev ZO:qb:="bearers"
abbrev ZP:qb:="_law_word_by"
abbrev ZQ:qb:="_law_threads"
abbrev ZR:qb:="_law_folders"
abbrev ZS:qb:="replies"
abbrev ZT:qb:="links"
abbrev ZV:qb:="is_answered"
abbrev ZW:qb:="check_parts"
abbrev ZX:qb:="check_there"
abbrev ZY:qb:="_law_put_by"
abbrev Z0:qb:="_law_folder"
abbrev Z1:qb:="_law_having"
abbrev Z2:qb:="_law_looked"
abbrev Z3:qb:="_law_rows"
abbrev Z4:qb:="sender"
abbrev Z5:qb:="_law_signs"
abbrev Z6:qb:="_law_found"
abbrev Z7:qb:="letter"
abbrev Z8:qb:="_law_begin"
abbrev Z9:qb:="_law_hands"
abbrev JZ:qb:="_law_named"
abbrev JJ:qb:="_law_world"
abbrev Ja:qb:="_law_plain"
abbrev Jb:qb:="_law_marks"
abbrev Jc:qb:="_law_words"
abbrev Jd:qb:="_law_cards"
abbrev Je:qb:="Card"
abbrev Jf:qb:="puts"
abbrev Jg:qb:="__setattr__"
abbrev Jh:qb:="tags"
abbrev Ji:qb:="numbers"
abbrev Jj:qb:="_law_many"
abbrev Jk:qb:="_law_k"
abbrev Jl:qb:="all_among"
abbrev Jm:qb:="letter_of"
abbrev Jn:qb:="check_new"
abbrev Jo:qb:="_law_next"
abbrev Jp:qb:="_law_word"
abbrev Jq:qb:="_law_text"
abbrev Jr:qb:="_law_hang"
abbrev Js:qb:="title"
abbrev Jt:qb:="hung"
abbrev Ju:qb:="words_of"
abbrev Jv:qb:="is_whole"
abbrev Jw:qb:="stamp_of"
abbrev Jx:qb:="listed"
abbrev Jy:qb:="signs"
abbrev Jz:qb:="_law_hand"
abbrev JA:qb:="abcdefghijklmnopqrstuvwxyz0123456789"
abbrev JB:qb:="add"
abbrev JC:qb:="body"
abbrev JD:qb:="stamped"
abbrev JE:qb:="is_word"
abbrev JF:qb:="is_text"
abbrev JG:qb:="inside"
abbrev JH:qb:="_law_text_here"
abbrev JI:qb:="key_of"
abbrev JK:qb:="drawers"
abbrev JM:qb:="day"
abbrev JN:qb:="_law_one"
abbrev JO:qb:="_law_other"
abbrev JP:qb:="seen"
abbrev JQ:qb:="marks_told"
abbrev JR:qb:="there"
abbrev JS:qb:="letter_at"
abbrev JT:qb:="deed"
abbrev JV:qb:="bring_in"
abbrev JW:qb:="text"
abbrev JX:qb:="counts"
abbrev JY:qb:="key"
abbrev J0:qb:="default"
abbrev J1:qb:="put_out"
abbrev J2:qb:="folders"
abbrev J3:qb:="keys_of"
abbrev ZZZ:qb:="threads"
abbrev ZZJ:qb:="_law_most"
abbrev ZZa:qb:="boxed"
abbrev ZZb:qb:="_law_row"
abbrev ZZc:qb:="_law_due"
abbrev ZZd:qb:="put_in"
abbrev ZZe:qb:="unmark"
abbrev ZZf:qb:="marked"
abbrev ZZg:qb:="having"
abbrev ZZh:qb:="beside"
abbrev ZZi:qb:="thread"
abbrev ZZj:qb:="change"
abbrev ZZk:qb:="law"
abbrev ZZl:qb:="twin"
abbrev ZZm:qb:="WORD_SIGNS"
abbrev ZZn:qb:="MOST_TITLE"
abbrev ZZo:qb:="first"
abbrev ZZp:qb:="parts"
abbrev ZZq:qb:="known"
abbrev ZZr:qb:="RUN_SIGNS"
abbrev ZZs:qb:="MOST_WORD"
abbrev ZZt:qb:="MOST_BODY"
def top(i:Nat):Stmt:=PySem.Challenge.pw_mailroom_k51_boards_looked_at.main.body.getD i (.Pass ⟨0,0,0,0⟩)
abbrev Wu:=top 11
abbrev GU:=top 12
abbrev W5:=top 13
abbrev GV:=top 18
abbrev KG:=top 19
abbrev V5:=top 20
abbrev V7:=top 21
abbrev Xv:=top 23
abbrev KA:=top 25
abbrev V6:=top 27
abbrev Xx:=top 28
abbrev Cg:=top 39
abbrev GS:=top 42
abbrev Ce:=top 43
abbrev GO:=top 44
abbrev GQ:=top 45
abbrev WJ:=top 46
abbrev Xw:=top 48
abbrev Cd:=top 49
abbrev GP:=top 50
abbrev KC:=top 51
abbrev Vw:=top 52
abbrev GN:=top 53
abbrev X2:=top 54
abbrev KD:=top 55
abbrev X4:=top 56
abbrev Cf:=top 57
abbrev Vv:=top 58
abbrev Wq:=top 59
abbrev XZ:=top 60
abbrev W9:=top 61
abbrev GR:=top 62
abbrev VE:=top 63
abbrev W8:=top 64
abbrev bC:=top 65
abbrev Xz:=QH (top 2) 0
abbrev Wa:=QH (top 22) 0
abbrev V9:=QH (top 22) 1
abbrev VH:=QH (top 22) 2
abbrev VI:=QH (top 22) 3
abbrev VG:=QH (top 22) 4
abbrev VM:=QH (top 31) 0
abbrev Wb:=QH (top 31) 1
abbrev Ui:=QH (top 31) 2
abbrev UW:=QH (top 31) 3
abbrev Uw:=QH (top 31) 4
abbrev Vl:=QH (top 31) 5
abbrev VL:=QH (top 31) 6
abbrev UU:=QH (top 31) 7
abbrev UX:=QH (top 31) 8
abbrev Vn:=QH (top 31) 9
abbrev UY:=QH (top 31) 10
abbrev Y8:=QH (top 31) 11
abbrev Vm:=QH (top 31) 12
abbrev Ux:=QH (top 31) 13
abbrev WN:=QH (top 33) 0
abbrev Xy:=QH (top 33) 1
abbrev UT:=QH (top 33) 2
abbrev VJ:=QH (top 33) 3
abbrev US:=QH (top 35) 0
abbrev UR:=QH (top 35) 1
abbrev Vk:=QH (top 35) 2
abbrev Y2:=QH (top 35) 3
abbrev VF:=QH (top 37) 0
abbrev V8:=QH (top 37) 1
abbrev Uh:=QH (top 37) 2
abbrev Vj:=QH (top 37) 3
abbrev UQ:=QH (top 37) 5
abbrev Y7:=QH (top 37) 6
abbrev Uv:=QH (top 37) 7
abbrev WQ:=QH (top 40) 0
abbrev WO:=QH (top 40) 1
abbrev YI:=QH (top 40) 2
abbrev YL:=QH (top 40) 3
abbrev UZ:=QH (top 40) 4
abbrev VN:=QH (top 40) 5
abbrev Wc:=QH (top 40) 6
abbrev Uy:=QH (top 40) 7
abbrev WR:=QH (top 40) 8
abbrev BG:qe:=[JW,Jy]
def FN:Qn BG [JW,Jy] (Qg Wu):=QF
abbrev P1:qe:=[ZA]
def My:Qn P1 [ZA] (Qg GU):=QF
abbrev Dh:qe:=[JW,Jy]
def BB:Qn Dh [JW] (Qg W5):=QF
abbrev P2:qe:=[ZA,"most"]
def Mz:Qn P2 [ZA,"most"] (Qg GV):=QF
abbrev MV:qe:=[ZA]
def IE:Qn MV [ZA] (Qg KG):=QF
abbrev Ea:qe:=[ZA]
def CU:Qn Ea [ZA] (Qg V5):=QF
abbrev Ec:qe:=[Z4,Js,JC,JM,Zq]
def CW:Qn Ec [Z4,Js,JC,JM,Zq] (Qg V7):=QF
abbrev Lg:qe:=[ZA]
def FJ:Qn Lg [ZA] (Qg Xv):=QF
abbrev MS:qe:=[JD]
def IB:Qn MS [JD] (Qg KA):=QF
abbrev Eb:qe:=[ZJ,JR]
def CV:Qn Eb [ZJ,JR] (Qg V6):=QF
abbrev Lj:qe:=[ZJ,JR]
def FL:Qn Lj [ZJ,JR] (Qg Xx):=QF
abbrev TV:qe:=[JT]
def Pk:Qn TV [JT] (Qg Cg):=QF
abbrev P0:qe:=[ZE]
def Mx:Qn P0 [ZE] (Qg GS):=QF
abbrev TR:qe:=[Za,"_law_cell"]
def AK:Qn TR [Za] (Qg Ce):=QF
abbrev Li:qe:=[Za,Z5,ZZJ,"_law_size"]
def AJ:Qn Li [Za,Z5,ZZJ] (Qg GO):=QF
abbrev PY:qe:=[Za,Jj,Zc,"_law_base","_law_at","_law_first",Z6,Jk]
def U2:Qn PY [Za,Jj] (Qg GQ):=QF
abbrev Hm:qe:=[Za,ZZb,Z6,JN]
def WX:Qn Hm [Za,ZZb] (Qg WJ):=QF
abbrev Lh:qe:=[Za,Zn]
def FK:Qn Lh [Za,Zn] (Qg Xw):=QF
abbrev TQ:qe:=[Za,Zn,Z6,Jk,ZF,"_law_gap"]
def Wn:Qn TQ [Za,Zn] (Qg Cd):=QF
abbrev PX:qe:=[Za,Zn,Jz]
def Mv:Qn PX [Za,Zn,Jz] (Qg GP):=QF
abbrev MT:qe:=[Za,Zn,Jk,Jz,ZD,JO,"_law_answers"]
def VR:Qn MT [Za,Zn,Jk] (Qg KC):=QF
abbrev BE:qe:=[Za,Zn,Jk,"_law_kind",Jz,"_law_deed"]
def YZ:Qn BE [Za,Zn,Jk] (Qg Vw):=QF
abbrev PV:qe:=[Za,Jj,"_law_hands_here",Z5,"_law_words_here",Zn]
def Ws:Qn PV [Za,Jj] (Qg GN):=QF
abbrev E3:qe:=[Z3,"_law_gone",Zc,Zj,"_law_clock",Jz,"_law_number","_law_deed","_law_key"]
def Y0:Qn E3 [Z3] (Qg X2):=QF
abbrev MU:qe:=[Zj,ZD]
def ID:Qn MU [Zj,ZD] (Qg KD):=QF
abbrev E4:qe:=[Zj,ZD]
def Mw:Qn E4 [Zj,ZD] (Qg X4):=QF
abbrev TU:qe:=[Zc,JN,JO,"_law_first","_law_second"]
def AL:Qn TU [Zc,JN,JO] (Qg Cf):=QF
abbrev Kl:qe:=[Zc,"_law_left",Z6,"_law_thread_of","_law_at","_law_more"]
def YA:Qn Kl [Zc] (Qg Vv):=QF
abbrev BF:qe:=[Zc,Zj,Z6,ZD,"_law_folder_of","_law_both"]
def Vf:Qn BF [Zc,Zj] (Qg Wq):=QF
abbrev E2:qe:=[JH,Z5]
def CT:Qn E2 [JH] (Qg XZ):=QF
abbrev Dl:qe:=[Zc,ZF]
def IC:Qn Dl [Zc,ZF] (Qg W9):=QF
abbrev PZ:qe:=[Zy,Zc,Zj,ZD,Z6]
def Gq:Qn PZ [Zy,Zc,Zj] (Qg GR):=QF
abbrev Dj:qe:=[Zy,ZZc,Z6]
def XJ:Qn Dj [Zy,ZZc] (Qg VE):=QF
abbrev Dk:qe:=[Za,Zn,Zy,Z3,Zc,Zj,ZF,"_law_way","_law_inside"]
def U7:Qn Dk [Za,Zn,Zy,Z3] (Qg W8):=QF
abbrev ie:qe:=[ZE,Za,Zn,"_law_boards",Z3,"_law_waiting","_law_cell",JN,Jk,"_law_j"]
def WW:Qn ie [ZE] (Qg bC):=QF
abbrev Ll:qe:=[ZZ,Z7,Ze,ZM]
def FQ:Qn Ll [ZZ,Z7,Ze,ZM] (Qg Xz):=QF
abbrev Eg:qe:=[ZZ,Z4,Js,JC,JM,Zq]
def CZ:Qn Eg [ZZ,Z4,Js,JC,JM,Zq] (Qg Wa):=QF
abbrev Ef:qe:=[ZZ,ZZl]
def Ka:Qn Ef [ZZ] (Qg V9):=QF
abbrev Dp:qe:=[ZZ]
def BY:Qn Dp [ZZ] (Qg VH):=QF
abbrev Dq:qe:=[ZZ,"found",ZH]
def UP:Qn Dq [ZZ] (Qg VI):=QF
abbrev Dn:qe:=[ZZ]
def BW:Qn Dn [ZZ] (Qg VG):=QF
abbrev Dt:qe:=[ZZ]
def B2:Qn Dt [ZZ] (Qg VM):=QF
abbrev Eh:qe:=[ZZ,ZJ,Ze,ZM,ZH]
def Kb:Qn Eh [ZZ,ZJ,Ze,ZM] (Qg Wb):=QF
abbrev Gx:qe:=[ZZ,ZJ]
def K5:Qn Gx [ZZ,ZJ] (Qg Ui):=QF
abbrev Bh:qe:=[ZZ,ZJ,Ze]
def G0:Qn Bh [ZZ,ZJ,Ze] (Qg UW):=QF
abbrev Ai:qe:=[ZZ,ZJ,Ze]
def Wt:Qn Ai [ZZ,ZJ] (Qg Uw):=QF
abbrev B5:qe:=[ZZ,ZJ,Ze]
def AN:Qn B5 [ZZ,ZJ,Ze] (Qg Vl):=QF
abbrev Ds:qe:=[ZZ,ZJ,ZH]
def B0:Qn Ds [ZZ,ZJ,ZH] (Qg VL):=QF
abbrev Bg:qe:=[ZZ,ZJ,ZH]
def GZ:Qn Bg [ZZ,ZJ,ZH] (Qg UU):=QF
abbrev Bi:qe:=[ZZ,ZJ]
def Ab:Qn Bi [ZZ,ZJ] (Qg UX):=QF
abbrev B7:qe:=[ZZ,ZJ]
def AQ:Qn B7 [ZZ,ZJ] (Qg Vn):=QF
abbrev Bj:qe:=[ZZ,Ze,"whole"]
def WK:Qn Bj [ZZ,Ze] (Qg UY):=QF
abbrev Xj:qe:=[ZZ,Ze,ZH]
def Aa:Qn Xj [ZZ,Ze,ZH] (Qg Y8):=QF
abbrev B6:qe:=[ZZ,Ze]
def AO:Qn B6 [ZZ,Ze] (Qg Vm):=QF
abbrev Aj:qe:=[ZZ,"told",Ze,JX]
def Y1:Qn Aj [ZZ] (Qg Ux):=QF
abbrev Hn:qe:=[ZZ]
def D4:Qn Hn [ZZ] (Qg WN):=QF
abbrev Lk:qe:=[ZZ,ZJ,Zr,ZH]
def GY:Qn Lk [ZZ,ZJ,Zr] (Qg Xy):=QF
abbrev Bf:qe:=[ZZ,ZJ,Zr,ZH]
def Vi:Qn Bf [ZZ,ZJ] (Qg UT):=QF
abbrev Dr:qe:=[ZZ,ZH]
def BZ:Qn Dr [ZZ,ZH] (Qg VJ):=QF
abbrev Be:qe:=[ZZ]
def GX:Qn Be [ZZ] (Qg US):=QF
abbrev Bc:qe:=[ZZ,JY,"stamp","value",ZZo,"drawer"]
def Vh:Qn Bc [ZZ,JY,"stamp","value"] (Qg UR):=QF
abbrev B4:qe:=[ZZ,JY,J0,"drawer"]
def Xb:Qn B4 [ZZ,JY,J0] (Qg Vk):=QF
abbrev K8:qe:=[ZZ,ZZo]
def X8:Qn K8 [ZZ,ZZo] (Qg Y2):=QF
abbrev Dm:qe:=[ZZ]
def BV:Qn Dm [ZZ] (Qg VF):=QF
abbrev Ee:qe:=[ZZ,ZJ,Zq]
def CY:Qn Ee [ZZ,ZJ,Zq] (Qg V8):=QF
abbrev Gw:qe:=[ZZ,ZJ,Zq]
def V3:Qn Gw [ZZ,ZJ] (Qg Uh):=QF
abbrev B3:qe:=[ZZ]
def AM:Qn B3 [ZZ] (Qg Vj):=QF
abbrev Bb:qe:=[ZZ,ZJ,"near",Zq]
def Vg:Qn Bb [ZZ,ZJ] (Qg UQ):=QF
abbrev Xi:qe:=[ZZ,ZJ,"reached","waiting","here","near"]
def YK:Qn Xi [ZZ,ZJ] (Qg Y7):=QF
abbrev Ah:qe:=[ZZ,"told","met",ZJ,"whole","near"]
def Ys:Qn Ah [ZZ] (Qg Uv):=QF
abbrev Hq:qe:=[ZZ]
def D5:Qn Hq [ZZ] (Qg WQ):=QF
abbrev Ho:qe:=[ZZ,JD,JT]
def Ge:Qn Ho [ZZ,JD] (Qg WO):=QF
abbrev Xk:qe:=[ZZ,ZJ,Z7]
def WM:Qn Xk [ZZ,ZJ] (Qg YI):=QF
abbrev Ww:qe:=[ZZ,ZJ]
def K6:Qn Ww [ZZ,ZJ] (Qg YL):=QF
abbrev Bk:qe:=[ZZ,ZJ]
def Ac:Qn Bk [ZZ,ZJ] (Qg UZ):=QF
abbrev Du:qe:=[ZZ,JT,ZJ]
def XM:Qn Du [ZZ,JT] (Qg VN):=QF
abbrev Ei:qe:=[ZZ]
def C0:Qn Ei [ZZ] (Qg Wc):=QF
abbrev Ak:qe:=[ZZ,ZJ]
def Gr:Qn Ak [ZZ,ZJ] (Qg Uy):=QF
abbrev Hr:qe:=[ZZ,ZJ]
def D6:Qn Hr [ZZ,ZJ] (Qg WR):=QF
set_option genInjectivity false in
structure yD where
 (wj iZ uk i0 uw vc ve wb um vd wh mM iY mK mI iW vK wc mJ iU uo vr iR iT uv iV mL we wg iS uu iX kc ur QcH wm vh vg ko ku kh kC vi yB y9 yN xx kA y7 xc xC xg xb xA yO vL wk yZ ky yY yX xw yf ke vf yA xu yV yU yL vN vM yj yC xh kH vj yP vO vG jg ze jY j5 jb zM:qc)
structure Txt(P:Program)(w:World)(K:Frag)(mg:qb->Option qd)(base:Heap)(a:yD):Prop where
 Qas:mg Jl=some (.ref a.wj)
 sP:mg JE=some (.ref a.iZ)
 pE:mg Ju=some (.ref a.uk)
 sQ:mg JF=some (.ref a.i0)
 Qa9:mg Jv=some (.ref a.uw)
 rO:mg ZV=some (.ref a.vc)
 rP:mg ZW=some (.ref a.ve)
 Qan:mg Jm=some (.ref a.wb)
 Qa5:mg Jw=some (.ref a.um)
 jl:mg ZX=some (.ref a.vd)
 uV:mg Jn=some (.ref a.wh)
 QcD:mg JI=some (.ref a.mM)
 QbT:mg Z8=some (.ref a.iY)
 ja:mg Jo=some (.ref a.mK)
 pF:mg Jp=some (.ref a.mI)
 QbR:mg Z9=some (.ref a.iW)
 tr:mg ZK=some (.ref a.vK)
 vq:mg ZP=some (.ref a.wc)
 Qap:mg Jq=some (.ref a.mJ)
 wR:mg JZ=some (.ref a.iU)
 Qa6:mg ZY=some (.ref a.uo)
 Qaq:mg ZI=some (.ref a.vr)
 QbO:mg JJ=some (.ref a.iR)
 QbQ:mg Ja=some (.ref a.iT)
 lS:mg Z0=some (.ref a.uv)
 sO:mg Jb=some (.ref a.iV)
 QcC:mg Jr=some (.ref a.mL)
 Qao:mg ZQ=some (.ref a.we)
 Qar:mg ZR=some (.ref a.wg)
 QbP:mg Jc=some (.ref a.iS)
 Qa8:mg Z1=some (.ref a.uu)
 QbS:mg Jd=some (.ref a.iX)
 pG:mg ZC=some (.ref a.kc)
 Qa7:mg Z2=some (.ref a.ur)
 tw:∃u,mg ZZm=some u/\QO (.str JA) u
 Qaw:∃u,mg ZZr=some u/\QO (.str ZG) u
 Qax:∃u,mg ZZs=some u/\QO (.int 20) u
 tE:∃u,mg ZZn=some u/\QO (.int 60) u
 Qay:∃u,mg ZZt=some u/\QO (.int 400) u
 Qbb:∃u,mg "LAST_DAY"=some u/\QO (.int 9999) u
 QdW:∃u,mg "SEEN"=some u/\QO (.str JP) u
 vt:mg "len"=none
 tI:mg "range"=none
 j4:mg "isinstance"=none
 sR:mg "str"=none
 QaF:mg "int"=none
 Qd6:mg "bool"=none
 Qbf:mg "list"=none
 Qdc:mg "tuple"=none
 Qdq:mg "set"=none
 b_all:mg "all"=none
 jR:mg "sorted"=none
 Qc4:mg Je=some (.ref a.vG)
 uW:Cls K a.vG
 QdV:Mk K a.vG a.wm
 lK:Yi K a.vG Z7
 lR:Yi K a.vG "box"
 ui:Yi K a.vG Jy
 sN:mg Zm=some (.ref a.jg)
 zK:Cls K a.jg
 Qau:Mk K a.jg a.vh
 lN:YU K a.jg ZZl a.vg
 uZ:YU K a.jg ZZp a.ko
 pY:YU K a.jg ZZq a.ku
 pX:YU K a.jg Zr a.kh
 vB:Yi K a.jg Z4
 xV:Yi K a.jg Js
 vb:Yi K a.jg JC
 uh:Yi K a.jg JM
 yT:Yi K a.jg Zq
 jK:Yi K a.jg "found"
 Qa4:mg Zb=some (.ref a.ze)
 q8:Cls K a.ze
 QbW:Mk K a.ze a.kC
 rX:YU K a.ze JB a.vi
 lZ:YU K a.ze Zo a.yB
 wW:YU K a.ze ZZd a.y9
 wo:YU K a.ze J1 a.yN
 oZ:YU K a.ze Zh a.xx
 p9:YU K a.ze Zd a.kA
 n7:YU K a.ze ZZe a.y7
 wX:YU K a.ze Ze a.xc
 uJ:YU K a.ze ZM a.xC
 n9:YU K a.ze JX a.xg
 n8:YU K a.ze ZZf a.xb
 pe:YU K a.ze Zl a.xA
 mU:YU K a.ze J2 a.yO
 z7:Yi K a.ze Zv
 jL:Yi K a.ze Jh
 zL:Yi K a.ze JG
 QcB:mg Zw=some (.ref a.jY)
 j0:Cls K a.jY
 Qc7:Mk K a.jY a.vL
 QaJ:YU K a.jY JB a.wk
 n3:YU K a.jY Zo a.yZ
 pZ:YU K a.jY ZZg a.ky
 j3:Yi K a.jY Zz
 jn:Yi K a.jY ZO
 tq:mg Zk=some (.ref a.j5)
 jC:Cls K a.j5
 Qat:Mk K a.j5 a.yY
 nZ:YU K a.j5 "keep" a.yX
 xF:YU K a.j5 "get" a.xw
 lA:YU K a.j5 J3 a.yf
 jA:Yi K a.j5 JK
 Qa3:mg Zg=some (.ref a.jb)
 zW:Cls K a.jb
 QbV:Mk K a.jb a.ke
 rW:YU K a.jb JB a.vf
 lY:YU K a.jb Zo a.yA
 uI:YU K a.jb Zl a.xu
 nY:YU K a.jb ZZh a.yV
 nX:YU K a.jb ZZi a.yU
 mS:YU K a.jb ZZZ a.yL
 jm:Yi K a.jb ZT
 jy:Yi K a.jb ZS
 Qam:mg Zi=some (.ref a.zM)
 zp:Cls K a.zM
 QbE:Mk K a.zM a.vN
 tO:YU K a.zM "show" a.vM
 oe:YU K a.zM JV a.yj
 md:YU K a.zM JQ a.yC
 wY:YU K a.zM Zo a.xh
 rb:YU K a.zM ZZj a.kH
 lO:YU K a.zM Zl a.vj
 mV:YU K a.zM JS a.yP
 tP:YU K a.zM "card" a.vO
 j8:Yi K a.zM Zu
 z8:Yi K a.zM Zs
 xY:Yi K a.zM Jt
 xW:Yi K a.zM Jx
 ji:Yi K a.zM ZZa
abbrev Txt.fq{P:Program}{w:World}{K:Frag}{mg:qb->Option qd}{base:Heap}{a:yD}(_:Txt P w K mg base a):=AB P w K mg base
structure Yz(K:Frag)(a:yD):Prop where
 QaR:∃fd,zX K Jl Jl Wu a.wj fd/\Qs K fd [JW,Jy] []
 xJ:∃fd,zX K JE JE GU a.iZ fd/\Qs K fd [ZA] []
 vZ:∃fd,zX K Ju Ju W5 a.uk fd/\Qs K fd [JW] []
 wZ:∃fd,zX K JF JF GV a.i0 fd/\Qs K fd [ZA,"most"] []
 uE:∃fd,zX K Jv Jv KG a.uw fd/\Qs K fd [ZA] []
 vl:∃fd,zX K ZV ZV V5 a.vc fd/\Qs K fd [ZA] []
 vm:∃fd,zX K ZW ZW V7 a.ve fd/\Qs K fd [Z4,Js,JC,JM,Zq] []
 wu:∃fd,zX K Jm Jm Xv a.wb fd/\Qs K fd [ZA] []
 uA:∃fd,zX K Jw Jw KA a.um fd/\Qs K fd [JD] []
 qP:∃fd,zX K ZX ZX V6 a.vd fd/\Qs K fd [ZJ,JR] []
 jD:∃fd,zX K Jn Jn Xx a.wh fd/\Qs K fd [ZJ,JR] []
 nt:∃fd,zX K JI JI Cg a.mM fd/\Qs K fd [JT] []
 lu:∃fd,zX K Z8 Z8 GS a.iY fd/\Qs K fd [ZE] []
 zc:∃fd,zX K Jo Jo Ce a.mK fd/\Qs K fd [Za] []
 kL:∃fd,zX K Jp Jp GO a.mI fd/\Qs K fd [Za,Z5,ZZJ] []
 lh:∃fd,zX K Z9 Z9 GQ a.iW fd/\Qs K fd [Za,Jj] []
 vP:∃fd,zX K ZK ZK WJ a.vK fd/\Qs K fd [Za,ZZb] []
 z5:∃fd,zX K ZP ZP Xw a.wc fd/\Qs K fd [Za,Zn] []
 u3:∃fd,zX K Jq Jq Cd a.mJ fd/\Qs K fd [Za,Zn] []
 yk:∃fd,zX K JZ JZ GP a.iU fd/\Qs K fd [Za,Zn,Jz] []
 uB:∃fd,zX K ZY ZY KC a.uo fd/\Qs K fd [Za,Zn,Jk] []
 wz:∃fd,zX K ZI ZI Vw a.vr fd/\Qs K fd [Za,Zn,Jk] []
 la:∃fd,zX K JJ JJ GN a.iR fd/\Qs K fd [Za,Jj] []
 lg:∃fd,zX K Ja Ja X2 a.iT fd/\Qs K fd [Z3] []
 jM:∃fd,zX K Z0 Z0 KD a.uv fd/\Qs K fd [Zj,ZD] []
 xI:∃fd,zX K Jb Jb X4 a.iV fd/\Qs K fd [Zj,ZD] []
 nr:∃fd,zX K Jr Jr Cf a.mL fd/\Qs K fd [Zc,JN,JO] []
 wx:∃fd,zX K ZQ ZQ Vv a.we fd/\Qs K fd [Zc] []
 wC:∃fd,zX K ZR ZR Wq a.wg fd/\Qs K fd [Zc,Zj] []
 lb:∃fd,zX K Jc Jc XZ a.iS fd/\Qs K fd [JH] []
 uD:∃fd,zX K Z1 Z1 W9 a.uu fd/\Qs K fd [Zc,ZF] []
 lj:∃fd,zX K Jd Jd GR a.iX fd/\Qs K fd [Zy,Zc,Zj] []
 kM:∃fd,zX K ZC ZC VE a.kc fd/\Qs K fd [Zy,ZZc] []
 uC:∃fd,zX K Z2 Z2 W8 a.ur fd/\Qs K fd [Za,Zn,Zy,Z3] []
 F_law:∃fd,zX K ZZk ZZk bC a.QcH fd/\Qs K fd [ZE] []
 u7:∃fd,AA K Zf "Card.__init__" Xz a.wm fd/\Qs K fd [ZZ,Z7,Ze,ZM] []/\(∃ds,QK [.str Zp,.non] ds/\Qs K fd [ZZ,Z7,Ze,ZM] ds)/\(∃ds,QK [.non] ds/\Qs K fd [ZZ,Z7,Ze,ZM] ds)
 lQ:∃fd,AA K Zf "Letter.__init__" Wa a.vh fd/\Qs K fd [ZZ,Z4,Js,JC,JM,Zq] []/\(∃ds,QK [.str ""] ds/\Qs K fd [ZZ,Z4,Js,JC,JM,Zq] ds)
 yI:∃fd,zX K ZZl "Letter.twin" V9 a.vg fd/\Qs K fd [ZZ] []
 ry:∃fd,zX K ZZp "Letter.parts" VH a.ko fd/\Qs K fd [ZZ] []
 rz:∃fd,zX K ZZq "Letter.known" VI a.ku fd/\Qs K fd [ZZ] []
 rv:∃fd,zX K Zr "Letter.words" VG a.kh fd/\Qs K fd [ZZ] []
 rC:∃fd,zX K Zf "Folders.__init__" VM a.kC fd/\Qs K fd [ZZ] []
 sk:∃fd,AA K JB "Folders.add" Wb a.vi fd/\Qs K fd [ZZ,ZJ,Ze,ZM] []/\(∃ds,QK [.str Zp,.non] ds/\Qs K fd [ZZ,ZJ,Ze,ZM] ds)/\(∃ds,QK [.non] ds/\Qs K fd [ZZ,ZJ,Ze,ZM] ds)
 mn:∃fd,zX K Zo "Folders.take_out" Ui a.yB fd/\Qs K fd [ZZ,ZJ] []
 ua:∃fd,zX K ZZd "Folders.put_in" UW a.y9 fd/\Qs K fd [ZZ,ZJ,Ze] []
 wD:∃fd,zX K J1 "Folders.put_out" Uw a.yN fd/\Qs K fd [ZZ,ZJ] []
 pk:∃fd,zX K Zh "Folders.place" Vl a.xx fd/\Qs K fd [ZZ,ZJ,Ze] []
 rB:∃fd,zX K Zd "Folders.mark" VL a.kA fd/\Qs K fd [ZZ,ZJ,ZH] []
 oJ:∃fd,zX K ZZe "Folders.unmark" UU a.y7 fd/\Qs K fd [ZZ,ZJ,ZH] []
 ub:∃fd,zX K Ze "Folders.folder" UX a.xc fd/\Qs K fd [ZZ,ZJ] []
 uM:∃fd,zX K ZM "Folders.marks" Vn a.xC fd/\Qs K fd [ZZ,ZJ] []
 oM:∃fd,zX K JX "Folders.counts" UY a.xg fd/\Qs K fd [ZZ,Ze] []
 oK:∃fd,zX K ZZf "Folders.marked" Y8 a.xb fd/\Qs K fd [ZZ,Ze,ZH] []
 pw:∃fd,zX K Zl "Folders.names" Vm a.xA fd/\Qs K fd [ZZ,Ze] []
 nz:∃fd,zX K J2 "Folders.folders" Ux a.yO fd/\Qs K fd [ZZ] []
 tU:∃fd,zX K Zf "Index.__init__" WN a.vL fd/\Qs K fd [ZZ] []
 QaS:∃fd,zX K JB "Index.add" Xy a.wk fd/\Qs K fd [ZZ,ZJ,Zr] []
 oH:∃fd,zX K Zo "Index.take_out" UT a.yZ fd/\Qs K fd [ZZ,ZJ] []
 rA:∃fd,zX K ZZg "Index.having" VJ a.ky fd/\Qs K fd [ZZ,ZH] []
 oG:∃fd,zX K Zf "Registers.__init__" US a.yY fd/\Qs K fd [ZZ] []
 oE:∃fd,zX K "keep" "Registers.keep" UR a.yX fd/\Qs K fd [ZZ,JY,"stamp","value"] []
 uL:∃fd,AA K "get" "Registers.get" Vk a.xw fd/\Qs K fd [ZZ,JY,J0] []/\(∃ds,QK [.non] ds/\Qs K fd [ZZ,JY,J0] ds)
 lI:∃fd,zX K J3 "Registers.keys_of" Y2 a.yf fd/\Qs K fd [ZZ,ZZo] []
 rq:∃fd,zX K Zf "Threads.__init__" VF a.ke fd/\Qs K fd [ZZ] []
 sj:∃fd,AA K JB "Threads.add" V8 a.vf fd/\Qs K fd [ZZ,ZJ,Zq] []/\(∃ds,QK [.str ""] ds/\Qs K fd [ZZ,ZJ,Zq] ds)
 mj:∃fd,zX K Zo "Threads.take_out" Uh a.yA fd/\Qs K fd [ZZ,ZJ] []
 uK:∃fd,zX K Zl "Threads.names" Vj a.xu fd/\Qs K fd [ZZ] []
 oD:∃fd,zX K ZZh "Threads.beside" UQ a.yV fd/\Qs K fd [ZZ,ZJ] []
 oC:∃fd,zX K ZZi "Threads.thread" Y7 a.yU fd/\Qs K fd [ZZ,ZJ] []
 nv:∃fd,zX K ZZZ "Threads.threads" Uv a.yL fd/\Qs K fd [ZZ] []
 tW:∃fd,zX K Zf "Board.__init__" WQ a.vN fd/\Qs K fd [ZZ] []
 tV:∃fd,zX K "show" "Board.show" WO a.vM fd/\Qs K fd [ZZ,JD] []
 oN:∃fd,zX K JV "Board.bring_in" YI a.yj fd/\Qs K fd [ZZ,ZJ] []
 mq:∃fd,zX K JQ "Board.marks_told" YL a.yC fd/\Qs K fd [ZZ,ZJ] []
 uc:∃fd,zX K Zo "Board.take_out" UZ a.xh fd/\Qs K fd [ZZ,ZJ] []
 rD:∃fd,zX K ZZj "Board.change" VN a.kH fd/\Qs K fd [ZZ,JT] []
 sm:∃fd,zX K Zl "Board.names" Wc a.vj fd/\Qs K fd [ZZ] []
 nA:∃fd,zX K JS "Board.letter_at" Uy a.yP fd/\Qs K fd [ZZ,ZJ] []
 tX:∃fd,zX K "card" "Board.card" WR a.vO fd/\Qs K fd [ZZ,ZJ] []
variable {P:Program}{w:World}{K:Frag}{mg:qb->Option qd}{base:Heap}{a:yD}{fd:FuncData}{i j n n':Nat}{r:Rw}{M W WI k l0 ws xs ys:qe}{v:V}{bf mk mk':qb->qe}{an fo h m s t:qb}{G H H':Hp}{B E L T1 b c db dx sc st u x xf xi xr xt:qc}{bs tg:qa (qb×qc)}{p:LD}{d:Dd}{F:qa qc}{o:HO}{bx bx' rows:Rows}{R:NW}{kr kvs:qa (Key×V)}{σ:St}{z:Int}{D:WD}{es:qa Ent}{e:Ent}{kd:qa (qa Key×V)}{own:qc->Nat}{A:WA}{rs:qa Rw}
inductive Ie(vs:qa V)(H:Hp)(Q:VK)(E:XK):Prop
 |mk:∀(nm:qb)(L:qc)(kvs:qa (Key×V))(v:V),vs=[.str nm,.ref L]->H L=some (.dK kvs)->Qx kvs (Sum.inr nm)=some v->Q .non H->Ie vs H Q E
inductive Se(vs:qa V)(H:Hp)(Q:VK)(E:XK):Prop
 |mk:∀(nm:qb)(L:qc)(kvs:qa (Key×V)),vs=[.str nm,.ref L]->H L=some (.dK kvs)->Qx kvs (Sum.inr nm)=none->Q .non H->Se vs H Q E
def OF :kitOne K (.type "str") (.type "str")=some true:=by unfold kitOne;rw[qG (yu _)]
def Uq(F:zX K ZX ZX V6 a.vd fd)(T:Txt P w K mg base a):T.fq j6 1 a.vd fd [ZJ,JR] Ie:=by
 refine F.ok CV (λb A outer st H vs Q E c h=>?_)
 .obtain⟨nm,L,kvs,v,rfl,d,e,k⟩:=h;have f:=Q5 c;refine⟨_,(Qf (QV (UI (U8 f (pv 0) (pv 1))) (Qf VS) QE)),?_⟩;refine⟨_,U,_,U,L,_,U,Q3.k (k:=Sum.inr nm) d,_,U,?_⟩;rw[e];exact QU k
def MK(F:zX K Jn Jn Xx a.wh fd)(T:Txt P w K mg base a):T.fq j6 1 a.wh fd [ZJ,JR] Se:=by
 refine F.ok FL (λb A outer st H vs Q E c h=>?_)
 .obtain⟨nm,L,kvs,rfl,d,e,k⟩:=h;have f:=Q5 c;refine⟨_,(Qf (QV (PW.pt (XN (U3 (UH (QC YX rfl T.j4 boot_isinstance (zg (pv 0) (zg (WS (v:=.ty "str") rfl T.sR boot_str rfl) Qe))))) (V1 (UI (Kh f (pv 0) (pv 1)))))) (Qf VS) QE)),?_⟩;refine⟨_,U,_,_,_,_,_,U,U,WG.str nm,OF,_,U,QU ?_⟩;refine⟨_,U,_,U,L,_,U,Q3.k (k:=Sum.inr nm) d,_,U,?_⟩;rw[e];exact QU k
section
variable {α:Type}
def dG(f:α->qb)(g:α->V)(xs:qa α):qa (Key×V):=xs.map λr=>(Sum.inr (f r),g r)
def Vq{f:α->qb}{g:α->V}{n:qb}:∀{xs:qa α},¬n∈xs.map f->Qx (dG f g xs) (Sum.inr n)=none
 |[],_=>rfl
 |r::xs,h=>by
  show Qx ((Sum.inr (f r),g r)::dG f g xs) (Sum.inr n)=_;rw[Yv λe=>h (by rw[<-jJ e];exact qz)];exact Vq λz=>h (qF _ z)
def QZ{f:α->qb}{g:α->V}{r:α}:∀{xs:qa α},(xs.map f).Nodup->r∈xs->Qx (dG f g xs) (Sum.inr (f r))=some (g r)
 |[],_,h=>nomatch h
 |y::xs,a,h=>by
  rw[qU,zN] at a;show Qx ((Sum.inr (f y),g y)::dG f g xs) (Sum.inr (f r))=_;rcases qJ.mp h with rfl|h
  .exact Yy rfl
  .rw[Yv λe=>a.1 (by rw[jJ e];exact qj.mpr ⟨r,h,U⟩)];exact QZ a.2 h
def Bx{f:α->qb}{g:α->V}{xs:qa α}{n:qb}(r:α)(h:¬n∈xs.map f)(a:f r=n)(b:g r=v):Yc (dG f g xs) (Sum.inr n) v=dG f g (xs++[r]):=by
 rw[Ke _ (Vq h)];simp[dG,a,b]
def XG(f:α->qb)(g:α->V)(n:qb):∀xs:qa α,Us (dG f g xs) (Sum.inr n)=dG f g (xs.filter λr=>decide (f r≠n))
 |[]=>rfl
 |r::xs=>by
  show Us ((Sum.inr (f r),g r)::dG f g xs) (Sum.inr n)=_;by_cases h:f r=n
  .rw[Bu (by rw[h]),XG f g n xs];simp[qM,h]
  .rw[Bv (λe=>h (jJ e)),XG f g n xs];simp[qM,h,dG]
def GD(f:α->qb)(g:α->V)(xs:qa α):(dG f g xs).length=xs.length:=qh _
def As(f:α->qb)(g:α->V)(xs:qa α):(dG f g xs).map (λa=>kV a.1)=(xs.map f).map V.str:=by
 unfold dG;rw[qT,qT];rfl
end
def Ul(bf:qb->qe)(w:qb)(ys:qe):qb->qe:=λt=>if t=w then ys else bf t
def Ym(bf:qb->qe)(w:qb)(ys:qe):Ul bf w ys w=ys:=qG rfl
def YB{w:qb}(h:t≠w):Ul bf w ys t=bf t:=qC h
abbrev vJ(bs:qa (qb×qc)):qa (Key×V):=dG (·.1) (λb=>V.ref b.2) bs
structure BD(H:Hp)(E B:qc)(bs:qa (qb×qc))(bf:qb->qe)(W:qe):Prop where
 nd:(bs.map (·.1)).Nodup
 nda:(bs.map (·.2)).Nodup
 at_:∀p∈bs,H p.2=some (.dK (Qp (bf p.1)))/\p.2≠E/\p.2≠B/\bf p.1≠[]/\p.1∈W
 nC:∀t,¬t∈bs.map (·.1)->bf t=[]
def BD.len(h:BD H E B bs bf W):bs.length<=W.length:=by
 have:=YM h.nd λm hm=>by
  obtain⟨p,a,rfl⟩:=qj.mp hm;exact(h.at_ p a).2.2.2.2
 rw[qh] at this;exact this
def BD.congr{a:qb->qe}(h:BD H E B bs bf W)(k:∀p∈bs,∀o,H p.2=some o->H' p.2=some o)(e:∀t,a t=bf t):BD H' E B bs a W:=
 ⟨h.nd,h.nda,λp b=>by rw[e];exact⟨k p b _ (h.at_ p b).1,(h.at_ p b).2⟩,λt c=>by rw[e];exact h.nC t c⟩
def Wx{α β:Type}{f:α->β}{xs:qa α}(g:(xs.map f).Nodup){a b:α}(h:a∈xs)(i:b∈xs)(e:f a=f b):a=b:=by
 induction xs with
 |nil=>cases h
 |cons x xs j=>
  rw[qU,zN] at g;rcases qJ.mp h with d|d
  .rcases qJ.mp i with c|c
   .rw[d,c]
   .exact absurd (qj.mpr ⟨b,c,by rw[<-e,d]⟩) g.1
  .rcases qJ.mp i with c|c
   .exact absurd (qj.mpr ⟨a,d,by rw[e,c]⟩) g.1
   .exact j g.2 d c
def YO{α:Type}{xs:qa α}{a:α}(h:xs.Nodup)(n:¬a∈xs):(xs++[a]).Nodup:=by
 rw[jf];exact⟨h,v7 _ _,λx b y c e=>n (by rw[qk.mp c] at e;rw[<-e];exact b)⟩
def BD.new{p:qc}{w:qb}(h:BD H E B bs bf W)(hw:¬w∈bs.map (·.1))(b:¬p∈bs.map (·.2))(c:p≠E)(d:p≠B)(f:w∈W)(g:ys≠[])
 (k:∀q∈bs,∀o,H q.2=some o->H' q.2=some o) (e:H' p=some (.dK (Qp ys))):BD H' E B (bs++[(w,p)]) (Ul bf w ys) W:=by
 refine⟨by rw[qI];exact YO h.nd hw,by rw[qI];exact YO h.nda b,λq i=>?_,λt a=>?_⟩
 .rcases qr.mp i with z|z
  .rw[YB (λe=>hw (by rw[<-e];exact qj.mpr ⟨q,z,U⟩))];exact⟨k q z _ (h.at_ q z).1,(h.at_ q z).2⟩
  .rw[qk.mp z];show H' p=some (.dK (Qp (Ul bf w ys w)))/\p≠E/\p≠B/\Ul bf w ys w≠[]/\w∈W;rw[Ym];exact⟨e,c,d,g,f⟩
 .rw[qI] at a;rw[YB (λe=>a (qv _ (by rw[e];exact qz)))];exact h.nC t λz=>a (qy _ z)
def BD.set{d:qc}{w:qb}(h:BD H E B bs bf W)(hw:(w,d)∈bs)(c:ys≠[])
 (k:∀q∈bs,q.2≠d->∀o,H q.2=some o->H' q.2=some o) (e:H' d=some (.dK (Qp ys))):BD H' E B bs (Ul bf w ys) W:=by
 refine⟨h.nd,h.nda,λq a=>?_,λt b=>?_⟩
 .by_cases z:q.1=w
  .have eq:q=(w,d):=Wx h.nd a hw z;rw[eq];show H' d=some (.dK (Qp (Ul bf w ys w)))/\d≠E/\d≠B/\Ul bf w ys w≠[]/\w∈W;rw[Ym];have:=h.at_ _ hw;exact⟨e,this.2.1,this.2.2.1,c,this.2.2.2.2⟩
  .rw[YB z];refine⟨k q a (λu=>z ?_) _ (h.at_ q a).1,(h.at_ q a).2⟩;have:q=(w,d):=Wx h.nda a hw u;rw[this]
 .rw[YB (λe=>b (by rw[e];exact qj.mpr ⟨_,hw,U⟩))];exact h.nC t b
def BD.del{d:qc}{w:qb}(h:BD H E B bs bf W)(hw:(w,d)∈bs)
 (k:∀q∈bs,q.2≠d->∀o,H q.2=some o->H' q.2=some o):BD H' E B (bs.filter λr=>decide (r.1≠w)) (Ul bf w []) W:=by
 refine⟨h.nd.sublist (zH.map _),h.nda.sublist (zH.map _),λq b=>?_,λt c=>?_⟩
 .obtain⟨a,f⟩:=qo.mp b;have z:q.1≠w:=ql f;rw[YB z];refine⟨k q a (λu=>z ?_) _ (h.at_ q a).1,(h.at_ q a).2⟩;have:q=(w,d):=Wx h.nda a hw u;rw[this]
 .by_cases e:t=w
  .rw[e,Ym]
  .rw[YB e];refine h.nC t λz=>c ?_;obtain⟨q,b,rfl⟩:=qj.mp z;exact qj.mpr ⟨q,qo.mpr ⟨b,qt e⟩,U⟩
def Y5{w:qb}(h:w∈bs.map (·.1)):∃d,(w,d)∈bs:=by
 obtain⟨p,a,rfl⟩:=qj.mp h;exact⟨p.2,a⟩
def my(F:qa qc)(H H':Hp):Prop:=∀c o,¬c∈F->H c=some o->H' c=some o
def my.upd{H1:Hp}(k:my F H H1)(h:b∈F\/H b=none):my F H (upd H1 b o):=λc u hc e=>by
 have:c≠b:=λz=>h.elim (λq=>hc (by rw[z];exact q)) λq=>by rw[z,q] at e;cases e
 rw[Qa this];exact k c u hc e
def Nb{a:HO}(e:H b=some o)(h:(upd H b a) c=none):H c=none:=by
 by_cases z:c=b
 .rw[z,Qc] at h;cases h
 .rw[Qa z] at h;exact h
structure FI(H:Hp)(X1 N1:qc)(bx:Rows)(bs:qa (qb×qc))(W:qe):Prop where
 tG:H X1=some (.dK (QQ bx))
 br:H N1=some (.dK (vJ bs))
 ne:X1≠N1
 nd:(bx.map (·.1)).Nodup
 few:bx.length<=40
 wf:W.length<=20
 bd:BD H X1 N1 bs (QP bx) W
def iQ(a b:qc)(bs:qa (qb×qc)):qa qc:=a::b::bs.map (·.2)
def QL{a b:qc} :c∈iQ a b bs↔c=a\/c=b\/c∈bs.map (·.2):=by unfold iQ;rw[qJ,qJ]
structure FT(H:Hp)(T1:qc)(tg:qa (qb×qc))(mk:qb->qe)(M:qe):Prop where
 t_:H T1=some (.dK (vJ tg))
 nd:(tg.map (·.1)).Nodup
 nda:(tg.map (·.2)).Nodup
 at_:∀p∈tg,H p.2=some (.dK (Qp (mk p.1)))/\p.2≠T1/\(mk p.1).Nodup/\∀y∈mk p.1,y∈M
 few:tg.length<=40
 mf:M.length<=20
def rE(T1:qc)(tg:qa (qb×qc)):qa qc:=T1::tg.map (·.2)
def Yg  :c∈rE T1 tg↔c=T1\/c∈tg.map (·.2):=by unfold rE;rw[qJ]
abbrev XO(a T1 b:qc):qa (qb×V):=[(Zv,.ref a),(Jh,.ref T1),(JG,.ref b)]
def UN(a T1 b:qc):(XO a T1 b).lookup Zv=some (V.ref a):=by simp[List.lookup]
def Wz(a T1 b:qc):(XO a T1 b).lookup Jh=some (V.ref T1):=by
 have e:(Jh==Zv)=false:=by decide +kernel
 simp[List.lookup,e]
def Ua(b T1 a:qc):(XO b T1 a).lookup JG=some (V.ref a):=by
 have e:(JG==Zv)=false:=by decide +kernel
 have c:(JG==Jh)=false:=by decide +kernel
 simp[List.lookup,e,c]
def FI.keep{a b:qc}(h:FI H a b bx bs W)(k:∀c o,c∈iQ a b bs->H c=some o->H' c=some o):FI H' a b bx bs W:=
 ⟨k _ _ (QL.mpr (.inl rfl)) h.tG,k _ _ (QL.mpr (.inr (.inl rfl))) h.br,h.ne,h.nd,h.few,h.wf,h.bd.congr (λp d o e=>k _ _ (QL.mpr (.inr (.inr (qj.mpr ⟨p,d,U⟩)))) e) λ_=>rfl⟩
def FT.keep(h:FT H T1 tg mk M)(k:∀c o,c∈rE T1 tg->H c=some o->H' c=some o):FT H' T1 tg mk M:=
 ⟨k _ _ (Yg.mpr (.inl rfl)) h.t_,h.nd,h.nda,λp a=>⟨k _ _ (Yg.mpr (.inr (qj.mpr ⟨p,a,U⟩))) (h.at_ p a).1,(h.at_ p a).2⟩,h.few,h.mf⟩
def FI.kind{a b:qc}(h:FI H a b bx bs W)(hc:c∈iQ a b bs):∃kvs,H c=some (.dK kvs):=by
 rcases QL.mp hc with z|z|z
 .rw[z];exact⟨_,h.tG⟩
 .rw[z];exact⟨_,h.br⟩
 .obtain⟨p,d,rfl⟩:=qj.mp z;exact⟨_,(h.bd.at_ p d).1⟩
def FT.kind(h:FT H T1 tg mk M)(hc:c∈rE T1 tg):∃kvs,H c=some (.dK kvs):=by
 rcases Yg.mp hc with z|z
 .rw[z];exact⟨_,h.t_⟩
 .obtain⟨p,a,rfl⟩:=qj.mp z;exact⟨_,(h.at_ p a).1⟩
inductive NL(a:yD)(vs:qa V)(H:Hp)(Q:VK)(E:XK):Prop
 |mk:∀(x dx X1 T1 N1:qc)(bx:Rows)(bs:qa (qb×qc))(W:qe)(nm fo:qb),vs=[.ref x,.str nm,.str fo]->H x=some (.ins a.ze dx (XO X1 T1 N1))->FI H X1 N1 bx bs W->up bx nm=none->bx.length<40->fo∈W->(∀H' bs',FI H' X1 N1 (bx++[(nm,fo)]) bs' W->my (iQ X1 N1 bs) H H'->(∀q∈bs',q∈bs\/H q.2=none)->Q .non H')->NL a vs H Q E
inductive Ii(a:yD)(vs:qa V)(H:Hp)(Q:VK)(E:XK):Prop
 |mk:∀(x dx X1 T1 N1:qc)(bx:Rows)(bs:qa (qb×qc))(W:qe)(nm fo:qb),vs=[.ref x,.str nm]->H x=some (.ins a.ze dx (XO X1 T1 N1))->FI H X1 N1 bx bs W->up bx nm=some fo->(∀H' bs',FI H' X1 N1 (without bx nm) bs' W->my (iQ X1 N1 bs) H H'->(∀q∈bs',q∈bs)->(∀c,H' c=none->H c=none)->Q .non H')->Ii a vs H Q E
def I3(F:zX K ZZd "Folders.put_in" UW a.y9 fd)(T:Txt P w K mg base a):T.fq j6 1 a.y9 fd [ZZ,ZJ,Ze] (NL a):=by
 refine F.ok G0 (λcdv A outer st H vs Q E hr h=>?_)
 .obtain⟨x,dx,b,T1,g,bx,bs,W,nm,fo,rfl,obj,m,C,h40,N,k⟩:=h;have D:=Q5 hr;have hwf:=m.wf;have hbl:=m.bd.len;refine⟨_,(Qd (Yp D (Qm (pv 0) U) (pv 1) (pv 2) U)
   (Qd (QV (UI (U8 D (pv 2) (Qm (pv 0) U))) (Qf (Yp D (Qm (pv 0) U) (pv 2) Q8 rfl)) QE)
   (Qf (Yp D (QA D (Qm (pv 0) U) (pv 2)) (pv 1) YW rfl)))),?_⟩
  refine⟨_,U,_,U,x,_,dx,_,_,U,obj,T.q8,T.z7,UN b T1 g,_,U,b,_,U,UJ.k (k:=Sum.inr nm) m.tG (by rw[QQ,qh];exact QD (by omega)),?_⟩;rw[IQ C];have O:b∈iQ b g bs:=QL.mpr (.inl rfl);have R:g∈iQ b g bs:=QL.mpr (.inr (.inl rfl));have xX:x≠b:=Q2 obj m.tG λz=>nomatch z;have f:(upd H b (.dK (QQ (bx++[(nm,fo)])))) x=some (.ins a.ze dx (XO b T1 g)):=by rw[Qa xX];exact obj
  have u:(upd H b (.dK (QQ (bx++[(nm,fo)])))) b=some (.dK (QQ (bx++[(nm,fo)]))):=Qc;have l:(upd H b (.dK (QQ (bx++[(nm,fo)])))) g=some (.dK (vJ bs)):=by rw[Qa m.ne.symm];exact m.br
  have i:BD (upd H b (.dK (QQ (bx++[(nm,fo)])))) b g bs (QP bx) W:=m.bd.congr (λq s o e=>by rw[Qa (m.bd.at_ q s).2.1];exact e) λ_=>rfl;have v:my (iQ b g bs) H (upd H b (.dK (QQ (bx++[(nm,fo)])))):=my.upd (λc o _ e=>e) (.inl O);show YY _ _ _ _ (upd H b (.dK (QQ (bx++[(nm,fo)]))));generalize upd H b (.dK (QQ (bx++[(nm,fo)])))=S at f u l i v;have G:((bx++[(nm,fo)]).map (·.1)).Nodup:=N8 m.nd C;have B:(bx++[(nm,fo)]).length<=40:=by rw[qx,qO];omega
  have I:∀t,QP (bx++[(nm,fo)]) t=Ul (QP bx) fo (QP bx fo++[nm]) t:=λt=>by
   rw[AS];by_cases e:t=fo
   .subst e;rw[qG rfl,Ym]
   .rw[qC λz=>e z.symm,zr,YB e]
  refine⟨_,U,_,U,x,_,dx,_,_,U,f,T.q8,T.zL,Ua b T1 g,g,_,U,Q3.k (k:=Sum.inr fo) l,_,U,?_⟩;by_cases n:fo∈bs.map (·.1)
  .obtain⟨d,hd⟩:=Y5 n;have y:Qx (vJ bs) (Sum.inr fo)=some (V.ref d):=QZ (r:=((fo,d):qb×qc)) i.nd hd;obtain⟨J,L,M,_,_⟩:=i.at_ _ hd;have J:S d=some (.dK (Qp (QP bx fo))):=J;have X:=Kc bx fo;rw[y];have j:¬nm∈QP bx fo:=λz=>VD.mp C (Xc z);refine QU ⟨_,U,x,_,dx,_,_,U,f,T.q8,T.zL,Ua b T1 g,_,U,g,_,U,(by rw[<-y];exact Q3.k (k:=Sum.inr fo) l),_,U,d,_,U,UJ.k (k:=Sum.inr nm) J (by rw[Qp,qh];exact QD (by omega)),?_⟩;rw[Kd j];exact k _ bs ⟨by rw[Qa L.symm];exact u,by rw[Qa M.symm];exact l,m.ne,G,B,m.wf,(i.set hd (by simp) (λq _ ne o e=>by rw[Qa ne];exact e) Qc).congr (λ_ _ _ e=>e) I⟩ (v.upd (.inl (QL.mpr (.inr (.inr (qj.mpr ⟨_,hd,U⟩)))))) λq s=>.inl s
  .have y:Qx (vJ bs) (Sum.inr fo)=none:=Vq n;rw[y];refine Ya ?_;intro d j;have xd:x≠d:=Qb f j;have M:b≠d:=Qb u j;have J:g≠d:=Qb l j;have xB:x≠g:=Q2 f l λz=>nomatch z;have X:H d=none:=by
    cases e:H d with
    |none=>rfl
    |some o=>
     by_cases L:d∈iQ b g bs
     .rcases QL.mp L with z|z|z
      .exact absurd z.symm M
      .exact absurd z.symm J
      .obtain⟨q,s,eq⟩:=qj.mp z;have:=(i.at_ q s).1;rw[eq,j] at this;cases this
     .have:=v d o L e;rw[j] at this;cases this
   refine⟨_,U,x,_,dx,_,_,U,(by rw[Qa xd];exact f),T.q8,T.zL,Ua b T1 g,_,U,g,_,U,UJ.k (k:=Sum.inr fo) (by rw[Qa J];exact l) (by rw[GD];exact QD (by omega)),?_⟩;rw[Bx ((fo,d):qb×qc) n rfl rfl];have L:((bs++[((fo,d):qb×qc)]).map (·.1)).Nodup:=by rw[qI];exact YO i.nd n
   have Y:Qx (vJ (bs++[((fo,d):qb×qc)])) (Sum.inr fo)=some (V.ref d):=QZ (r:=((fo,d):qb×qc)) L (qv _ qz);have Z:(upd (upd S d (.dK [])) g (.dK (vJ (bs++[((fo,d):qb×qc)])))) g=some (.dK (vJ (bs++[((fo,d):qb×qc)]))):=Qc;have d5:(upd (upd S d (.dK [])) g (.dK (vJ (bs++[((fo,d):qb×qc)])))) d=some (.dK []):=by rw[Qa J.symm];exact Qc
   refine⟨_,U,x,_,dx,_,_,U,(by rw[Qa xB,Qa xd];exact f),T.q8,T.zL,Ua b T1 g,_,U,g,_,U,(by rw[<-Y];exact Q3.k (k:=Sum.inr fo) Z),_,U,d,_,U,UJ.k (k:=Sum.inr nm) d5 (by decide),?_⟩;have ek:Yc ([]:qa (Key×V)) (Sum.inr nm) (.bl true)=Qp [nm]:=rfl;rw[ek];have e0:QP bx fo=[]:=i.nC fo n;refine k _ (bs++[((fo,d):qb×qc)]) ⟨by rw[Qa M,Qa m.ne,Qa M];exact u,by rw[Qa J];exact Qc,m.ne,G,B,m.wf,?_⟩ (((v.upd (.inr X)).upd (.inl R)).upd (.inr X)) λq s=>?_
   .refine(i.new (p:=d) (ys:=QP bx fo++[nm]) n (λz=>?_) M.symm J.symm N (by simp) (λq s o e=>?_) ?_).congr (λ_ _ _ e=>e) I
    .obtain⟨q,s,eq⟩:=qj.mp z;have:=(i.at_ q s).1;rw[eq,j] at this;cases this
    .rw[Qa (Qb e j),Qa (i.at_ q s).2.2.1,Qa (Qb e j)];exact e
    .rw[e0,Qc];rfl
   .rcases qr.mp s with z|z
    .exact .inl z
    .rw[qk.mp z];exact .inr X
def EU(F:zX K J1 "Folders.put_out" Uw a.yN fd)(T:Txt P w K mg base a):T.fq j6 1 a.yN fd [ZZ,ZJ] (Ii a):=by
 refine F.ok Wt (λcdv A outer st H vs Q E hr h=>?_)
 .obtain⟨x,dx,b,T1,f,bx,bs,W,nm,fo,rfl,obj,g,X,k⟩:=h;have hu:=Q5 hr;refine⟨_,(Qd (Qr (i:=2) Wt.nd (UL (Qm (pv 0) U) (pv 1) ⟨U,U,U,U⟩))
   (Qd (Qy (UL (QA hu (Qm (pv 0) U) (pv 2)) (pv 1) ⟨U,U,U,U⟩))
   (Qf (QV (U3 (C3 (QA hu (Qm (pv 0) U) (pv 2)) (λ_=>rfl))) (Qf (Qy (UL (Qm (pv 0) U) (pv 2) ⟨U,U,U,U⟩))) QE)))),?_⟩
  refine⟨_,U,x,_,dx,_,_,U,obj,T.q8,T.z7,UN b T1 f,b,U,.inl ⟨_,.inl g.tG⟩,_,U,_,Sum.inr nm,.str fo,g.tG,U,(by rw[Yx,X];rfl),?_⟩;rw[K0];have Y:b∈iQ b f bs:=QL.mpr (.inl rfl);have Z:f∈iQ b f bs:=QL.mpr (.inr (.inl rfl));have xX:x≠b:=Q2 obj g.tG λz=>nomatch z;have n:(upd H b (.dK (QQ (without bx nm)))) x=some (.ins a.ze dx (XO b T1 f)):=by rw[Qa xX];exact obj
  have M:(upd H b (.dK (QQ (without bx nm)))) b=some (.dK (QQ (without bx nm))):=Qc;have v:(upd H b (.dK (QQ (without bx nm)))) f=some (.dK (vJ bs)):=by rw[Qa g.ne.symm];exact g.br
  have j:BD (upd H b (.dK (QQ (without bx nm)))) b f bs (QP bx) W:=g.bd.congr (λq u o e=>by rw[Qa (g.bd.at_ q u).2.1];exact e) λ_=>rfl;have N:my (iQ b f bs) H (upd H b (.dK (QQ (without bx nm)))):=my.upd (λc o _ e=>e) (.inl Y);show YY _ _ _ _ (upd H b (.dK (QQ (without bx nm))));have O:∀c,(upd H b (.dK (QQ (without bx nm)))) c=none->H c=none:=λc e=>Nb g.tG e;generalize upd H b (.dK (QQ (without bx nm)))=s at n M v j N O;have y:nm∈QP bx fo:=Hy X;have hyb:fo∈bs.map (·.1):=vH λz=>by
   have:=j.nC fo z;rw[this] at y;cases y
  obtain⟨d,hd⟩:=Y5 hyb;have B:Qx (vJ bs) (Sum.inr fo)=some (V.ref d):=QZ (r:=((fo,d):qb×qc)) j.nd hd;obtain⟨L,dE,dB,_,_⟩:=j.at_ _ hd;have L:s d=some (.dK (Qp (QP bx fo))):=L;have xd:x≠d:=Q2 n L λz=>nomatch z;have hdF:d∈iQ b f bs:=QL.mpr (.inr (.inr (qj.mpr ⟨_,hd,U⟩)));have wl:(without bx nm).length<=bx.length:=qW _ _;have hfew:=g.few;have R:∀t,QP (without bx nm) t=Ul (QP bx) fo ((QP bx fo).filter λm=>decide (m≠nm)) t:=λt=>by
   rw[Wd];by_cases e:t=fo
   .subst e;rw[Ym]
   .rw[YB e];exact Gz (Le g.nd X e)
  refine⟨_,U,x,_,dx,_,_,U,n,T.q8,T.zL,Ua b T1 f,_,U,f,_,U,(by rw[<-B];exact Q3.k (k:=Sum.inr fo) v),d,U,.inl ⟨_,.inl L⟩,_,U,_,Sum.inr nm,.bl true,L,U,(by rw[Vc,qG y]),?_⟩;rw[Wo];have p:(upd s d (.dK (Qp ((QP bx fo).filter λm=>decide (m≠nm))))) x=some (.ins a.ze dx (XO b T1 f)):=by rw[Qa xd];exact n
  have C:(upd s d (.dK (Qp ((QP bx fo).filter λm=>decide (m≠nm))))) b=some (.dK (QQ (without bx nm))):=by rw[Qa dE.symm];exact M
  have l:(upd s d (.dK (Qp ((QP bx fo).filter λm=>decide (m≠nm))))) f=some (.dK (vJ bs)):=by rw[Qa dB.symm];exact v
  have S:(upd s d (.dK (Qp ((QP bx fo).filter λm=>decide (m≠nm))))) d=some (.dK (Qp ((QP bx fo).filter λm=>decide (m≠nm)))):=Qc;have D:my (iQ b f bs) H (upd s d (.dK (Qp ((QP bx fo).filter λm=>decide (m≠nm))))):=N.upd (.inl hdF);have G:∀q∈bs,q.2≠d->∀o,s q.2=some o->(upd s d (.dK (Qp ((QP bx fo).filter λm=>decide (m≠nm))))) q.2=some o:=λq _ ne o e=>by rw[Qa ne];exact e
  show YY _ _ _ _ (upd s d (.dK (Qp ((QP bx fo).filter λm=>decide (m≠nm)))));have I:∀c,(upd s d (.dK (Qp ((QP bx fo).filter λm=>decide (m≠nm))))) c=none->H c=none:=λc e=>O c (Nb L e);generalize upd s d (.dK (Qp ((QP bx fo).filter λm=>decide (m≠nm))))=H5 at p C l S D G I;refine⟨_,U,x,_,dx,_,_,U,p,T.q8,T.zL,Ua b T1 f,_,U,f,.ref d,U,(by rw[<-B];exact Q3.k (k:=Sum.inr fo) l),!(Qp ((QP bx fo).filter λm=>decide (m≠nm))).isEmpty,Or.inr (Or.inr ⟨_,S,U⟩),?_⟩
  cases J:(QP bx fo).filter λm=>decide (m≠nm) with
  |cons z zs=>
   rw[J] at S;refine QU (k H5 bs ⟨C,l,g.ne,Xr g.nd,by omega,g.wf,(j.set hd (ys:=z::zs) (by simp) G S).congr (λ_ _ _ e=>e) λt=>?_⟩ D (λq u=>u) I);rw[R,J]
  |nil=>
   have xB:x≠f:=Q2 p l λz=>nomatch z;refine Ya ⟨_,U,x,_,dx,_,_,U,p,T.q8,T.zL,Ua b T1 f,f,U,.inl ⟨_,.inl l⟩,_,U,_,Sum.inr fo,.ref d,l,U,B,?_⟩;rw[XG];refine k _ (bs.filter λr=>decide (r.1≠fo)) ⟨by rw[Qa g.ne];exact C,Qc,g.ne,Xr g.nd,by omega,g.wf,(j.del hd λq u ne o e=>?_).congr (λ_ _ _ e=>e) λt=>?_⟩ (D.upd (.inl Z)) (λq u=>(qo.mp u).1) λc e=>I c (Nb l e)
   .rw[Qa (j.at_ q u).2.2.1];exact G q u ne o e
   .rw[R,J]
def Dx{α:Type}{f:α->qb}{l:qa α}{n:qb}:m∈(l.filter λr=>decide (f r≠n)).map f↔m∈l.map f/\m≠n:=by
 rw[qj,qj];constructor
 .rintro⟨r,a,rfl⟩;exact⟨⟨r,(qo.mp a).1,U⟩,ql (qo.mp a).2⟩
 .rintro⟨⟨r,a,rfl⟩,b⟩;exact⟨r,qo.mpr ⟨a,qt b⟩,U⟩
def FT.new{p:qc}{nm:qb}(h:FT H T1 tg mk M)(a:¬nm∈tg.map (·.1))(b:¬p∈tg.map (·.2))(c:p≠T1)(few:tg.length<40)(d:ys.Nodup)(f:∀y∈ys,y∈M)
 (k:∀q∈tg,∀o,H q.2=some o->H' q.2=some o) (e:H' p=some (.dK (Qp ys))) (g:H' T1=some (.dK (vJ (tg++[((nm,p):qb×qc)])))):FT H' T1 (tg++[((nm,p):qb×qc)]) (Ul mk nm ys) M:=by
 refine⟨g,by rw[qI];exact YO h.nd a,by rw[qI];exact YO h.nda b,λq i=>?_,by rw[qx,qO];omega,h.mf⟩;rcases qr.mp i with z|z
 .rw[YB (λe=>a (by rw[<-e];exact qj.mpr ⟨q,z,U⟩))];exact⟨k q z _ (h.at_ q z).1,(h.at_ q z).2⟩
 .rw[qk.mp z];show H' p=some (.dK (Qp (Ul mk nm ys nm)))/\p≠T1/\(Ul mk nm ys nm).Nodup/\∀y∈Ul mk nm ys nm,y∈M;rw[Ym];exact⟨e,c,d,f⟩
def FT.set{d:qc}{nm:qb}(h:FT H T1 tg mk M)(hw:(nm,d)∈tg)(b:ys.Nodup)(c:∀y∈ys,y∈M)
 (k:∀q∈tg,q.2≠d->∀o,H q.2=some o->H' q.2=some o) (e:H' d=some (.dK (Qp ys))) (f:H' T1=some (.dK (vJ tg))):FT H' T1 tg (Ul mk nm ys) M:=by
 refine⟨f,h.nd,h.nda,λq a=>?_,h.few,h.mf⟩;by_cases z:q.1=nm
 .have eq:q=(nm,d):=Wx h.nd a hw z;rw[eq];show H' d=some (.dK (Qp (Ul mk nm ys nm)))/\d≠T1/\(Ul mk nm ys nm).Nodup/\∀y∈Ul mk nm ys nm,y∈M;rw[Ym];exact⟨e,(h.at_ _ hw).2.1,b,c⟩
 .rw[YB z];refine⟨k q a (λu=>z ?_) _ (h.at_ q a).1,(h.at_ q a).2⟩;have:q=(nm,d):=Wx h.nda a hw u;rw[this]
def FT.del(h:FT H T1 tg mk M)(nm:qb)(k:∀q∈tg,∀o,H q.2=some o->H' q.2=some o)(b:H' T1=some (.dK (vJ (tg.filter λr=>decide (r.1≠nm))))):FT H' T1 (tg.filter λr=>decide (r.1≠nm)) mk M:=
 ⟨b,h.nd.sublist (zH.map _),h.nda.sublist (zH.map _),λq a=>⟨k q (qo.mp a).1 _ (h.at_ q (qo.mp a).1).1,(h.at_ q (qo.mp a).1).2⟩,zm (qW _ _) h.few,h.mf⟩
def FT.congr(h:FT H T1 tg mk M)(e:∀t,mk' t=mk t):FT H T1 tg mk' M:=⟨h.t_,h.nd,h.nda,λq a=>by rw[e];exact h.at_ q a,h.few,h.mf⟩
def FT.len(h:FT H T1 tg mk M){p:qb×qc}(a:p∈tg):(mk p.1).length<=20:=zm (YM (h.at_ p a).2.2.1 (h.at_ p a).2.2.2) h.mf
def FO(a:yD)(H:Hp)(x:qc)(bx:Rows)(mk:qb->qe)(W M:qe)(n:Nat)(F:qa qc):Prop:=∃dx b T1 d bs tg,H x=some (.ins a.ze dx (XO b T1 d))/\FI H b d bx bs W/\FT H T1 tg mk M/\(∀c∈iQ b d bs,¬c∈rE T1 tg)/\(∀m,m∈tg.map (·.1)↔m∈bx.map (·.1))/\bx.length<=n/\F=iQ b d bs++rE T1 tg
section
variable {a:yD}{H H':Hp}{x:qc}{bx:Rows}{mk:qb->qe}{W M:qe}{n:Nat}{F:qa qc}
def FO.keep(h:FO a H x bx mk W M n F)(k:∀c o,(c=x\/c∈F)->H c=some o->H' c=some o):FO a H' x bx mk W M n F:=by
 obtain⟨dx,b,T1,d,bs,tg,obj,f,g,i,nm,l,rfl⟩:=h;exact⟨dx,b,T1,d,bs,tg,k _ _ (.inl rfl) obj,f.keep λc o hc e=>k c o (.inr (qy _ hc)) e,g.keep λc o hc e=>k c o (.inr (qv _ hc)) e,i,nm,l,U⟩
def FO.same(h:FO a H x bx mk W M n F)(s:Qj H H'):FO a H' x bx mk W M n F:=h.keep λc o _ e=>s c o e
def FO.up(h:FO a H x bx mk W M n F):FO a H x bx mk W M (n+1) F:=by
 obtain⟨dx,b,T1,c,bs,tg,obj,d,f,g,nm,l,e⟩:=h;exact⟨dx,b,T1,c,bs,tg,obj,d,f,g,nm,by omega,e⟩
def FO.kind(h:FO a H x bx mk W M n F)(hc:c∈F):∃kvs,H c=some (.dK kvs):=by
 obtain⟨dx,e,T1,f,bs,tg,obj,b,d,g,nm,l,rfl⟩:=h;rcases qr.mp hc with z|z
 .exact b.kind z
 .exact d.kind z
def FO.obj(h:FO a H x bx mk W M n F):∃dx b T1 c,H x=some (.ins a.ze dx (XO b T1 c)):=let ⟨dx,b,T1,c,_,_,e,_⟩:=h;⟨dx,b,T1,c,e⟩
def FO.Qdm(h:FO a H x bx mk W M n F){nm:qb}(c:nm∈bx.map (·.1)):(mk nm).Nodup/\(∀y∈mk nm,y∈M)/\(mk nm).length<=20:=by
 obtain⟨dx,e,T1,f,bs,tg,obj,g,b,i,nn,l,rfl⟩:=h;obtain⟨d,hd⟩:=Y5 ((nn nm).mpr c);exact⟨(b.at_ _ hd).2.2.1,(b.at_ _ hd).2.2.2,b.len hd⟩
end
inductive NX(a:yD)(vs:qa V)(H:Hp)(Q:VK)(E:XK):Prop
 |mk:∀(x dx:qc)(mk:qb->qe)(W M:qe),vs=[.ref x]->W.length<=20->M.length<=20->H x=some (.ins a.ze dx [])->(∀H' F,(∀c o,c≠x->H c=some o->H' c=some o)->(∀c∈F,H c=none)->FO a H' x [] mk W M 0 F->Q .non H')->NX a vs H Q E
inductive Si(a:yD)(vs:qa V)(H:Hp)(Q:VK)(E:XK):Prop
 |mk:∀(x m:qc)(bx:Rows)(mk:qb->qe)(W M:qe)(n:Nat)(F:qa qc)(nm fo:qb)(ss:qe),vs=[.ref x,.str nm,.str fo,.ref m]->FO a H x bx mk W M n F->n<40->up bx nm=none->fo∈W->H m=some (.lst (ss.map V.str))->(∀y∈ss,y∈M)->(∀H' F',FO a H' x (bx++[(nm,fo)]) (Ul mk nm (dd ss)) W M (n+1) F'->my F H H'->(∀c∈F',c∈F\/H c=none)->Q .non H')->Si a vs H Q E
inductive NU(a:yD)(vs:qa V)(H:Hp)(Q:VK)(E:XK):Prop
 |mk:∀(x:qc)(bx:Rows)(mk:qb->qe)(W M:qe)(n:Nat)(F:qa qc)(nm:qb),vs=[.ref x,.str nm]->FO a H x bx mk W M n F->nm∈bx.map (·.1)->(∀H' F',FO a H' x (without bx nm) mk W M n F'->my F H H'->(∀c∈F',c∈F)->Q .non H')->NU a vs H Q E
inductive Iu(a:yD)(vs:qa V)(H:Hp)(Q:VK)(E:XK):Prop
 |mk:∀(x:qc)(bx:Rows)(mk:qb->qe)(W M:qe)(n:Nat)(F:qa qc)(nm fo:qb),vs=[.ref x,.str nm,.str fo]->FO a H x bx mk W M n F->nm∈bx.map (·.1)->fo∈W->(∀H' F',FO a H' x (without bx nm++[(nm,fo)]) mk W M n F'->my F H H'->(∀c∈F',c∈F\/H c=none)->Q .non H')->Iu a vs H Q E
inductive NV(a:yD)(vs:qa V)(H:Hp)(Q:VK)(E:XK):Prop
 |mk:∀(x:qc)(bx:Rows)(mk:qb->qe)(W M:qe)(n:Nat)(F:qa qc)(nm y:qb),vs=[.ref x,.str nm,.str y]->FO a H x bx mk W M n F->nm∈bx.map (·.1)->y∈M->(∀H',FO a H' x bx (Ul mk nm (YH (mk nm) y)) W M n F->my F H H'->Q .non H')->NV a vs H Q E
inductive EG(a:yD)(vs:qa V)(H:Hp)(Q:VK)(E:XK):Prop
 |mk:∀(x:qc)(bx:Rows)(mk:qb->qe)(W M:qe)(n:Nat)(F:qa qc)(nm y:qb),vs=[.ref x,.str nm,.str y]->FO a H x bx mk W M n F->nm∈bx.map (·.1)->(∀H',FO a H' x bx (Ul mk nm ((mk nm).filter λz=>decide (z≠y))) W M n F->my F H H'->Q .non H')->EG a vs H Q E
inductive EI(a:yD)(vs:qa V)(H:Hp)(Q:VK)(E:XK):Prop
 |mk:∀(x:qc)(bx:Rows)(mk:qb->qe)(W M:qe)(n:Nat)(F:qa qc)(nm fo:qb),vs=[.ref x,.str nm]->FO a H x bx mk W M n F->up bx nm=some fo->Q (.str fo) H->EI a vs H Q E
inductive Iw(a:yD)(vs:qa V)(H:Hp)(Q:VK)(E:XK):Prop
 |mk:∀(x:qc)(bx:Rows)(mk:qb->qe)(W M:qe)(n:Nat)(F:qa qc)(nm:qb),vs=[.ref x,.str nm]->FO a H x bx mk W M n F->nm∈bx.map (·.1)->(∀l H',H l=none->Qj H H'->H' l=some (.lst ((Qz (mk nm)).map V.str))->Q (.ref l) H')->Iw a vs H Q E
inductive Iv(a:yD)(vs:qa V)(H:Hp)(Q:VK)(E:XK):Prop
 |mk:∀(x:qc)(bx:Rows)(mk:qb->qe)(W M:qe)(n:Nat)(F:qa qc)(fo:qb),vs=[.ref x,.str fo]->FO a H x bx mk W M n F->(∀l H',H l=none->Qj H H'->H' l=some (.lst ((Qz (QP bx fo)).map V.str))->Q (.ref l) H')->Iv a vs H Q E
def Tr(F:zX K Zf "Folders.__init__" VM a.kC fd)(T:Txt P w K mg base a):T.fq j6 1 a.kC fd [ZZ] (NX a):=by
 refine F.ok B2 (λS A outer st H vs Q E hr h=>?_)
 .obtain⟨x,dx,mk,W,M,rfl,V,X,O,k⟩:=h;refine⟨_,(Qd (YC (pv 0) Q8 rfl)
   (Qd (YC (pv 0) Q8 rfl)
   (Qf (YC (pv 0) Q8 rfl)))),?_⟩
  intro b p;have u:x≠b:=Qb O p;refine⟨_,U,x,_,dx,_,U,(by rw[Qa u];exact O),T.q8,T.z7,by decide,?_⟩;have g:SX x H (upd (upd H b (.dK [])) x (.ins a.ze dx (QI Zv (.ref b) []))):=λc o ne e=>by rw[Qa ne,Qa (Qb e p)];exact e
  have f:(upd (upd H b (.dK [])) x (.ins a.ze dx (QI Zv (.ref b) []))) x=some (.ins a.ze dx (QI Zv (.ref b) [])):=Qc;have B:(upd (upd H b (.dK [])) x (.ins a.ze dx (QI Zv (.ref b) []))) b=some (.dK []):=by rw[Qa u.symm];exact Qc
  show YY _ _ _ _ (upd (upd H b (.dK [])) x (.ins a.ze dx (QI Zv (.ref b) [])));generalize upd (upd H b (.dK [])) x (.ins a.ze dx (QI Zv (.ref b) []))=H1 at g f B;intro T1 n;have C:x≠T1:=Qb f n;refine⟨_,U,x,_,dx,_,U,(by rw[Qa C];exact f),T.q8,T.jL,(by show 1<1000;decide),?_⟩;have i:SX x H1 (upd (upd H1 T1 (.dK [])) x (.ins a.ze dx (QI Jh (.ref T1) (QI Zv (.ref b) [])))):=λc o ne e=>by rw[Qa ne,Qa (Qb e n)];exact e
  have j:(upd (upd H1 T1 (.dK [])) x (.ins a.ze dx (QI Jh (.ref T1) (QI Zv (.ref b) [])))) x=some (.ins a.ze dx (QI Jh (.ref T1) (QI Zv (.ref b) []))):=Qc;have D:(upd (upd H1 T1 (.dK [])) x (.ins a.ze dx (QI Jh (.ref T1) (QI Zv (.ref b) [])))) T1=some (.dK []):=by rw[Qa C.symm];exact Qc
  show YY _ _ _ _ (upd (upd H1 T1 (.dK [])) x (.ins a.ze dx (QI Jh (.ref T1) (QI Zv (.ref b) []))));generalize upd (upd H1 T1 (.dK [])) x (.ins a.ze dx (QI Jh (.ref T1) (QI Zv (.ref b) [])))=v at i j D;intro d q;have R:x≠d:=Qb j q;refine⟨_,U,x,_,dx,_,U,(by rw[Qa R];exact j),T.q8,T.zL,(by show 2<1000;decide),?_⟩;have l:SX x v (upd (upd v d (.dK [])) x (.ins a.ze dx (QI JG (.ref d) (QI Jh (.ref T1) (QI Zv (.ref b) []))))):=λc o ne e=>by rw[Qa ne,Qa (Qb e q)];exact e
  have G:(upd (upd v d (.dK [])) x (.ins a.ze dx (QI JG (.ref d) (QI Jh (.ref T1) (QI Zv (.ref b) []))))) x=some (.ins a.ze dx (XO b T1 d)):=Qc;have Y:(upd (upd v d (.dK [])) x (.ins a.ze dx (QI JG (.ref d) (QI Jh (.ref T1) (QI Zv (.ref b) []))))) d=some (.dK []):=by rw[Qa R.symm];exact Qc
  have r:=i _ _ u.symm B;have s:=l _ _ u.symm r;have I:=l _ _ C.symm D;have J:b≠T1:=Qb B n;have L:b≠d:=Qb r q;have N:T1≠d:=Qb D q;have Z:=(g.trans i).trans l;refine k _ (iQ b d []++rE T1 []) (λc o ne e=>Z c o ne e) (λc hc=>?_) ⟨dx,b,T1,d,[],[],G,⟨s,Y,L,zB,q0 _,V,⟨zB,zB,nofun,λ_ _=>rfl⟩⟩,⟨I,zB,zB,nofun,q0 _,X⟩,λc p n=>?_,λm=>Iff.rfl,qB _,U⟩
  .rcases qr.mp hc with z|z
   .rcases QL.mp z with z|z|z
    .rw[z];exact p
    .rw[z];exact g.free f (i.free j q)
    .cases z
   .rcases Yg.mp z with z|z
    .rw[z];exact g.free f n
    .cases z
  .rcases Yg.mp n with y|y
   .rcases QL.mp p with t|t|t
    .exact J (t.symm.trans y)
    .exact N (y.symm.trans t)
    .cases t
   .cases y
def Dc(F:zX K Ze "Folders.folder" UX a.xc fd)(T:Txt P w K mg base a)(g:Yz K a):T.fq j6 2 a.xc fd [ZZ,ZJ] (EI a):=by
 obtain⟨i,qP,zu⟩:=g.qP;have zv:=Uq qP T;refine F.ok Ab (λj A outer st H vs Q E c h=>?_)
 .obtain⟨x,bx,mk,W,M,n,F,nm,fo,rfl,⟨dx,b,T1,d,bs,tg,obj,e,p,q,nn,l,rfl⟩,m,k⟩:=h;have o:=Q5 c;have zD:QG 1 _:=c;refine⟨_,(Qd (Qy (Qk zv zD rfl T.jl qP.kp zu .nil Ql (zg (pv 1) (zg (Qm (pv 0) U) Qe))))
   (Qf (Qw (QA o (Qm (pv 0) U) (pv 1))))),?_⟩
  have f:Qx (QQ bx) (Sum.inr nm)=some (V.str fo):=by rw[Yx,m];rfl
  refine⟨_,U,_,U,x,_,dx,_,_,U,obj,T.q8,T.z7,UN b T1 d,nm,b,_,_,U,e.tG,f,?_⟩;exact⟨_,U,x,_,dx,_,_,U,obj,T.q8,T.z7,UN b T1 d,_,U,b,_,U,(by rw[<-f];exact Q3.k (k:=Sum.inr nm) e.tG),k⟩
def EX(F:zX K ZM "Folders.marks" Vn a.xC fd)(T:Txt P w K mg base a)(o:Yz K a):T.fq j6 2 a.xC fd [ZZ,ZJ] (Iw a):=by
 obtain⟨p,qP,zu⟩:=o.qP;have zv:=Uq qP T;refine F.ok AQ (λq A outer st H vs Q E g h=>?_)
 .obtain⟨x,bx,mk,W,M,n,F,nm,rfl,⟨dx,e,T1,i,bs,tg,obj,s,c,v,nn,l,rfl⟩,j,k⟩:=h;have t:=Q5 g;have zD:QG 1 _:=g;refine⟨_,(Qd (Qy (Qk zv zD rfl T.jl qP.kp zu .nil Ql (zg (pv 1) (zg (Qm (pv 0) U) Qe))))
   (Qf (Qw (QC (Yd rfl) rfl T.jR boot_sorted (zg (QA t (Qm (pv 0) U) (pv 1)) Qe))))),?_⟩
  obtain⟨fo,u⟩:=VC j;obtain⟨d,hd⟩:=Y5 ((nn nm).mpr j);have f:Qx (vJ tg) (Sum.inr nm)=some (V.ref d):=QZ (r:=((nm,d):qb×qc)) c.nd hd;have b:=c.len hd;have b:(mk nm).length<=20:=b;refine⟨_,U,_,U,x,_,dx,_,_,U,obj,T.q8,T.z7,UN e T1 i,nm,e,_,_,U,s.tG,(by rw[Yx,u];rfl),?_⟩;refine⟨_,U,x,_,dx,_,_,U,obj,T.q8,T.jL,Wz e T1 i,_,U,T1,_,U,(by rw[<-f];exact Q3.k (k:=Sum.inr nm) c.t_),d,Qp (mk nm),mk nm,U,(c.at_ _ hd).1,?_,by omega,λl m=>k l _ m (Qj.zi m) Qc⟩;unfold Qp;rw[qT];rfl
def PM(F:zX K Zl "Folders.names" Vm a.xA fd)(T:Txt P w K mg base a):T.fq j6 1 a.xA fd [ZZ,Ze] (Iv a):=by
 refine F.ok AO (λj A outer st H vs Q E m h=>?_)
 .obtain⟨x,bx,mk,W,M,n,F,t,rfl,⟨dx,o,T1,g,bs,tg,obj,b,v,y,nn,l,rfl⟩,k⟩:=h;have q:=Q5 m;refine⟨_,(Qf (Qw (QC (Yd rfl) rfl T.jR boot_sorted (zg (Vo q (Qm (pv 0) U) (pv 1) Q8 ⟨U,U,U,U⟩) Qe)))),?_⟩;refine⟨_,U,x,_,dx,_,_,U,obj,T.q8,T.zL,Ua o T1 g,g,U,.inl ⟨_,.inl b.br⟩,_,U,λp s=>?_⟩;have s1:Qj H (upd H p (.dK [])):=Qj.zi s;have i:=b.few;have u:=Kc bx t;refine⟨_,Q3.k (k:=Sum.inr t) (s1 _ _ b.br),?_⟩;by_cases e:t∈bs.map (·.1)
  .obtain⟨d,hd⟩:=Y5 e;have f:Qx (vJ bs) (Sum.inr t)=some (V.ref d):=QZ (r:=((t,d):qb×qc)) b.bd.nd hd;rw[f];refine⟨d,Qp (QP bx t),QP bx t,U,s1 _ _ (b.bd.at_ _ hd).1,?_,by omega,λl c=>k l _ (s1.free c) (s1.z6 (s1.free c)) Qc⟩;unfold Qp;rw[qT];rfl
  .have f:Qx (vJ bs) (Sum.inr t)=none:=Vq e;rw[f];refine⟨p,[],[],U,Qc,U,by decide,λl c=>?_⟩;refine k l _ (s1.free c) (s1.z6 (s1.free c)) ?_;rw[Qc,b.bd.nC t e]
def Tq(F:zX K Zd "Folders.mark" VL a.kA fd)(T:Txt P w K mg base a)(C:Yz K a):T.fq j6 2 a.kA fd [ZZ,ZJ,ZH] (NV a):=by
 obtain⟨D,qP,zu⟩:=C.qP;have zv:=Uq qP T;refine F.ok B0 (λG A outer st H vs Q E m h=>?_)
 .obtain⟨x,bx,mk,W,M,n,F,nm,y,rfl,⟨dx,g,T1,i,bs,tg,obj,p,b,s,nn,l,rfl⟩,t,I,k⟩:=h;have v:=Q5 m;have zD:QG 1 _:=m;refine⟨_,(Qd (Qy (Qk zv zD rfl T.jl qP.kp zu .nil Ql (zg (pv 1) (zg (Qm (pv 0) U) Qe))))
   (Qf (Yp v (QA v (Qm (pv 0) U) (pv 1)) (pv 2) YW rfl))),?_⟩
  obtain⟨fo,J⟩:=VC t;obtain⟨d,hd⟩:=Y5 ((nn nm).mpr t);have j:Qx (vJ tg) (Sum.inr nm)=some (V.ref d):=QZ (r:=((nm,d):qb×qc)) b.nd hd;have L:(mk nm).length<=20:=b.len hd;have B:H d=some (.dK (Qp (mk nm))):=(b.at_ _ hd).1;have dT:d≠T1:=(b.at_ _ hd).2.1;have f:d∈rE T1 tg:=Yg.mpr (.inr (qj.mpr ⟨_,hd,U⟩));refine⟨_,U,_,U,x,_,dx,_,_,U,obj,T.q8,T.z7,UN g T1 i,nm,g,_,_,U,p.tG,(by rw[Yx,J];rfl),?_⟩;refine⟨_,U,x,_,dx,_,_,U,obj,T.q8,T.jL,Wz g T1 i,_,U,T1,_,U,(by rw[<-j];exact Q3.k (k:=Sum.inr nm) b.t_),_,U,d,_,U,UJ.k (k:=Sum.inr y) B (by rw[Qp,qh];exact QD (by omega)),?_⟩;rw[FY];have xd:x≠d:=Q2 obj B λz=>nomatch z;refine k _ ⟨dx,g,T1,i,bs,tg,by rw[Qa xd];exact obj,p.keep λc o hc e=>by rw[Qa (λz=>s c hc (by rw[z];exact f))];exact e,b.set hd (HI (b.at_ _ hd).2.2.1) (λz hz=>?_) (λq _ ne o e=>by rw[Qa ne];exact e) Qc (by rw[Qa dT.symm];exact b.t_),s,nn,l,U⟩ (my.upd (λc o _ e=>e) (.inl (qv _ f)));rcases Ck.mp hz with u|u
  .exact(b.at_ _ hd).2.2.2 z u
  .rw[u];exact I
def MN(F:zX K ZZe "Folders.unmark" UU a.y7 fd)(T:Txt P w K mg base a)(D:Yz K a):T.fq j6 2 a.y7 fd [ZZ,ZJ,ZH] (EG a):=by
 obtain⟨G,qP,zu⟩:=D.qP;have zv:=Uq qP T;refine F.ok GZ (λI A outer st H vs Q E u h=>?_)
 .obtain⟨x,bx,mk,W,M,n,F,nm,y,rfl,⟨dx,f,T1,i,bs,tg,obj,j,b,m,nn,l,rfl⟩,B,k⟩:=h;have J:=Q5 u;have zD:QG 1 _:=u;refine⟨_,(Qd (Qy (Qk zv zD rfl T.jl qP.kp zu .nil Ql (zg (pv 1) (zg (Qm (pv 0) U) Qe))))
   (Qf (Qy (SW (QA J (Qm (pv 0) U) (pv 1)) (pv 2) A3 ⟨U,U,U,U⟩)))),?_⟩
  obtain⟨fo,L⟩:=VC B;obtain⟨d,hd⟩:=Y5 ((nn nm).mpr B);have p:Qx (vJ tg) (Sum.inr nm)=some (V.ref d):=QZ (r:=((nm,d):qb×qc)) b.nd hd;have s:H d=some (.dK (Qp (mk nm))):=(b.at_ _ hd).1;have dT:d≠T1:=(b.at_ _ hd).2.1;have g:d∈rE T1 tg:=Yg.mpr (.inr (qj.mpr ⟨_,hd,U⟩));refine⟨_,U,_,U,x,_,dx,_,_,U,obj,T.q8,T.z7,UN f T1 i,nm,f,_,_,U,j.tG,(by rw[Yx,L];rfl),?_⟩;have xd:x≠d:=Q2 obj s λz=>nomatch z;refine⟨_,U,x,_,dx,_,_,U,obj,T.q8,T.jL,Wz f T1 i,_,U,T1,_,U,(by rw[<-p];exact Q3.k (k:=Sum.inr nm) b.t_),d,U,.inl ⟨_,.inl s⟩,_,U,_,Sum.inr y,s,U,λv _=>?_,λC=>?_⟩
  .rw[Wo];exact k _ ⟨dx,f,T1,i,bs,tg,by rw[Qa xd];exact obj,j.keep λc o hc e=>by rw[Qa (λz=>m c hc (by rw[z];exact g))];exact e,b.set hd ((b.at_ _ hd).2.2.1.filter _) (λz hz=>(b.at_ _ hd).2.2.2 z (qo.mp hz).1) (λq _ ne o e=>by rw[Qa ne];exact e) Qc (by rw[Qa dT.symm];exact b.t_),m,nn,l,U⟩ (my.upd (λc o _ e=>e) (.inl (qv _ g)))
  .have N:¬y∈mk nm:=λz=>by rw[Vc,qG z] at C;cases C
   refine k _ ⟨dx,f,T1,i,bs,tg,obj,j,b.congr λt=>?_,m,nn,l,U⟩ λc o _ e=>e;by_cases e:t=nm
   .rw[e,Ym];exact Gz N
   .exact YB e
def To(F:zX K Zo "Folders.take_out" Ui a.yB fd)(T:Txt P w K mg base a)(R:Yz K a):T.fq j6 2 a.yB fd [ZZ,ZJ] (NU a):=by
 obtain⟨Y,qP,zu⟩:=R.qP;obtain⟨Z,t,kI⟩:=R.wD;have zv:=Uq qP T;have kK:=EU t T;refine F.ok K5 (λcdv A outer st H vs Q E C h=>?_)
 .obtain⟨x,bx,mk,W,M,n,F,nm,rfl,⟨dx,i,T1,p,bs,tg,obj,D,G,I,nn,l,rfl⟩,S,k⟩:=h;have hu:=Q5 C;have zD:QG 1 _:=C;have xH:QG 1 _:=C;refine⟨_,(Qd (Qy (Qk zv zD rfl T.jl qP.kp zu .nil Ql (zg (pv 1) (zg (Qm (pv 0) U) Qe))))
   (Qd (Qy (QN (pv 0) T.q8 T.wo kK xH kI .nil Ql (zg (pv 1) Qe)))
   (Qf (Qy (UL (Qm (pv 0) U) (pv 1) ⟨U,U,U,U⟩))))),?_⟩
  obtain⟨fo,X⟩:=VC S;obtain⟨d,hd⟩:=Y5 ((nn nm).mpr S);have J:Qx (vJ tg) (Sum.inr nm)=some (V.ref d):=QZ (r:=((nm,d):qb×qc)) G.nd hd;refine⟨_,U,_,U,x,_,dx,_,_,U,obj,T.q8,T.z7,UN i T1 p,nm,i,_,_,U,D.tG,(by rw[Yx,X];rfl),?_⟩;refine⟨_,U,x,dx,_,U,obj,U,_,U,x,dx,i,T1,p,bx,bs,W,nm,fo,U,obj,D,X,λH5 u L v N fr5=>?_⟩;have O:¬x∈iQ i p bs:=λz=>by obtain⟨_,e⟩:=D.kind z;rw[obj] at e;cases e
  have b:=v _ _ O obj;have j:=G.keep (H':=H5) λc o hc e=>v c o (λz=>I c z hc) e;refine⟨_,U,x,_,dx,_,_,U,b,T.q8,T.jL,Wz i T1 p,T1,U,.inl ⟨_,.inl j.t_⟩,_,U,_,Sum.inr nm,.ref d,j.t_,U,J,?_⟩;rw[XG];have y:T1∈rE T1 tg:=Yg.mpr (.inl rfl);have g:∀c∈iQ i p u,c∈iQ i p bs:=λc hc=>by
   rcases QL.mp hc with z|z|z
   .exact QL.mpr (.inl z)
   .exact QL.mpr (.inr (.inl z))
   .obtain⟨q,B,rfl⟩:=qj.mp z;exact QL.mpr (.inr (.inr (qj.mpr ⟨q,N q B,U⟩)))
  have s:∀c∈rE T1 (tg.filter λr=>decide (r.1≠nm)),c∈rE T1 tg:=λc hc=>by
   rcases Yg.mp hc with z|z
   .exact Yg.mpr (.inl z)
   .obtain⟨q,B,rfl⟩:=qj.mp z;exact Yg.mpr (.inr (qj.mpr ⟨q,(qo.mp B).1,U⟩))
  have xT:x≠T1:=Q2 b j.t_ λz=>nomatch z;have wl:(without bx nm).length<=bx.length:=qW _ _;refine k _ (iQ i p u++rE T1 (tg.filter λr=>decide (r.1≠nm))) ⟨dx,i,T1,p,u,_,by rw[Qa xT];exact b,L.keep λc o hc e=>by rw[Qa (λz=>I c (g c hc) (by rw[z];exact y))];exact e,j.del nm (λq B o e=>by rw[Qa (G.at_ q B).2.1];exact e) Qc,λc h1 h2=>I c (g c h1) (s c h2),λm=>?_,by omega,U⟩
   (λc o hc e=>by rw[Qa (λz=>hc (qv _ (by rw[z];exact y)))];exact v c o (λz=>hc (qy _ z)) e) λc hc=>(qr.mp hc).elim (λz=>qy _ (g c z)) λz=>qv _ (s c z)
  rw[Dx (f:=λr:qb×qc=>r.1),nn m];unfold L2.without;rw[Dx (f:=λr:qb×qb=>r.1)]
def PL(F:zX K Zh "Folders.place" Vl a.xx fd)(T:Txt P w K mg base a)(O:Yz K a):T.fq j6 2 a.xx fd [ZZ,ZJ,Ze] (Iu a):=by
 obtain⟨fdC,qP,zu⟩:=O.qP;obtain⟨fdO,j,kI⟩:=O.wD;obtain⟨fdI,v,kU⟩:=O.ua;have zv:=Uq qP T;have kK:=EU j T;have kY:=I3 v T;refine F.ok AN (λcdv A outer st H vs Q E R h=>?_)
 .obtain⟨x,bx,mk,W,M,n,F,nm,S,rfl,⟨dx,g,T1,i,bs,tg,obj,B,ft,C,nn,l,rfl⟩,V,X,k⟩:=h;have zD:QG 1 _:=R;have xH:QG 1 _:=R;have x9:QG 1 _:=R;refine⟨_,(Qd (Qy (Qk zv zD rfl T.jl qP.kp zu .nil Ql (zg (pv 1) (zg (Qm (pv 0) U) Qe))))
   (Qd (Qy (QN (pv 0) T.q8 T.wo kK xH kI .nil Ql (zg (pv 1) Qe)))
   (Qf (Qy (QN (pv 0) T.q8 T.wW kY x9 kU .nil Ql (zg (pv 1) (zg (pv 2) Qe))))))),?_⟩
  obtain⟨fo,eu⟩:=VC V;refine⟨_,U,_,U,x,_,dx,_,_,U,obj,T.q8,T.z7,UN g T1 i,nm,g,_,_,U,B.tG,(by rw[Yx,eu];rfl),?_⟩;refine⟨_,U,x,dx,_,U,obj,U,_,U,x,dx,g,T1,i,bx,bs,W,nm,fo,U,obj,B,eu,λH5 p Y s Z fr5=>?_⟩;have D:¬x∈iQ g i bs:=λz=>by obtain⟨_,e⟩:=B.kind z;rw[obj] at e;cases e
  have d:=s _ _ D obj;have G:=ft.keep (H':=H5) λc o hc e=>s c o (λz=>C c z hc) e;have b:∀c∈iQ g i p,c∈iQ g i bs:=λc hc=>by
   rcases QL.mp hc with z|z|z
   .exact QL.mpr (.inl z)
   .exact QL.mpr (.inr (.inl z))
   .obtain⟨q,I,rfl⟩:=qj.mp z;exact QL.mpr (.inr (.inr (qj.mpr ⟨q,Z q I,U⟩)))
  have J:¬nm∈(without bx nm).map (·.1):=λz=>by
   unfold L2.without at z;exact(Dx (f:=λr:qb×qb=>r.1).mp z).2 rfl
  have wl:(without bx nm).length<bx.length:=by
   have h1:((without bx nm).map (·.1)++[nm]).Nodup:=YO (Xr B.nd) J;have u:=YM h1 (l:=bx.map (·.1)) λm hm=>by
    rcases qr.mp hm with z|z
    .unfold L2.without at z;exact(Dx (f:=λr:qb×qb=>r.1).mp z).1
    .rw[qk.mp z];exact V
   rw[qx,qO,qh,qh] at u;omega
  have hfew:=B.few;refine⟨_,U,x,dx,_,U,d,U,_,U,_,U,x,dx,g,T1,i,without bx nm,p,W,nm,S,U,d,Y,VD.mpr J,by omega,X,λH6 L fi6 t N=>?_⟩;have nx5:¬x∈iQ g i p:=λz=>D (b x z);refine k H6 (iQ g i L++rE T1 tg) ⟨dx,g,T1,i,L,tg,t _ _ nx5 d,fi6,G.keep λc o hc e=>t c o (λz=>C c (b c z) hc) e,λc h1 u=>?_,λm=>?_,by rw[qx,qO];omega,U⟩ (λc o hc e=>t c o (λz=>hc (qy _ (b c z))) (s c o (λz=>hc (qy _ z)) e)) λc hc=>?_
  .rcases QL.mp h1 with z|z|z
   .exact C c (QL.mpr (.inl z)) u
   .exact C c (QL.mpr (.inr (.inl z))) u
   .obtain⟨q,I,rfl⟩:=qj.mp z;rcases N q I with y|y
    .exact C _ (b _ (QL.mpr (.inr (.inr (qj.mpr ⟨q,y,U⟩))))) u
    .obtain⟨_,e⟩:=G.kind u;rw[y] at e;cases e
  .rw[nn m,qI,qr];unfold L2.without;rw[Dx (f:=λr:qb×qb=>r.1)];constructor
   .intro h;by_cases e:m=nm
    .exact .inr (by rw[e];exact qz)
    .exact .inl ⟨h,e⟩
   .rintro(h|h)
    .exact h.1
    .rw[qk.mp h];exact V
  .rcases qr.mp hc with z|z
   .rcases QL.mp z with z|z|z
    .exact .inl (qy _ (QL.mpr (.inl z)))
    .exact .inl (qy _ (QL.mpr (.inr (.inl z))))
    .obtain⟨q,I,rfl⟩:=qj.mp z;rcases N q I with y|y
     .exact .inl (qy _ (b _ (QL.mpr (.inr (.inr (qj.mpr ⟨q,y,U⟩))))))
     .exact .inr (fr5 _ y)
   .exact .inl (qv _ z)
def b5(F:AA K JB "Folders.add" Wb a.vi fd)(T:Txt P w K mg base a)(FF:Yz K a):T.fq j6 2 a.vi fd [ZZ,ZJ,Ze,ZM] (Si a):=by
 obtain⟨fdC,jD,vu⟩:=FF.jD;obtain⟨fdI,R,kU⟩:=FF.ua;have vv:=MK jD T;have kY:=I3 R T;refine F.ok Kb (λcdv A outer st H vs Q E hr h=>?_)
 .obtain⟨x,m,bx,mk,W,M,n,F,nm,fo,ss,rfl,⟨dx,f,T1,g,bs,tg,obj,fi,I,dj,nn,l,rfl⟩,hn40,N,hfo,hm,hss,k⟩:=h;have hu:=Q5 hr;have xZ:QG 1 _:=hr;have x9:QG 1 _:=hr;refine⟨_,(Qd (Qy (Qk vv xZ rfl T.uV jD.kp vu .nil Ql (zg (pv 1) (zg (Qm (pv 0) U) Qe))))
   (Qd (Yp hu (Qm (pv 0) U) (pv 1) Q8 rfl)
   (Qd (QV (Qt Ow (pv 3) A3) (Qf (Ud zx rfl (YD (pv 3)) (Ye (i:=4) Kb.nd) (Qf (Yp hu (QA hu (Qm (pv 0) U) (pv 1)) (pv 4) YW rfl)))) QE)
   (Qf (Qy (QN (pv 0) T.q8 T.wW kY x9 kU .nil Ql (zg (pv 1) (zg (pv 2) Qe)))))))),?_⟩
  have S:¬nm∈tg.map (·.1):=λz=>VD.mp N ((nn nm).mp z);have tl:tg.length<=bx.length:=by
   have:=YM I.nd λm hm=>(nn m).mp hm;rw[qh,qh] at this;exact this
  have hmf:=I.mf;have X:T1∈rE T1 tg:=Yg.mpr (.inl rfl);refine⟨_,U,_,U,x,_,dx,_,_,U,obj,T.q8,T.z7,UN f T1 g,nm,f,_,U,fi.tG,(by rw[Yx,N];rfl),?_⟩;intro p L;have xp:x≠p:=Qb obj L;have Tp:T1≠p:=Qb I.t_ L;have mp:m≠p:=Qb hm L;have mT:m≠T1:=Q2 hm I.t_ λz=>nomatch z;have xT:x≠T1:=Q2 obj I.t_ λz=>nomatch z;refine⟨_,U,x,_,dx,_,_,U,(by rw[Qa xp];exact obj),T.q8,T.jL,Wz f T1 g,_,U,T1,_,U,UJ.k (k:=Sum.inr nm) (by rw[Qa Tp];exact I.t_) (by rw[GD];exact QD (by omega)),?_⟩;rw[Bx ((nm,p):qb×qc) S rfl rfl];have k2:∀c o,c≠T1->H c=some o->(upd (upd H p (.dK [])) T1 (.dK (vJ (tg++[((nm,p):qb×qc)])))) c=some o:=λc o ne e=>by rw[Qa ne,Qa (Qb e L)];exact e
  have t2:(upd (upd H p (.dK [])) T1 (.dK (vJ (tg++[((nm,p):qb×qc)])))) T1=some (.dK (vJ (tg++[((nm,p):qb×qc)]))):=Qc;have p2:(upd (upd H p (.dK [])) T1 (.dK (vJ (tg++[((nm,p):qb×qc)])))) p=some (.dK (Qp [])):=by rw[Qa Tp.symm];exact Qc
  show YY _ _ _ _ (upd (upd H p (.dK [])) T1 (.dK (vJ (tg++[((nm,p):qb×qc)]))));generalize upd (upd H p (.dK [])) T1 (.dK (vJ (tg++[((nm,p):qb×qc)])))=H2 at k2 t2 p2;have ntp:¬p∈tg.map (·.2):=λz=>by
   obtain⟨q,O,eq⟩:=qj.mp z;have:=(I.at_ q O).1;rw[eq,L] at this;cases this
  have Y:FT H2 T1 (tg++[((nm,p):qb×qc)]) (Ul mk nm []) M:=I.new S ntp Tp.symm (by omega) zB nofun (λq O o e=>k2 _ _ (I.at_ q O).2.1 e) p2 t2;have fi2:FI H2 f g bx bs W:=fi.keep λc o hc e=>k2 c o (λz=>dj c hc (by rw[z];exact X)) e;have s:∀c∈iQ f g bs,¬c∈rE T1 (tg++[((nm,p):qb×qc)]):=λc hc z=>by
   rcases Yg.mp z with z|z
   .exact dj c hc (Yg.mpr (.inl z))
   .rw[qI] at z;rcases qr.mp z with z|z
    .exact dj c hc (Yg.mpr (.inr z))
    .obtain⟨_,e⟩:=fi.kind hc;rw[qk.mp z,L] at e;cases e
  have J:((nm,p):qb×qc)∈tg++[((nm,p):qb×qc)]:=qv _ qz;have hpF:p∈rE T1 (tg++[((nm,p):qb×qc)]):=Yg.mpr (.inr (qj.mpr ⟨_,J,U⟩));have kp2:my (iQ f g bs++rE T1 tg) H H2:=λc o hc e=>k2 c o (λz=>hc (qv _ (by rw[z];exact X))) e;refine⟨_,U,U,_,U,Ya ?_⟩;refine⟨_,U,m,U,⟨_,zQ.of (k2 _ _ mT hm)⟩,YN (K:=K) (a:=m) (xs:=ss.map V.str) (λj σ G=>∃(o:Option V),σ=[some (.ref x),some (.str nm),some (.str fo),some (.ref m),o]/\G x=some (.ins a.ze dx (XO f T1 g))/\FI G f g bx bs W/\FT G T1 (tg++[((nm,p):qb×qc)]) (Ul mk nm ((ss.take j).foldl YH [])) M/\G m=some (.lst (ss.map V.str))/\my (iQ f g bs++rE T1 tg) H G)
   ⟨none,U,k2 _ _ xT obj,fi2,by rw[vp];exact Y,k2 _ _ mT hm,kp2⟩ ?_ ?_ ?_⟩
  .rintro j σ G _ ⟨o,rfl,b,B,d,m4,C⟩;exact zQ.of m4
  .rintro j v σ G Z ⟨o,rfl,b,B,d,m4,C⟩;obtain⟨y,hy,rfl⟩:∃y,ss[j]?=some y/\V.str y=v:=by
    rw[qQ] at Z
    cases e:ss[j]? with
    |none=>rw[e] at Z;cases Z
    |some t=>rw[e] at Z;exact⟨t,U,qN Z⟩
   have et:ss.take (j+1)=ss.take j++[y]:=by rw[zo,hy];rfl
   have hvd:Qx (vJ (tg++[((nm,p):qb×qc)])) (Sum.inr nm)=some (V.ref p):=QZ (r:=((nm,p):qb×qc)) d.nd J;obtain⟨ep,_,D,yM⟩:=d.at_ _ J;have ep:G p=some (.dK (Qp (Ul mk nm ((ss.take j).foldl YH []) nm))):=ep;have D:(Ul mk nm ((ss.take j).foldl YH []) nm).Nodup:=D;have yM:∀z∈Ul mk nm ((ss.take j).foldl YH []) nm,z∈M:=yM;rw[Ym] at ep D yM;have hyl:=YM D yM;refine⟨_,U,x,_,dx,_,_,U,b,T.q8,T.jL,Wz f T1 g,_,U,T1,_,U,(by rw[<-hvd];exact Q3.k (k:=Sum.inr nm) d.t_),_,U,p,_,U,UJ.k (k:=Sum.inr y) ep (by rw[Qp,qh];exact QD (by omega)),?_⟩;rw[FY];refine⟨_,U,by rw[Qa xp];exact b,B.keep λc o hc e=>by rw[Qa (λz=>s c hc (by rw[z];exact hpF))];exact e,?_,by rw[Qa mp];exact m4,C.upd (.inr L)⟩;rw[et,jB];refine(d.set J (ys:=YH ((ss.take j).foldl YH []) y) (HI D) (λz hz=>?_) (λq _ ne o e=>by rw[Qa ne];exact e) Qc (by rw[Qa Tp];exact d.t_)).congr λt=>?_
   .rcases Ck.mp hz with u|u
    .exact yM z u
    .rw[u];exact hss y (qL hy)
   .by_cases e:t=nm
    .rw[e,Ym,Ym];rfl
    .rw[YB e,YB e,YB e]
  .rintro σ G ⟨o,rfl,b,B,d,m4,C⟩;rw[qh,jw] at d;refine⟨_,U,x,dx,_,U,b,U,_,U,_,U,x,dx,f,T1,g,bx,bs,W,nm,fo,U,b,B,N,by omega,hfo,λH5 Z fi5 D in5=>?_⟩;have nx1:¬x∈iQ f g bs:=λz=>by obtain⟨_,e⟩:=fi.kind z;rw[obj] at e;cases e
   have fr4:∀c,G c=none->H c=none:=λc e=>by
    cases q:H c with
    |none=>rfl
    |some o=>
     by_cases z:c∈iQ f g bs++rE T1 tg
     .rcases qr.mp z with z|z
      .obtain⟨_,e2⟩:=B.kind z;rw[e] at e2;cases e2
      .have z2:c∈rE T1 (tg++[((nm,p):qb×qc)]):=by
        rcases Yg.mp z with u|u
        .exact Yg.mpr (.inl u)
        .exact Yg.mpr (.inr (by rw[qI];exact qy _ u))
       obtain⟨_,e2⟩:=d.kind z2;rw[e] at e2;cases e2
     .rw[C c o z q] at e;cases e
   refine k H5 (iQ f g Z++rE T1 (tg++[((nm,p):qb×qc)])) ⟨dx,f,T1,g,Z,_,D _ _ nx1 b,fi5,d.keep λc o hc e=>D c o (λz=>s c z hc) e,λc h1 h2=>?_,λm=>?_,by rw[qx,qO];omega,U⟩ (λc o hc e=>D c o (λz=>hc (qy _ z)) (C c o hc e)) λc hc=>?_
   .rcases QL.mp h1 with z|z|z
    .exact s c (QL.mpr (.inl z)) h2
    .exact s c (QL.mpr (.inr (.inl z))) h2
    .obtain⟨q,O,rfl⟩:=qj.mp z;rcases in5 q O with y|y
     .exact s _ (QL.mpr (.inr (.inr (qj.mpr ⟨q,y,U⟩)))) h2
     .obtain⟨_,e⟩:=d.kind h2;rw[y] at e;cases e
   .rw[qI,qI,qr,qr,nn m];exact Iff.rfl
   .rcases qr.mp hc with z|z
    .rcases QL.mp z with z|z|z
     .exact .inl (qy _ (QL.mpr (.inl z)))
     .exact .inl (qy _ (QL.mpr (.inr (.inl z))))
     .obtain⟨q,O,rfl⟩:=qj.mp z;rcases in5 q O with y|y
      .exact .inl (qy _ (QL.mpr (.inr (.inr (qj.mpr ⟨q,y,U⟩)))))
      .exact .inr (fr4 _ y)
    .rcases Yg.mp z with z|z
     .exact .inl (qv _ (Yg.mpr (.inl z)))
     .rw[qI] at z;rcases qr.mp z with u|u
      .exact .inl (qv _ (Yg.mpr (.inr u)))
      .rw[qk.mp u];exact .inr L
def nMk(bx:Rows)(mk:qb->qe)(fo y:qb):Nat:=((QP bx fo).filter λn=>decide (y∈mk n)).length
inductive EH(a:yD)(vs:qa V)(H:Hp)(Q:VK)(E:XK):Prop
 |mk:∀(x:qc)(bx:Rows)(mk:qb->qe)(W M:qe)(n:Nat)(F:qa qc)(fo y:qb),vs=[.ref x,.str fo,.str y]->FO a H x bx mk W M n F->(∀H',Qj H H'->Q (.int (nMk bx mk fo y)) H')->EH a vs H Q E
inductive EJ(a:yD)(vs:qa V)(H:Hp)(Q:VK)(E:XK):Prop
 |mk:∀(x:qc)(bx:Rows)(mk:qb->qe)(W M:qe)(n:Nat)(F:qa qc)(fo:qb),vs=[.ref x,.str fo]->FO a H x bx mk W M n F->(∀l H',H l=none->Qj H H'->H' l=some (.tup [.int ((QP bx fo).length:Nat),.int (((QP bx fo).length:Nat)-(nMk bx mk fo JP:Nat))])->Q (.ref l) H')->EJ a vs H Q E
def EK{H1:Hp}{d:qc}(e:H d=some o)(s:∀b u,b≠d->H b=some u->H1 b=some u):Qj H (upd H1 d o):=λb u q=>by
 by_cases z:b=d
 .rw[z] at q⊢;rw[e] at q;cases q;exact Qc
 .rw[Qa z];exact s b u z q
def MO(F:zX K ZZf "Folders.marked" Y8 a.xb fd)(T:Txt P w K mg base a):T.fq j6 1 a.xb fd [ZZ,Ze,ZH] (EH a):=by
 refine F.ok Aa (λcdv A outer st H vs Q E hr h=>?_)
 .obtain⟨x,bx,mk,W,M,n,F,fo,y,rfl,⟨dx,g,T1,q,bs,tg,obj,i,L,Z,nn,l,rfl⟩,k⟩:=h;have O:=Q5 hr;have hfew:=i.few;have hrl:=Kc bx fo;refine⟨_,(Qf (KI (Qw (QC Yb rfl T.vt zT (zg (VO (sc:=Qg Y8) (N:=Xj) (fr:=[(2,ZH),(0,ZZ)]) (cs_ rfl rfl) rfl rfl rfl (Kf (Vo O (Qm (pv 0) U) (pv 1) Q8 ⟨U,U,U,U⟩)) (λ_ _ _ _=>We (UI (Kh O (pv 1) (QA O (Ha K (pv 2) U) (pv 0))))) (λ_ _ _ _=>(pv 0))) Qe))))),?_⟩;by_cases R:fo∈bs.map (·.1)
  .obtain⟨d,hd⟩:=Y5 R;have S:Qx (vJ bs) (Sum.inr fo)=some (V.ref d):=QZ (r:=((fo,d):qb×qc)) i.bd.nd hd;obtain⟨v,dX,dN,_,_⟩:=i.bd.at_ _ hd;have v:H d=some (.dK (Qp (QP bx fo))):=v;have B:d∈iQ g q bs:=QL.mpr (.inr (.inr (qj.mpr ⟨_,hd,U⟩)));have xd:x≠d:=Q2 obj v λz=>nomatch z;refine⟨d,_,v,λj=>?_⟩;have f:∀c o,c≠d->H c=some o->(upd H d (.jG j (.dK (Qp (QP bx fo))))) c=some o:=λc o ne e=>by rw[Qa ne];exact e
   have s:(upd H d (.jG j (.dK (Qp (QP bx fo))))) d=some (.jG j (.dK (Qp (QP bx fo)))):=Qc;generalize upd H d (.jG j (.dK (Qp (QP bx fo))))=H1 at f s;refine⟨_,U,x,_,dx,_,_,U,f _ _ xd obj,T.q8,T.zL,Ua g T1 q,q,U,.inl ⟨_,.inl (f _ _ dN.symm i.br)⟩,_,U,λp C=>?_⟩;have s2:Qj H1 (upd H1 p (.dK [])):=Qj.zi C;refine⟨_,Q3.k (k:=Sum.inr fo) (s2 _ _ (f _ _ dN.symm i.br)),?_⟩;rw[S];generalize upd H1 p (.dK [])=G at s2;have J:=s2 _ _ s;refine⟨d,Qp (QP bx fo),U,.inl ⟨j,J,Kt (xs:=QP bx fo) V.str (λz=>decide (y∈mk z)) V.str (Q6 ((by omega))) J (by unfold Qp;rw[qT];rfl) ?_ ?_ ?_⟩⟩
   .intro z H5 Q' hz s5 t;have X:=(nn z).mpr (Xc hz);obtain⟨I,m⟩:=Y5 X;have Y:Qx (vJ tg) (Sum.inr z)=some (V.ref I):=QZ (r:=((z,I):qb×qc)) L.nd m;have ez:H I=some (.dK (Qp (mk z))):=(L.at_ _ m).1;have zd:I≠d:=λe=>Z d B (Yg.mpr (.inr (qj.mpr ⟨_,m,e⟩)));have Td:T1≠d:=λe=>Z d B (Yg.mpr (.inl e.symm));refine⟨_,U,_,U,x,_,dx,_,_,U,s5 _ _ (s2 _ _ (f _ _ xd obj)),T.q8,T.jL,Wz g T1 q,_,U,T1,_,U,(by rw[<-Y];exact Q3.k (k:=Sum.inr z) (s5 _ _ (s2 _ _ (f _ _ Td L.t_)))),I,_,U,Q3.k (k:=Sum.inr y) (s5 _ _ (s2 _ _ (f _ _ zd ez))),_,U,?_⟩;rw[Vc];by_cases e:y∈mk z
    .rw[qG e];rw[qt e] at t;exact t
    .rw[qC e];rw[qE e] at t;exact t
   .intro z H5 Q' hz s5 _ t;exact⟨_,U,t⟩
   .intro D m;have t:d≠D:=Qb J m;refine⟨D,_,U,.inl (zQ.of Qc),⟨by rw[Qa t];exact J,?_⟩⟩;rw[qh];exact k _ (EK v λb u ne e=>by rw[Qa (Qb (s2 _ _ (f b u ne e)) m)];exact s2 _ _ (f b u ne e))
  .have S:Qx (vJ bs) (Sum.inr fo)=none:=Vq R;have X:QP bx fo=[]:=i.bd.nC fo R;have Y:x≠g:=Q2 obj i.tG λz=>nomatch z;refine⟨g,_,i.tG,λj=>?_⟩;have f:∀c o,c≠g->H c=some o->(upd H g (.jG j (.dK (QQ bx)))) c=some o:=λc o ne e=>by rw[Qa ne];exact e
   have s:(upd H g (.jG j (.dK (QQ bx)))) g=some (.jG j (.dK (QQ bx))):=Qc;generalize upd H g (.jG j (.dK (QQ bx)))=H1 at f s;refine⟨_,U,x,_,dx,_,_,U,f _ _ Y obj,T.q8,T.zL,Ua g T1 q,q,U,.inl ⟨_,.inl (f _ _ i.ne.symm i.br)⟩,_,U,λp C=>?_⟩;have s2:Qj H1 (upd H1 p (.dK [])):=Qj.zi C;have I:(upd H1 p (.dK [])) p=some (.dK []):=Qc;refine⟨_,Q3.k (k:=Sum.inr fo) (s2 _ _ (f _ _ i.ne.symm i.br)),?_⟩;rw[S];have Xp:g≠p:=Qb s C;generalize upd H1 p (.dK [])=G at s2 I;refine⟨p,[],U,.inr ⟨I,λt=>?_⟩⟩;have v:(upd G p (.jG t (.dK []))) g=some (.jG j (.dK (QQ bx))):=by rw[Qa Xp];exact s2 _ _ s
   have J:(upd G p (.jG t (.dK []))) p=some (.jG t (.dK [])):=Qc;have B:∀c o,H1 c=some o->(upd G p (.jG t (.dK []))) c=some o:=λc o e=>by rw[Qa (Qb e C)];exact s2 _ _ e
   generalize upd G p (.jG t (.dK []))=H3 at v J B;refine Kt (xs:=([]:qe)) V.str (λz=>decide (y∈mk z)) V.str (q0 _) J rfl nofun nofun λD m=>?_;have XD:g≠D:=Qb v m;refine⟨D,_,U,.inl (zQ.of Qc),⟨by rw[Qa XD];exact v,?_⟩⟩;have en:((([]:qe).filter λz=>decide (y∈mk z)).map V.str).length=nMk bx mk fo y:=by unfold nMk;rw[X];rfl
   rw[en];exact k _ (EK i.tG λb u ne e=>by rw[Qa (Qb (B _ _ (f b u ne e)) m)];exact B _ _ (f b u ne e))
def MP(F:zX K JX "Folders.counts" UY a.xg fd)(T:Txt P w K mg base a)(q:Yz K a):T.fq j6 2 a.xg fd [ZZ,Ze] (EJ a):=by
 obtain⟨s,b,nT⟩:=q.oK;have oy:=MO b T;refine F.ok WK (λt A outer st H vs Q E j h=>?_)
 .obtain⟨x,bx,mk,W,M,n,F,fo,rfl,hf,k⟩:=h;obtain⟨dx,v,T1,m,bs,tg,obj,c,C,D,nn,l,e⟩:=id hf;have y:=Q5 j;have mF:QG 1 _:=j;refine⟨_,(Qd (Qr (i:=2) WK.nd (QC RE rfl T.vt zT (zg (Vo y (Qm (pv 0) U) (pv 1) Q8 ⟨U,U,U,U⟩) Qe)))
   (Qf (Qw (Af (Qh (pv 2) (Qh (QM S3 (pv 2) (QN (pv 0) T.q8 T.n8 oy mF nT .nil Ql (zg (pv 1) (zg (C7 rfl T.QdW) Qe)))) Qu)))))),?_⟩
  refine⟨_,U,x,_,dx,_,_,U,obj,T.q8,T.zL,Ua v T1 m,m,U,.inl ⟨_,.inl c.br⟩,_,U,λp z=>?_⟩;have s1:Qj H (upd H p (.dK [])):=Qj.zi z;refine⟨_,Q3.k (k:=Sum.inr fo) (s1 _ _ c.br),?_⟩;have hd:∃d,((Qx (vJ bs) (Sum.inr fo)).getD (V.ref p))=V.ref d/\(upd H p (.dK [])) d=some (.dK (Qp (QP bx fo))):=by
   by_cases f:fo∈bs.map (·.1)
   .obtain⟨d,hd⟩:=Y5 f;have g:Qx (vJ bs) (Sum.inr fo)=some (V.ref d):=QZ (r:=((fo,d):qb×qc)) c.bd.nd hd;rw[g];exact⟨d,U,s1 _ _ (c.bd.at_ _ hd).1⟩
   .have g:Qx (vJ bs) (Sum.inr fo)=none:=Vq f;rw[g];exact⟨p,U,by rw[Qc,c.bd.nC fo f];rfl⟩
  obtain⟨d,B,o⟩:=hd;rw[B];refine⟨d,_,U,o,?_⟩;have f:(Qp (QP bx fo)).length=(QP bx fo).length:=by unfold Qp;rw[qh]
  rw[f];generalize upd H p (.dK [])=H1 at s1 o;refine⟨_,U,_,U,_,U,x,dx,_,U,s1 _ _ obj,U,_,U,x,bx,mk,W,M,n,F,fo,JP,U,hf.same s1,λG s2=>?_⟩;refine⟨_,_,U,U,Vr,λu g=>?_⟩;exact k u _ ((s1.trans s2).free g) ((s1.trans s2).z6 ((s1.trans s2).free g)) Qc
abbrev Mi:=qc×qb
def cN(bx:Rows)(f:qb):Int:=((QP bx f).length:Nat)
def cU(bx:Rows)(mk:qb->qe)(f:qb):Int:=((QP bx f).length:Nat)-(nMk bx mk f JP:Nat)
def dQ(H:Hp)(l:qc)(bx:Rows)(mk:qb->qe)(fs:qa Mi):Prop:=H l=some (.lst (fs.map λq=>V.ref q.1))/\∀q∈fs,H q.1=some (.tup [.str q.2,.int (cN bx q.2),.int (cU bx mk q.2)])
inductive CI(a:yD)(vs:qa V)(H:Hp)(Q:VK)(E:XK):Prop
 |mk:∀(x:qc)(bx:Rows)(mk:qb->qe)(W M:qe)(n:Nat)(F:qa qc),vs=[.ref x]->FO a H x bx mk W M n F->(∀l H' fs ks,ks.Nodup->ks.length<=20->(∀t,t∈ks↔QP bx t≠[])->fs.map (·.2)=Qz ks->H l=none->Qj H H'->dQ H' l bx mk fs->Q (.ref l) H')->CI a vs H Q E
def Lc(F:zX K J2 "Folders.folders" Ux a.yO fd)(T:Txt P w K mg base a)(N:Yz K a):T.fq j6 3 a.yO fd [ZZ] (CI a):=by
 obtain⟨fdC,b,nU⟩:=N.oM;have oA:=MP b T N;refine F.ok Y1 (λcdv A outer st H vs Q E hr h=>?_)
 .obtain⟨x,bx,mk,W,M,n,F,rfl,hf,k⟩:=h;obtain⟨dx,X1,T1,O,bs,tg,obj,g,ft,dj,nn,l,e⟩:=id hf;have mG:QG 2 _:=hr;have hbl:=g.bd.len;have hwf:=g.wf;refine⟨_,(Qd (Qr (i:=1) Y1.nd (KN Qu))
   (Qd (Ud zx rfl (YD (QC (Yd rfl) rfl T.jR boot_sorted (zg (Qm (pv 0) U) Qe))) (Ye (i:=2) Y1.nd) (Qd (Qr (i:=3) Y1.nd (QN (pv 0) T.q8 T.n9 oA mG nU .nil Ql (zg (pv 2) Qe)))
   (Qf (Qy (Vs plainAttrs_list zR zS YS (pv 1) (zg (Af (Qh (pv 2) (Qh (Qv QR (pv 3) Qi) (Qh (Qv QR (pv 3) Qi) Qu)))) Qe))))))
   (Qf (Qw (pv 1))))),?_⟩
  refine⟨dR,λq R=>?_⟩;have s1:Qj H (upd H q (.lst [])):=Qj.zi R;have G:(upd H q (.lst [])) q=some (.lst []):=Qc;show YY _ _ _ _ (upd H q (.lst []));generalize upd H q (.lst [])=H1 at s1 G;refine⟨_,U,x,_,dx,_,_,U,s1 _ _ obj,T.q8,T.zL,Ua X1 T1 O,O,vJ bs,bs.map (·.1),U,s1 _ _ g.br,As _ _ _,by rw[qh];omega,λm hm=>?_⟩;have s2:Qj H1 (upd H1 m (.lst ((Qz (bs.map (·.1))).map V.str))):=Qj.zi hm;have r:(upd H1 m (.lst ((Qz (bs.map (·.1))).map V.str))) m=some (.lst ((Qz (bs.map (·.1))).map V.str)):=Qc;have S:=s2 _ _ G;have qm:q≠m:=Qb G hm;generalize upd H1 m (.lst ((Qz (bs.map (·.1))).map V.str))=H2 at s2 r S;have I:(Qz (bs.map (·.1))).length<=20:=by rw[Uu,qh];omega
  generalize J:Qz (bs.map (·.1))=ns at r I;have X:H q=none:=R;refine⟨m,U,⟨_,zQ.of r⟩,YN (K:=K) (a:=m) (xs:=ns.map V.str) (λi σ f=>∃(fs:qa Mi)(s B:Option V),σ=[some (.ref x),some (.ref q),s,B]/\Qj H f/\dQ f q bx mk fs/\fs.map (·.2)=ns.take i/\f m=some (.lst (ns.map V.str)))
   ⟨[],none,none,U,s1.trans s2,⟨S,nofun⟩,by rw[vp];rfl,r⟩ ?_ ?_ ?_⟩
  .rintro i σ f _ ⟨fs,s,B,rfl,s4,f4,j,C⟩;exact zQ.of C
  .rintro i v σ f o ⟨fs,s,B,rfl,s4,f4,j,C⟩;obtain⟨t,p,rfl⟩:∃y,ns[i]?=some y/\V.str y=v:=by
    rw[qQ] at o
    cases e:ns[i]? with
    |none=>rw[e] at o;cases o
    |some t=>rw[e] at o;exact⟨t,U,qN o⟩
   have et:ns.take (i+1)=ns.take i++[t]:=by rw[zo,p];rfl
   have hfl:fs.length<=20:=by
    have:=zV List.length j;rw[qh,zb] at this;omega
   refine⟨_,U,x,dx,_,U,s4 _ _ obj,U,_,U,x,bx,mk,W,M,n,F,t,U,hf.same s4,λc L nc s5 Y=>?_⟩;refine⟨_,U,.inl ⟨U,_,zQ.of (s5 _ _ f4.1)⟩,_,U,_,U,c,_,_,_,U,U,jX.of Y,U,_,U,c,_,_,_,U,U,jX.of Y,U,Mj,λu Z=>?_⟩;have D:Qj L (upd L u (.tup [.str t,.int (cN bx t),.int (cU bx mk t)])):=Qj.zi Z;have u6:(upd L u (.tup [.str t,.int (cN bx t),.int (cU bx mk t)])) u=some (.tup [.str t,.int (cN bx t),.int (cU bx mk t)]):=Qc;refine⟨q,_,_,U,U,D _ _ (s5 _ _ f4.1),(by rw[qh];exact QD (by omega)),?_⟩;have uq:u≠q:=(Qb (s5 _ _ f4.1) Z).symm;have el:(fs.map λq=>V.ref q.1)++[V.ref u]=(fs++[((u,t):Mi)]).map λq=>V.ref q.1:=by rw[qI];rfl
   rw[el];refine⟨fs++[((u,t):Mi)],_,_,U,((s4.trans s5).trans D).z6 X,⟨Qc,λz hz=>?_⟩,by rw[qI,j,et];rfl,by rw[Qa qm.symm];exact D _ _ (s5 _ _ C)⟩;rcases qr.mp hz with y|y
   .rw[Qa (Q2 (f4.2 z y) f4.1 λz=>nomatch z)];exact D _ _ (s5 _ _ (f4.2 z y))
   .rw[qk.mp y,Qa uq];exact u6
  .rintro σ f ⟨fs,s,B,rfl,s4,f4,j,C⟩;rw[qh,jw] at j;refine⟨_,U,k q f fs (bs.map (·.1)) g.bd.nd (by rw[qh];omega) (λt=>⟨λp=>?_,λp=>?_⟩) (by rw[J];exact j) X s4 f4⟩
   .obtain⟨d,hd⟩:=Y5 p;exact(g.bd.at_ _ hd).2.2.2.1
   .exact vH λz=>p (g.bd.nC t z)
inductive Qby(K:Frag)(vs:qa V)(H:Hp)(Q:VK)(E:XK):Prop
 |mk:∀(a:qc)(ns:qa Int),vs=[.ref a]->zQ K H a (ns.map V.int)->ns.length<=63->(∀H',Q (.bl true) H')->Qby K vs H Q E
def ik :kitOne K (.type "list") (.type "list")=some true:=by unfold kitOne;rw[qG (yu _)]
def HE{a b:qb}:decide (V.str a=V.str b)=decide (a=b):=by
 by_cases h:a=b
 .rw[h,qt rfl,qt rfl]
 .rw[qE h,qE λz=>h (V.str.inj z)]
section
variable {α:Type}
end
abbrev NW:=qa (qb×qe)
def Y4(R:NW)(t:qb):qe:=(R.filter λr=>decide (t∈r.2)).map (·.1)
def RI(R:NW)(n:qb)(ws:qe)(t:qb):Y4 (R++[(n,ws)]) t=Y4 R t++if t∈ws then [n] else []:=by
 unfold Y4;rw[q9,qI];by_cases h:t∈ws<;>simp[qM,h]
def DY{n:qb}:n∈Y4 R t↔∃ws,(n,ws)∈R/\t∈ws:=by
 unfold Y4;constructor
 .intro h;obtain⟨r,a,rfl⟩:=qj.mp h;exact⟨r.2,(qo.mp a).1,ql (qo.mp a).2⟩
 .rintro⟨ws,a,b⟩;exact qj.mpr ⟨(n,ws),qo.mpr ⟨a,qt b⟩,U⟩
def aU{n:qb}(h:n∈Y4 R t):n∈R.map (·.1):=let ⟨ws,a,_⟩:=DY.mp h;qj.mpr ⟨(n,ws),a,U⟩
def Mf(R:NW)(t:qb):(Y4 R t).length<=R.length:=by unfold Y4;rw[qh];exact qW _ _
def noN(R:NW)(n:qb):NW:=R.filter λr=>decide (r.1≠n)
def aV(R:NW)(n t:qb):Y4 (noN R n) t=(Y4 R t).filter λm=>decide (m≠n):=by
 unfold Y4 noN;rw[ye,xO,xO];congr 1;refine kR λr _=>?_;show(decide (t∈r.2)&&decide (r.1≠n))=(decide (r.1≠n)&&decide (t∈r.2));rw[Bool.and_comm]
def fQ(e:(R.map (·.1)).Nodup){n:qb}{a b:qe}(d:(n,a)∈R)(c:(n,b)∈R):a=b:=by
 induction R with
 |nil=>cases d
 |cons r R h=>
  rw[qU,zN] at e;rcases qJ.mp d with f|d
  .rcases qJ.mp c with g|c
   .rw[<-g] at f;exact(Qah f).2
   .exact absurd (qj.mpr ⟨_,c,by rw[<-f]⟩) e.1
  .rcases qJ.mp c with g|c
   .exact absurd (qj.mpr ⟨_,d,by rw[<-g]⟩) e.1
   .exact h e.2 d c
abbrev U5:=qb×qc×qe
abbrev VY(rows:qa U5):qa (Key×V):=dG (·.1) (λr=>V.ref r.2.1) rows
def YF(rows:qa U5):NW:=rows.map λr=>(r.1,r.2.2)
def De(rows:qa U5):(YF rows).map (·.1)=rows.map (·.1):=by unfold YF;rw[qT];rfl
def A9(rows:qa U5):(YF rows).length=rows.length:=qh _
structure IX(a:yD)(H:Hp)(x dx E B:qc)(rows:qa U5)(bs:qa (qb×qc))(W:qe):Prop where
 obj:H x=some (.ins a.jY dx [(Zz,.ref E),(ZO,.ref B)])
 en:H E=some (.dK (VY rows))
 br:H B=some (.dK (vJ bs))
 eb:E≠B
 ls:∀r∈rows,H r.2.1=some (.lst (r.2.2.map V.str))/\SS r.2.2=r.2.2/\∀w∈r.2.2,w∈W
 nd:(rows.map (·.1)).Nodup
 few:rows.length<=40
 wf:W.length<=20
 bd:BD H E B bs (Y4 (YF rows)) W
def tY(E B:qc)(rows:qa U5)(bs:qa (qb×qc)):qa qc:=E::B::(bs.map (·.2)++rows.map (·.2.1))
inductive sT(a:yD)(H:Hp)(x:qc)(R:NW)(W:qe)(n:Nat)(F:qa qc):Prop
 |mk:∀dx E B rows bs,IX a H x dx E B rows bs W->YF rows=R->R.length<=n->F=tY E B rows bs->sT a H x R W n F
def Yu{rows:qa U5}  :c∈tY E B rows bs↔c=E\/c=B\/c∈bs.map (·.2)\/c∈rows.map (·.2.1):=by
 unfold tY;rw[qJ,qJ,qr]
def IX.keep{rows:qa U5}(h:IX a H x dx E B rows bs W)(k:∀c o,(c=x\/c∈tY E B rows bs)->H c=some o->H' c=some o):IX a H' x dx E B rows bs W:=
 ⟨k _ _ (.inl rfl) h.obj,k _ _ (.inr (Yu.mpr (.inl rfl))) h.en,k _ _ (.inr (Yu.mpr (.inr (.inl rfl)))) h.br,h.eb,
   λr b=>⟨k _ _ (.inr (Yu.mpr (.inr (.inr (.inr (qj.mpr ⟨r,b,U⟩)))))) (h.ls r b).1,(h.ls r b).2⟩,h.nd,h.few,h.wf,
   h.bd.congr (λp d o e=>k _ _ (.inr (Yu.mpr (.inr (.inr (.inl (qj.mpr ⟨p,d,U⟩)))))) e) λ_=>rfl⟩
def sT.keep(h:sT a H x R W n F)(k:∀c o,(c=x\/c∈F)->H c=some o->H' c=some o):sT a H' x R W n F:=by
 obtain⟨dx,E,B,rows,bs,i,b,d,rfl⟩:=h;exact⟨dx,E,B,rows,bs,i.keep k,b,d,U⟩
def sT.kind(h:sT a H x R W n F)(hc:c∈F):(∃kvs,H c=some (.dK kvs))\/∃xs,H c=some (.lst xs):=by
 obtain⟨dx,E,B,rows,bs,i,d,e,rfl⟩:=h;rcases Yu.mp hc with z|z|z|z
 .rw[z];exact .inl ⟨_,i.en⟩
 .rw[z];exact .inl ⟨_,i.br⟩
 .obtain⟨p,b,rfl⟩:=qj.mp z;exact .inl ⟨_,(i.bd.at_ p b).1⟩
 .obtain⟨r,b,rfl⟩:=qj.mp z;exact .inr ⟨_,(i.ls r b).1⟩
def sT.obj(h:sT a H x R W n F):∃dx E B,H x=some (.ins a.jY dx [(Zz,.ref E),(ZO,.ref B)]):=let ⟨_,_,_,_,_,i,_,_,_⟩:=h;⟨_,_,_,i.obj⟩
inductive NS(a:yD)(vs:qa V)(H:Hp)(Q:VK)(E:XK):Prop
 |mk:∀(x dx:qc)(W:qe),vs=[.ref x]->W.length<=20->H x=some (.ins a.jY dx [])->(∀H' F,(∀c o,c≠x->H c=some o->H' c=some o)->(∀c∈F,H c=none)->sT a H' x [] W 0 F->Q .non H')->NS a vs H Q E
inductive Sh(a:yD)(vs:qa V)(H:Hp)(Q:VK)(E:XK):Prop
 |mk:∀(x p:qc)(R:NW)(W:qe)(n:Nat)(F:qa qc)(nm:qb)(ss:qe),vs=[.ref x,.str nm,.ref p]->sT a H x R W n F->n<40->¬nm∈R.map (·.1)->H p=some (.lst (ss.map V.str))->(∀w∈ss,w∈W)->ss.length<=60->(∀H' F',sT a H' x (R++[(nm,SS ss)]) W (n+1) F'->my F H H'->(∀c∈F',c∈F\/H c=none)->Q .non H')->Sh a vs H Q E
inductive NR(a:yD)(vs:qa V)(H:Hp)(Q:VK)(E:XK):Prop
 |mk:∀(x:qc)(R:NW)(W:qe)(n:Nat)(F:qa qc)(nm:qb),vs=[.ref x,.str nm]->sT a H x R W n F->nm∈R.map (·.1)->(∀H' F',sT a H' x (noN R nm) W n F'->my F H H'->(∀c∈F',c∈F)->Q .non H')->NR a vs H Q E
inductive Iq(a:yD)(vs:qa V)(H:Hp)(Q:VK)(E:XK):Prop
 |mk:∀(x:qc)(R:NW)(W:qe)(n:Nat)(F:qa qc)(t:qb),vs=[.ref x,.str t]->sT a H x R W n F->(∀l H',H l=none->Qj H H'->H' l=some (.lst ((Qz (Y4 R t)).map V.str))->Q (.ref l) H')->Iq a vs H Q E
def Kq(E B:qc):([(Zz,V.ref E),(ZO,V.ref B)]:qa (qb×V)).lookup Zz=some (V.ref E):=by simp[List.lookup]
def VX(E B:qc):([(Zz,V.ref E),(ZO,V.ref B)]:qa (qb×V)).lookup ZO=some (V.ref B):=by
 have e:(ZO==Zz)=false:=by decide +kernel
 simp[List.lookup,e]
def Ti(F:zX K Zf "Index.__init__" WN a.vL fd)(T:Txt P w K mg base a):T.fq j6 1 a.vL fd [ZZ] (NS a):=by
 refine F.ok D4 (λl A outer st H vs Q E n h=>?_)
 .obtain⟨x,dx,W,rfl,m,j,k⟩:=h;refine⟨_,(Qd (YC (pv 0) Q8 rfl)
   (Qf (YC (pv 0) Q8 rfl))),?_⟩
  intro L f;have ne1:x≠L:=Qb j f;refine⟨_,U,x,_,dx,_,U,(by rw[Qa ne1];exact j),T.j0,T.j3,by decide,?_⟩;intro B b;have d:(upd (upd H L (.dK [])) x (.ins a.jY dx (QI Zz (.ref L) []))) x=some (.ins a.jY dx (QI Zz (.ref L) [])):=Qc;have g:(upd (upd H L (.dK [])) x (.ins a.jY dx (QI Zz (.ref L) []))) L=some (.dK []):=by rw[Qa ne1.symm];exact Qc
  have ne2:x≠B:=Qb d b;have ne3:L≠B:=Qb g b;refine⟨_,U,x,_,dx,_,U,(by rw[Qa ne2];exact d),T.j0,T.jn,(by show 1<1000;decide),?_⟩;have i:H B=none:=by rw[Qa ne2.symm,Qa ne3.symm] at b;exact b
  refine k _ (tY L B [] []) (λc o ne e=>?_) (λc hc=>?_) ⟨dx,L,B,[],[],⟨Qc,?_,?_,ne3,nofun,zB,q0 _,m,⟨zB,zB,nofun,λ_ _=>rfl⟩⟩,U,qB _,U⟩
  .rw[Qa ne,Qa (Qb (by rw[Qa ne,Qa (Qb e f)];exact e) b),Qa ne,Qa (Qb e f)];exact e
  .rcases Yu.mp hc with z|z|z|z
   .rw[z];exact f
   .rw[z];exact i
   .cases z
   .cases z
  .rw[Qa ne1.symm,Qa ne3,Qa ne1.symm];exact Qc
  .rw[Qa ne2.symm];exact Qc
def cg{rows:qa U5}{nm:qb}(h:(nm,ws)∈YF rows):∃l,((nm,l,ws):U5)∈rows:=by
 obtain⟨r,a,e⟩:=qj.mp h;obtain⟨b,c⟩:=Qah e;exact⟨r.2.1,by rw[<-b,<-c];exact a⟩
def PJ(F:zX K ZZg "Index.having" VJ a.ky fd)(T:Txt P w K mg base a):T.fq j6 1 a.ky fd [ZZ,ZH] (Iq a):=by
 refine F.ok BZ (λj A outer st H vs Q E m h=>?_)
 .obtain⟨x,R,W,n,F,t,rfl,⟨dx,E,B,rows,bs,i,rfl,_,rfl⟩,k⟩:=h;have o:=Q5 m;refine⟨_,(Qf (Qw (QC (Yd rfl) rfl T.jR boot_sorted (zg (Vo o (Qm (pv 0) U) (pv 1) Q8 ⟨U,U,U,U⟩) Qe)))),?_⟩;refine⟨_,U,x,_,dx,_,_,U,i.obj,T.j0,T.jn,VX E B,B,U,.inl ⟨_,.inl i.br⟩,_,U,λp q=>?_⟩;have s1:Qj H (upd H p (.dK [])):=Qj.zi q;have g:=i.few;have c:=Mf (YF rows) t;rw[A9] at c;refine⟨_,Q3.k (k:=Sum.inr t) (s1 _ _ i.br),?_⟩;by_cases e:t∈bs.map (·.1)
  .obtain⟨d,hd⟩:=Y5 e;have f:Qx (vJ bs) (Sum.inr t)=some (V.ref d):=QZ (r:=((t,d):qb×qc)) i.bd.nd hd;rw[f];refine⟨d,Qp (Y4 (YF rows) t),Y4 (YF rows) t,U,s1 _ _ (i.bd.at_ _ hd).1,?_,by omega,λl b=>k l _ (s1.free b) (s1.z6 (s1.free b)) Qc⟩;unfold Qp;rw[qT];rfl
  .have f:Qx (vJ bs) (Sum.inr t)=none:=Vq e;rw[f];refine⟨p,[],[],U,Qc,U,by decide,λl b=>?_⟩;refine k l _ (s1.free b) (s1.z6 (s1.free b)) ?_;rw[Qc,i.bd.nC t e]
def bfi(R:NW)(nm:qb)(pre:qe):qb->qe:=λt=>Y4 R t++if t∈pre then [nm] else []
def Ma{nm y:qb}{pre:qe}(h:¬y∈pre)(t:qb):bfi R nm (pre++[y]) t=Ul (bfi R nm pre) y (bfi R nm pre y++[nm]) t:=by
 by_cases e:t=y
 .subst e;rw[Ym];unfold bfi;rw[qC h,qG (qv _ qz),zr]
 .rw[YB e];unfold bfi;have:t∈pre++[y]↔t∈pre:=by rw[qr,qk];exact⟨λz=>z.elim id λq=>absurd q e,.inl⟩
  by_cases z:t∈pre
  .rw[qG z,qG (this.mpr z)]
  .rw[qC z,qC λq=>z (this.mp q)]
def bft(R:NW)(nm:qb)(pre:qe):qb->qe:=λt=>if t∈pre then (Y4 R t).filter λm=>decide (m≠nm) else Y4 R t
def L9{nm y:qb}{pre:qe}(t:qb):bft R nm (pre++[y]) t=Ul (bft R nm pre) y ((Y4 R y).filter λm=>decide (m≠nm)) t:=by
 by_cases e:t=y
 .subst e;rw[Ym];exact qG (qv _ qz)
 .rw[YB e];unfold bft;have:t∈pre++[y]↔t∈pre:=by rw[qr,qk];exact⟨λz=>z.elim id λq=>absurd q e,.inl⟩
  by_cases z:t∈pre
  .rw[qG z,qG (this.mpr z)]
  .rw[qC z,qC λq=>z (this.mp q)]
def OB(rows:qa U5)(r:U5):YF (rows++[r])=YF rows++[(r.1,r.2.2)]:=by unfold YF;rw[qI];rfl
def MQ(rows:qa U5)(nm:qb):YF (rows.filter λr=>decide (r.1≠nm))=noN (YF rows) nm:=by
 unfold YF noN;rw[ye];rfl
def SN(h:(xs.map V.str)[i]?=some v):∃y,xs[i]?=some y/\v=V.str y:=by
 rw[qQ] at h
 cases e:xs[i]? with
 |none=>rw[e] at h;cases h
 |some t=>rw[e] at h;exact⟨t,U,(qN h).symm⟩
def XX{y:qb}(h:xs[i]?=some y):xs.take (i+1)=xs.take i++[y]:=by rw[zo,h];rfl
def TN{y:qb}(b:xs.Nodup)(h:xs[i]?=some y):¬y∈xs.take i:=λz=>by
 have a:(xs.take i++[y]).Nodup:=by rw[<-XX h];exact b.sublist (List.take_sublist _ _)
 rw[jf] at a;exact a.2.2 y z y qz rfl
def bZ(F:zX K JB "Index.add" Xy a.wk fd)(T:Txt P w K mg base a)(FF:Yz K a):T.fq j6 2 a.wk fd [ZZ,ZJ,Zr] (Sh a):=by
 obtain⟨fdC,jD,vu⟩:=FF.jD;have vv:=MK jD T;refine F.ok GY (λcdv A outer st H vs Q E D h=>?_)
 .obtain⟨x,p,R,W,n,F,nm,ss,rfl,⟨dx,E,B,rows,bs,i,rfl,hRn,rfl⟩,hn40,N,hp,hW,hss,k⟩:=h;have hu:=Q5 D;have xZ:QG 1 _:=D;rw[De] at N;rw[A9] at hRn;have hwf:=i.wf;have hdd:=aM ss;have hv0:Qx (VY rows) (Sum.inr nm)=none:=Vq N;refine⟨_,(Qd (Qy (Qk vv xZ rfl T.uV jD.kp vu .nil Ql (zg (pv 1) (zg (Qm (pv 0) U) Qe))))
   (Qd (Yp hu (Qm (pv 0) U) (pv 1) (QC (XQ rfl) rfl T.jR boot_sorted (zg (Uc (BU rfl) rfl T.Qdq boot_set (zg (pv 2) Qe)) Qe)) rfl)
   (Qf (Ud zx rfl (YD (QA hu (Qm (pv 0) U) (pv 1))) (Ye (i:=3) GY.nd) (Qd (QV (UI (U8 hu (pv 3) (Qm (pv 0) U))) (Qf (Yp hu (Qm (pv 0) U) (pv 3) Q8 rfl)) QE)
   (Qf (Yp hu (QA hu (Qm (pv 0) U) (pv 3)) (pv 1) YW rfl))))))),?_⟩
  refine⟨_,U,_,U,x,_,dx,_,_,U,i.obj,T.j0,T.j3,Kq E B,nm,E,_,U,i.en,hv0,?_⟩;refine⟨_,U,p,ss,U,.inl (zQ.of hp),by omega,λu hu0=>⟨u,dd ss,U,Qc,by omega,λl hl=>?_⟩⟩;have s1:Qj H (upd H u (XH P w u (dd ss))):=Qj.zi hu0;have l0:H l=none:=s1.free hl;have s2:Qj H (upd (upd H u (XH P w u (dd ss))) l (.lst ((SS ss).map V.str))):=s1.z6 l0;have l2:(upd (upd H u (XH P w u (dd ss))) l (.lst ((SS ss).map V.str))) l=some (.lst ((SS ss).map V.str)):=Qc;refine⟨_,U,x,_,dx,_,_,U,s2 _ _ i.obj,T.j0,T.j3,Kq E B,_,U,E,_,U,UJ.k (k:=Sum.inr nm) (s2 _ _ i.en) (by rw[GD];exact QD (by omega)),?_⟩;rw[Bx ((nm,l,SS ss):U5) N rfl rfl];have xE:x≠E:=Q2 i.obj i.en λz=>nomatch z;have lE:l≠E:=(Qb i.en l0).symm;have O:(upd (upd (upd H u (XH P w u (dd ss))) l (.lst ((SS ss).map V.str))) E (.dK (VY (rows++[((nm,l,SS ss):U5)])))) x=some (.ins a.jY dx [(Zz,.ref E),(ZO,.ref B)]):=by rw[Qa xE];exact s2 _ _ i.obj
  have Z:(upd (upd (upd H u (XH P w u (dd ss))) l (.lst ((SS ss).map V.str))) E (.dK (VY (rows++[((nm,l,SS ss):U5)])))) E=some (.dK (VY (rows++[((nm,l,SS ss):U5)]))):=Qc;have br3:(upd (upd (upd H u (XH P w u (dd ss))) l (.lst ((SS ss).map V.str))) E (.dK (VY (rows++[((nm,l,SS ss):U5)])))) B=some (.dK (vJ bs)):=by rw[Qa i.eb.symm];exact s2 _ _ i.br
  have l3:(upd (upd (upd H u (XH P w u (dd ss))) l (.lst ((SS ss).map V.str))) E (.dK (VY (rows++[((nm,l,SS ss):U5)])))) l=some (.lst ((SS ss).map V.str)):=by rw[Qa lE];exact l2
  have ls3:∀r∈rows,(upd (upd (upd H u (XH P w u (dd ss))) l (.lst ((SS ss).map V.str))) E (.dK (VY (rows++[((nm,l,SS ss):U5)])))) r.2.1=some (.lst (r.2.2.map V.str)):=λr D=>by
   rw[Qa (Q2 (i.ls r D).1 i.en λz=>nomatch z)];exact s2 _ _ (i.ls r D).1
  have bd3:BD (upd (upd (upd H u (XH P w u (dd ss))) l (.lst ((SS ss).map V.str))) E (.dK (VY (rows++[((nm,l,SS ss):U5)])))) E B bs (bfi (YF rows) nm []) W:=i.bd.congr (λq S o e=>by rw[Qa (i.bd.at_ q S).2.1];exact s2 _ _ e) λt=>by
   show Y4 (YF rows) t++(if t∈([]:qe) then [nm] else [])=_;rw[qC nofun,zr]
  have kp3:my (tY E B rows bs) H (upd (upd (upd H u (XH P w u (dd ss))) l (.lst ((SS ss).map V.str))) E (.dK (VY (rows++[((nm,l,SS ss):U5)])))):=my.upd (λc o _ e=>s2 c o e) (.inl (Yu.mpr (.inl rfl)));show YY _ _ _ _ (upd (upd (upd H u (XH P w u (dd ss))) l (.lst ((SS ss).map V.str))) E (.dK (VY (rows++[((nm,l,SS ss):U5)]))));generalize upd (upd (upd H u (XH P w u (dd ss))) l (.lst ((SS ss).map V.str))) E (.dK (VY (rows++[((nm,l,SS ss):U5)])))=H3 at O Z br3 l3 ls3 bd3 kp3;have nd3:((rows++[((nm,l,SS ss):U5)]).map (·.1)).Nodup:=by rw[qI];exact YO i.nd N
  have hv3:Qx (VY (rows++[((nm,l,SS ss):U5)])) (Sum.inr nm)=some (V.ref l):=QZ (r:=((nm,l,SS ss):U5)) nd3 (qv _ qz);have hfew:=i.few;have ndS:=dO ss;refine⟨_,U,x,_,dx,_,_,U,O,T.j0,T.j3,Kq E B,_,U,E,_,U,(by rw[<-hv3];exact Q3.k (k:=Sum.inr nm) Z),l,U,⟨_,zQ.of l3⟩,YN (K:=K) (a:=l) (xs:=(SS ss).map V.str)
   (λj σ G=>Ex2 λ(f:qa (qb×qc))(o:Option V)=>gJ (σ=[some (.ref x),some (.str nm),some (.ref p),o]) (G x=some (.ins a.jY dx [(Zz,.ref E),(ZO,.ref B)])) (G E=some (.dK (VY (rows++[((nm,l,SS ss):U5)])))) (G B=some (.dK (vJ f))) (G l=some (.lst ((SS ss).map V.str))) ((∀r∈rows,G r.2.1=some (.lst (r.2.2.map V.str)))) (BD G E B f (bfi (YF rows) nm ((SS ss).take j)) W) (my (tY E B rows bs) H G) ((∀q∈f,q.2∈tY E B rows bs\/H q.2=none)))
   ⟨bs,none,U,O,Z,br3,l3,ls3,by rw[vp];exact bd3,kp3,λq S=>.inl (Yu.mpr (.inr (.inr (.inl (qj.mpr ⟨q,S,U⟩)))))⟩ ?_ ?_ ?_⟩
  .rintro j σ G _ ⟨f,o,rfl,b,J,m,X,C,g,L,in4⟩;exact zQ.of X
  .rintro j v σ G hv ⟨f,o,rfl,b,J,m,X,C,g,L,in4⟩;obtain⟨y,hy,rfl⟩:=SN hv;have ym:y∈SS ss:=qL hy;have yW:y∈W:=hW y (Ht.mp ym);have I:=TN ndS hy;have hl4:=g.len;have hBF:B∈tY E B rows bs:=Yu.mpr (.inr (.inl rfl));refine⟨_,U,_,U,x,_,dx,_,_,U,b,T.j0,T.jn,VX E B,B,_,U,Q3.k (k:=Sum.inr y) m,_,U,?_⟩;by_cases M:y∈f.map (·.1)
   .obtain⟨d,hd⟩:=Y5 M;have Y:Qx (vJ f) (Sum.inr y)=some (V.ref d):=QZ (r:=((y,d):qb×qc)) g.nd hd;obtain⟨s,dE,dB,_,_⟩:=g.at_ _ hd;have s:G d=some (.dK (Qp (bfi (YF rows) nm ((SS ss).take j) y))):=s;rw[Y];have nrep:¬nm∈bfi (YF rows) nm ((SS ss).take j) y:=λz=>by
     unfold bfi at z;rw[qC I,zr] at z;exact N (by rw[<-De];exact aU z)
    have lenb:(bfi (YF rows) nm ((SS ss).take j) y).length<=40:=by
     unfold bfi;rw[qC I,zr];have:=Mf (YF rows) y;rw[A9] at this;omega
    refine QU ⟨_,U,x,_,dx,_,_,U,b,T.j0,T.jn,VX E B,_,U,B,_,U,(by rw[<-Y];exact Q3.k (k:=Sum.inr y) m),_,U,d,_,U,UJ.k (k:=Sum.inr nm) s (by rw[Qp,qh];exact QD (by omega)),?_⟩;rw[Kd nrep];have xd:x≠d:=Q2 b s λz=>nomatch z;have ld:l≠d:=Q2 X s λz=>nomatch z;refine⟨f,_,U,by rw[Qa xd];exact b,by rw[Qa dE.symm];exact J,by rw[Qa dB.symm];exact m,by rw[Qa ld];exact X,λr D=>by rw[Qa (Q2 (C r D) s λz=>nomatch z)];exact C r D,?_,L.upd (in4 _ hd),in4⟩;rw[XX hy];exact(g.set hd (by simp) (λq _ ne o e=>by rw[Qa ne];exact e) Qc).congr (λ_ _ _ e=>e) λt=>Ma I t
   .have Y:Qx (vJ f) (Sum.inr y)=none:=Vq M;rw[Y];refine Ya ?_;intro d s;have xd:x≠d:=Qb b s;have Ed:E≠d:=Qb J s;have Bd:B≠d:=Qb m s;have ld:l≠d:=Qb X s;have xB:x≠B:=Q2 b m λz=>nomatch z;have lB:l≠B:=Q2 X m λz=>nomatch z;have dn:d∈tY E B rows bs\/H d=none:=by
     cases e:H d with
     |none=>exact .inr rfl
     |some o=>
      by_cases hin:d∈tY E B rows bs
      .exact .inl hin
      .have:=L d o hin e;rw[s] at this;cases this
    refine⟨_,U,x,_,dx,_,_,U,(by rw[Qa xd];exact b),T.j0,T.jn,VX E B,_,U,B,_,U,UJ.k (k:=Sum.inr y) (by rw[Qa Bd];exact m) (by rw[GD];exact QD (by omega)),?_⟩;rw[Bx ((y,d):qb×qc) M rfl rfl];have nd5:((f++[((y,d):qb×qc)]).map (·.1)).Nodup:=by rw[qI];exact YO g.nd M
    have hv5:Qx (vJ (f++[((y,d):qb×qc)])) (Sum.inr y)=some (V.ref d):=QZ (r:=((y,d):qb×qc)) nd5 (qv _ qz);have br5:(upd (upd G d (.dK [])) B (.dK (vJ (f++[((y,d):qb×qc)])))) B=some (.dK (vJ (f++[((y,d):qb×qc)]))):=Qc;have d5:(upd (upd G d (.dK [])) B (.dK (vJ (f++[((y,d):qb×qc)])))) d=some (.dK []):=by rw[Qa Bd.symm];exact Qc
    refine⟨_,U,x,_,dx,_,_,U,(by rw[Qa xB,Qa xd];exact b),T.j0,T.jn,VX E B,_,U,B,_,U,(by rw[<-hv5];exact Q3.k (k:=Sum.inr y) br5),_,U,d,_,U,UJ.k (k:=Sum.inr nm) d5 (by decide),?_⟩;have ek:Yc ([]:qa (Key×V)) (Sum.inr nm) (.bl true)=Qp [nm]:=rfl;rw[ek];have e0:bfi (YF rows) nm ((SS ss).take j) y=[]:=g.nC y M;refine⟨f++[((y,d):qb×qc)],_,U,by rw[Qa xd,Qa xB,Qa xd];exact b,by rw[Qa Ed,Qa i.eb,Qa Ed];exact J,by rw[Qa Bd];exact Qc,by rw[Qa ld,Qa lB,Qa ld];exact X,λr D=>?_,?_,((L.upd dn).upd (.inl hBF)).upd dn,λq S=>?_⟩
    .rw[Qa (Qb (C r D) s),Qa (Q2 (C r D) m λz=>nomatch z),Qa (Qb (C r D) s)];exact C r D
    .rw[XX hy];refine(g.new (p:=d) (ys:=bfi (YF rows) nm ((SS ss).take j) y++[nm]) M (λz=>?_) Ed.symm Bd.symm yW (by simp) (λq S o e=>?_) ?_).congr (λ_ _ _ e=>e) λt=>Ma I t
     .obtain⟨q,S,eq⟩:=qj.mp z;have:=(g.at_ q S).1;rw[eq,s] at this;cases this
     .rw[Qa (Qb e s),Qa (g.at_ q S).2.2.1,Qa (Qb e s)];exact e
     .rw[e0,Qc];rfl
    .rcases qr.mp S with z|z
     .exact in4 q z
     .rw[qk.mp z];exact dn
  .rintro σ G ⟨f,o,rfl,b,J,m,X,C,g,L,in4⟩;rw[qh,jw] at g;refine k G (tY E B (rows++[((nm,l,SS ss):U5)]) f) ⟨dx,E,B,rows++[((nm,l,SS ss):U5)],f,⟨b,J,m,i.eb,λr D=>?_,nd3,by rw[qx,qO];omega,i.wf,g.congr (λ_ _ _ e=>e) λt=>?_⟩,OB _ _,?_,U⟩ L λc hc=>?_
   .rcases qr.mp D with z|z
    .exact⟨C r z,(i.ls r z).2⟩
    .rw[qk.mp z];exact⟨X,cS ss,λy hy=>hW y (Ht.mp hy)⟩
   .rw[OB];exact RI _ _ _ _
   .rw[qx,qO,A9];omega
   .rcases Yu.mp hc with z|z|z|z
    .exact .inl (Yu.mpr (.inl z))
    .exact .inl (Yu.mpr (.inr (.inl z)))
    .obtain⟨q,S,rfl⟩:=qj.mp z;exact in4 q S
    .rw[qI] at z;rcases qr.mp z with y|y
     .exact .inl (Yu.mpr (.inr (.inr (.inr y))))
     .rw[qk.mp y];exact .inr l0
def Th(F:zX K Zo "Index.take_out" UT a.yZ fd)(T:Txt P w K mg base a)(FF:Yz K a):T.fq j6 2 a.yZ fd [ZZ,ZJ] (NR a):=by
 obtain⟨fdC,qP,zu⟩:=FF.qP;have zv:=Uq qP T;refine F.ok Vi (λcdv A outer st H vs Q E C h=>?_)
 .obtain⟨x,R,W,n,F,nm,rfl,⟨dx,E,B,rows,bs,i,rfl,hRn,rfl⟩,hm,k⟩:=h;have hu:=Q5 C;have zD:QG 1 _:=C;obtain⟨r0,S,e0⟩:=qj.mp hm;obtain⟨b,ws⟩:=r0;obtain rfl:b=nm:=e0;obtain⟨l,hl⟩:=cg S;have hnd:((YF rows).map (·.1)).Nodup:=by rw[De];exact i.nd
  have hv0:Qx (VY rows) (Sum.inr b)=some (V.ref l):=QZ (r:=((b,l,ws):U5)) i.nd hl;obtain⟨el,eS,eW⟩:=i.ls _ hl;have eS:SS ws=ws:=eS;refine⟨_,(Qd (Qy (Qk zv zD rfl T.jl qP.kp zu .nil Ql (zg (pv 1) (zg (Qm (pv 0) U) Qe))))
   (Qd (Qr (i:=2) Vi.nd (UL (Qm (pv 0) U) (pv 1) ⟨U,U,U,U⟩))
   (Qf (Ud zx rfl (YD (pv 2)) (Ye (i:=3) Vi.nd) (Qd (Qy (UL (QA hu (Qm (pv 0) U) (pv 3)) (pv 1) ⟨U,U,U,U⟩))
   (Qf (QV (U3 (C3 (QA hu (Qm (pv 0) U) (pv 3)) (λ_=>rfl))) (Qf (Qy (UL (Qm (pv 0) U) (pv 3) ⟨U,U,U,U⟩))) QE))))))),?_⟩
  refine⟨_,U,_,U,x,_,dx,_,_,U,i.obj,T.j0,T.j3,Kq E B,b,E,_,_,U,i.en,hv0,?_⟩;refine⟨_,U,x,_,dx,_,_,U,i.obj,T.j0,T.j3,Kq E B,E,U,.inl ⟨_,.inl i.en⟩,_,U,_,Sum.inr b,.ref l,i.en,U,hv0,?_⟩;rw[XG];have xE:x≠E:=Q2 i.obj i.en λz=>nomatch z;have O:(upd H E (.dK (VY (rows.filter λr=>decide (r.1≠b))))) x=some (.ins a.jY dx [(Zz,.ref E),(ZO,.ref B)]):=by rw[Qa xE];exact i.obj
  have en3:(upd H E (.dK (VY (rows.filter λr=>decide (r.1≠b))))) E=some (.dK (VY (rows.filter λr=>decide (r.1≠b)))):=Qc;have br3:(upd H E (.dK (VY (rows.filter λr=>decide (r.1≠b))))) B=some (.dK (vJ bs)):=by rw[Qa i.eb.symm];exact i.br
  have X:∀r∈rows,(upd H E (.dK (VY (rows.filter λr=>decide (r.1≠b))))) r.2.1=some (.lst (r.2.2.map V.str)):=λr C=>by
   rw[Qa (Q2 (i.ls r C).1 i.en λz=>nomatch z)];exact(i.ls r C).1
  have bd3:BD (upd H E (.dK (VY (rows.filter λr=>decide (r.1≠b))))) E B bs (bft (YF rows) b []) W:=i.bd.congr (λq J o e=>by rw[Qa (i.bd.at_ q J).2.1];exact e) λt=>qC λz=>nomatch z;have kp3:my (tY E B rows bs) H (upd H E (.dK (VY (rows.filter λr=>decide (r.1≠b))))):=my.upd (λc o _ e=>e) (.inl (Yu.mpr (.inl rfl)));show YY _ _ _ _ (upd H E (.dK (VY (rows.filter λr=>decide (r.1≠b)))));generalize upd H E (.dK (VY (rows.filter λr=>decide (r.1≠b))))=H3 at O en3 br3 X bd3 kp3;have ndS:ws.Nodup:=by rw[<-eS];exact dO ws
  refine⟨_,U,l,U,⟨_,zQ.of (X _ hl)⟩,YN (K:=K) (a:=l) (xs:=ws.map V.str)
   (λj σ p=>Ex2 λ(f:qa (qb×qc))(o:Option V)=>iP (σ=[some (.ref x),some (.str b),some (.ref l),o]) (p x=some (.ins a.jY dx [(Zz,.ref E),(ZO,.ref B)])) (p E=some (.dK (VY (rows.filter λr=>decide (r.1≠b))))) (p B=some (.dK (vJ f))) ((∀r∈rows,p r.2.1=some (.lst (r.2.2.map V.str)))) (BD p E B f (bft (YF rows) b (ws.take j)) W) (my (tY E B rows bs) H p) ((∀q∈f,q∈bs)))
   ⟨bs,none,U,O,en3,br3,X,by rw[vp];exact bd3,kp3,λq J=>J⟩ ?_ ?_ ?_⟩
  .rintro j σ p _ ⟨f,o,rfl,g,L,D,G,s,M,in4⟩;exact zQ.of (G _ hl)
  .rintro j v σ p hv ⟨f,o,rfl,g,L,D,G,s,M,in4⟩;obtain⟨y,hy,rfl⟩:=SN hv;have ym:y∈ws:=qL hy;have npre:=TN ndS hy;have hbe:bft (YF rows) b (ws.take j) y=Y4 (YF rows) y:=qC npre;have Y:b∈Y4 (YF rows) y:=DY.mpr ⟨ws,S,ym⟩;have hyb:y∈f.map (·.1):=vH λz=>by
    have:=s.nC y z;rw[hbe] at this;rw[this] at Y;cases Y
   obtain⟨d,hd⟩:=Y5 hyb;have Z:Qx (vJ f) (Sum.inr y)=some (V.ref d):=QZ (r:=((y,d):qb×qc)) s.nd hd;obtain⟨ed,dE,dB,_,_⟩:=s.at_ _ hd;have ed:p d=some (.dK (Qp (Y4 (YF rows) y))):=by rw[ed];show some (HO.dK (Qp (bft (YF rows) b (ws.take j) y)))=_;rw[hbe]
   have xd:x≠d:=Q2 g ed λz=>nomatch z;have xB:x≠B:=Q2 g D λz=>nomatch z;have hdF:d∈tY E B rows bs:=Yu.mpr (.inr (.inr (.inl (qj.mpr ⟨_,in4 _ hd,U⟩))));have hBF:B∈tY E B rows bs:=Yu.mpr (.inr (.inl rfl));refine⟨_,U,x,_,dx,_,_,U,g,T.j0,T.jn,VX E B,_,U,B,_,U,(by rw[<-Z];exact Q3.k (k:=Sum.inr y) D),d,U,.inl ⟨_,.inl ed⟩,_,U,_,Sum.inr b,.bl true,ed,U,(by rw[Vc,qG Y]),?_⟩;rw[Wo];have u:(upd p d (.dK (Qp ((Y4 (YF rows) y).filter λm=>decide (m≠b))))) x=some (.ins a.jY dx [(Zz,.ref E),(ZO,.ref B)]):=by rw[Qa xd];exact g
   have en5:(upd p d (.dK (Qp ((Y4 (YF rows) y).filter λm=>decide (m≠b))))) E=some (.dK (VY (rows.filter λr=>decide (r.1≠b)))):=by rw[Qa dE.symm];exact L
   have I:(upd p d (.dK (Qp ((Y4 (YF rows) y).filter λm=>decide (m≠b))))) B=some (.dK (vJ f)):=by rw[Qa dB.symm];exact D
   have d5:(upd p d (.dK (Qp ((Y4 (YF rows) y).filter λm=>decide (m≠b))))) d=some (.dK (Qp ((Y4 (YF rows) y).filter λm=>decide (m≠b)))):=Qc;have N:∀r∈rows,(upd p d (.dK (Qp ((Y4 (YF rows) y).filter λm=>decide (m≠b))))) r.2.1=some (.lst (r.2.2.map V.str)):=λr C=>by rw[Qa (Q2 (G r C) ed λz=>nomatch z)];exact G r C
   have kp5:my (tY E B rows bs) H (upd p d (.dK (Qp ((Y4 (YF rows) y).filter λm=>decide (m≠b))))):=M.upd (.inl hdF);have ot5:∀q∈f,q.2≠d->∀o,p q.2=some o->(upd p d (.dK (Qp ((Y4 (YF rows) y).filter λm=>decide (m≠b))))) q.2=some o:=λq _ ne o e=>by rw[Qa ne];exact e
   show YY _ _ _ _ (upd p d (.dK (Qp ((Y4 (YF rows) y).filter λm=>decide (m≠b)))));generalize upd p d (.dK (Qp ((Y4 (YF rows) y).filter λm=>decide (m≠b))))=H5 at u en5 I d5 N kp5 ot5;refine⟨_,U,x,_,dx,_,_,U,u,T.j0,T.jn,VX E B,_,U,B,.ref d,U,(by rw[<-Z];exact Q3.k (k:=Sum.inr y) I),!(Qp ((Y4 (YF rows) y).filter λm=>decide (m≠b))).isEmpty,Or.inr (Or.inr ⟨_,d5,U⟩),?_⟩
   cases hys:(Y4 (YF rows) y).filter λm=>decide (m≠b) with
   |cons z zs=>
    refine QU ⟨f,_,U,u,en5,I,N,?_,kp5,in4⟩;rw[XX hy];rw[hys] at d5;refine(s.set hd (ys:=z::zs) (by simp) ot5 d5).congr (λ_ _ _ e=>e) λt=>?_;rw[L9,hys]
   |nil=>
    refine Ya ⟨_,U,x,_,dx,_,_,U,u,T.j0,T.jn,VX E B,B,U,.inl ⟨_,.inl I⟩,_,U,_,Sum.inr y,.ref d,I,U,Z,?_⟩;rw[XG];refine⟨f.filter λr=>decide (r.1≠y),_,U,by rw[Qa xB];exact u,by rw[Qa i.eb];exact en5,Qc,λr C=>by rw[Qa (Q2 (N r C) I λz=>nomatch z)];exact N r C,?_,kp5.upd (.inl hBF),λq J=>in4 q (qo.mp J).1⟩;rw[XX hy];refine(s.del hd λq J ne o e=>?_).congr (λ_ _ _ e=>e) λt=>?_
    .rw[Qa (s.at_ q J).2.2.1];exact ot5 q J ne o e
    .rw[L9,hys]
  .rintro σ p ⟨f,o,rfl,g,L,D,G,s,M,in4⟩;rw[qh,jw] at s;have Y:(rows.filter λr=>decide (r.1≠b)).length<=rows.length:=qW _ _;have I:=i.few;rw[A9] at hRn;refine k p (tY E B (rows.filter λr=>decide (r.1≠b)) f) ⟨dx,E,B,_,f,⟨g,L,D,i.eb,λr C=>⟨G r (qo.mp C).1,(i.ls r (qo.mp C).1).2⟩,i.nd.sublist (zH.map _),by omega,i.wf,s.congr (λ_ _ _ e=>e) λt=>?_⟩,MQ _ _,by rw[<-MQ,A9];omega,U⟩ M λc hc=>?_
   .rw[MQ,aV];by_cases u:t∈ws
    .exact(qG u).symm
    .have e:bft (YF rows) b ws t=Y4 (YF rows) t:=qC u;rw[e];refine jV.mpr λm hm=>qt λz=>u ?_;obtain⟨Z,N,h2⟩:=DY.mp hm;rw[z] at N;rw[fQ hnd S N];exact h2
   .rcases Yu.mp hc with z|z|z|z
    .exact Yu.mpr (.inl z)
    .exact Yu.mpr (.inr (.inl z))
    .obtain⟨q,J,rfl⟩:=qj.mp z;exact Yu.mpr (.inr (.inr (.inl (qj.mpr ⟨q,in4 q J,U⟩))))
    .obtain⟨q,J,rfl⟩:=qj.mp z;exact Yu.mpr (.inr (.inr (.inr (qj.mpr ⟨q,(qo.mp J).1,U⟩))))
structure TH(a:yD)(H:Hp)(x dx L R:qc)(rows:Rows)(kr:qa (Key×V)):Prop where
 obj:H x=some (.ins a.jb dx [(ZT,.ref L),(ZS,.ref R)])
 lk:H L=some (.dK (QQ rows))
 rp:H R=some (.dK kr)
 lr:L≠R
 nd:(rows.map (·.1)).Nodup
 few:rows.length<=40
 QcG:kr.length<=40
 ug:∀t v,Qx kr (Sum.inr t)=some v->∃d,v=.ref d/\H d=some (.dK (Qp (QP rows t)))/\d≠L/\d≠R
 nC:∀t:qb,t≠""->Qx kr (Sum.inr t)=none->QP rows t=[]
 e_:Qx kr (Sum.inr ("":qb))=none
 inj:∀t t' d,Qx kr (Sum.inr t)=some (.ref d)->Qx kr (Sum.inr t')=some (.ref d)->t=t'
def TH.kp2{R:qc}(h:TH a H x dx L R rows kr)(k:Kp2 H H'):TH a H' x dx L R rows kr:=
 ⟨k _ _ h.obj nofun,k _ _ h.lk nofun,k _ _ h.rp nofun,h.lr,h.nd,h.few,h.QcG,λt v e=>let ⟨d,b,c,f⟩:=h.ug t v e;⟨d,b,k _ _ c nofun,f⟩,h.nC,h.e_,h.inj⟩
inductive THs(a:yD)(H:Hp)(x:qc)(rows:Rows)(n:Nat):Prop
 |mk:∀dx L R kr,TH a H x dx L R rows kr->rows.length<=n->kr.length<=n->THs a H x rows n
def THs.kp2(h:THs a H x rows n)(k:Kp2 H H'):THs a H' x rows n:=let ⟨dx,L,R,kr,t,b,c⟩:=h;⟨dx,L,R,kr,t.kp2 k,b,c⟩
def Ur(L R:qc):([(ZT,V.ref L),(ZS,V.ref R)]:qa (qb×V)).lookup ZT=some (V.ref L):=by simp[List.lookup]
def UC(L R:qc):([(ZT,V.ref L),(ZS,V.ref R)]:qa (qb×V)).lookup ZS=some (V.ref R):=by
 have e:(ZS==ZT)=false:=by decide +kernel
 simp[List.lookup,e]
def TH.add{R:qc}{b:qa (Key×V)}{nm:qb}(i:TH a H x dx L R rows kr)(s:up rows nm=none)(few:rows.length<40)
 (k:H' x=some (.ins a.jb dx [(ZT,.ref L),(ZS,.ref R)])) (n:H' L=some (.dK (QQ (rows++[(nm,an)])))) (o:H' R=some (.dK b)) (l:b.length<=40)
 (old:∀t d,t≠an->Qx kr (Sum.inr t)=some (.ref d)->H' d=some (.dK (Qp (QP rows t)))) (c:∀t,t≠an->Qx b (Sum.inr t)=Qx kr (Sum.inr t))
 (new:an≠""->∃d,Qx b (Sum.inr an)=some (.ref d)/\H' d=some (.dK (Qp (QP rows an++[nm])))/\d≠L/\d≠R/\∀t,t≠an->Qx kr (Sum.inr t)≠some (.ref d)) (emp:an=""->b=kr):TH a H' x dx L R (rows++[(nm,an)]) b:=by
 have ex:∀t,t≠an->QP (rows++[(nm,an)]) t=QP rows t:=λt h=>by rw[AS,qC (xK h),zr]
 have u:QP (rows++[(nm,an)]) an=QP rows an++[nm]:=by rw[AS,qG rfl]
 have m:Qx b (Sum.inr ("":qb))=none:=by
  by_cases h:an=""
  .rw[emp h];exact i.e_
  .rw[c "" (xK h)];exact i.e_
 refine⟨k,n,o,i.lr,N8 i.nd s,by rw[qx,qO];omega,l,λt v e=>?_,λt q e=>?_,m,λt t' d f g=>?_⟩
 .by_cases h:t=an
  .subst h;have h0:t≠"":=λz=>by rw[z,m] at e;cases e
   obtain⟨d,j,r,p,w,_⟩:=new h0;rw[j] at e;cases e;rw[u];exact⟨d,U,r,p,w⟩
  .rw[c t h] at e;obtain⟨d,rfl,r,p⟩:=i.ug t v e;rw[ex t h];exact⟨d,U,old t d h e,p⟩
 .by_cases h:t=an
  .subst h;obtain⟨d,j,_⟩:=new q;rw[j] at e;cases e
  .rw[ex t h];rw[c t h] at e;exact i.nC t q e
 .by_cases h:t=an
  .by_cases h':t'=an
   .rw[h,h']
   .subst h;have h0:t≠"":=λz=>by rw[z,m] at f;cases f
    obtain⟨r,j,_,_,_,p⟩:=new h0;rw[j] at f;cases f;rw[c t' h'] at g;exact absurd g (p t' h')
  .by_cases h':t'=an
   .subst h';have h0:t'≠"":=λz=>by rw[z,m] at g;cases g
    obtain⟨r,j,_,_,_,p⟩:=new h0;rw[j] at g;cases g;rw[c t h] at f;exact absurd f (p t h)
   .rw[c t h] at f;rw[c t' h'] at g;exact i.inj t t' d f g
def TH.take{R:qc}{nm:qb}(b:TH a H x dx L R rows kr)(j:up rows nm=some an)
 (c:H' x=some (.ins a.jb dx [(ZT,.ref L),(ZS,.ref R)])) (f:H' L=some (.dK (QQ (without rows nm)))) (g:H' R=some (.dK kr))
 (old:∀t d,t≠an->Qx kr (Sum.inr t)=some (.ref d)->H' d=some (.dK (Qp (QP rows t))))
 (new:∀d,Qx kr (Sum.inr an)=some (.ref d)->H' d=some (.dK (Qp ((QP rows an).filter λm=>decide (m≠nm))))):TH a H' x dx L R (without rows nm) kr:=by
 have l:(without rows nm).length<=rows.length:=qW _ _;have hf:=b.few;have ex:∀t,t≠an->QP (without rows nm) t=QP rows t:=λt h=>by rw[Wd];exact Gz (Le b.nd j h)
 refine⟨c,f,g,b.lr,Xr b.nd,by omega,b.QcG,λt v e=>?_,λt k e=>?_,b.e_,b.inj⟩
 .obtain⟨d,rfl,n,i⟩:=b.ug t v e;by_cases h:t=an
  .subst h;rw[Wd];exact⟨d,U,new d e,i⟩
  .rw[ex t h];exact⟨d,U,old t d h e,i⟩
 .have i:=b.nC t k e;rw[Wd,i];rfl
structure THo(B:Hp)(L R:qc)(kr:qa (Key×V)):Prop where
 hL:B L=none
 hR:B R=none
 hd:∀(t:qb)(d:qc),Qx kr (Sum.inr t)=some (.ref d)->B d=none
inductive THf(a:yD)(B H:Hp)(x:qc)(rows:Rows)(n:Nat):Prop
 |mk:∀(dx L R:qc)(kr:qa (Key×V)),TH a H x dx L R rows kr->rows.length<=n->kr.length<=n->THo B L R kr->Qj B H->THf a B H x rows n
inductive Ih(a:yD)(vs:qa V)(H:Hp)(Q:VK)(E:XK):Prop
 |mk:∀(B:Hp)(x dx:qc),vs=[.ref x]->H x=some (.ins a.jb dx [])->(∀c o,B c=some o->H c=some o/\c≠x)->(∀H',THf a B H' x [] 0->Q .non H')->Ih a vs H Q E
inductive Sk(a:yD)(vs:qa V)(H:Hp)(Q:VK)(E:XK):Prop
 |mk:∀(B:Hp)(x:qc)(rows:Rows)(n:Nat)(nm an:qb),vs=[.ref x,.str nm,.str an]->THf a B H x rows n->n<40->up rows nm=none->(∀H',THf a B H' x (rows++[(nm,an)]) (n+1)->Kp1 H H'->Q .non H')->Sk a vs H Q E
inductive NI(a:yD)(vs:qa V)(H:Hp)(Q:VK)(E:XK):Prop
 |mk:∀(B:Hp)(x:qc)(rows:Rows)(n:Nat)(nm:qb),vs=[.ref x,.str nm]->THf a B H x rows n->nm∈rows.map (·.1)->(∀H',THf a B H' x (without rows nm) n->Kp1 H H'->Q .non H')->NI a vs H Q E
def Py(F:zX K Zf "Threads.__init__" VF a.ke fd)(T:Txt P w K mg base a):T.fq j6 1 a.ke fd [ZZ] (Ih a):=by
 refine F.ok BV (λn A outer st H vs Q E r h=>?_)
 .obtain⟨B,x,dx,rfl,m,j,k⟩:=h;refine⟨_,(Qd (YC (pv 0) Q8 rfl)
   (Qf (YC (pv 0) Q8 rfl))),?_⟩
  intro L i;have ne1:x≠L:=Qb m i;refine⟨_,U,x,_,dx,_,U,(by rw[Qa ne1];exact m),T.zW,T.jm,by decide,?_⟩;intro R f;have g:(upd (upd H L (.dK [])) x (.ins a.jb dx (QI ZT (.ref L) []))) x=some (.ins a.jb dx (QI ZT (.ref L) [])):=Qc;have l:(upd (upd H L (.dK [])) x (.ins a.jb dx (QI ZT (.ref L) []))) L=some (.dK []):=by rw[Qa ne1.symm];exact Qc
  have ne2:x≠R:=Qb g f;have ne3:L≠R:=Qb l f;refine⟨_,U,x,_,dx,_,U,(by rw[Qa ne2];exact g),T.zW,T.jy,(by show 1<1000;decide),?_⟩;refine k _ ⟨dx,L,R,[],⟨Qc,?_,?_,ne3,by simp,by decide,by decide,λt v z=>(by cases z),λ_ _ _=>rfl,rfl,λ_ _ _ z=>(by cases z)⟩,qB _,qB _,⟨?_,?_,λt d z=>(by cases z)⟩,λc o e=>?_⟩
  .rw[Qa ne1.symm,Qa ne3,Qa ne1.symm];exact Qc
  .rw[Qa ne2.symm];exact Qc
  .cases q:B L with
   |none=>rfl
   |some o=>have:=(j L o q).1;rw[i] at this;cases this
  .cases q:B R with
   |none=>rfl
   |some o=>
    obtain⟨b,p⟩:=j R o q;rw[Qa p,Qa ne3.symm,b] at f;cases f
  .obtain⟨b,ne⟩:=j c o e;rw[Qa ne,Qa (Qb (by rw[Qa ne,Qa (Qb b i)];exact b) f),Qa ne,Qa (Qb b i)];exact b
def cc(F:AA K JB "Threads.add" V8 a.vf fd)(T:Txt P w K mg base a)(FF:Yz K a):T.fq j6 2 a.vf fd [ZZ,ZJ,Zq] (Sk a):=by
 obtain⟨fdC,jD,vu⟩:=FF.jD;have vv:=MK jD T;refine F.ok CY (λcdv A outer st H vs Q E hr h=>?_)
 .obtain⟨B,x,rows,n,nm,an,rfl,⟨dx,L,R,kr,f,hl1,hl2,C,sB⟩,hn40,G,k⟩:=h;have I:=Q5 hr;have xZ:QG 1 _:=hr;refine⟨_,(Qd (Qy (Qk vv xZ rfl T.uV jD.kp vu .nil Ql (zg (pv 1) (zg (Qm (pv 0) U) Qe))))
   (Qd (Yp I (Qm (pv 0) U) (pv 1) (pv 2) U)
   (Qf (QV (Qt BC (pv 2) Qq) (Qd (QV (UI (U8 I (pv 2) (Qm (pv 0) U))) (Qf (Yp I (Qm (pv 0) U) (pv 2) Q8 rfl)) QE)
   (Qf (Yp I (QA I (Qm (pv 0) U) (pv 2)) (pv 1) YW rfl))) QE)))),?_⟩
  have xL:x≠L:=λz=>by have J:=f.obj;rw[z,f.lk] at J;cases J
  have xR:x≠R:=λz=>by have J:=f.obj;rw[z,f.rp] at J;cases J
  refine⟨_,U,_,U,x,_,dx,_,_,U,f.obj,T.zW,T.jm,Ur L R,nm,L,_,U,f.lk,(by rw[Yx,G];rfl),?_⟩;refine⟨_,U,_,U,x,_,dx,_,_,U,f.obj,T.zW,T.jm,Ur L R,_,U,L,_,U,UJ.k (k:=Sum.inr nm) f.lk (by rw[QQ,qh];exact QD (by omega)),?_⟩;rw[IQ G];have S:Kp1 H (upd H L (.dK (QQ (rows++[(nm,an)])))):=Kp1.upd f.lk;have b:(upd H L (.dK (QQ (rows++[(nm,an)])))) x=some (.ins a.jb dx [(ZT,.ref L),(ZS,.ref R)]):=by rw[Qa xL];exact f.obj
  have i:(upd H L (.dK (QQ (rows++[(nm,an)])))) R=some (.dK kr):=by rw[Qa f.lr.symm];exact f.rp
  have j:(upd H L (.dK (QQ (rows++[(nm,an)])))) L=some (.dK (QQ (rows++[(nm,an)]))):=Qc;have g:∀t d,Qx kr (Sum.inr t)=some (.ref d)->(upd H L (.dK (QQ (rows++[(nm,an)])))) d=some (.dK (Qp (QP rows t)))/\d≠L/\d≠R:=λt d e=>by
   obtain⟨d',M,m,l,r⟩:=f.ug t _ e;cases M;exact⟨by rw[Qa l];exact m,l,r⟩
  have up1:∀c o,H c=some o->c≠L->(upd H L (.dK (QQ (rows++[(nm,an)])))) c=some o:=λc o e ne=>by rw[Qa ne];exact e
  generalize upd H L (.dK (QQ (rows++[(nm,an)])))=H1 at S b i j g up1;have y:Qj B H1:=λc o e=>up1 c o (sB c o e) (Qb e C.hL);have l:(rows++[(nm,an)]).length<=n+1:=by rw[qx,qO];omega
  refine⟨_,U,U,_,U,?_⟩;by_cases m:an=""
  .have e:decide (V.str an=V.str "")=true:=by rw[m];simp
   rw[e];exact QU (k H1 ⟨dx,L,R,kr,f.add G (by omega) b j i f.QcG (λt d _ e=>(g t d e).1) (λ_ _=>rfl) (λz=>absurd m z) (λ_=>rfl),l,by omega,C,y⟩ S)
  .have e:decide (V.str an=V.str "")=false:=by simp[m]
   rw[e];have N:¬nm∈QP rows an:=λz=>VD.mp G (Xc z);refine Ya ⟨_,U,_,U,x,_,dx,_,_,U,b,T.zW,T.jy,UC L R,R,_,U,Q3.k (k:=Sum.inr an) i,_,U,?_⟩
   cases s:Qx kr (Sum.inr an) with
   |none=>
    refine Ya ?_;intro p u;have X:x≠p:=Qb b u;have Lp:L≠p:=Qb j u;have Y:R≠p:=Qb i u;refine⟨_,U,x,_,dx,_,_,U,(by rw[Qa X];exact b),T.zW,T.jy,UC L R,_,U,R,_,U,UJ.k (k:=Sum.inr an) (by rw[Qa Y];exact i) (QD (by omega)),?_⟩;rw[Ke _ s];have vk:∀t,Qx (kr++[(Sum.inr an,V.ref p)]) (Sum.inr t)=if (Sum.inr t:Key)=Sum.inr an then some (V.ref p) else Qx kr (Sum.inr t):=λt=>AE _ _ _ _ s
    have D:Qx (kr++[(Sum.inr an,V.ref p)]) (Sum.inr an)=some (V.ref p):=by rw[vk,qG rfl]
    have O:∀t,t≠an->Qx (kr++[(Sum.inr an,V.ref p)]) (Sum.inr t)=Qx kr (Sum.inr t):=λt h=>by rw[vk,qC (λz=>h (jJ z))]
    have rp2:(upd (upd H1 p (.dK [])) R (.dK (kr++[(Sum.inr an,V.ref p)]))) R=some (.dK (kr++[(Sum.inr an,V.ref p)])):=Qc;have dp2:(upd (upd H1 p (.dK [])) R (.dK (kr++[(Sum.inr an,V.ref p)]))) p=some (.dK []):=by rw[Qa Y.symm];exact Qc
    refine⟨_,U,x,_,dx,_,_,U,(by rw[Qa xR,Qa X];exact b),T.zW,T.jy,UC L R,_,U,R,_,U,(by rw[<-D];exact Q3.k (k:=Sum.inr an) rp2),_,U,p,_,U,UJ.k (k:=Sum.inr nm) dp2 (by decide),?_⟩;have ek:Yc ([]:qa (Key×V)) (Sum.inr nm) (.bl true)=Qp [nm]:=rfl;rw[ek];refine k _ ⟨dx,L,R,_,f.add G (by omega) ?_ ?_ ?_ ?_ ?_ O ?_ ?_,l,?_,?_,?_⟩ ?_
    .rw[Qa X,Qa xR,Qa X];exact b
    .rw[Qa Lp,Qa f.lr,Qa Lp];exact j
    .rw[Qa Y];exact Qc
    .rw[qx,qO];omega
    .intro t d h e;obtain⟨r,q2,Z⟩:=g t d e;rw[Qa (Qb r u),Qa Z,Qa (Qb r u)];exact r
    .intro _;have er:QP rows an=[]:=f.nC an m s;refine⟨p,D,?_,Lp.symm,Y.symm,λt h e=>?_⟩
     .rw[Qc,er];rfl
     .obtain⟨r,_,_⟩:=g t p e;rw[u] at r;cases r
    .exact λz=>absurd z m
    .rw[qx,qO];omega
    .refine⟨C.hL,C.hR,λt d e=>?_⟩;by_cases h:t=an
     .rw[h,D] at e;cases e
      cases q:B p with
      |none=>rfl
      |some o=>have:=y p o q;rw[u] at this;cases this
     .rw[O t h] at e;exact C.hd t d e
    .intro c o e;have M:=y c o e;rw[Qa (Qb M u),Qa (Qb e C.hR),Qa (Qb M u)];exact M
    .refine S.trans λc o e nd=>?_;have M:c≠p:=Qb e u;have cR:c≠R:=λz=>by rw[z,i] at e;cases e;exact nd _ rfl
     rw[Qa M,Qa cR,Qa M];exact e
   |some v=>
    obtain⟨d,rfl,_,_,_⟩:=f.ug an v s;obtain⟨r,q2,Z⟩:=g an d s;refine QU ?_;have u:=Kc rows an;refine⟨_,U,x,_,dx,_,_,U,b,T.zW,T.jy,UC L R,_,U,R,_,U,(by rw[<-s];exact Q3.k (k:=Sum.inr an) i),_,U,d,_,U,UJ.k (k:=Sum.inr nm) r (by rw[Qp,qh];exact QD (by omega)),?_⟩;rw[Kd N];have xd:x≠d:=λz=>by rw[<-z,b] at r;cases r
    refine k _ ⟨dx,L,R,kr,f.add G (by omega) ?_ ?_ ?_ f.QcG ?_ (λ_ _=>rfl) ?_ (λ_=>rfl),l,by omega,C,λc o e=>by rw[Qa (Qb e (C.hd an d s))];exact y c o e⟩ (S.trans (Kp1.upd r))
    .rw[Qa xd];exact b
    .rw[Qa q2.symm];exact j
    .rw[Qa Z.symm];exact i
    .intro t d' h e;obtain⟨D,_,_⟩:=g t d' e;have:d'≠d:=λz=>h (f.inj t an d (by rw[<-z];exact e) s);rw[Qa this];exact D
    .intro _;refine⟨d,s,Qc,q2,Z,λt h e=>h (f.inj t an d e s)⟩
def Ta(F:zX K Zo "Threads.take_out" Uh a.yA fd)(T:Txt P w K mg base a)(J:Yz K a):T.fq j6 2 a.yA fd [ZZ,ZJ] (NI a):=by
 obtain⟨M,qP,zu⟩:=J.qP;have zv:=Uq qP T;refine F.ok V3 (λN A outer st H vs Q E G h=>?_)
 .obtain⟨B,x,rows,n,nm,rfl,C,hm,k⟩:=h;obtain⟨dx,L,R,kr,b,O,r,y,sB⟩:=id C;have S:=Q5 G;have zD:QG 1 _:=G;refine⟨_,(Qd (Qy (Qk zv zD rfl T.jl qP.kp zu .nil Ql (zg (pv 1) (zg (Qm (pv 0) U) Qe))))
   (Qd (Qr (i:=2) V3.nd (UL (Qm (pv 0) U) (pv 1) ⟨U,U,U,U⟩))
   (Qf (QV (Qt BC (pv 2) Qq) (Qf (Qy (UL (QA S (Qm (pv 0) U) (pv 2)) (pv 1) ⟨U,U,U,U⟩))) QE)))),?_⟩
  have xL:x≠L:=λz=>by have I:=b.obj;rw[z,b.lk] at I;cases I
  obtain⟨an,s⟩:=VC hm;have X:(without rows nm).length<=rows.length:=qW _ _;refine⟨_,U,_,U,x,_,dx,_,_,U,b.obj,T.zW,T.jm,Ur L R,nm,L,_,_,U,b.lk,(by rw[Yx,s];rfl),?_⟩;refine⟨_,U,x,_,dx,_,_,U,b.obj,T.zW,T.jm,Ur L R,L,U,.inl ⟨_,.inl b.lk⟩,_,U,_,Sum.inr nm,.str an,b.lk,U,(by rw[Yx,s];rfl),?_⟩;rw[K0];have D:Kp1 H (upd H L (.dK (QQ (without rows nm)))):=Kp1.upd b.lk;have f:(upd H L (.dK (QQ (without rows nm)))) x=some (.ins a.jb dx [(ZT,.ref L),(ZS,.ref R)]):=by rw[Qa xL];exact b.obj
  have j:(upd H L (.dK (QQ (without rows nm)))) R=some (.dK kr):=by rw[Qa b.lr.symm];exact b.rp
  have p:(upd H L (.dK (QQ (without rows nm)))) L=some (.dK (QQ (without rows nm))):=Qc;have g:∀t d,Qx kr (Sum.inr t)=some (.ref d)->(upd H L (.dK (QQ (without rows nm)))) d=some (.dK (Qp (QP rows t)))/\d≠L/\d≠R:=λt d e=>by
   obtain⟨d',m,q,l,u⟩:=b.ug t _ e;cases m;exact⟨by rw[Qa l];exact q,l,u⟩
  have q:Qj B (upd H L (.dK (QQ (without rows nm)))):=λc o e=>by rw[Qa (Qb e y.hL)];exact sB c o e
  generalize upd H L (.dK (QQ (without rows nm)))=H1 at D f j p g q;refine⟨_,U,U,_,U,?_⟩;by_cases l:an=""
  .have e:decide (V.str an=V.str "")=true:=by rw[l];simp
   rw[e];refine QU (k H1 ⟨dx,L,R,kr,b.take s f p j (λt d _ e=>(g t d e).1) (λd e=>?_),by omega,r,y,q⟩ D);rw[l,b.e_] at e;cases e
  .have e:decide (V.str an=V.str "")=false:=by simp[l]
   rw[e];have inr:=Hy s;obtain⟨v,m⟩:∃v,Qx kr (Sum.inr an)=some v:=by
    cases m:Qx kr (Sum.inr an) with
    |none=>
     have:=b.nC an l m;rw[this] at inr;cases inr
    |some v=>exact⟨v,U⟩
   obtain⟨d,rfl,_,_,_⟩:=b.ug an v m;obtain⟨u,Y,Z⟩:=g an d m;have xd:x≠d:=λz=>by rw[<-z,f] at u;cases u
   refine Ya ⟨_,U,x,_,dx,_,_,U,f,T.zW,T.jy,UC L R,_,U,R,_,U,(by rw[<-m];exact Q3.k (k:=Sum.inr an) j),d,U,.inl ⟨_,.inl u⟩,_,U,_,Sum.inr nm,.bl true,u,U,(by rw[Vc,qG inr]),?_⟩;rw[Wo];refine k _ ⟨dx,L,R,kr,b.take s ?_ ?_ ?_ ?_ ?_,by omega,r,y,λc o e=>by rw[Qa (Qb e (y.hd an d m))];exact q c o e⟩ (D.trans (Kp1.upd u))
   .rw[Qa xd];exact f
   .rw[Qa Y.symm];exact p
   .rw[Qa Z.symm];exact j
   .intro t d' h e;obtain⟨z1,_,_⟩:=g t d' e;have:d'≠d:=λz=>h (b.inj t an d (by rw[<-z];exact e) m);rw[Qa this];exact z1
   .intro d' e;rw[m] at e;cases e;exact Qc
inductive NP(a:yD)(vs:qa V)(H:Hp)(Q:VK)(E:XK):Prop
 |mk:∀x rows n,vs=[.ref x]->THs a H x rows n->(∀l H',H l=none->Qj H H'->H' l=some (.lst ((Qz (rows.map (·.1))).map V.str))->Q (.ref l) H')->NP a vs H Q E
inductive Iy(a:yD)(vs:qa V)(H:Hp)(Q:VK)(E:XK):Prop
 |mk:∀x rows n nm,vs=[.ref x,.str nm]->THs a H x rows n->nm≠""->(∀l H',H l=none->Qj H H'->H' l=some (.lst ((rN rows nm).map V.str))->Q (.ref l) H')->Iy a vs H Q E
inductive Ic(a:yD)(vs:qa V)(H:Hp)(Q:VK)(E:XK):Prop
 |mk:∀x rows n nm,vs=[.ref x,.str nm]->THs a H x rows n->NoE rows->nm∈rows.map (·.1)->(∀l H',H l=none->Qj H H'->H' l=some (.lst ((Yj rows nm).map V.str))->Q (.ref l) H')->Ic a vs H Q E
def I7(F:zX K Zl "Threads.names" Vj a.xu fd)(T:Txt P w K mg base a):T.fq j6 1 a.xu fd [ZZ] (NP a):=by
 refine F.ok AM (λe A outer st H vs Q E f h=>?_)
 .obtain⟨x,rows,n,rfl,⟨dx,L,R,kr,b,_,_⟩,k⟩:=h;have c:=b.few;refine⟨_,(Qf (Qw (QC (Yd rfl) rfl T.jR boot_sorted (zg (Qm (pv 0) U) Qe)))),?_⟩;refine⟨_,U,x,_,dx,_,_,U,b.obj,T.zW,T.jm,Ur L R,L,QQ rows,rows.map (·.1),U,b.lk,?_,by rw[qh];omega,λl d=>k l _ d (Qj.zi d) Qc⟩;unfold QQ;rw[qT,qT];rfl
def PQ(F:zX K ZZh "Threads.beside" UQ a.yV fd)(T:Txt P w K mg base a):T.fq j6 1 a.yV fd [ZZ,ZJ] (Iy a):=by
 refine F.ok Vg (λt A outer st H vs Q E u h=>?_)
 .obtain⟨x,rows,n,nm,rfl,⟨dx,L,R,kr,b,_,_⟩,m,k⟩:=h;have q:=Q5 u;have r:=b.few;have y:=Kc rows nm;refine⟨_,(Qd (Qr (i:=2) Vg.nd (Uc (Ku rfl) rfl T.Qbf boot_list (zg (Vo q (Qm (pv 0) U) (pv 1) Q8 ⟨U,U,U,U⟩) Qe)))
   (Qd (Qr (i:=3) Vg.nd (Vo q (Qm (pv 0) U) (pv 1) Qq ⟨U,U,U,U⟩))
   (Qd (QV (Qt BC (pv 3) Qq) (Qf (Qy (Vs plainAttrs_list zR zS YS (pv 2) (zg (pv 3) Qe)))) QE)
   (Qf (Qw (pv 2)))))),?_⟩
  refine⟨_,U,x,_,dx,_,_,U,b.obj,T.zW,T.jy,UC L R,R,U,.inl ⟨kr,.inl b.rp⟩,_,U,λp z=>?_⟩;have s1:Qj H (upd H p (.dK [])):=Qj.zi z;refine⟨_,Q3.k (k:=Sum.inr nm) (s1 _ _ b.rp),?_⟩;have fin:∀(l:qc)(g:Hp),H l=none->Qj H g->g l=some (.lst ((QP rows nm).map V.str)) ->
   ∃v,Qx (QQ rows) (Sum.inr nm)=v:=λ_ _ _ _ _=>⟨_,U⟩
  have hd:∃(d:qc),(match Qx kr (Sum.inr nm) with|some v=>v|none=>V.ref p)=V.ref d/\(upd H p (.dK [])) d=some (.dK (Qp (QP rows nm))):=by
   cases c:Qx kr (Sum.inr nm) with
   |none=>exact⟨p,U,by rw[Qc,b.nC nm m c];rfl⟩
   |some v=>
    obtain⟨d,rfl,hd,_⟩:=b.ug nm v c;exact⟨d,U,s1 _ _ hd⟩
  obtain⟨d,s,o⟩:=hd;refine⟨d,Qp (QP rows nm),by first|(rw[<-s];cases Qx kr (Sum.inr nm)<;>rfl)|(rw[<-s]),o,λl B=>?_⟩;have C:(Qp (QP rows nm)).map (λD=>kV D.1)=(QP rows nm).map V.str:=by unfold Qp;rw[qT];rfl
  rw[C];have nl:H l=none:=s1.free B;have s2:Qj H (upd (upd H p (.dK [])) l (.lst ((QP rows nm).map V.str))):=s1.z6 nl;have j:(upd (upd H p (.dK [])) l (.lst ((QP rows nm).map V.str))) l=some (.lst ((QP rows nm).map V.str)):=Qc;generalize upd (upd H p (.dK [])) l (.lst ((QP rows nm).map V.str))=g at s2 j;refine⟨_,U,x,_,dx,_,_,U,s2 _ _ b.obj,T.zW,T.jm,Ur L R,L,U,.inl ⟨_,.inl (s2 _ _ b.lk)⟩,_,U,_,Q3.k (k:=Sum.inr nm) (s2 _ _ b.lk),?_⟩;rw[Yx]
  cases f:up rows nm with
  |none=>
   refine⟨_,U,U,_,U,QU ⟨_,U,k l g nl s2 ?_⟩⟩;rw[j,rN,upL,f];simp
  |some an=>
   refine⟨_,U,U,_,U,?_⟩;by_cases c:an=""
   .have e:decide (V.str an=V.str "")=true:=by rw[c];simp
    show(if (!decide (V.str an=V.str ""))=true then _ else _);rw[e];refine QU ⟨_,U,k l g nl s2 ?_⟩;rw[j,rN,upL,f];simp[c]
   .have e:decide (V.str an=V.str "")=false:=by simp[c]
    show(if (!decide (V.str an=V.str ""))=true then _ else _);rw[e];refine Ya ⟨_,U,.inl ⟨U,_,zQ.of j⟩,_,U,l,_,_,U,U,j,(by rw[qh];exact QD (by omega)),?_⟩;refine⟨_,U,k l _ nl (s2.z6 nl) ?_⟩;rw[Qc,rN,upL,f];simp[c]
def Fq{n here:qb}{seen rc a:qe}(d:Ky rows n here seen rc a)(b:n∈rows.map (·.1)):rc.length<=2*rows.length:=by
 have:=YM d.nd λm hm=>II b (d.sound m hm);unfold dZ at this;rw[qx,qh,qh] at this;omega
def Pz(F:zX K ZZi "Threads.thread" Y7 a.yU fd)(T:Txt P w K mg base a)(FF:Yz K a):T.fq j6 2 a.yU fd [ZZ,ZJ] (Ic a):=by
 obtain⟨fdC,qP,zu⟩:=FF.qP;obtain⟨fdB,F_b,nN⟩:=FF.oD;have zv:=Uq qP T;have om:=PQ F_b T;refine F.ok YK (λcdv A outer st H vs Q E hr h=>?_)
 .obtain⟨x,rows,n,nm,rfl,M,O,hm,k⟩:=h;obtain⟨dx,L,R,kr,s,hl1,hl2⟩:=id M;have hfew:=s.few;have hu:=Q5 hr;have zD:QG 1 _:=hr;have mE:QG 1 _:=hr;have nm0:nm≠"":=O nm hm;refine⟨_,(Qd (Qy (Qk zv zD rfl T.jl qP.kp zu .nil Ql (zg (pv 1) (zg (Qm (pv 0) U) Qe))))
   (Qd (Qr (i:=2) YK.nd (Ou (Xe (pv 1) YW Oo) rfl rfl (by simp) (by decide)))
   (Qd (Qr (i:=3) YK.nd (KN (Qh (pv 1) Qu)))
   (Qd (C4 zx (C3 (pv 3) (λ_=>rfl)) (Qd (Qr (i:=4) YK.nd (C8 plainAttrs_list slot_list_pop type_list_pop fU (pv 3)))
     (Qf (Ud zx rfl (YD (QN (pv 0) T.zW T.nY om mE nN .nil Ql (zg (pv 4) Qe))) (Ye (i:=5) YK.nd) (Qf (QV (UI (U8 hu (pv 5) (pv 2))) (Qd (Yp hu (pv 2) (pv 5) YW rfl) (Qf (Qy (Vs plainAttrs_list zR zS YS (pv 3) (zg (pv 5) Qe))))) QE))))))
   (Qf (KI (Qw (QC VZ rfl T.jR boot_sorted (zg (VO (sc:=Qg Y7) (N:=Xi) (fr:=[(0,ZZ)]) (cs_ rfl rfl) rfl rfl rfl (bQ (pv 2)) (λ_ _ _ _=>We (UI (Kh hu (pv 0) (Ha K (pv 1) U)))) (λ_ _ _ _=>(pv 0))) Qe))))))))),?_⟩
  obtain⟨an,eu⟩:=VC hm;refine⟨_,U,_,U,x,_,dx,_,_,U,s.obj,T.zW,T.jm,Ur L R,nm,L,_,_,U,s.lk,(by rw[Yx,eu];rfl),?_⟩;intro p I;refine⟨_,U,Qc,[(Sum.inr nm,.bl true)],U,(by show 1<=15;decide),?_⟩;have ek:W2 [] [(Sum.inr nm,V.bl true)]=Qp [nm]:=rfl;rw[ek,Kz];have s1:Qj H (upd H p (.dK (Qp [nm]))):=Qj.zi I;have p1:(upd H p (.dK (Qp [nm]))) p=some (.dK (Qp [nm])):=Qc;show YY _ _ _ _ (upd H p (.dK (Qp [nm])));generalize upd H p (.dK (Qp [nm]))=H1 at s1 p1;refine⟨_,U,RN,λq hq=>?_⟩;have qn:H q=none:=s1.free hq;have pq:p≠q:=Qb p1 hq;have s2:Qj H (upd H1 q (.lst [.str nm])):=s1.z6 qn;have p2:(upd H1 q (.lst [.str nm])) p=some (.dK (Qp [nm])):=by rw[Qa pq];exact p1
  have q2:(upd H1 q (.lst [.str nm])) q=some (.lst ([nm].map V.str)):=Qc;show YY _ _ _ _ (upd H1 q (.lst [.str nm]));generalize upd H1 q (.lst [.str nm])=H2 at s2 p2 q2;refine⟨λm σ g=>∃(rc u:qe)(o4 o5:Option V),m=2*(2*rows.length-rc.length)+u.length/\m<=200/\σ=[some (.ref x),some (.str nm),some (.ref p),some (.ref q),o4,o5]/\Qj H g/\g p=some (.dK (Qp rc))/\g q=some (.lst (u.map V.str))/\DFS rows nm rc u,
   ⟨_,[nm],[nm],none,none,U,by show 2*(2*rows.length-1)+1<=200;omega,U,s2,p2,q2,DFS.init⟩,?_⟩
  rintro m σ g ⟨rc,u,o4,o5,rfl,C,rfl,s3,p3,q3,d⟩;have dl:=d.len hm;refine⟨_,U,!(u.map V.str).isEmpty,.inl ⟨_,zQ.of q3,U⟩,?_⟩;by_cases hw:u=[]
  .subst hw;refine QU ?_;refine⟨p,Qp rc,p3,λb=>?_⟩;have S:x≠p:=Qb s.obj I;have X:L≠p:=Qb s.lk I;have c:(upd g p (.jG b (.dK (Qp rc)))) x=some (.ins a.jb dx [(ZT,.ref L),(ZS,.ref R)]):=by rw[Qa S];exact s3 _ _ s.obj
   have j:(upd g p (.jG b (.dK (Qp rc)))) L=some (.dK (QQ rows)):=by rw[Qa X];exact s3 _ _ s.lk
   have s4:Qj H (upd g p (.jG b (.dK (Qp rc)))):=s3.z6 I;have B:(upd g p (.jG b (.dK (Qp rc)))) p=some (.jG b (.dK (Qp rc))):=Qc;generalize upd g p (.jG b (.dK (Qp rc)))=H4 at c j s4 B;refine⟨_,U,p,b,Qp rc,U,B,Kt (xs:=rc) V.str (λy=>decide (y∈rows.map (·.1))) V.str (Q6 ((by omega))) B (by unfold Qp;rw[qT];rfl) ?_ ?_ ?_⟩
   .intro y H5 Q' hy s5 f;refine⟨_,U,_,U,x,_,dx,_,_,U,s5 _ _ c,T.zW,T.jm,Ur L R,L,_,U,Q3.k (k:=Sum.inr y) (s5 _ _ j),_,U,?_⟩;rw[Yx]
    cases e:up rows y with
    |none=>
     rw[qE (VD.mp e)] at f;exact f
    |some z=>
     rw[qt (qj.mpr ⟨_,WV e,U⟩)] at f;exact f
   .intro y H5 Q' hy s5 _ f;exact⟨_,U,f⟩
   .intro D J;have f:=YM (d.nd.filter (λy=>decide (y∈rows.map (·.1)))) (l:=rows.map (·.1)) λm hm=>ql (qo.mp hm).2;rw[qh] at f;refine⟨D,_,U,zQ.of Qc,by omega,λl r=>?_⟩;have Y:p≠D:=Qb B J;have G:(upd H4 D (.lst ((rc.filter λy=>decide (y∈rows.map (·.1))).map V.str))) p=some (.jG b (.dK (Qp rc))):=by rw[Qa Y];exact B
    have s5:Qj H (upd H4 D (.lst ((rc.filter λy=>decide (y∈rows.map (·.1))).map V.str))):=s4.z6 (s4.free J);generalize upd H4 D (.lst ((rc.filter λy=>decide (y∈rows.map (·.1))).map V.str))=H5 at r G s5;have pl:p≠l:=Qb G r;have nl:H l=none:=s5.free r;refine⟨by rw[Qa pl];exact G,?_⟩;refine k l _ nl ((s5.z6 nl).z6 I) ?_;rw[Qa pl.symm,Qc,d.done s.nd]
  .obtain⟨c,here,rfl⟩:∃c here,u=c++[here]:=⟨u.dropLast,u.getLast hw,(List.dropLast_concat_getLast hw).symm⟩;have hk:(!((c++[here]).map V.str).isEmpty)=true:=by simp
   rw[hk];rw[qx,qO] at C;refine Ya ⟨_,λσ' H' z=>z,?_⟩;refine⟨_,U,.inl ⟨U,_,zQ.of q3⟩,q,_,.str here,U,U,q3,by simp,?_⟩;have edl:((c++[here]).map V.str).dropLast=c.map V.str:=by simp
   rw[edl];have s4:Qj H (upd g q (.lst (c.map V.str))):=s3.z6 qn;have B:(upd g q (.lst (c.map V.str))) p=some (.dK (Qp rc)):=by rw[Qa pq];exact p3
   have q4:(upd g q (.lst (c.map V.str))) q=some (.lst (c.map V.str)):=Qc;generalize upd g q (.lst (c.map V.str))=H4 at s4 B q4⊢;have S:=M.kp2 s4.kp2;have hh:here∈rc:=d.sub here (by simp);have h0:here≠"":=(d.sound here hh).ne O nm0;refine⟨_,U,x,dx,_,U,s4 _ _ s.obj,U,_,U,x,rows,n,here,U,S,h0,λl H5 nl s5 el=>?_⟩;have lp:l≠p:=(Qb B nl).symm;have lq:l≠q:=(Qb q4 nl).symm;refine⟨l,U,⟨_,zQ.of el⟩,YN (K:=K) (a:=l) (xs:=(rN rows here).map V.str) (λi σ j=>Ex3 λ(b f:qe)(o:Option V)=>gK (σ=[some (.ref x),some (.str nm),some (.ref p),some (.ref q),some (.str here),o]) (Qj H j) (j p=some (.dK (Qp b))) (j q=some (.lst (f.map V.str))) (j l=some (.lst ((rN rows here).map V.str))) (Ky rows nm here ((rN rows here).take i) b f) (2*(2*rows.length-b.length)+f.length<=2*(2*rows.length-rc.length)+c.length))
    ⟨rc,c,o5,U,s4.trans s5,s5 _ _ B,s5 _ _ q4,el,by simpa using d.pop,qB _⟩ ?_ ?_ ?_⟩
   .rintro i σ j _ ⟨b,f,o,rfl,X,J,Y,Z,G,m6⟩;exact zQ.of Z
   .rintro i v σ j hv ⟨b,f,o,rfl,X,J,Y,Z,G,m6⟩;obtain⟨y,hy,rfl⟩:∃y,(rN rows here)[i]?=some y/\V.str y=v:=by
     rw[qQ] at hv
     cases e:(rN rows here)[i]? with
     |none=>rw[e] at hv;cases hv
     |some t=>rw[e] at hv;exact⟨t,U,qN hv⟩
    have et:(rN rows here).take (i+1)=(rN rows here).take i++[y]:=by rw[zo,hy];rfl
    have ym:y∈rN rows here:=qL hy;have l6':=Fq G hm;refine⟨_,U,_,U,p,_,U,Q3.k (k:=Sum.inr y) J,_,U,?_⟩;rw[Vc];by_cases r:y∈b
    .rw[qG r];refine QU ⟨b,f,_,U,X,J,Y,Z,?_,m6⟩;rw[et];exact G.old r
    .rw[qC r];refine Ya ⟨_,U,_,U,p,_,U,UJ.k (k:=Sum.inr y) J (by rw[Qp,qh];exact QD (by omega)),?_⟩;rw[Kd r];have d7:=G.new r ym;have l7:=Fq d7 hm;rw[qx,qO] at l7;have s7:Qj H (upd j p (.dK (Qp (b++[y])))):=X.z6 I;have q7:(upd j p (.dK (Qp (b++[y])))) q=some (.lst (f.map V.str)):=by rw[Qa pq.symm];exact Y
     have p7:(upd j p (.dK (Qp (b++[y])))) p=some (.dK (Qp (b++[y]))):=Qc;have l7':(upd j p (.dK (Qp (b++[y])))) l=some (.lst ((rN rows here).map V.str)):=by rw[Qa lp];exact Z
     generalize upd j p (.dK (Qp (b++[y])))=H7 at s7 q7 p7 l7';refine⟨_,U,.inl ⟨U,_,zQ.of q7⟩,_,U,q,_,_,U,U,q7,(by rw[qh];exact QD (by omega)),?_⟩;refine⟨b++[y],f++[y],_,U,s7.z6 qn,by rw[Qa pq];exact p7,by rw[Qc,qI];rfl,by rw[Qa lq];exact l7',?_,?_⟩
     .rw[et];exact d7
     .rw[qx,qx,qO];omega
   .rintro σ j ⟨b,f,o,rfl,X,J,Y,Z,G,m6⟩;rw[qh,jw] at G;refine⟨_,?_,b,f,_,_,U,by omega,U,X,J,Y,G.out⟩;rw[qx,qO];omega
def Xq(H:Hp)(l:qc)(ls:qa (qc×qe)):Prop:=H l=some (.lst (ls.map λp=>V.ref p.1))/\∀p∈ls,H p.1=some (.lst (p.2.map V.str))
inductive EC(a:yD)(vs:qa V)(H:Hp)(Q:VK)(E:XK):Prop
 |mk:∀x rows n,vs=[.ref x]->THs a H x rows n->NoE rows->(∀l H' ls,H l=none->Qj H H'->(∀p∈ls,H p.1=none/\p.1≠l)->ls.map (·.2)=Ve rows (Qz (rows.map (·.1)))->Xq H' l ls->Q (.ref l) H')->EC a vs H Q E
def MI(F:zX K ZZZ "Threads.threads" Uv a.yL fd)(T:Txt P w K mg base a)(FF:Yz K a):T.fq j6 3 a.yL fd [ZZ] (EC a):=by
 obtain⟨fdN,F_n,vC⟩:=FF.uK;obtain⟨fdT,F_t,nM⟩:=FF.oC;have vE:=I7 F_n T;have oj:=Pz F_t T FF;refine F.ok Ys (λcdv A outer st H vs Q E hr h=>?_)
 .obtain⟨x,rows,n,rfl,I,hne,k⟩:=h;obtain⟨dx,L,R,kr,th,hl1,hl2⟩:=id I;have hfew:=th.few;have hu:=Q5 hr;have nG:QG 1 _:=hr.mono;have mD:QG 2 _:=hr;refine⟨_,(Qd (Qr (i:=1) Ys.nd (KN Qu))
   (Qd (Qr (i:=2) Ys.nd Q8)
   (Qd (Ud zx rfl (YD (Y9 (pv 0) T.zW T.uI vE nG vC .nil Ql)) (Ye (i:=3) Ys.nd) (Qf (QV (UI (U8 hu (pv 3) (pv 2))) (Qd (Qr (i:=4) Ys.nd (QN (pv 0) T.zW T.nX oj mD nM .nil Ql (zg (pv 3) Qe)))
   (Qd (Qy (Vs plainAttrs_list zR zS YS (pv 1) (zg (pv 4) Qe)))
   (Qf (Ud zx rfl (YD (pv 4)) (Ye (i:=5) Ys.nd) (Qf (Yp hu (pv 2) (pv 5) YW rfl)))))) QE)))
   (Qf (Qw (pv 1)))))),?_⟩
  refine⟨dR,λq hq=>?_⟩;have s1:Qj H (upd H q (.lst [])):=Qj.zi hq;have q1:(upd H q (.lst [])) q=some (.lst []):=Qc;show YY _ _ _ _ (upd H q (.lst []));generalize upd H q (.lst [])=H1 at s1 q1;intro p hp;have pn:H p=none:=s1.free hp;have qp:q≠p:=Qb q1 hp;have s2:Qj H (upd H1 p (.dK [])):=s1.z6 pn;have q2:(upd H1 p (.dK [])) q=some (.lst []):=by rw[Qa qp];exact q1
  have p2:(upd H1 p (.dK [])) p=some (.dK (Qp [])):=Qc;show YY _ _ _ _ (upd H1 p (.dK []));generalize upd H1 p (.dK [])=H2 at s2 q2 p2;have hth2:=I.kp2 s2.kp2;refine⟨_,U,x,dx,_,U,s2 _ _ th.obj,U,x,rows,n,U,hth2,λl H3 nl s3 el=>?_⟩;generalize J:Qz (rows.map (·.1))=ns at el;have nsm:∀m∈ns,m∈rows.map (·.1):=λm hm=>by rw[<-J] at hm;exact Yl.mp hm
  have nsl:ns.length<=40:=by rw[<-J,Uu,qh];exact hfew
  have lq:l≠q:=(Qb q2 nl).symm;have lp:l≠p:=(Qb p2 nl).symm;refine⟨l,U,⟨_,zQ.of el⟩,YN (K:=K) (a:=l) (xs:=ns.map V.str) (λi σ C=>Ex5 λ(ls:qa (qc×qe))(mt:qe)(o3 o4 o5:Option V)=>gJ (σ=[some (.ref x),some (.ref q),some (.ref p),o3,o4,o5]) (Qj H C) (Xq C q ls) ((∀z∈ls,H z.1=none/\z.1≠q/\z.1≠p)) (ls.map (·.2)=Ve rows (ns.take i)) (C p=some (.dK (Qp mt))) (mt.Nodup) ((∀m,m∈mt↔∃t∈Ve rows (ns.take i),m∈t)) (C l=some (.lst (ns.map V.str))))
   ⟨[],[],none,none,none,U,s2.trans s3,⟨s3 _ _ q2,nofun⟩,nofun,U,s3 _ _ p2,List.Pairwise.nil,λm=>⟨nofun,λ⟨t,z,_⟩=>nomatch z⟩,el⟩ ?_ ?_ ?_⟩
  .rintro i σ C _ ⟨ls,mt,o3,o4,o5,rfl,s4,M,hz,N,Z,B,D,l4⟩;exact zQ.of l4
  .rintro i v σ C g ⟨ls,mt,o3,o4,o5,rfl,s4,M,hz,N,Z,B,D,l4⟩;obtain⟨nm,hy,rfl⟩:∃y,ns[i]?=some y/\V.str y=v:=by
    rw[qQ] at g
    cases e:ns[i]? with
    |none=>rw[e] at g;cases g
    |some t=>rw[e] at g;exact⟨t,U,qN g⟩
   have et:ns.take (i+1)=ns.take i++[nm]:=by rw[zo,hy];rfl
   have hnm:nm∈rows.map (·.1):=nsm nm (qL hy);have hpre:∀m∈ns.take i,m∈rows.map (·.1):=λm hm=>nsm m (uS hm);have r:=bp th.nd hne hpre hnm;have hll:ls.length<=40:=by
    have:=zV List.length N;rw[qh] at this;have O:=CB (rows:=rows) (ns.take i);rw[zb] at O;omega
   have S:∀m∈mt,m∈rows.map (·.1):=λm hm=>by
    obtain⟨t,b,S⟩:=(D m).mp hm;obtain⟨y,_,rfl⟩:=Gn _ b;exact(XE.mp S).1
   rw[et,HS];refine⟨_,U,_,U,p,_,U,Q3.k (k:=Sum.inr nm) Z,_,U,?_⟩;rw[Vc];by_cases s:nm∈mt
   .rw[qG s];refine QU ⟨ls,mt,_,_,_,U,s4,M,hz,?_,Z,B,?_,l4⟩
    .unfold Ug;rw[qG (r.mp ((D nm).mp s))];exact N
    .unfold Ug;rw[qG (r.mp ((D nm).mp s))];exact D
   .rw[qC s];have G:¬Yj rows nm∈Ve rows (ns.take i):=λz=>s ((D nm).mpr (r.mpr z));have hth4:=I.kp2 s4.kp2;refine Ya ⟨_,U,x,dx,_,U,s4 _ _ th.obj,U,_,U,x,rows,n,nm,U,hth4,hne,hnm,λb H5 n5 s5 e5=>?_⟩;have l5q:b≠q:=(Qb M.1 n5).symm;have l5p:b≠p:=(Qb Z n5).symm;have l5l:b≠l:=(Qb l4 n5).symm;have q5:=s5 _ _ M.1;refine⟨_,U,.inl ⟨U,_,zQ.of q5⟩,_,U,q,_,_,U,U,q5,(by rw[qh];exact QD (by omega)),?_⟩;have eL:(ls.map λp=>V.ref p.1)++[V.ref b]=(ls++[((b,Yj rows nm):qc×qe)]).map λp=>V.ref p.1:=by rw[qI];rfl
    rw[eL];have qn:H q=none:=hq;have s6:Qj H (upd H5 q (.lst ((ls++[((b,Yj rows nm):qc×qe)]).map λp=>V.ref p.1))):=(s4.trans s5).z6 qn;have X:Xq (upd H5 q (.lst ((ls++[((b,Yj rows nm):qc×qe)]).map λp=>V.ref p.1))) q (ls++[((b,Yj rows nm):qc×qe)]):=⟨Qc,λz c=>by
     rcases qr.mp c with y|y
     .rw[Qa (hz z y).2.1];exact s5 _ _ (M.2 z y)
     .rw[qk.mp y,Qa l5q];exact e5⟩
    have p6:(upd H5 q (.lst ((ls++[((b,Yj rows nm):qc×qe)]).map λp=>V.ref p.1))) p=some (.dK (Qp mt)):=by rw[Qa qp.symm];exact s5 _ _ Z
    have l6:(upd H5 q (.lst ((ls++[((b,Yj rows nm):qc×qe)]).map λp=>V.ref p.1))) l=some (.lst (ns.map V.str)):=by rw[Qa lq];exact s5 _ _ l4
    generalize upd H5 q (.lst ((ls++[((b,Yj rows nm):qc×qe)]).map λp=>V.ref p.1))=H6 at s6 X p6 l6;have e6:H6 b=some (.lst ((Yj rows nm).map V.str)):=X.2 (b,Yj rows nm) (qv _ qz);have hz6:∀z∈ls++[((b,Yj rows nm):qc×qe)],H z.1=none/\z.1≠q/\z.1≠p:=λz c=>by
     rcases qr.mp c with y|y
     .exact hz z y
     .rw[qk.mp y];exact⟨s4.free n5,l5q,l5p⟩
    refine⟨_,U,b,U,⟨_,zQ.of e6⟩,YN (K:=K) (a:=b) (xs:=(Yj rows nm).map V.str) (λj σ Y=>Ex2 λ(d:qe)(o:Option V)=>gK (σ=[some (.ref x),some (.ref q),some (.ref p),some (.str nm),some (.ref b),o]) (Qj H Y) (Xq Y q (ls++[((b,Yj rows nm):qc×qe)])) (Y p=some (.dK (Qp d))) (d.Nodup) ((∀m,m∈d↔m∈mt\/m∈(Yj rows nm).take j)) (Y l=some (.lst (ns.map V.str))))
     ⟨mt,_,U,s6,X,p6,B,λm=>by rw[vp];exact⟨.inl,λz=>z.elim id nofun⟩,l6⟩ ?_ ?_ ?_⟩
    .rintro j σ Y _ ⟨d,o,rfl,s7,f,p7,u,m7,l7⟩;exact zQ.of (f.2 (b,Yj rows nm) (qv _ qz))
    .rintro j v σ Y g ⟨d,o,rfl,s7,f,p7,u,m7,l7⟩;obtain⟨y,hy,rfl⟩:∃y,(Yj rows nm)[j]?=some y/\V.str y=v:=by
      rw[qQ] at g
      cases e:(Yj rows nm)[j]? with
      |none=>rw[e] at g;cases g
      |some t=>rw[e] at g;exact⟨t,U,qN g⟩
     have ej:(Yj rows nm).take (j+1)=(Yj rows nm).take j++[y]:=by rw[zo,hy];rfl
     have hl7:d.length<=40:=by
      have:=YM u (l:=rows.map (·.1)) λm hm=>by
       rcases (m7 m).mp hm with z|z
       .exact S m z
       .exact(XE.mp (uS z)).1
      rw[qh] at this;omega
     refine⟨_,U,_,U,p,_,U,UJ.k (k:=Sum.inr y) p7 (by rw[Qp,qh];exact QD (by omega)),?_⟩;rw[FY];refine⟨YH d y,_,U,s7.z6 pn,⟨by rw[Qa qp];exact f.1,λz c=>by rw[Qa (hz6 z c).2.2];exact f.2 z c⟩,Qc,HI u,λm=>?_,by rw[Qa lp];exact l7⟩;rw[Ck,m7,ej,qr,qk,or_assoc]
    .rintro σ Y ⟨d,o,rfl,s7,f,p7,u,m7,l7⟩;rw[qh,jw] at m7;refine⟨_,d,_,_,_,U,s7,f,hz6,?_,p7,u,λm=>?_,l7⟩
     .unfold Ug;rw[qC G,qI,N];rfl
     .unfold Ug;rw[qC G,m7,D];constructor
      .rintro(⟨t,h1,O⟩|h)
       .exact⟨t,qy _ h1,O⟩
       .exact⟨_,qv _ qz,h⟩
      .rintro⟨t,h1,O⟩;rcases qr.mp h1 with z|z
       .exact .inl ⟨t,z,O⟩
       .rw[qk.mp z] at O;exact .inr O
  .rintro σ C ⟨ls,mt,o3,o4,o5,rfl,s4,M,hz,N,Z,B,D,l4⟩;rw[qh,jw] at N;exact⟨_,U,k q C ls hq s4 (λz c=>⟨(hz z c).1,(hz z c).2.1⟩) (by rw[J];exact N) M⟩
def LX{lo:Int}{fr:qa (Nat×qb)}{j:TE}{H1:Hp}{Q:VK}(Pv:qc->Nat->qa V->Hp->Prop)(hz:n<=sizeLine)(h0:∀D,H1 D=none->Pv D 0 [] (upd H1 D (.lst [])))(hlen:∀D i ys H,Pv D i ys H->ys.length=i)
 (f:∀(D:qc)(i:Nat)(ys:qa V)(c:Hp)(Q':VK),i<n->H1 D=none->Pv D i ys c->c D=some (.lst ys)->(∀y d,d D=some (.lst ys)->Pv D (i+1) (ys++[y]) (upd d D (.lst (ys++[y])))->Q' y d)->j (some (.int (lo+i))::oS σ fr) c Q')
 (k:∀D ys a,H1 D=none->Pv D n ys a->a D=some (.lst ys)->Q (.ref D) a) :
 Yr (Itr lo n) fr Ew j σ H1 Q:=by
 unfold Yr;intro D g;refine⟨λi m ys a=>m=n-i/\i<=n/\Pv D i ys a/\a D=some (.lst ys),⟨n,by simp,q0 _,h0 D g,Qc⟩,?_⟩;rintro i m ys a ⟨rfl,q,p,h⟩;refine⟨h,?_⟩;by_cases b:i<n
 .refine .inr ⟨b,?_⟩;rintro v c ⟨rfl,rfl⟩;refine GJ (Ya ?_);refine f D i ys _ _ b g p h λy d l o=>⟨l,?_,n-(i+1),by omega,U,b,o,Qc⟩;rw[hlen D i ys _ p];omega
 .have e:i=n:=by omega
  subst e;exact .inl ⟨qB _,k D ys a g p h⟩
structure nW(K:Frag)(H:Hp)(st sc:qc)(ls:qa Int):Prop where
 at_:∃n c:Int,H st=some (.lst [.int n,.ref sc,.int c])/\0<=n/\n<2147483647
 sq:zQ K H sc (ls.map V.int)
def nW.of{ls:qa Int}(h:nW K H st sc ls)(s:Qj H H'):nW K H' st sc ls:=⟨let ⟨n,c,e,b⟩:=h.at_;⟨n,c,s _ _ e,b⟩,s.seq h.sq⟩
def hO{a:qc}{ls:qa Int}{n c:Int}(s:SX st H H')(e:H st=some (.lst [.int n,.ref a,.int c]))(h:zQ K H sc (ls.map V.int)):zQ K H' sc (ls.map V.int):=by
 rcases h with(h|⟨o,h⟩)|h
 .refine .inl (.inl (s _ _ (λz=>?_) h));rw[z,e] at h;have h:=HO.lst.inj (qN h)
  match ls,h with
  |_::_::_,h=>exact nomatch (qD (qD h).2).1
 .refine .inl (.inr ⟨o,s _ _ (λz=>?_) h⟩);rw[z,e] at h;cases h
 .exact .inr h
def nW.lst{ls:qa Int}(h:nW K H st sc ls):∃xs,H st=some (.lst xs):=let ⟨_,_,e,_⟩:=h.at_;⟨_,e⟩
inductive N3(K:Frag)(vs:qa V)(H:Hp)(Q:VK)(E:XK):Prop
 |mk:∀(sc:qc)(ls:qa Int),vs=[.ref sc]->zQ K H sc (ls.map V.int)->ls.length<=63->(∀st,H st=none->∀H',Qj H H'->nW K H' st sc ls->Q (.ref st) H')->N3 K vs H Q E
inductive Sd(K:Frag)(vs:qa V)(H:Hp)(Q:VK)(E:XK):Prop
 |mk:∀(st sc:qc)(ls:qa Int),vs=[.ref st]->nW K H st sc ls->ls.length<=63->(∀(r:Int) H',0<=r->r<33554432->SX st H H'->nW K H' st sc ls->Q (.int r) H')->Sd K vs H Q E
def Tw(F:zX K Z8 Z8 GS a.iY fd)(T:Txt P w K mg base a):T.fq j6 1 a.iY fd [ZE] (N3 K):=by
 refine F.ok Mx (λd A outer s H vs Q E e h=>?_)
 .obtain⟨sc,ls,rfl,c,f,k⟩:=h;refine⟨_,(Qf (Qw (KN (Qh (QM Ue (QC Yb rfl T.vt zT (zg (pv 0) Qe)) Qi) (Qh (pv 0) (Qh Qi Qu)))))),?_⟩;refine⟨_,U,sc,_,U,.inl c,_,_,U,U,_,U,Mj,λst b=>?_⟩;have s1:Qj H (upd H st (.lst [.int (((ls.map V.int).length:Nat)+7),.ref sc,.int 0])):=Qj.zi b;exact k st b _ s1 ⟨⟨_,_,Qc,by omega,by rw[qh];omega⟩,s1.seq c⟩
def Wf(F:zX K Jo Jo Ce a.mK fd)(T:Txt P w K mg base a):T.fq j6 1 a.mK fd [Za] (Sd K):=by
 refine F.ok AK (λt A outer s H vs Q E G h=>?_)
 .obtain⟨st,sc,ls,rfl,u,x,k⟩:=h;obtain⟨⟨n,c,e,I,J⟩,d⟩:=u;have y:(ls.map V.int).length<=63:=by rw[qh];exact x
  refine⟨_,(Qd (Qr (i:=1) AK.nd Qi)
   (Qd (QV (Qt S6 (QC Yb rfl T.vt zT (zg (Qv QT (pv 0) Qi) Qe)) Qi) (Qf (Qr (i:=1) AK.nd (Qv QT (Qv QT (pv 0) Qi) (QM Yo (Qv QT (pv 0) Qi) (QC Yb rfl T.vt zT (zg (Qv QT (pv 0) Qi) Qe)))))) QE)
   (Qd (Gs (QM Ue (Qv QT (pv 0) Qi) Qi) (A1 (pv 0) Qi Xa))
   (Qd (Gs (QM Yo (QM Ue (QM Ue (QM S4 (Qv QT (pv 0) Qi) Qi) (pv 1)) (Qv QT (pv 0) Qi)) Qi) (A1 (pv 0) Qi Xa))
   (Qf (Qw (QM bT (Qv QT (pv 0) Qi) Qi))))))),?_⟩
  refine Wr λB g=>?_;show B _ _;subst g;refine Wr λN C=>?_;have rest:∀cell:Int,N [some (.ref st),some (.int cell)] H:=λcell=>by
   subst C;refine⟨_,U,st,_,_,_,U,U,zQ.of e,U,_,_,U,U,?_⟩;refine⟨_,U,st,_,_,_,U,U,e,U,?_⟩;have f:(upd H st (.lst [.int n,.ref sc,.int (c+1)])) st=some (.lst [.int n,.ref sc,.int (c+1)]):=Qc;have p:SX st H (upd H st (.lst [.int n,.ref sc,.int (c+1)])):=λb o nb q=>by rw[Qa nb];exact q
   show YY _ _ _ _ (upd H st (.lst [.int n,.ref sc,.int (c+1)]));generalize upd H st (.lst [.int n,.ref sc,.int (c+1)])=H1 at f p;refine⟨_,U,st,_,_,_,U,U,zQ.of f,U,_,_,U,U,.inr ⟨by decide,by decide⟩,_,U,_,_,U,U,_,U,st,_,_,_,U,U,zQ.of f,U,_,_,U,U,_,_,U,U,D1,?_⟩;refine⟨_,U,st,_,_,_,U,U,f,U,?_⟩;have m0:=zt (n*48271+cell+(c+1)) (b:=2147483647) (by decide);have r:=zl (n*48271+cell+(c+1)) (b:=2147483647) (by decide);generalize (n*48271+cell+(c+1))%2147483647=m at m0 r;have j:(upd H1 st (.lst [.int m,.ref sc,.int (c+1)])) st=some (.lst [.int m,.ref sc,.int (c+1)]):=Qc;have l:SX st H (upd H1 st (.lst [.int m,.ref sc,.int (c+1)])):=λb o nb q=>by rw[Qa nb];exact p b o nb q
   show Wl.nx _ _ (upd H1 st (.lst [.int m,.ref sc,.int (c+1)]));generalize upd H1 st (.lst [.int m,.ref sc,.int (c+1)])=D at j l;exact⟨_,U,st,_,_,_,U,U,zQ.of j,U,_,_,U,U,⟨by decide,by decide⟩,k _ D (by omega) (by omega) l ⟨⟨_,_,j,m0,r⟩,hO l e d⟩⟩
  refine⟨_,U,st,_,_,_,U,U,zQ.of e,U,sc,_,U,.inl d,_,_,U,U,_,U,?_⟩;by_cases h0:0<(ls.map V.int).length
  .rw[qt (by omega)];obtain⟨v,j,f,_⟩:=cQ (xs:=ls.map V.int) c h0;obtain⟨z,_,rfl⟩:=qj.mp f;exact Ya ⟨_,U,st,_,_,_,U,U,zQ.of e,U,_,U,st,_,_,_,U,U,zQ.of e,U,_,U,st,_,_,_,U,U,zQ.of e,U,sc,_,U,.inl d,_,_,U,U,by omega,sc,_,_,_,U,U,d,j,rest z⟩
  .rw[qE (by omega)];exact QU (rest 0)
structure WIn(sg:qb)(m:Int)(x:qb):Prop where
 lo:1<=x.length
 hi:(x.length:Int)<=m
 in_:∀c∈x.cps.toList,c∈sg.cps.toList
inductive Sa(K:Frag)(vs:qa V)(H:Hp)(Q:VK)(E:XK):Prop
 |mk:∀(st sc:qc)(ls:qa Int)(sg:qb)(m:Int),vs=[.ref st,.str sg,.int m]->nW K H st sc ls->ls.length<=63->1<=m->m<=100->0<sg.cps.toList.length->sg.length<=1000->(∀x H',WIn sg m x->SX st H H'->nW K H' st sc ls->Q (.str x) H')->Sa K vs H Q E
def cH{m r:Int}(hm:1<=m)(a:0<=z)(c:z<4):∃y:Int,mv [V.int 1,V.int 2,V.int m,V.int (1+r%m)] z=some (.int y)/\1<=y/\(y<=m\/m<y):=by
 have h0:=zt r (b:=m) (by omega);obtain⟨n,rfl⟩:=jq a;have d:n<4:=Int.ofNat_lt.mp c
 match n,d with
 |0,_=>exact⟨1,U,by decide,by omega⟩
 |1,_=>exact⟨2,U,by decide,by omega⟩
 |2,_=>exact⟨m,U,hm,by omega⟩
 |3,_=>exact⟨1+r%m,U,by omega,by omega⟩
def ND{a:Hp}{D:qc}{xs:qa V}(h0:zQ K a sc xs)(b:a D=none)(h:zQ K H sc xs)(k:∀c o,c≠D->H c=some o->H' c=some o):zQ K H' sc xs:=by
 have go:sc≠D->zQ K H' sc xs:=λn=>by
  rcases h with(h|⟨o,h⟩)|h
  .exact .inl (.inl (k _ _ n h))
  .exact .inl (.inr ⟨o,k _ _ n h⟩)
  .exact .inr h
 rcases h0 with(h0|⟨o,h0⟩)|h0
 .exact go (Qb h0 b)
 .exact go (Qb h0 b)
 .exact .inr h0
def Oy(F:zX K Jp Jp GO a.mI fd)(T:Txt P w K mg base a)(FF:Yz K a):T.fq j6 2 a.mI fd [Za,Z5,ZZJ] (Sa K):=by
 obtain⟨fdN,zc,zF⟩:=FF.zc;have zG:=Wf zc T;refine F.ok AJ (λcdv A outer s H vs Q E hr h=>?_)
 .obtain⟨st,sc,ls,d,m,rfl,sa,L,m1,m100,hsg,x,k⟩:=h;have zO:QG 1 _:=hr;refine⟨_,(Qd (Qr (i:=3) AJ.nd (Qv QT (KN (Qh Qi (Qh Qi (Qh (pv 2) (Qh (QM Ue Qi (QM Yo (Qk zG zO rfl T.ja zc.kp zF .nil Ql (zg (pv 0) Qe)) (pv 2))) Qu))))) (QM Yo (Qk zG zO rfl T.ja zc.kp zF .nil Ql (zg (pv 0) Qe)) Qi)))
   (Qd (QV (Qt S6 (pv 3) (pv 2)) (Qf (Qr (i:=3) AJ.nd (pv 2))) QE)
   (Qf (Qw (Vs plainAttrs_str slot_str_join type_str_join Hs Qq (zg (VO (sc:=Qg GO) (N:=Li) (fr:=[(1,Z5),(0,Za)]) (cs_ rfl rfl) rfl rfl rfl (AZ rfl T.tI (zg (pv 3) Qe)) (λ_ _ _ _=>Ae) (λ_ _ _ _=>(Qv af (pv 1) (QM Yo (Qk zG zO rfl T.ja zc.kp zF .nil Ql (zg (pv 2) Qe)) (QC Wi rfl T.vt zT (zg (pv 1) Qe)))))) Qe)))))),?_⟩
  refine⟨_,U,_,U,st,sc,ls,U,sa,L,λu H1 r10 r11 x1 B=>⟨_,U,_,_,U,U,(by show 0<m;omega),_,_,U,U,ba,λl f=>?_⟩⟩;have s2:Qj H1 (upd H1 l (.lst [.int 1,.int 2,.int m,.int (1+u%m)])):=Qj.zi f;have e2:(upd H1 l (.lst [.int 1,.int 2,.int m,.int (1+u%m)])) l=some (.lst [.int 1,.int 2,.int m,.int (1+u%m)]):=Qc;have C:=B.of s2;have x2:SX st H (upd H1 l (.lst [.int 1,.int 2,.int m,.int (1+u%m)])):=x1.trans (SX.of s2);have lst:l≠st:=λz=>by obtain⟨_,q⟩:=B.lst;rw[z,q] at f;cases f
  generalize upd H1 l (.lst [.int 1,.int 2,.int m,.int (1+u%m)])=H2 at s2 e2 C x2;refine⟨_,U,st,sc,ls,U,C,L,λr3 M r30 r31 x3 g=>?_⟩;have z0:=zt r3 (b:=4) (by decide);have z1:=zl r3 (b:=4) (by decide);obtain⟨y,ey,y1,yc⟩:=cH (r:=u) m1 z0 z1;refine⟨_,_,U,U,bc,l,_,_,_,U,U,zQ.of (x3 _ _ lst e2),ey,?_⟩;have G:=x2.trans x3;dsimp only[BM];refine Wr λN hN=>?_;have rest:∀z:Int,1<=z->z<=m->N [some (.ref st),some (.str d),some (.int m),some (.int z)] M:=λz hz1 hz2=>by
   subst hN;refine⟨U,_,U,_,U,by omega,by omega,LX (n:=z.toNat) (λD i ys j=>∃ws:qe,ys=ws.map V.str/\ws.length=i/\(∀y∈ws,O8 d y)/\SX st H j/\nW K j st sc ls/\j D=some (.lst ys)) (Q6 ((by omega))) (λD p=>?_) (λD i ys j ⟨ws,e,J,_⟩=>by rw[e,qh,J]) ?_ ?_⟩
   .have t:Qj M (upd M D (.lst [])):=Qj.zi p;exact⟨[],U,U,nofun,G.trans (SX.of t),g.of t,Qc⟩
   .rintro D i ys j Q' hi p ⟨ws,rfl,J,hw,O,t,R⟩ S q;have I:D≠st:=λz=>by obtain⟨_,q⟩:=g.lst;rw[z,q] at p;cases p
    refine⟨_,U,_,U,st,sc,ls,U,t,L,λr8 H8 r80 r81 x8 X=>⟨_,U,d,U,Q6 (x),?_⟩⟩;have hlen:(d.length:Int)=(d.cps.toList.length:Int):=by simp[Str.length]
    obtain⟨c,hc,Y⟩:=Pu (z:=d) (i:=r8%(d.length:Int)) (zt _ (by omega)) (by rw[<-hlen];exact zl _ (by omega));refine⟨_,_,U,U,(by show 0<(d.length:Int);omega),d,_,c,U,U,Q6 (x),hc,?_⟩;have Z:=x8 _ _ I R;refine q _ H8 Z ⟨ws++[⟨#[c]⟩],by rw[qI];rfl,by rw[qx,qO,J],λy v=>?_,?_,?_,Qc⟩
    .rcases qr.mp v with z|z
     .exact hw y z
     .rw[qk.mp z];exact⟨c,Y,U⟩
    .intro b o nb e;have h8:=x8 _ _ nb (O _ _ nb e);rw[Qa (Qb (G _ _ nb e) p)];exact h8
    .obtain⟨⟨n,c,e,b⟩,hq⟩:=X;exact⟨⟨n,c,by rw[Qa I.symm];exact e,b⟩,ND g.sq p hq λc o nc e=>by rw[Qa nc];exact e⟩
   .rintro D ys j p ⟨ws,rfl,J,hw,O,t,R⟩ S;obtain⟨X,I⟩:=M4 hw;refine⟨"",D,ws,U,U,zQ.of R,DD (λy v=>(hw y v).len) (by omega),k _ j ⟨by omega,by omega,I⟩ O t⟩
  refine⟨_,U,_,U,_,_,U,U,_,U,?_⟩;by_cases v:m<y
  .rw[qt v];exact Ya ⟨_,U,rest m m1 (Int.le_refl _)⟩
  .rw[qE v];exact QU (rest y y1 (by omega))
abbrev Ent:=qe×Int×qb×V
def KW{s t:qe}(h:QW s=QW t):s=t:=List.map_inj_right (f:=Sum.inr) (λ_ _ z=>jJ z) |>.mp h
inductive QS(H:Hp):qa (qa Key×V)->qa Ent->Prop
 |nil:QS H [] []
 |cons {k:qe} {c:Int} {h:qb} {v:V} {p st:qc} {kvs:qa (qa Key×V)} {es:qa Ent} (e1:H p=some (.tup [.ref st,v])) (e2:H st=some (.tup [.int c,.str h])) (r:QS H kvs es):QS H ((QW k,.ref p)::kvs) ((k,c,h,v)::es)
def DJ(es:qa Ent)(k:qe):Bool:=es.any λx=>decide (x.1=k)
def Xd(es:qa Ent)(e:Ent):qa Ent:=if DJ es e.1=true then es.map (λx=>if x.1=e.1 then e else x) else es++[e]
def QJ(es:qa Ent)(k:qe):Option Ent:=es.find? λx=>decide (x.1=k)
def QS.mono{H H':Hp}(s:∀c xs,H c=some (.tup xs)->H' c=some (.tup xs)):∀{kvs:qa (qa Key×V)}{es:qa Ent},QS H kvs es->QS H' kvs es
 |_,_,.nil=>.nil
 |_,_,.cons a b r=>.cons (s _ _ a) (s _ _ b) (QS.mono s r)
def QS.len{H:Hp}:∀{kvs:qa (qa Key×V)}{es:qa Ent},QS H kvs es->kvs.length=es.length
 |_,_,.nil=>rfl
 |_,_,.cons _ _ r=>zV (·+1) (QS.len r)
def QS.keys{H:Hp}:∀{kvs:qa (qa Key×V)}{es:qa Ent},QS H kvs es->kvs.map (·.1)=(es.map (·.1)).map QW
 |_,_,.nil=>rfl
 |_,_,.cons _ _ r=>by rw[qU,qU,qU,QS.keys r]
def QS.any{H:Hp}{k:qe}:∀{kvs:qa (qa Key×V)}{es:qa Ent},QS H kvs es->(kvs.any λb=>decide (b.1=QW k))=DJ es k
 |_,_,.nil=>rfl
 |_,_,.cons (k:=a) _ _ r=>by
  unfold DJ;rw[kO,kO,QS.any r];have:decide (QW a=QW k)=decide (a=k):=by
   by_cases h:a=k
   .rw[qt h,qt (by rw[h])]
   .rw[qE h,qE λz=>h (KW z)]
  rw[this];rfl
def QS.app{H:Hp}{k:qe}{c:Int}{h:qb}{v:V}{p st:qc}(a:H p=some (.tup [.ref st,v]))(b:H st=some (.tup [.int c,.str h])):∀{kvs:qa (qa Key×V)}{es:qa Ent},QS H kvs es->QS H (kvs++[(QW k,.ref p)]) (es++[(k,c,h,v)])
 |_,_,.nil=>.cons a b .nil
 |_,_,.cons a1 a2 r=>.cons a1 a2 (QS.app a b r)
def QS.rep{H:Hp}{k:qe}{c:Int}{h:qb}{v:V}{p st:qc}(a:H p=some (.tup [.ref st,v]))(b:H st=some (.tup [.int c,.str h])):∀{kvs:qa (qa Key×V)}{es:qa Ent},QS H kvs es->QS H (kvs.map λd=>if d.1=QW k then (d.1,V.ref p) else d) (es.map λx=>if x.1=k then (k,c,h,v) else x)
 |_,_,.nil=>.nil
 |_,_,.cons (k:=e) a1 a2 r=>by
  rw[qU,qU];by_cases h:e=k
  .subst h;rw[qG rfl,qG rfl];exact .cons a b (QS.rep a b r)
  .rw[qC (λz=>h (KW z)),qC h];exact .cons a1 a2 (QS.rep a b r)
def QS.put{c:Int}{p:qc}{kvs:qa (qa Key×V)}(r:QS H kvs es)(a:H p=some (.tup [.ref st,v]))(b:H st=some (.tup [.int c,.str h])):QS H (Yc kvs (QW k) (.ref p)) (Xd es (k,c,h,v)):=by
 unfold Yc Xd;rw[r.any];split
 .exact r.rep a b
 .exact r.app a b
inductive Got(H:Hp):Option V->Option Ent->Prop
 |no:Got H none none
 |yes {e:Ent} {p st:qc} (e1:H p=some (.tup [.ref st,e.2.2.2])) (e2:H st=some (.tup [.int e.2.1,.str e.2.2.1])):Got H (some (.ref p)) (some e)
def QS.get{H:Hp}(k:qe):∀{kvs:qa (qa Key×V)}{es:qa Ent},QS H kvs es->Got H (Qx kvs (QW k)) (QJ es k)
 |_,_,.nil=>.no
 |_,_,.cons (k:=a) a1 a2 r=>by
  by_cases h:a=k
  .subst h;have e:∀x es,QJ ((a,x)::es) a=some (a,x):=λx es=>by unfold QJ;rw[wN (by simp)]
   rw[Yy rfl,e];exact .yes a1 a2
  .have e:∀x es,QJ ((a,x)::es) k=QJ es k:=λx es=>by unfold QJ;rw[wO (by simp[h])]
   rw[Yv (λz=>h (KW z)),e];exact QS.get k r
def sel(f:qe)(es:qa Ent):qa Ent:=es.filter λx=>decide (x.1.take 1=f)
def ax{f:qe}(h:k.take 1=f):DJ (sel f es) k=DJ es k:=by
 unfold DJ sel;rw[List.any_filter];congr 1;funext x;by_cases e:x.1=k
 .rw[qt e,e,h];simp
 .rw[qE e,Bool.and_false]
def GI{k f:qe}(h:k.take 1=f):∀es:qa Ent,QJ (sel f es) k=QJ es k
 |[]=>rfl
 |x::es=>by
  have a:=GI h es;unfold QJ sel at *
  by_cases e:x.1=k
  .rw[qM,qG (by rw[e];exact qt h),wN (by simp[e]),wN (by simp[e])]
  .rw[wO (by simp[e]) (l:=es),qM];split
   .rw[wO (by simp[e])];exact a
   .exact a
def bH{f:qe}(h:e.1.take 1=f):sel f (Xd es e)=Xd (sel f es) e:=by
 unfold Xd;rw[ax h];split
 .unfold sel;rw[ye];congr 1;apply kR;intro x _;show decide ((if x.1=e.1 then e else x).1.take 1=f)=decide (x.1.take 1=f);by_cases z:x.1=e.1
  .rw[qG z,z]
  .rw[qC z]
 .unfold sel;rw[q9,qM,qG (qt h),lx]
def Ph{f:qe}(h:e.1.take 1≠f):sel f (Xd es e)=sel f es:=by
 unfold Xd;split
 .unfold sel;rw[ye];have b:(es.filter ((λx:Ent=>decide (x.1.take 1=f))∘λx=>if x.1=e.1 then e else x))=es.filter λx=>decide (x.1.take 1=f):=by
   apply kR;intro x _;show decide ((if x.1=e.1 then e else x).1.take 1=f)=decide (x.1.take 1=f);by_cases z:x.1=e.1
   .rw[qG z,z]
   .rw[qC z]
  rw[b];refine(jU λx c=>?_).trans (List.map_id _);have a:=ql (qo.mp c).2;rw[qC (λz=>h (by rw[<-z];exact a))];rfl
 .unfold sel;rw[q9,qM,qC (by simp[h]),lx,zr]
def IT(es:qa Ent)(e:Ent):(Xd es e).length<=es.length+1/\es.length<=(Xd es e).length:=by
 unfold Xd;split
 .rw[qh];omega
 .rw[qx,qO];omega
def SI(h:QJ es e.1=none):Xd es e=es++[e]:=by
 have:DJ es e.1=false:=by
  unfold QJ at h;unfold DJ;rw[List.any_eq_false];intro x a;have:=QbL.mp h x a;exact this
 unfold Xd;rw[this];exact qC qH
structure Reg(a:yD)(H:Hp)(x dx D:qc)(kd:qa (qa Key×V))(es:qa Ent):Prop where
 obj:H x=some (.ins a.j5 dx [(JK,.ref D)])
 dr:H D=some (.dT kd)
 ug:∀f v,Qx kd (QW f)=some v->∃d kvs,v=.ref d/\d≠D/\H d=some (.dT kvs)/\QS H kvs (sel f es)
 nC:∀f,Qx kd (QW f)=none->sel f es=[]
 inj:∀f f' d,Qx kd (QW f)=some (.ref d)->Qx kd (QW f')=some (.ref d)->f=f'
 few:kd.length<=es.length
def FP(D:qc)(kd:qa (qa Key×V))(c:qc):Prop:=c=D\/∃f,Qx kd (QW f)=some (.ref c)
def Reg.fp{D:qc}(h:Reg a H x dx D kd es)(hc:FP D kd c):∃kvs,H c=some (.dT kvs):=by
 rcases hc with rfl|⟨f,e⟩
 .exact⟨_,h.dr⟩
 .obtain⟨d,kvs,b,_,g,_⟩:=h.ug f _ e;cases b;exact⟨_,g⟩
def Reg.frame{D:qc}(h:Reg a H x dx D kd es)(b:∀c o,H c=some o->(∀kvs,o≠.dT kvs)->(∀xs,o≠.lst xs)->H' c=some o)(k2:∀c o,H c=some o->FP D kd c->H' c=some o):Reg a H' x dx D kd es:=
 ⟨b _ _ h.obj nofun nofun,k2 _ _ h.dr (.inl rfl),λf v e=>let ⟨d,kvs,g,i,j,k⟩:=h.ug f v e;⟨d,kvs,g,i,k2 _ _ j (.inr ⟨f,by rw[e,g]⟩),k.mono λc xs z=>b _ _ z nofun nofun⟩,h.nC,h.inj,h.few⟩
def Reg.same{D:qc}(h:Reg a H x dx D kd es)(s:Qj H H'):Reg a H' x dx D kd es:=h.frame (λc o e _ _=>s _ _ e) λc o e _=>s _ _ e
def YG(es:qa Ent)(e:Ent):Bool:=match QJ es e.1 with
 |none=>true
 |some o=>!HT.pB e.2.1 e.2.2.1 o.2.1 o.2.2.1
def QX(es:qa Ent)(e:Ent):qa Ent:=if YG es e=true then Xd es e else es
inductive NK(a:yD)(vs:qa V)(H:Hp)(Q:VK)(E:XK):Prop
 |mk:∀(x dx:qc),vs=[.ref x]->H x=some (.ins a.j5 dx [])->(∀D H',H D=none->Reg a H' x dx D [] []->(∀c o,H c=some o->c≠x->H' c=some o)->Q .non H')->NK a vs H Q E
inductive Sf(a:yD)(vs:qa V)(H:Hp)(Q:VK)(E:XK):Prop
 |mk:∀(x dx D:qc)(kd:qa (qa Key×V))(es:qa Ent)(kp sp:qc)(k:qe)(c:Int)(h:qb)(v:V),vs=[.ref x,.ref kp,.ref sp,v]->Reg a H x dx D kd es->es.length<=900->k≠[]->H kp=some (.tup (k.map V.str))->H sp=some (.tup [.int c,.str h]) ->
  (∀kd' H',Reg a H' x dx D kd' (QX es (k,c,h,v))->(∀c o,H c=some o->¬FP D kd c->H' c=some o)->(∀c,FP D kd' c->FP D kd c\/H c=none)->Q (.bl (YG es (k,c,h,v))) H')->Sf a vs H Q E
inductive c8(a:yD)(vs:qa V)(H:Hp)(Q:VK)(E:XK):Prop
 |mk:∀(x dx D:qc)(kd:qa (qa Key×V))(es:qa Ent)(kp:qc)(k:qe)(v:V),vs=[.ref x,.ref kp,v]->Reg a H x dx D kd es->k≠[]->H kp=some (.tup (k.map V.str))->(∀H',Qj H H'->Q (((QJ es k).map (·.2.2.2)).getD v) H')->c8 a vs H Q E
inductive Io(a:yD)(vs:qa V)(H:Hp)(Q:VK)(E:XK):Prop
 |mk:∀(x dx D:qc)(kd:qa (qa Key×V))(es:qa Ent)(f:qb),vs=[.ref x,.str f]->Reg a H x dx D kd es->(∀e∈es,e.1≠[])->es.length<64->(∀l bs H',H l=none->Qj H H'->WC H' bs ((sel [f] es).map (·.1))->H' l=some (.lst ((Wy ((sel [f] es).map (·.1))).map λi=>(bs.map V.ref).getD i .non))->Q (.ref l) H')->Io a vs H Q E
def Eu(k:qe):Ca (k.map V.str) none (some 1)=(k.take 1).map V.str:=by
 unfold Ca;rw[show(1:Int)=((1:Nat):Int) from rfl,HT.Qal,HT.sZ,Qag,Nat.sub_zero,qh,<-List.map_take]
 cases k with
 |nil=>rfl
 |cons x k=>rw[qV,v5 (by omega)]
def Bz(h0:k≠[])(h:HT.xG (k.map V.str).length (k.map V.str).length (some 1)=(k.map V.str).length):k.map V.str=(k.take 1).map V.str:=by
 rw[show(1:Int)=((1:Nat):Int) from rfl,HT.sZ,qh] at h;rw[zh (by omega)]
def Aq(D:qc):List.lookup JK ([(JK,.ref D)]:qa (qb×V))=some (V.ref D):=by
 rw[jv,show((JK)==(JK))=true by decide +kernel]
def Ob(f:qe)(es:qa Ent):(sel f es).length<=es.length:=qW _ _
def Cz{H H':Hp}(s:Qj H H'):∀{bs:qa qc}{ts:qa (qe)},WC H bs ts->WC H' bs ts
 |_,_,.nil=>.nil
 |_,_,.cons e t0 r=>.cons (s _ _ e) t0 (Cz s r)
def Tc(F:zX K Zf "Registers.__init__" US a.yY fd)(T:Txt P w K mg base a):T.fq j6 1 a.yY fd [ZZ] (NK a):=by
 refine F.ok GX (λg A outer st H vs Q E i h=>?_)
 .obtain⟨x,dx,rfl,d,k⟩:=h;refine⟨_,(Qf (YC (pv 0) Kg rfl)),?_⟩;intro D b;have ne1:x≠D:=Qb d b;refine⟨_,U,x,_,dx,_,U,(by rw[Qa ne1];exact d),T.jC,T.jA,by decide,?_⟩;refine k D _ b ⟨Qc,?_,λf v z=>(by cases z),λf _=>rfl,λ_ _ _ z=>(by cases z),qB _⟩ λc o e ne=>?_
  .rw[Qa ne1.symm];exact Qc
  .rw[Qa ne,Qa (Qb e b)];exact e
def bY(F:zX K "keep" "Registers.keep" UR a.yX fd)(T:Txt P w K mg base a):T.fq j6 1 a.yX fd [ZZ,JY,"stamp","value"] (Sf a):=by
 refine F.ok Vh (λcdv A outer st H vs Q E hr h=>?_)
 .obtain⟨x,dx,D,kd,es,kp,sp,k,c,h,v,rfl,R,hl,hk0,hkp,hsp,kq⟩:=h;have hu:=Q5 hr;have hu0:=hr.Qcu;refine⟨_,(Qd (Qr (i:=4) Vh.nd (Xg N9 (pv 1) KL (KJ Qi)))
   (Qd (QV (UI (U8 hu (pv 4) (Qm (pv 0) U))) (Qf (Yp hu (Qm (pv 0) U) (pv 4) Kg rfl)) QE)
   (Qd (Qr (i:=5) Vh.nd (QA hu (Qm (pv 0) U) (pv 4)))
   (Qd (QV (PW.pt (Vx (UI (Kh hu (pv 1) (pv 5))) (U0 (Qt (fI hu0) (pv 2) (Qv QR (QA hu (pv 5) (pv 1)) Qi))))) (Qf (Qw YW)) QE)
   (Qd (Yp hu (pv 5) (pv 1) (Af (Qh (pv 2) (Qh (pv 3) Qu))) rfl)
   (Qf (Qw YW))))))),?_⟩
  refine Wr (t:=R8 _ _) λN hN=>?_;have rest:∀(fp:qc)(H1:Hp),Qj H H1->H1 fp=some (.tup ((k.take 1).map V.str))->N [some (.ref x),some (.ref kp),some (.ref sp),some v,some (.ref fp),none] H1:=λfp H1 s1 J=>by
   subst hN;have m:=R.same s1;have hkp1:=s1 _ _ hkp;have hsp1:=s1 _ _ hsp;have key:∀{G:Hp}{b:qc}{t:qe},G b=some (.tup (t.map V.str))->G b=some (.tup ((QW t).map kV)):=λe=>by rw[VW];exact e
   refine Wr (t:=bw _ _ _) λN2 hN2=>?_;have L:∀(l:qa (qa Key×V))(u:Hp)(d:qc)(kvs:qa (qa Key×V)),u D=some (.dT l)->Qx l (QW (k.take 1))=some (.ref d)->d≠D->u d=some (.dT kvs)->QS u kvs (sel (k.take 1) es)->(∀j,j≠k.take 1->Qx l (QW j)=Qx kd (QW j)) ->
    l.length<=es.length+1->(l.length<=es.length\/sel (k.take 1) es=[])->(∀c o,H1 c=some o->c≠D->u c=some o)->(FP D kd d\/H1 d=none)->(∀j,Qx kd (QW j)=some (.ref d)->j=k.take 1)->N2 [some (.ref x),some (.ref kp),some (.ref sp),some v,some (.ref fp),none] u:=λl u d kvs hD2 hv dD hd2 eo r hln hsl g hfresh M=>by
    subst hN2;have xD:x≠D:=Q2 m.obj m.dr nofun;have B:=g _ _ m.obj xD;have kD:kp≠D:=Q2 hkp1 m.dr nofun;have s:=g _ _ hkp1 kD;have hsp2:=g _ _ hsp1 (Q2 hsp1 m.dr nofun);have hfp2:=g _ _ J (Q2 J m.dr nofun);have vs0:=GI (k:=k) rfl es;have O:∀{G:Hp}{C:qa (qa Key×V)}{S:qa Ent},(∀c o,u c=some o->c≠d->G c=some o)->G d=some (.dT C)->QS G C (sel (k.take 1) S)->(∀j,j≠k.take 1->sel j S=sel j es)->l.length<=S.length->Reg a G x dx D l S:=λ{G C S} Y hd' eo' hs' hl'=>by
     have kt:∀c xs,H1 c=some (.tup xs)->G c=some (.tup xs):=λc xs e=>Y _ _ (g _ _ e (Q2 e m.dr nofun)) (λz=>by have:=g _ _ e (Q2 e m.dr nofun);rw[z,hd2] at this;cases this);refine⟨Y _ _ B (λz=>by rw[z,hd2] at B;cases B),Y _ _ hD2 dD.symm,λj v' y=>?_,λj y=>?_,λf1 f2 d' I X=>?_,hl'⟩
     .by_cases hf:j=k.take 1
      .subst hf;rw[hv] at y;cases y;exact⟨d,C,U,dD,hd',eo'⟩
      .rw[r j hf] at y;obtain⟨d',kv,rfl,q1,q2,q3⟩:=m.ug j _ y;have dd:d'≠d:=λz=>hf (M j (by rw[<-z];exact y));exact⟨d',kv,U,q1,Y _ _ (g _ _ q2 q1) dd,by rw[hs' j hf];exact q3.mono kt⟩
     .have hf:j≠k.take 1:=λz=>by rw[z,hv] at y;cases y
      rw[r j hf] at y;rw[hs' j hf];exact m.nC j y
     .by_cases h1:f1=k.take 1
      .by_cases Z:f2=k.take 1
       .rw[h1,Z]
       .rw[h1,hv] at I;cases I;rw[r f2 Z] at X;exact absurd (M f2 X) Z
      .by_cases Z:f2=k.take 1
       .rw[Z,hv] at X;cases X;rw[r f1 h1] at I;exact absurd (M f1 I) h1
       .rw[r f1 h1] at I;rw[r f2 Z] at X;exact m.inj f1 f2 d' I X
    have M:∀c o,H c=some o->¬FP D kd c->u c=some o/\c≠d:=λc o e nf=>by
     have I:=s1 _ _ e;refine⟨g _ _ I (λz=>nf (.inl z)),λz=>?_⟩;rcases hfresh with q|q
     .exact nf (by rw[z];exact q)
     .rw[z,q] at I;cases I
    have fpC:∀c,FP D l c->FP D kd c\/H c=none:=λc hc=>by
     rcases hc with rfl|⟨j,y⟩
     .exact .inl (.inl rfl)
     .by_cases hf:j=k.take 1
      .rw[hf,hv] at y;cases y;rcases hfresh with q|q
       .exact .inl q
       .refine .inr ?_
        cases z:H d with
        |none=>rfl
        |some o=>have:=s1 _ _ z;rw[q] at this;cases this
      .rw[r j hf] at y;exact .inl (.inr ⟨j,y⟩)
    have y:YG es (k,c,h,v)=true->(QJ es k=none\/l.length<=es.length)->(∀p,u p=none->Q (.bl true) (upd (upd u p (.tup [.ref sp,v])) d (.dT (Yc kvs (QW k) (.ref p))))):=λZ hnv p r=>by
     have pd:d≠p:=Qb hd2 r;have sH:Qj u (upd u p (.tup [.ref sp,v])):=Qj.zi r;have e:∀c o,u c=some o->c≠d->(upd (upd u p (.tup [.ref sp,v])) d (.dT (Yc kvs (QW k) (.ref p)))) c=some o:=λc o q n=>by rw[Qa n];exact sH _ _ q
     have ep:(upd (upd u p (.tup [.ref sp,v])) d (.dT (Yc kvs (QW k) (.ref p)))) p=some (.tup [.ref sp,v]):=by rw[Qa pd.symm];exact Qc
     have tk:∀c xs,u c=some (.tup xs)->(upd (upd u p (.tup [.ref sp,v])) d (.dT (Yc kvs (QW k) (.ref p)))) c=some (.tup xs):=λc xs q=>e _ _ q (Q2 q hd2 nofun);have kE:QX es (k,c,h,v)=Xd es (k,c,h,v):=qG Z;have:=kq l _ (by
      rw[kE];refine O e Qc ?_ (λj hf=>Ph (λz=>hf z.symm)) ?_
      .rw[bH (e:=(k,c,h,v)) (f:=k.take 1) rfl];exact(eo.mono tk).put ep (tk _ _ hsp2)
      .rcases hnv with q|q
       .rw[SI q,qx,qO];exact hln
       .exact zm q (IT _ _).2) (λc o q nf=>let ⟨q1,q2⟩:=M c o q nf;e c o q1 q2) fpC
     rw[Z] at this;exact this
    refine⟨_,U,x,_,dx,_,_,U,B,T.jC,T.jA,Aq D,_,U,D,_,U,(by rw[<-hv];exact Q3.t hD2 (key hfp2)),?_⟩;have gt:=eo.get k;rw[vs0] at gt;refine⟨_,U,_,U,d,_,U,Q3.t hd2 (key s),_,U,?_⟩;have hkl:kvs.length<sizeLine:=by rw[eo.len];have:=Ob (k.take 1) es;exact QD (by omega)
    cases hg:QJ es k with
    |none=>
     rw[hg] at gt;have Z:YG es (k,c,h,v)=true:=by unfold YG;rw[show QJ es (k,c,h,v).1=none from hg]
     generalize hvv:Qx kvs (QW k)=o at gt;cases gt;refine QU (QU ?_);exact⟨_,U,_,U,Vr,λp r=>⟨_,U,_,U,d,_,U,UJ.t (by rw[Qa (Qb hd2 r)];exact hd2) (key (by rw[Qa (Qb s r)];exact s)) hkl,y Z (.inl hg) p r⟩⟩
    |some en=>
     rw[hg] at gt;have hlen:l.length<=es.length:=by
      rcases hsl with q|q
      .exact q
      .rw[<-vs0,q] at hg;cases hg
     generalize hvv:Qx kvs (QW k)=o at gt
     cases gt with
     |@yes en p0 st0 I X=>
      refine Ya ?_;refine⟨_,U,_,U,_,U,d,_,U,(by rw[<-hvv];exact Q3.t hd2 (key s)),p0,_,_,_,U,U,jX.of I,U,sp,st0,c,h,_,_,U,U,jX.of hsp2,jX.of X,_,U,?_⟩
      cases hle:HT.pB c h en.2.1 en.2.2.1 with
      |true=>
       refine Ya ?_;have Z:YG es (k,c,h,v)=false:=by unfold YG;rw[show QJ es (k,c,h,v).1=some en from hg];show(!HT.pB c h en.2.1 en.2.2.1)=false;rw[hle];rfl
       have kE:QX es (k,c,h,v)=es:=qC (by rw[Z];exact qH);have:=kq l u (by rw[kE];exact O (λ_ _ q _=>q) hd2 eo (λ_ _=>rfl) hlen) (λc o q nf=>(M c o q nf).1) fpC;rw[Z] at this;exact this
      |false=>
       refine QU ?_;have Z:YG es (k,c,h,v)=true:=by unfold YG;rw[show QJ es (k,c,h,v).1=some en from hg];show(!HT.pB c h en.2.1 en.2.2.1)=true;rw[hle];rfl
       exact⟨_,U,_,U,Vr,λp r=>⟨_,U,_,U,d,_,U,UJ.t (by rw[Qa (Qb hd2 r)];exact hd2) (key (by rw[Qa (Qb s r)];exact s)) hkl,y Z (.inr hlen) p r⟩⟩
   have y:=m.few;refine⟨_,U,_,U,x,_,dx,_,_,U,m.obj,T.jC,T.jA,Aq D,D,_,U,Q3.t m.dr (key J),_,U,?_⟩
   cases g:Qx kd (QW (k.take 1)) with
   |some v0=>
    refine QU ?_;obtain⟨d,kvs,rfl,q1,q2,q3⟩:=m.ug _ _ g;exact L kd H1 d kvs m.dr g q1 q2 q3 (λ_ _=>rfl) (by omega) (.inl y) (λ_ _ e _=>e) (.inl (.inr ⟨_,g⟩)) λj e=>m.inj _ _ d e g
   |none=>
    refine Ya ?_;intro p r;have B:D≠p:=Qb m.dr r;have C:x≠p:=Qb m.obj r;refine⟨_,U,x,_,dx,_,_,U,(by rw[Qa C];exact m.obj),T.jC,T.jA,Aq D,_,U,D,_,U,UJ.t (by rw[Qa B];exact m.dr) (key (by rw[Qa (Qb J r)];exact J)) (QD (by omega)),?_⟩;have s:=m.nC _ g;refine L _ _ p [] Qc (by rw[Cu,qG rfl]) B.symm (by rw[Qa B.symm];exact Qc) (by rw[s];exact .nil) (λj hf=>by rw[Cu,qC (λz=>hf (KW z))]) ?_ (.inr s) (λc o e n=>by rw[Qa n,Qa (Qb e r)];exact e) (.inr r) λj e=>?_
    .have:=VT kd (QW (k.take 1)) (V.ref p);omega
    .obtain⟨d',kv,I,_,X,_⟩:=m.ug j _ e;cases I;rw[r] at X;cases X
  refine⟨_,U,_,U,kp,_,U,jX.of hkp,λhw=>?_,λp r=>?_⟩
  .exact rest kp H (Qj.refl H) (by rw[hkp,<-Bz hk0 hw.2])
  .exact rest p _ (Qj.zi r) (by rw[Qc,Eu])
def Tn(F:AA K "get" "Registers.get" Vk a.xw fd)(T:Txt P w K mg base a):T.fq j6 1 a.xw fd [ZZ,JY,J0] (c8 a):=by
 refine F.ok Xb (λB A outer st H vs Q E C h=>?_)
 .obtain⟨x,dx,D,kd,es,m,k,v,rfl,R,n,c,I⟩:=h;have r:=Q5 C;refine⟨_,(Qd (Qr (i:=3) Xb.nd (Vo r (Qm (pv 0) U) (Xg N9 (pv 1) KL (KJ Qi)) Kg ⟨U,U,U,U⟩))
   (Qf (Qw (C6 (UI (Kh r (pv 1) (pv 3))) (Qv QR (QA r (pv 3) (pv 1)) Qi) (pv 2))))),?_⟩
  have key:∀{G:Hp}{b:qc}{t:qe},G b=some (.tup (t.map V.str))->G b=some (.tup ((QW t).map kV)):=λe=>by rw[VW];exact e
  refine Wr (t:=R8 _ _) λN J=>?_;have last:∀(d:qc)(kvs:qa (qa Key×V))(G:Hp)(f:qa Ent),Qj H G->G d=some (.dT kvs)->QS G kvs f->QJ f k=QJ es k->N [some (.ref x),some (.ref m),some v,some (.ref d)] G:=λd kvs G f z hd L he=>by
   subst J;have gt:=L.get k;rw[he] at gt;have g:=z _ _ c;refine⟨_,U,_,U,d,_,U,Q3.t hd (key g),_,U,?_⟩;have l:=I G z;generalize s:Qx kvs (QW k)=o at gt;generalize QJ es k=O at gt l
   cases gt with
   |no=>exact QU ⟨_,U,l⟩
   |@yes S u y M X=>exact Ya ⟨_,U,_,U,d,_,U,(by rw[<-s];exact Q3.t hd (key g)),u,_,_,_,U,U,jX.of M,QB (j:=1) rfl,l⟩
  have rest:∀(s:qc)(H1:Hp),Qj H H1->H1 s=some (.tup ((k.take 1).map V.str))->∀p,H1 p=none->∃o,Q3 (upd H1 p (.dT [])) D (.ref s) o/\N [some (.ref x),some (.ref m),some v,some (o.getD (.ref p))] (upd H1 p (.dT [])):=λs H1 s1 u p g=>by
   have s2:Qj H1 (upd H1 p (.dT [])):=Qj.zi g;have R2:=(R.same s1).same s2;refine⟨_,Q3.t R2.dr (key (s2 _ _ u)),?_⟩
   cases l:Qx kd (QW (k.take 1)) with
   |none=>
    refine last p [] _ [] (s1.trans s2) Qc .nil ?_;rw[<-GI rfl es,R2.nC _ l]
   |some v0=>
    obtain⟨d,kvs,rfl,O,y,M⟩:=R2.ug _ _ l;exact last d kvs _ _ (s1.trans s2) y M (GI rfl es)
  refine⟨_,U,x,_,dx,_,_,U,R.obj,T.jC,T.jA,Aq D,D,U,.inr ⟨_,.inl R.dr⟩,_,U,_,U,m,_,U,jX.of c,λhw=>?_,λq M=>?_⟩
  .intro p g;obtain⟨o,l,y⟩:=rest m H (Qj.refl H) (by rw[c,<-Bz n hw.2]) p g;exact⟨o,l,y⟩
  .intro p g;obtain⟨o,l,y⟩:=rest q _ (Qj.zi M) (by rw[Qc,Eu]) p g;exact⟨o,l,y⟩
def PH(F:zX K J3 "Registers.keys_of" Y2 a.yf fd)(T:Txt P w K mg base a):T.fq j6 1 a.yf fd [ZZ,ZZo] (Io a):=by
 refine F.ok X8 (λr A outer st H vs Q E s h=>?_)
 .obtain⟨x,dx,D,kd,es,f,rfl,R,h0,u,v⟩:=h;have y:=Q5 s;refine⟨_,(Qf (Qw (QC (Av rfl) rfl T.jR boot_sorted (zg (Vo y (Qm (pv 0) U) (Af (Qh (pv 1) Qu)) Kg ⟨U,U,U,U⟩) Qe)))),?_⟩;refine⟨_,U,x,_,dx,_,_,U,R.obj,T.jC,T.jA,Aq D,D,U,.inr ⟨_,.inl R.dr⟩,_,U,RN,λj k=>?_⟩;have s1:Qj H (upd H j (.tup [.str f])):=Qj.zi k;have b:(upd H j (.tup [.str f])) j=some (.tup ((QW [f]).map kV)):=Qc;generalize upd H j (.tup [.str f])=H1 at s1 b⊢;intro p B;have s2:Qj H1 (upd H1 p (.dT [])):=Qj.zi B;have m:(upd H1 p (.dT [])) p=some (.dT []):=Qc;have R2:=(R.same s1).same s2;refine⟨_,Q3.t R2.dr (s2 _ _ b),?_⟩;generalize upd H1 p (.dT [])=c at s2 R2 m⊢;have fin:∀(d:qc)(kvs:qa (qa Key×V)),c d=some (.dT kvs)->QS c kvs (sel [f] es)->AV [.ref d] c Q:=λd kvs hd C=>
   ⟨d,kvs,(sel [f] es).map (·.1),U,hd,C.keys,λt g=>by
     obtain⟨e,he,rfl⟩:=qj.mp g;exact h0 e (qo.mp he).1,by rw[qh];exact xN (Ob _ _) u,λl bs n g=>by
     have q:Qj c (upd c l (.lst ((Wy ((sel [f] es).map (·.1))).map λi=>(bs.map V.ref).getD i .non))):=Qj.zi n;refine v l bs _ ?_ ((s1.trans s2).trans q) (Cz q g) Qc
     cases z:H l with
     |none=>rfl
     |some o=>have:=s2 _ _ (s1 _ _ z);rw[n] at this;cases this⟩
  cases g:Qx kd (QW [f]) with
  |none=>exact fin p [] m (by rw[R2.nC _ g];exact .nil)
  |some v0=>
   obtain⟨d,kvs,rfl,G,n,q⟩:=R2.ug _ _ g;exact fin d kvs n q
def isW(x:qb):Bool:=decide (1<=(x.length:Int))&&(decide ((x.length:Int)<=20)&&x.cps.toList.all λc=>decide (c∈aZ.cps.toList))
inductive N7(vs:qa V)(H:Hp)(Q:VK)(E:XK):Prop
 |mk:∀x y:qb,vs=[.str x,.str y]->x.length<=1000->(∀H',Qj H H'->Q (.bl (x.cps.toList.all λc=>decide (c∈y.cps.toList))) H')->N7 vs H Q E
def Sg(K:Frag):Sp:=λvs H Q _=>(∃x:qb,vs=[.str x]/\x.length<=1000/\∀H',Qj H H'->Q (.bl (isW x)) H') \/
 ∃v t,vs=[v]/\WG K H v t/\kitOne K t (.type "str")=some false/\Q (.bl false) H
def Tz(F:zX K Jl Jl Wu a.wj fd)(T:Txt P w K mg base a):T.fq j6 1 a.wj fd [JW,Jy] N7:=by
 refine F.ok FN (λb A outer s H vs Q E f h=>?_)
 .obtain⟨x,y,rfl,d,k⟩:=h;refine⟨_,Qf (Qw (QC (aQ rfl) rfl T.b_all boot_all (zg (VO (sc:=Qg Wu) (N:=BG) (fr:=[(1,Jy)]) (cs_ rfl rfl) rfl rfl rfl (MG (pv 0))
   (λ_ _ _ _=>Ae) (λ_ _ _ _=>UB KQ (pv 0) (pv 1) (by with_unfolding_all rfl))) Qe))),?_⟩
  refine⟨_,U,x,U,LV (λc=>.bl (decide (c∈y.cps.toList))) (Q6 (d)) ?_ ?_⟩
  .intro c e Q' hc q;refine⟨_,U,_,U,_,_,U,U,?_⟩;rw[sL];exact q
  .intro D e;refine⟨D,x.cps.toList.map λc=>decide (c∈y.cps.toList),U,zQ.of (by rw[qT];exact Qc),?_⟩;rw[List.all_map];exact k _ (Qj.zi e)
def EW(F:zX K JE JE GU a.iZ fd)(T:Txt P w K mg base a)(i:Yz K a):T.fq j6 2 a.iZ fd [ZA] (Sg K):=by
 obtain⟨j,f,l⟩:=i.QaR;have m:=Tz f T;refine F.ok My (λn A outer s H vs Q E o h=>?_) (λvs H Q E h=>by rcases h with⟨x,rfl,_⟩|⟨v,t,rfl,_⟩<;>rfl)
 .refine⟨_,Qf (Qw (A5 (QC YX rfl T.j4 boot_isinstance (zg (pv 0) (zg (WS (v:=.ty "str") rfl T.sR boot_str rfl) Qe)))
   (A5 (SY IZ IZ Qi (QC Wi rfl T.vt zT (zg (pv 0) Qe)) (C7 rfl T.Qax))
   (Gu (Qk m o rfl T.Qas f.kp l .nil Ql (zg (pv 0) (zg (C7 rfl T.tw) Qe))))))),?_⟩
  rcases h with⟨x,rfl,g,k⟩|⟨v,t,rfl,ty,p,k⟩
  .refine⟨_,U,_,_,_,_,_,U,U,WG.str x,OF,_,U,Ya ?_⟩;refine⟨_,U,x,U,Q6 (g),_,_,U,U,_,U,?_⟩;have b:isW x=(decide (1<=(x.length:Int))&&(decide ((x.length:Int)<=20)&&x.cps.toList.all λc=>decide (c∈aZ.cps.toList))):=rfl;by_cases d:(1:Int)<=(x.length:Int)
   .rw[qt d];rw[qt d,uP] at b;refine Ya ⟨_,_,U,U,_,U,?_⟩;by_cases e:(x.length:Int)<=20
    .rw[qt e];rw[qt e,uP] at b;refine Ya ⟨_,U,x,aZ,U,g,λH' s'=>?_⟩;rw[<-b];exact k H' s'
    .rw[qE e];rw[qE e,Qae] at b;refine QU ?_;rw[<-b];exact k H (Qj.refl H)
   .rw[qE d];rw[qE d,Qae] at b;refine QU ⟨_,U,QU ?_⟩;rw[<-b];exact k H (Qj.refl H)
  .exact⟨_,U,_,_,_,_,_,U,U,ty,p,_,U,QU k⟩
def Nt:∀(l:qa Nat)(st:qe×qb),(l.foldl wJ st).1.length<=st.1.length+l.length/\(l.foldl wJ st).2.length<=st.2.length+l.length
 |[],st=>⟨qB _,qB _⟩
 |c::l,st=>by
  rw[zy,qV];have q:=Nt l (wJ st c);have e:(wJ st c).1.length<=st.1.length+1/\(wJ st c).2.length<=st.2.length+1:=by
   unfold wJ;split
   .exact⟨oO _,by rw[O5,Hk];exact qB _⟩
   .refine⟨by rw[qx];exact qB _,?_⟩;show Str.empty.length<=_;exact q0 _
  omega
def bg(l:qa Nat):(wK l).1.length<=l.length/\(wK l).2.length<=l.length:=by
 have q:=Nt l ([],Str.empty);have e:Str.empty.length=0:=rfl;rw[jZ,e,Nat.zero_add] at q;exact q
def Nu(x:qb):(v8 x).length<=x.length+1:=by
 have q:=bg x.cps.toList;have e:=qW B9 ((wK x.cps.toList).1++[(wK x.cps.toList).2]);rw[qx,qO] at e;rw[VU];show(List.filter B9 _).length<=_;omega
inductive NG(vs:qa V)(H:Hp)(Q:VK)(E:XK):Prop
 |mk:∀x:qb,vs=[.str x]->ud x->x.length<=900->(∀(l:qc)(H':Hp),H l=none->Qj H H'->H' l=some (.lst ((v8 x).map V.str))->Q (.ref l) H')->NG vs H Q E
def I1(F:zX K Ju Ju W5 a.uk fd)(T:Txt P w K mg base a):T.fq j6 1 a.uk fd [JW] NG:=by
 refine F.ok BB (λp A outer s H vs Q E v h=>?_)
 .obtain⟨x,rfl,g,t,k⟩:=h;refine⟨_,(Qd (XA (sc:=Qg W5) (N:=Dh) (i:=1) (fr:=[]) (cs_ rfl rfl) rfl rfl rfl BB.nd U rfl (MG (pv 0)) (λ_ _ _ _=>Ae) (λ_ _ _ _=>(C6 (Qt KQ (pv 0) (C7 rfl T.Qaw) (by with_unfolding_all rfl)) (bS K plainAttrs_str PySem.F.slot_str_lower PySem.F.type_str_lower Lm (pv 0)) Qq)))
   (Qf (Qw (C8 plainAttrs_str PySem.F.slot_str_split PySem.F.type_str_split P6 (Vs plainAttrs_str slot_str_join type_str_join Hs Qq (zg (pv 1) Qe)))))),?_⟩
  refine⟨_,U,x,U,LV (λc=>.str ⟨#[gS c]⟩) (Q6 ((by show x.length<=1000;omega))) ?_ ?_⟩
  .intro c b Q' hc q;refine⟨_,U,_,_,U,U,_,U,?_⟩;rw[sL];have d:gS c=if decide (c∈rS.cps.toList)=true then lo1 c else 32:=rfl
   rw[d] at q;refine M5 (λh=>?_) (λh=>?_)
   .rw[qG h] at q;refine⟨_,U,U,⟨#[c]⟩,U,U,g.one hc,(by show 1<=1000000;decide),?_⟩;have e:(#[c]:Array Nat).map lo1=#[lo1 c]:=by simp
    show Q' (.str ⟨(#[c]:Array Nat).map lo1⟩) b;rw[e];exact q
   .rw[qC h] at q;exact q
  .intro D j;generalize b:x.cps.toList.map (λc=>(⟨#[gS c]⟩:qb))=ys;have m:x.cps.toList.map (λc=>V.str ⟨#[gS c]⟩)=ys.map V.str:=by rw[<-b,qT];rfl
   have d:∀y∈ys,y.length=1:=λy n=>by
    rw[<-b] at n;obtain⟨c,_,rfl⟩:=qj.mp n;rfl
   have f:ys.length=x.length:=by rw[<-b,qh,VU]
   have u:(Txt.join "" ys).cps.toList=x.cps.toList.map gS:=by
    rw[OI,<-b,qT];clear g t k b m d f j
    induction x.cps.toList with
    |nil=>rfl
    |cons c r o=>simpa using o
   rw[m];refine⟨U,_,U,"",D,ys,U,U,zQ.of Qc,DD d (by omega),U,_,U,U,(by rw[Bp d];omega),λl o=>?_⟩;rw[Pa u];have s1:Qj H (upd H D (.lst (ys.map V.str))):=Qj.zi j;exact k l _ (s1.free o) (s1.z6 (s1.free o)) Qc
def Mq{y:V}(h:(xs.map V.str)[i]?=some y):∃t,y=.str t/\xs[i]?=some t:=by
 rw[qQ] at h
 cases e:xs[i]? with
 |none=>rw[e] at h;cases h
 |some t=>rw[e] at h;exact⟨t,(qN h).symm,U⟩
structure Kx(s t b:qb)(d:Int)(an:qb):Prop where
 s_:UE s
 t_:ud t
 tl:t.length<=60
 tn:¬10∈t.cps.toList
 b_:ud b
 bl:b.length<=400
 d0:0<=d
 d1:d<=9999
 a_:an=""\/UE an
abbrev lfs(s t b:qb)(d:Int)(an:qb)(f:V):qa (qb×V):=[(Z4,.str s),(Js,.str t),(JC,.str b),(JM,.int d),(Zq,.str an),("found",f)]
def Mg(a:yD)(H:Hp)(x:qc)(s t b:qb)(d:Int)(an:qb)(D:qc):Prop:=(∃dx,H x=some (.ins a.jg dx (lfs s t b d an (.ref D))))/\H D=some (.dK (kn (v8 t) (v8 t++v8 b)))
def UO(a:yD)(H:Hp)(x:qc)(s t b:qb)(d:Int)(an:qb):Prop:=(∃dx,H x=some (.ins a.jg dx (lfs s t b d an .non)))\/∃D,Mg a H x s t b d an D
def UO.mono{b:qb}{d:Int}(h:UO a H x s t b d an)(q:Qj H H'):UO a H' x s t b d an:=by
 rcases h with⟨dx,e⟩|⟨D,⟨dx,e⟩,c⟩
 .exact .inl ⟨dx,q _ _ e⟩
 .exact .inr ⟨D,⟨dx,q _ _ e⟩,q _ _ c⟩
def UO.at{b:qb}{d:Int}(h:UO a H x s t b d an):∃dx f,H x=some (.ins a.jg dx (lfs s t b d an f)):=by
 rcases h with⟨dx,e⟩|⟨D,⟨dx,e⟩,c⟩
 .exact⟨dx,_,e⟩
 .exact⟨dx,_,e⟩
def UO.other{y:qc}{b:qb}{d:Int}{C f:qc}{fs:qa (qb×V)}(h:UO a H x s t b d an)(ne:x≠y)(g:H y=some (.ins C f fs))(q:SX y H H'):UO a H' x s t b d an:=by
 rcases h with⟨dx,e⟩|⟨D,⟨dx,e⟩,c⟩
 .exact .inl ⟨dx,q _ _ ne e⟩
 .exact .inr ⟨D,⟨dx,q _ _ ne e⟩,q _ _ (Q2 c g nofun) c⟩
def ai{x:qb}(h:UE x):isW x=true:=by
 unfold isW;have a:=h.lo;have b:=h.hi;rw[qt (by omega),qt (by omega),uP,uP];exact jd.mpr λc hc=>qt (h.in_ c hc)
def Rp:isW ""=false:=by decide +kernel
inductive Ip(vs:qa V)(H:Hp)(Q:VK)(E:XK):Prop
 |mk:∀(x:qb)(m:Int),vs=[.str x,.int m]->x.length<=1000->Q (.bl (decide ((x.length:Int)<=m))) H->Ip vs H Q E
inductive NH(vs:qa V)(H:Hp)(Q:VK)(E:XK):Prop
 |mk:∀i:Int,vs=[.int i]->Q (.bl true) H->NH vs H Q E
inductive CJ(vs:qa V)(H:Hp)(Q:VK)(E:XK):Prop
 |mk:∀x:qb,vs=[.str x]->(x=""\/UE x)->(∀H',Qj H H'->Q (.bl true) H')->CJ vs H Q E
inductive NY(vs:qa V)(H:Hp)(Q:VK)(E:XK):Prop
 |mk:∀s t b d an,vs=[.str s,.str t,.str b,.int d,.str an]->Kx s t b d an->(∀H',Qj H H'->Q .non H')->NY vs H Q E
inductive FG(a:yD)(vs:qa V)(H:Hp)(Q:VK)(E:XK):Prop
 |mk:∀x dx s t b d an,vs=[.ref x,.str s,.str t,.str b,.int d,.str an]->Kx s t b d an->H x=some (.ins a.jg dx [])->(∀H',(∀c o,c≠x->H c=some o->H' c=some o)->H' x=some (.ins a.jg dx (lfs s t b d an .non))->Q .non H')->FG a vs H Q E
inductive NO(a:yD)(vs:qa V)(H:Hp)(Q:VK)(E:XK):Prop
 |mk:∀x s t b d an,vs=[.ref x]->UO a H x s t b d an->(∀p,H p=none->Q (.ref p) (upd H p (.tup [.str s,.str t,.str b,.int d,.str an])))->NO a vs H Q E
def ij :kitOne K (.type "tuple") (.type "tuple")=some true:=by unfold kitOne;rw[qG (yu _)]
def ip :kitOne K (.type "int") (.type "int")=some true:=by unfold kitOne;rw[qG (yu _)]
def iq :kitOne K (.type "int") (.type "bool")=some false:=by kernel_rfl
def fS:("\n":qb)=⟨#[10]⟩:=by decide +kernel
def MR{b:qb}{d:Int}{R:VK}{E:XK}(h:H x=none)(hd:H dx=none)(ne:dx≠x)(g:Kx s t b d an)(k:∀H',Qj H H'->UO a H' x s t b d an->R .non H') :
 FG a [.ref x,.str s,.str t,.str b,.int d,.str an] (upd (upd H dx (.own x)) x (.ins a.jg dx [])) R E:=by
 refine⟨x,dx,s,t,b,d,an,U,g,Qc,λH' i f=>k H' (λc o e=>i c o (Qb e h) ?_) (.inl ⟨dx,f⟩)⟩;rw[Qa (Qb e h),Qa (Qb e hd)];exact e
def ML(F:zX K JF JF GV a.i0 fd)(T:Txt P w K mg base a):T.fq j6 1 a.i0 fd [ZA,"most"] Ip:=by
 refine F.ok Mz (λb A outer s H vs Q E d h=>?_)
 .obtain⟨x,m,rfl,c,k⟩:=h;refine⟨_,(Qf (Qw (A5 (QC YX rfl T.j4 boot_isinstance (zg (pv 0) (zg (WS (v:=.ty "str") rfl T.sR boot_str rfl) Qe))) (Gu (UB IZ (QC Wi rfl T.vt zT (zg (pv 0) Qe)) (pv 1)))))),?_⟩;exact⟨_,U,_,_,_,_,_,U,U,WG.str x,OF,_,U,Ya ⟨_,U,x,U,Q6 (c),_,U,_,_,U,U,k⟩⟩
def La(F:zX K Jv Jv KG a.uw fd)(T:Txt P w K mg base a):T.fq j6 1 a.uw fd [ZA] NH:=by
 refine F.ok IE (λb A outer s H vs Q E c h=>?_)
 .obtain⟨x,rfl,k⟩:=h;refine⟨_,(Qf (Qw (A5 (QC YX rfl T.j4 boot_isinstance (zg (pv 0) (zg (WS (v:=.ty "int") rfl T.QaF boot_int rfl) Qe))) (Gu (fz (QC YX rfl T.j4 boot_isinstance (zg (pv 0) (zg (WS (v:=.ty "bool") rfl T.Qd6 PyProof.Rows.boot_bool rfl) Qe)))))))),?_⟩;exact⟨_,U,_,_,_,_,_,U,U,WG.int x,ip,_,U,Ya ⟨_,U,_,_,_,_,_,U,U,WG.int x,iq,_,U,k⟩⟩
def C9(F:zX K ZV ZV V5 a.vc fd)(T:Txt P w K mg base a)(c:Yz K a):T.fq j6 3 a.vc fd [ZA] CJ:=by
 obtain⟨d,xJ,nK⟩:=c.xJ;have oi:=EW xJ T c;refine F.ok CU (λe A outer s H vs Q E f h=>?_)
 .obtain⟨x,rfl,b,k⟩:=h;have lT:QG 2 _:=f;refine⟨_,(Qf (Qw (SU (Qk oi lT rfl T.sP xJ.kp nK .nil Ql (zg (pv 0) Qe)) (Gu (A5 (QC YX rfl T.j4 boot_isinstance (zg (pv 0) (zg (WS (v:=.ty "str") rfl T.sR boot_str rfl) Qe))) (Gu (UB YQ (pv 0) Qq))))))),?_⟩;rcases b with rfl|b
  .refine⟨_,U,.inl ⟨_,U,by rw[Fp];omega,λH' s'=>?_⟩⟩;rw[Rp];refine⟨_,U,QU ⟨_,U,_,_,_,_,_,U,U,WG.str _,OF,_,U,Ya ⟨_,U,U,?_⟩⟩⟩;rw[qt rfl];exact k H' s'
  .have:=b.hi;refine⟨_,U,.inl ⟨_,U,by omega,λH' s'=>?_⟩⟩;rw[ai b];exact⟨_,U,Ya (k H' s')⟩
def Tt(F:zX K ZW ZW V7 a.ve fd)(T:Txt P w K mg base a)(c:Yz K a):T.fq j6 4 a.ve fd [Z4,Js,JC,JM,Zq] NY:=by
 obtain⟨f,xJ,nK⟩:=c.xJ;have oi:=EW xJ T c;obtain⟨i,wZ,sS⟩:=c.wZ;have sU:=ML wZ T;obtain⟨j,uE,Qbj⟩:=c.uE;have Qbq:=La uE T;obtain⟨l,vl,rQ⟩:=c.vl;have rY:=C9 vl T c;refine F.ok CW (λm A outer s H vs Q E e h=>?_)
 .obtain⟨s,t,b,d,an,rfl,g,k⟩:=h;have lT:QG 2 _:=e.mono;have pI:QG 1 _:=e.mono;have Qav:QG 1 _:=e.mono;have pJ:QG 3 _:=e;refine⟨_,(Qd (QV (U3 (UH (Qk oi lT rfl T.sP xJ.kp nK .nil Ql (zg (pv 0) Qe)))) (Qf VS) QE)
   (Qd (QV (PW.pt (XN (U3 (UH (Qk sU pI rfl T.sQ wZ.kp sS .nil Ql (zg (pv 1) (zg (C7 rfl T.tE) Qe))))) (V1 (Qt KQ Qq (pv 1) (by with_unfolding_all rfl))))) (Qf VS) QE)
   (Qd (QV (U3 (UH (Qk sU pI rfl T.sQ wZ.kp sS .nil Ql (zg (pv 2) (zg (C7 rfl T.Qay) Qe))))) (Qf VS) QE)
   (Qd (QV (PW.pt (XN (U3 (UH (Qk Qbq Qav rfl T.Qa9 uE.kp Qbj .nil Ql (zg (pv 3) Qe)))) (V1 (U3 (SK IZ IZ Qi (pv 3) (C7 rfl T.Qbb)))))) (Qf VS) QE)
   (Qf (QV (U3 (UH (Qk rY pJ rfl T.rO vl.kp rQ .nil Ql (zg (pv 4) Qe)))) (Qf VS) QE)))))),?_⟩
  have o:=g.s_.hi;refine⟨_,U,.inl ⟨s,U,by omega,λH1 s1=>?_⟩⟩;rw[ai g.s_];refine⟨_,U,QU ?_⟩;refine⟨_,U,t,60,U,by have:=g.tl;omega,?_⟩;rw[qt (by have:=g.tl;omega)];refine⟨_,U,QU ⟨_,U,_,_,U,U,_,U,?_⟩⟩;rw[fS,sL,qE g.tn];refine QU ⟨_,U,b,400,U,by have:=g.bl;omega,?_⟩;rw[qt (by have:=g.bl;omega)];refine⟨_,U,QU ⟨_,U,d,U,_,U,QU ?_⟩⟩;refine⟨_,U,_,_,U,U,_,U,?_⟩;rw[qt g.d0];refine Ya ⟨_,_,U,U,_,U,?_⟩;rw[qt g.d1];refine QU ⟨_,U,an,U,g.a_,λn s2=>⟨_,U,QU (k n (s1.trans s2))⟩⟩
def OA(F:AA K Zf "Letter.__init__" Wa a.vh fd)(T:Txt P w K mg base a)(f:Yz K a):T.fq j6 5 a.vh fd [ZZ,Z4,Js,JC,JM,Zq] (FG a):=by
 obtain⟨i,vm,rR⟩:=f.vm;have rZ:=Tt vm T f;refine F.ok CZ (λj A outer s H vs Q E l h=>?_)
 .obtain⟨x,dx,s,t,b,d,an,rfl,g,m,k⟩:=h;have pK:QG 4 _:=l;refine⟨_,(Qd (Qy (Qk rZ pK rfl T.rP vm.kp rR .nil Ql (zg (pv 1) (zg (pv 2) (zg (pv 3) (zg (pv 4) (zg (pv 5) Qe)))))))
   (Qd (YC (pv 0) (pv 1) U)
   (Qd (YC (pv 0) (pv 2) U)
   (Qd (YC (pv 0) (pv 3) U)
   (Qd (YC (pv 0) (pv 4) U)
   (Qd (YC (pv 0) (pv 5) U)
   (Qf (YC (pv 0) A3 rfl)))))))),?_⟩
  refine⟨_,U,_,U,_,U,_,U,_,U,s,t,b,d,an,U,g,λH1 s1=>?_⟩;refine⟨_,U,_,U,x,_,dx,_,U,s1 _ _ m,T.zK,T.vB,by decide,?_⟩;refine⟨_,U,_,U,x,_,dx,_,U,Qc,T.zK,T.xV,(by show 1<1000;decide),?_⟩;refine⟨_,U,_,U,x,_,dx,_,U,Qc,T.zK,T.vb,(by show 2<1000;decide),?_⟩;refine⟨_,U,_,U,x,_,dx,_,U,Qc,T.zK,T.uh,(by show 3<1000;decide),?_⟩;refine⟨_,U,_,U,x,_,dx,_,U,Qc,T.zK,T.yT,(by show 4<1000;decide),?_⟩;refine⟨_,U,x,_,dx,_,U,Qc,T.zK,T.jK,(by show 5<1000;decide),?_⟩;refine k _ (λc o ne e=>?_) ?_
  .rw[Qa ne,Qa ne,Qa ne,Qa ne,Qa ne,Qa ne];exact s1 _ _ e
  .exact Qc
def Tg(F:zX K ZZp "Letter.parts" VH a.ko fd)(T:Txt P w K mg base a):T.fq j6 1 a.ko fd [ZZ] (NO a):=by
 refine F.ok BY (λe A outer s H vs Q E i h=>?_)
 .obtain⟨x,s,t,b,d,an,rfl,g,k⟩:=h;obtain⟨dx,f,c⟩:=g.at
  refine⟨_,(Qf (Qw (Af (Qh (Qm (pv 0) U) (Qh (Qm (pv 0) U) (Qh (Qm (pv 0) U) (Qh (Qm (pv 0) U) (Qh (Qm (pv 0) U) Qu)))))))),?_⟩;exact⟨_,U,x,_,dx,_,_,U,c,T.zK,T.vB,U,_,U,x,_,dx,_,_,U,c,T.zK,T.xV,U,_,U,x,_,dx,_,_,U,c,T.zK,T.vb,U,_,U,x,_,dx,_,_,U,c,T.zK,T.uh,U,_,U,x,_,dx,_,_,U,c,T.zK,T.yT,U,a0,k⟩
abbrev cfs(y:qc)(fo:qb)(g:qc):qa (qb×V):=[(Z7,.ref y),("box",.str fo),(Jy,.ref g)]
def Np(a:yD)(H:Hp)(x g:qc)(s t b:qb)(d:Int)(an fo:qb)(ms:qe):Prop:=(∃dx y,H x=some (.ins a.vG dx (cfs y fo g))/\UO a H y s t b d an)/\H g=some (.lst (ms.map V.str))
def Az(H:Hp)(m:V)(ss:qe):Prop:=(m=.non/\ss=[])\/∃p,m=.ref p/\(H p=some (.lst (ss.map V.str))\/H p=some (.tup (ss.map V.str)))
def Az.mono{m:V}{ss:qe}(h:Az H m ss)(q:Qj H H'):Az H' m ss:=by
 rcases h with h|⟨p,e,h|h⟩
 .exact .inl h
 .exact .inr ⟨p,e,.inl (q _ _ h)⟩
 .exact .inr ⟨p,e,.inr (q _ _ h)⟩
def eT(a:yD):Sp:=λvs H Q _=>∃x s t b d an,vs=[.ref x]/\UO a H x s t b d an/\Kx s t b d an/\∀y H',H y=none->Qj H H'->UO a H' y s t b d an->Q (.ref y) H'
def N0(a:yD):Sp:=λvs H Q _=>∃x dx lt fo m s t b d an ss,vs=[.ref x,.ref lt,.str fo,m]/\H x=some (.ins a.vG dx [])/\UO a H lt s t b d an/\Kx s t b d an/\Az H m ss/\ss.length<=60 /\
 ∀H' g,(∀c o,c≠x->H c=some o->H' c=some o)->H g=none->Np a H' x g s t b d an fo (SS ss)->Q .non H'
def TK{b:qb}{d:Int}{m:V}{ss:qe}{R:VK}{E:XK}{lt:qc}(h:H x=none)(hd:H dx=none)(ne:dx≠x)(i:UO a H lt s t b d an)(j:Kx s t b d an)(hm:Az H m ss)(hz:ss.length<=60)
 (k:∀H' g,Qj H H'->H g=none->Np a H' x g s t b d an fo (SS ss)->R .non H'):N0 a [.ref x,.ref lt,.str fo,m] (upd (upd H dx (.own x)) x (.ins a.vG dx [])) R E:=by
 have f:Qj H (upd (upd H dx (.own x)) x (.ins a.vG dx [])):=λc o e=>by rw[Qa (Qb e h),Qa (Qb e hd)];exact e
 refine⟨x,dx,lt,fo,m,s,t,b,d,an,ss,U,Qc,i.mono f,j,hm.mono f,hz,λH' g l n hc=>k H' g (λc o e=>l c o (Qb e h) (f _ _ e)) (f.free n) hc⟩
def Oz(F:zX K ZZl "Letter.twin" V9 a.vg fd)(T:Txt P w K mg base a)(o:Yz K a):T.fq j6 7 a.vg fd [ZZ] (eT a):=by
 obtain⟨r,Qbr,wG,_⟩:=o.lQ;have wI:=OA Qbr T o;refine F.ok Ka (λu A outer s H vs Q E v h=>?_) (λvs H Q E h=>by obtain⟨x,s,t,b,d,an,rfl,_⟩:=h;rfl)
 .obtain⟨x,s,t,b,d,an,rfl,p,g,k⟩:=h;have uj:QG 6 _:=v;obtain⟨dx,f,c⟩:=p.at
  refine⟨_,(Qd (Qr (i:=1) Ka.nd (F0 T.Qau wI uj rfl T.sN wG .nil Ql (zg (Qm (pv 0) U) (zg (Qm (pv 0) U) (zg (Qm (pv 0) U) (zg (Qm (pv 0) U) (zg (Qm (pv 0) U) Qe)))))))
   (Qd (YC (pv 1) (Qm (pv 0) U) rfl)
   (Qf (Qw (pv 1))))),?_⟩
  refine⟨_,U,x,_,dx,_,_,U,c,T.zK,T.vB,U,_,U,x,_,dx,_,_,U,c,T.zK,T.xV,U,_,U,x,_,dx,_,_,U,c,T.zK,T.vb,U,_,U,x,_,dx,_,_,U,c,T.zK,T.uh,U,_,U,x,_,dx,_,_,U,c,T.zK,T.yT,U,λy G m z ne=>MR m z ne g λH1 s1 B=>⟨U,?_⟩⟩;obtain⟨j,f2,C⟩:=B.at
  refine⟨_,U,x,_,dx,_,_,U,s1 _ _ c,T.zK,T.jK,U,_,U,y,_,j,_,U,C,T.zK,T.jK,(by show 6<1000;decide),?_⟩;refine⟨_,U,k y _ m (s1.z6 m) ?_⟩;rcases p with⟨n,l⟩|⟨D,⟨n,l⟩,q⟩
  .have e:=c.symm.trans l
   injection e with e
   injection e with _ _ e
   simp only[List.cons.injEq,Qbv,true_and,and_true] at e;subst e;exact .inl ⟨j,Qc⟩
  .have e:=c.symm.trans l
   injection e with e
   injection e with _ _ e
   simp only[List.cons.injEq,Qbv,true_and,and_true] at e;subst e;exact .inr ⟨D,⟨j,Qc⟩,by rw[Qa (Qb q m)];exact s1 _ _ q⟩
def Ts(F:AA K Zf "Card.__init__" Xz a.wm fd)(T:Txt P w K mg base a)(Y:Yz K a):T.fq j6 8 a.wm fd [ZZ,Z7,Ze,ZM] (N0 a):=by
 obtain⟨fdA,yI,wF⟩:=Y.yI;have wH:=Oz yI T Y;refine F.ok FQ (λcdv A outer st H vs Q E hr h=>?_) (λvs H Q E h=>by obtain⟨x,dx,lt,fo,m,s,t,b,d,an,ss,rfl,_⟩:=h;rfl)
 .obtain⟨x,dx,lt,fo,m,s,t,b,d,an,ss,rfl,B,Z,gd,hm,hz,k⟩:=h;have pL:QG 7 _:=hr;refine⟨_,(Qd (YC (pv 0) (Y9 (pv 1) T.zK T.lN wH pL wF .nil Ql) rfl)
   (Qd (YC (pv 0) (pv 2) U)
   (Qf (YC (pv 0) (C6 (Qt S5 (pv 3) A3) (KN Qu) (QC (XQ rfl) rfl T.jR boot_sorted (zg (Uc (BU rfl) rfl T.Qdq boot_set (zg (pv 3) Qe)) Qe))) rfl)))),?_⟩
  obtain⟨dl,fl,el⟩:=Z.at
  refine⟨_,U,lt,dl,_,U,el,U,lt,s,t,b,d,an,U,Z,gd,λy H1 ny s1 hy=>?_⟩;have u:=s1 _ _ B;have xy:x≠y:=Qb B ny;refine⟨_,U,x,_,dx,_,U,u,T.uW,T.lK,(by show 0<1000;decide),?_⟩;refine⟨_,U,_,U,x,_,dx,_,U,Qc,T.uW,T.lR,(by show 1<1000;decide),?_⟩;rw[Kz];generalize v:upd H1 x (.ins a.vG dx (QI "box" (.str fo) (QI Z7 (.ref y) [])))=i;have f:∀c o,c≠x->H1 c=some o->i c=some o:=λc o n e=>by rw[<-v,Qa n];exact e
  have G:i x=some (.ins a.vG dx [(Z7,.ref y),("box",.str fo)]):=by rw[<-v];exact Qc
  have yx:y≠x:=xy.symm;have I:UO a i y s t b d an:=hy.other yx u f;have fin:∀(r:Hp)(g:qc)(ms:qe),Qj i r->r g=none->ms=SS ss ->
   ∃q C j fs,V.ref x=.ref q/\(upd r g (.lst (ms.map V.str))) q=some (.ins C j fs)/\Cls K C/\Yi K C Jy/\fs.length<1000/\Q .non (upd (upd r g (.lst (ms.map V.str))) q (.ins C j (QI Jy (.ref g) fs))):=by
   intro r g ms s3 j J;have q:=s3 _ _ G;have D:x≠g:=Qb q j;refine⟨x,_,dx,_,U,(by rw[Qa D];exact q),T.uW,T.ui,(by show 2<1000;decide),?_⟩;have z:i g=none:=s3.free j;have N:H g=none:=by
    cases e:H g with
    |none=>rfl
    |some o=>rw[f g o D.symm (s1 _ _ e)] at z;cases z
   have L:UO a (upd r g (.lst (ms.map V.str))) y s t b d an:=(I.mono s3).mono (Qj.zi j);refine k _ g (λc o n e=>?_) N ⟨⟨dx,y,Qc,?_⟩,?_⟩
   .have M:=s3 _ _ (f c o n (s1 _ _ e));rw[Qa n,Qa (Qb M j)];exact M
   .exact L.other yx (by rw[Qa D];exact q) λc o n e=>by rw[Qa n];exact e
   .rw[Qa D.symm,Qc,J]
  rcases hm with⟨rfl,rfl⟩|⟨p,rfl,hS⟩
  .refine⟨_,U,U,_,U,Ya ⟨dR,λg j=>⟨_,U,?_⟩⟩⟩;obtain⟨q,z,D,J,L,M,N,O,R,S⟩:=fin i g [] (Qj.refl _) j rfl;exact⟨q,z,D,J,L,M,N,O,R,S⟩
  .have X:zQ K i p (ss.map V.str)\/jX K i p (ss.map V.str):=by
    rcases hS with hS|hS
    .exact .inl (zQ.of (f _ _ (Q2 hS B nofun) (s1 _ _ hS)))
    .exact .inr (jX.of (f _ _ (Q2 hS B nofun) (s1 _ _ hS)))
   refine⟨_,U,U,_,U,QU ⟨_,U,p,ss,U,X,by omega,λl nl=>?_⟩⟩;have s3:Qj i (upd i l (XH P w l (dd ss))):=Qj.zi nl;have hdl:=aM ss;refine⟨l,dd ss,U,Qc,by omega,λg j=>⟨_,U,?_⟩⟩;obtain⟨q,z,D,J,L,M,N,O,R,S⟩:=fin _ g (SS ss) s3 j rfl;exact⟨q,z,D,J,L,M,N,O,R,S⟩
def AF:HO->Bool
 |.tup _=>true
 |_=>false
def rest(own:qc->Nat)(i:Nat)(H:Hp):Hp:=λc=>if own c=i then (match H c with|some (.tup xs)=>some (.tup xs)|_=>none) else H c
def grow(own:qc->Nat)(i:Nat)(H:Hp):qc->Nat:=λc=>match H c with
 |none=>i
 |some _=>own c
def Qo(e:H c=some o):grow own i H c=own c:=by unfold grow;rw[e]
def UM(e:H c=none):grow own i H c=i:=by unfold grow;rw[e]
def Xn(h:own c=i\/H c=none):grow own i H c=i:=by
 cases e:H c with
 |none=>exact UM e
 |some o=>rw[Qo e];exact h.resolve_right (λz=>by rw[e] at z;cases z)
def lC(own:qc->Nat)(i:Nat)(H H':Hp):Prop:=∀c o,H c=some o->(own c≠i\/AF o=true)->H' c=some o
def lC.of(s:Qj H H'):lC own i H H':=λc o e _=>s c o e
def lC.tup(k:lC own i H H'){xs:qa V}(e:H c=some (.tup xs)):H' c=some (.tup xs):=k c _ e (.inr rfl)
def lC.rest(s:Qj (rest own i H) H'):lC own i H H':=λc o e h=>s c o (by
 unfold K52.rest;by_cases z:own c=i
 .rw[qG z,e]
  cases o with
  |tup xs=>rfl
  |_=>exact absurd (h.resolve_left (λy=>y z)) (by intro q;cases q)
 .rw[qC z];exact e)
def Pm(h:rest own i H c=none):own c=i\/H c=none:=by
 unfold rest at h;by_cases z:own c=i
 .exact .inl z
 .rw[qC z] at h;exact .inr h
def Pn(z:own c=i)(h:∀xs,H c≠some (.tup xs)):rest own i H c=none:=by
 unfold rest;rw[qG z];split
 .rename_i xs e;exact absurd e (h xs)
 .rfl
def So(own:qc->Nat)(i:Nat)(H:Hp):Qj (rest own i H) H:=λc o e=>by
 unfold rest at e;by_cases z:own c=i
 .rw[qG z] at e;split at e
  .rename_i xs q;rw[q];exact e
  .cases e
 .rw[qC z] at e;exact e
section
variable {a:yD}{own:qc->Nat}{H H':Hp}{x:qc}
def FoO(a:yD)(H:Hp)(own:qc->Nat)(x:qc)(bx:Rows)(mk:qb->qe)(W M:qe)(n:Nat):Prop:=∃F,FO a H x bx mk W M n F/\own x=0/\∀c∈F,own c=3
def FoO.step(h:FoO a H own x bx mk W M n)(k:lC own j H H')(g:j≠3:=by decide)(h0:j≠0:=by decide):FoO a H' (grow own j H) x bx mk W M n:=by
 obtain⟨F,f,b,d⟩:=h;obtain⟨dx,i,T1,l,ex⟩:=f.obj;refine⟨F,f.keep λc o hc e=>k c o e (.inl ?_),by rw[Qo ex];exact b,λc hc=>?_⟩
 .rcases hc with rfl|hc
  .rw[b];exact λz=>h0 z.symm
  .rw[d c hc];exact λz=>g z.symm
 .obtain⟨kvs,e⟩:=f.kind hc;rw[Qo e];exact d c hc
def FoO.own'{W' d:qe}{b:qa qc}(f:FO a H x bx mk W M n F)(j:own x=0)(g:∀c∈F,own c=3)(l:FO a H' x bx' mk' W' d n' b)(k:my F H H')(m:∀c∈b,c∈F\/H c=none):FoO a H' (grow own 3 H) x bx' mk' W' d n'/\lC own 3 H H':=by
 obtain⟨dx,p,T1,q,ex⟩:=f.obj;refine⟨⟨b,l,by rw[Qo ex];exact j,λc hc=>Xn ((m c hc).imp (g c) id)⟩,λc o e h=>k c o (λhc=>?_) e⟩;rcases h with h|h
 .exact h (g c hc)
 .obtain⟨kvs,i⟩:=f.kind hc;rw[e] at i;cases i;cases h
def IxO(a:yD)(H:Hp)(own:qc->Nat)(x:qc)(R:NW)(W:qe)(n:Nat):Prop:=∃F,sT a H x R W n F/\own x=0/\∀c∈F,own c=2
def sT.there(h:sT a H x R W n F)(hc:c∈F):∃o,H c=some o/\AF o=false:=by
 rcases h.kind hc with⟨kvs,e⟩|⟨xs,e⟩
 .exact⟨_,e,U⟩
 .exact⟨_,e,U⟩
def IxO.step(h:IxO a H own x R W n)(k:lC own j H H')(g:j≠2:=by decide)(h0:j≠0:=by decide):IxO a H' (grow own j H) x R W n:=by
 obtain⟨F,f,b,d⟩:=h;obtain⟨dx,E,B,ex⟩:=f.obj;refine⟨F,f.keep λc o hc e=>k c o e (.inl ?_),by rw[Qo ex];exact b,λc hc=>?_⟩
 .rcases hc with rfl|hc
  .rw[b];exact λz=>h0 z.symm
  .rw[d c hc];exact λz=>g z.symm
 .obtain⟨o,e,_⟩:=f.there hc;rw[Qo e];exact d c hc
def IxO.own'{d:NW}{W':qe}{b:qa qc}(f:sT a H x R W n F)(j:own x=0)(g:∀c∈F,own c=2)(l:sT a H' x d W' n' b)(k:my F H H')(m:∀c∈b,c∈F\/H c=none):IxO a H' (grow own 2 H) x d W' n'/\lC own 2 H H':=by
 obtain⟨dx,E,B,ex⟩:=f.obj;refine⟨⟨b,l,by rw[Qo ex];exact j,λc hc=>Xn ((m c hc).imp (g c) id)⟩,λc o e h=>k c o (λhc=>?_) e⟩;rcases h with h|h
 .exact h (g c hc)
 .obtain⟨p,i,q⟩:=f.there hc;rw[e] at i;cases i;rw[q] at h;cases h
def thF(L R:qc)(kr:qa (Key×V))(c:qc):Prop:=c=L\/c=R\/∃t:qb,Qx kr (Sum.inr t)=some (.ref c)
def TH.kind{R:qc}(h:TH a H x dx L R rows kr)(hc:thF L R kr c):∃kvs,H c=some (.dK kvs):=by
 rcases hc with rfl|rfl|⟨t,e⟩
 .exact⟨_,h.lk⟩
 .exact⟨_,h.rp⟩
 .obtain⟨d,b,f,_⟩:=h.ug t _ e;cases b;exact⟨_,f⟩
def TH.keep{R:qc}(h:TH a H x dx L R rows kr)(k:∀c o,(c=x\/thF L R kr c)->H c=some o->H' c=some o):TH a H' x dx L R rows kr:=
 ⟨k _ _ (.inl rfl) h.obj,k _ _ (.inr (.inl rfl)) h.lk,k _ _ (.inr (.inr (.inl rfl))) h.rp,h.lr,h.nd,h.few,h.QcG,λt v e=>let ⟨d,b,f,g⟩:=h.ug t v e;⟨d,b,k _ _ (.inr (.inr (.inr ⟨t,by rw[e,b]⟩))) f,g⟩,h.nC,h.e_,h.inj⟩
def ThO(a:yD)(H:Hp)(own:qc->Nat)(x:qc)(rows:Rows)(n:Nat):Prop:=∃dx L R kr,TH a H x dx L R rows kr/\rows.length<=n/\kr.length<=n/\own x=0/\∀c,thF L R kr c->own c=1
def ThO.step(h:ThO a H own x rows n)(k:lC own j H H')(g:j≠1:=by decide)(h0:j≠0:=by decide):ThO a H' (grow own j H) x rows n:=by
 obtain⟨dx,L,R,kr,b,i,l,d,f⟩:=h;refine⟨dx,L,R,kr,b.keep λc o hc e=>k c o e (.inl ?_),i,l,by rw[Qo b.obj];exact d,λc hc=>?_⟩
 .rcases hc with rfl|hc
  .rw[d];exact λz=>h0 z.symm
  .rw[f c hc];exact λz=>g z.symm
 .obtain⟨kvs,e⟩:=b.kind hc;rw[Qo e];exact f c hc
def ThO.thf(h:ThO a H own x rows n):THf a (rest own 1 H) H x rows n:=by
 obtain⟨dx,L,R,kr,b,f,g,j,i⟩:=h;have q:∀c,thF L R kr c->rest own 1 H c=none:=λc hc=>Pn (i c hc) λxs z=>by obtain⟨kvs,e⟩:=b.kind hc;rw[e] at z;cases z
 exact⟨dx,L,R,kr,b,f,g,⟨q L (.inl rfl),q R (.inr (.inl rfl)),λt d e=>q d (.inr (.inr ⟨t,e⟩))⟩,So _ _ _⟩
def ThO.of(d:own x=0)(f:∃o,H x=some o)(h:THf a (rest own 1 H) H' x rows n):ThO a H' (grow own 1 H) x rows n/\lC own 1 H H':=by
 obtain⟨dx,L,R,kr,g,i,j,b,s⟩:=h;obtain⟨o,ex⟩:=f;refine⟨⟨dx,L,R,kr,g,i,j,by rw[Qo ex];exact d,λc hc=>Xn (Pm ?_)⟩,lC.rest s⟩;rcases hc with rfl|rfl|⟨t,e⟩
 .exact b.hL
 .exact b.hR
 .exact b.hd t c e
end
section
variable {a:yD}{own:qc->Nat}{H H':Hp}{x:qc}
def Reg.keep{D:qc}(h:Reg a H x dx D kd es)(k:∀c o,(c=x\/FP D kd c)->H c=some o->H' c=some o)(kt:∀c xs,H c=some (.tup xs)->H' c=some (.tup xs)):Reg a H' x dx D kd es:=
 ⟨k _ _ (.inl rfl) h.obj,k _ _ (.inr (.inl rfl)) h.dr,λf v e=>let ⟨d,kvs,b,g,i,j⟩:=h.ug f v e;⟨d,kvs,b,g,k _ _ (.inr (.inr ⟨f,by rw[e,b]⟩)) i,j.mono kt⟩,h.nC,h.inj,h.few⟩
def RgO(a:yD)(H:Hp)(own:qc->Nat)(x:qc)(es:qa Ent):Prop:=∃dx D kd,Reg a H x dx D kd es/\own x=0/\∀c,FP D kd c->own c=4
def RgO.step(h:RgO a H own x es)(k:lC own j H H')(f:j≠4:=by decide)(h0:j≠0:=by decide):RgO a H' (grow own j H) x es:=by
 obtain⟨dx,D,kd,r,b,d⟩:=h;refine⟨dx,D,kd,r.keep (λc o hc e=>k c o e (.inl ?_)) λc xs e=>k.tup e,by rw[Qo r.obj];exact b,λc hc=>?_⟩
 .rcases hc with rfl|hc
  .rw[b];exact λz=>h0 z.symm
  .rw[d c hc];exact λz=>f z.symm
 .obtain⟨kvs,e⟩:=r.fp hc;rw[Qo e];exact d c hc
def RgO.own'{D:qc}{b:qa (qa Key×V)}{d:qa Ent}(r:Reg a H x dx D kd es)(i:own x=0)(f:∀c,FP D kd c->own c=4)(j:Reg a H' x dx D b d)(k:∀c o,H c=some o->¬FP D kd c->H' c=some o)(l:∀c,FP D b c->FP D kd c\/H c=none):RgO a H' (grow own 4 H) x d/\lC own 4 H H':=by
 refine⟨⟨dx,D,b,j,by rw[Qo r.obj];exact i,λc hc=>Xn ((l c hc).imp (f c) id)⟩,λc o e h=>k c o e (λhc=>?_)⟩;rcases h with h|h
 .exact h (f c hc)
 .obtain⟨kvs,g⟩:=r.fp hc;rw[e] at g;cases g;cases h
end
structure LD where
 s:qb
 t:qb
 b:qb
 d:Int
 an:qb
structure LE where
 nm:qb
 y:qc
 p:LD
variable {ls:qa LE}
def LtO(a:yD)(H:Hp)(own:qc->Nat)(y:qc)(p:LD):Prop:=own y=6/\((∃dx,H y=some (.ins a.jg dx (lfs p.s p.t p.b p.d p.an .non)))\/∃D,Mg a H y p.s p.t p.b p.d p.an D/\own D=6)
def LtO.let{y:qc}(h:LtO a H own y p):UO a H y p.s p.t p.b p.d p.an:=h.2.imp id λ⟨D,e,_⟩=>⟨D,e⟩
def LtO.there{y:qc}(h:LtO a H own y p):∃o,H y=some o:=by
 obtain⟨dx,f,e⟩:=h.let.at
 exact⟨_,e⟩
def LtO.step{y:qc}(h:LtO a H own y p)(k:lC own j H H')(c:j≠6):LtO a H' (grow own j H) y p:=by
 obtain⟨b,h⟩:=h;rcases h with⟨dx,e⟩|⟨D,⟨⟨dx,e⟩,d⟩,f⟩
 .exact⟨by rw[Qo e];exact b,.inl ⟨dx,k _ _ e (.inl (by rw[b];exact λz=>c z.symm))⟩⟩
 .exact⟨by rw[Qo e];exact b,.inr ⟨D,⟨⟨dx,k _ _ e (.inl (by rw[b];exact λz=>c z.symm))⟩,k _ _ d (.inl (by rw[f];exact λz=>c z.symm))⟩,by rw[Qo d];exact f⟩⟩
structure LsO(a:yD)(H:Hp)(own:qc->Nat)(L:qc)(ls:qa LE):Prop where
 e:H L=some (.dK (dG LE.nm (λl=>V.ref l.y) ls))
 o:own L=5
 nd:(ls.map LE.nm).Nodup
 na:(ls.map LE.y).Nodup
 at_:∀l∈ls,LtO a H own l.y l.p/\Kx l.p.s l.p.t l.p.b l.p.d l.p.an
def LsO.step(h:LsO a H own L ls)(k:lC own j H H')(c:j≠5:=by decide)(d:j≠6:=by decide):LsO a H' (grow own j H) L ls:=
 ⟨k _ _ h.e (.inl (by rw[h.o];exact λz=>c z.symm)),by rw[Qo h.e];exact h.o,h.nd,h.na,λl b=>⟨(h.at_ l b).1.step k d,(h.at_ l b).2⟩⟩
abbrev bfs(xr L xt xi xf:qc):qa (qb×V):=[(Zu,.ref xr),(Zs,.ref L),(Jt,.ref xt),(Jx,.ref xi),(ZZa,.ref xf)]
def lwd(p:LD):qe:=SS (WZ (v8 p.t++v8 p.b))
structure vS(a:yD)(H:Hp)(own:qc->Nat)(b db xr L xt xi xf:qc)(es:qa Ent)(ls:qa LE)(bx:Rows)(mk:qb->qe)(WI W M:qe)(n:Nat):Prop where
 e:H b=some (.ins a.zM db (bfs xr L xt xi xf))
 o:own b=0
 r:RgO a H own xr es
 l:LsO a H own L ls
 t:ThO a H own xt (ls.map λl=>(l.nm,l.p.an)) n
 i:IxO a H own xi (ls.map λl=>(l.nm,lwd l.p)) WI n
 f:FoO a H own xf bx mk W M n
def vS.quiet(h:vS a H own b db xr L xt xi xf es ls bx mk WI W M n)(s:Qj H H'):vS a H' (grow own 7 H) b db xr L xt xi xf es ls bx mk WI W M n:=
 have k:lC own 7 H H':=lC.of s
 ⟨s _ _ h.e,by rw[Qo h.e];exact h.o,h.r.step k,h.l.step k,h.t.step k,h.i.step k,h.f.step k⟩
def Xm{y a C:qc}(d:H y=none)(f:H a=none)(k:∀c o,c≠y->(upd (upd H a (.own y)) y (.ins C a [])) c=some o->H' c=some o):Qj H H':=λc o e=>by
 have b:=Qb e d;exact k c o b (by rw[Qa b,Qa (Qb e f)];exact e)
def Bl{y a C:qc}(h:(upd (upd H a (.own y)) y (.ins C a [])) c=none):H c=none:=by
 by_cases z:c=y
 .rw[z,Qc] at h;cases h
 .rw[Qa z] at h;by_cases b:c=a
  .rw[b,Qc] at h;cases h
  .rw[Qa b] at h;exact h
noncomputable def Ki(D L L2 R2:qc)(a b:qa qc):qc->Nat:=λc=>if c=D then 4 else if c=L then 5 else if c=L2\/c=R2 then 1 else if c∈a then 2 else if c∈b then 3 else 0
inductive N5(a:yD)(vs:qa V)(H:Hp)(Q:VK)(E:XK):Prop
 |mk:∀(x dx:qc)(mk:qb->qe)(WI W M:qe),vs=[.ref x]->WI.length<=20->W.length<=20->M.length<=20->H x=some (.ins a.zM dx [])->(∀H' own xr L xt xi xf,(∀c o,c≠x->H c=some o->H' c=some o)->(∀c o,c≠x->H c=some o->own c=0)->vS a H' own x dx xr L xt xi xf [] [] [] mk WI W M 0->Q .non H')->N5 a vs H Q E
def Tv(F:zX K Zf "Board.__init__" WQ a.vN fd)(T:Txt P w K mg base a)(FF:Yz K a):T.fq j6 3 a.vN fd [ZZ] (N5 a):=by
 obtain⟨fd1,F1,nP⟩:=FF.oG;have ot:=Tc F1 T;obtain⟨fd2,F2,pQ⟩:=FF.rq;have rh:=Py F2 T;obtain⟨fd3,F3,tK⟩:=FF.tU;have tR:=Ti F3 T;obtain⟨fd4,F4,pV⟩:=FF.rC;have rm:=Tr F4 T;refine F.ok D5 (λcdv A outer st H vs Q E hr h=>?_)
 .obtain⟨x,dx,mk,WI,W,M,rfl,hWI,hW,hM,hx,k⟩:=h;have u:QG 2 _:=hr;refine⟨_,(Qd (YC (pv 0) (Xh T.Qat ot u rfl T.tq nP .nil Ql) rfl)
   (Qd (YC (pv 0) Q8 rfl)
   (Qd (YC (pv 0) (Xh T.QbV rh u rfl T.Qa3 pQ .nil Ql) rfl)
   (Qd (YC (pv 0) (Xh T.Qc7 tR u rfl T.QcB tK .nil Ql) rfl)
   (Qf (YC (pv 0) (Xh T.QbW rm u rfl T.Qa4 pV .nil Ql) rfl)))))),?_⟩
  intro xr dr nxr ndr ner;refine⟨xr,dr,U,Qc,λD O nD rg ka=>⟨U,?_⟩⟩;have sa:Qj H O:=Xm nxr ndr λc o n e=>ka c o e n;have hxa:=sa _ _ hx;refine⟨_,U,x,_,dx,_,U,hxa,T.zp,T.j8,(by decide),?_⟩;have R:(upd O x (.ins a.zM dx (QI Zu (.ref xr) []))) x=some (.ins a.zM dx (QI Zu (.ref xr) [])):=Qc;have kb:SX x O (upd O x (.ins a.zM dx (QI Zu (.ref xr) []))):=λc o n e=>by rw[Qa n];exact e
  generalize upd O x (.ins a.zM dx (QI Zu (.ref xr) []))=Hb at R kb;intro L nL;have sc:Qj Hb (upd Hb L (.dK [])):=Qj.zi nL;have eL:(upd Hb L (.dK [])) L=some (.dK []):=Qc;generalize upd Hb L (.dK [])=Hc at sc eL;have hxc:=sc _ _ R;refine⟨_,U,x,_,dx,_,U,hxc,T.zp,T.z8,(by show 1<1000;decide),?_⟩;have r:(upd Hc x (.ins a.zM dx (QI Zs (.ref L) (QI Zu (.ref xr) [])))) x=some (.ins a.zM dx (QI Zs (.ref L) (QI Zu (.ref xr) []))):=Qc;have kd:SX x Hc (upd Hc x (.ins a.zM dx (QI Zs (.ref L) (QI Zu (.ref xr) [])))):=λc o n e=>by rw[Qa n];exact e
  generalize upd Hc x (.ins a.zM dx (QI Zs (.ref L) (QI Zu (.ref xr) [])))=Hd at r kd;intro xt dt v ndt net;refine⟨Hd,xt,dt,U,Qc,λc o e=>⟨(by rw[Qa (Qb e v),Qa (Qb e ndt)];exact e),Qb e v⟩,λHe ht=>⟨U,?_⟩⟩;obtain⟨dxt,L2,R2,kr,th,hk0,hk1,oo,se⟩:=ht;have hxe:=se _ _ r;refine⟨_,U,x,_,dx,_,U,hxe,T.zp,T.xY,(by show 2<1000;decide),?_⟩;have y:(upd He x (.ins a.zM dx (QI Jt (.ref xt) (QI Zs (.ref L) (QI Zu (.ref xr) []))))) x=some (.ins a.zM dx (QI Jt (.ref xt) (QI Zs (.ref L) (QI Zu (.ref xr) [])))):=Qc;have kf:SX x He (upd He x (.ins a.zM dx (QI Jt (.ref xt) (QI Zs (.ref L) (QI Zu (.ref xr) []))))):=λc o n e=>by rw[Qa n];exact e
  generalize upd He x (.ins a.zM dx (QI Jt (.ref xt) (QI Zs (.ref L) (QI Zu (.ref xr) []))))=Hf at y kf;intro xi di S ndi nei;refine⟨xi,di,WI,U,hWI,Qc,λHg g kg fi ix=>⟨U,?_⟩⟩;have sg:Qj Hf Hg:=Xm S ndi kg;have hxg:=sg _ _ y;refine⟨_,U,x,_,dx,_,U,hxg,T.zp,T.xW,(by show 3<1000;decide),?_⟩;have B:(upd Hg x (.ins a.zM dx (QI Jx (.ref xi) (QI Jt (.ref xt) (QI Zs (.ref L) (QI Zu (.ref xr) [])))))) x=some (.ins a.zM dx (QI Jx (.ref xi) (QI Jt (.ref xt) (QI Zs (.ref L) (QI Zu (.ref xr) []))))):=Qc;have X:SX x Hg (upd Hg x (.ins a.zM dx (QI Jx (.ref xi) (QI Jt (.ref xt) (QI Zs (.ref L) (QI Zu (.ref xr) [])))))):=λc o n e=>by rw[Qa n];exact e
  generalize upd Hg x (.ins a.zM dx (QI Jx (.ref xi) (QI Jt (.ref xt) (QI Zs (.ref L) (QI Zu (.ref xr) [])))))=Hh at B X;intro xf df Y ndf nef;refine⟨xf,df,mk,W,M,U,hW,hM,Qc,λHi m ki fF fo=>⟨U,?_⟩⟩;have si:Qj Hh Hi:=Xm Y ndf ki;have hxi:=si _ _ B;refine⟨_,U,x,_,dx,_,U,hxi,T.zp,T.ji,(by show 4<1000;decide),?_⟩;have Z:(upd Hi x (.ins a.zM dx (QI ZZa (.ref xf) (QI Jx (.ref xi) (QI Jt (.ref xt) (QI Zs (.ref L) (QI Zu (.ref xr) []))))))) x=some (.ins a.zM dx (bfs xr L xt xi xf)):=by
   rw[Qc];congr 2
  have kj:SX x Hi (upd Hi x (.ins a.zM dx (QI ZZa (.ref xf) (QI Jx (.ref xi) (QI Jt (.ref xt) (QI Zs (.ref L) (QI Zu (.ref xr) []))))))):=λc o n e=>by rw[Qa n];exact e
  generalize upd Hi x (.ins a.zM dx (QI ZZa (.ref xf) (QI Jx (.ref xi) (QI Jt (.ref xt) (QI Zs (.ref L) (QI Zu (.ref xr) []))))))=p at Z kj;have fj:SX x Hi p:=kj;have fh:SX x Hg p:=λc o n e=>fj c o n (si _ _ (X c o n e));have ff:SX x He p:=λc o n e=>fh c o n (sg _ _ (kf c o n e));have fd':SX x Hc p:=λc o n e=>ff c o n (se _ _ (kd c o n e));have fa:SX x O p:=λc o n e=>fd' c o n (sc _ _ (kb c o n e));have nx:∀{c:qc},H c=none->c≠x:=λh z=>by rw[z,hx] at h;cases h
  have dD:H D=none:=Bl nD;have xa:∀{c:qc},O c=none->H c=none:=λ{c} h=>by
   cases e:H c with
   |none=>rfl
   |some o=>rw[sa _ _ e] at h;cases h
  have up:∀{G G':Hp}{c:qc},SX x G G'->c≠x->G' c=none->G c=none:=λ{G G' c} k n h=>by
   cases e:G c with
   |none=>rfl
   |some o=>rw[k c o n e] at h;cases h
  have I:L≠x:=λz=>by rw[z,R] at nL;cases nL
  have nL2:L2≠x:=λz=>by have:=oo.hL;rw[z,r] at this;cases this
  have nR2:R2≠x:=λz=>by have:=oo.hR;rw[z,r] at this;cases this
  have s:∀c∈g,Hf c=none:=λc hc=>Bl (fi c hc);have i:∀c∈m,Hh c=none:=λc hc=>Bl (fF c hc);have xFi:∀c∈g,c≠x:=λc hc z=>by have:=s c hc;rw[z,y] at this;cases this
  have xFf:∀c∈m,c≠x:=λc hc z=>by have:=i c hc;rw[z,B] at this;cases this
  have b:Reg a p xr dr D [] []:=rg.keep (λc o hc e=>fa c o (by
   rcases hc with rfl|hc
   .exact nx nxr
   .rcases hc with rfl|⟨f,z⟩
    .exact nx dD
    .cases z) e) λc xs e=>fa c _ (λz=>by rw[z,hxa] at e;cases e) e
  have kr0:kr=[]:=ya.mp (by omega);subst kr0;have j:TH a p xt dxt L2 R2 [] []:=th.keep λc o hc e=>ff c o (by
   rcases hc with rfl|rfl|rfl|⟨t,z⟩
   .exact λz=>by rw[z,r] at v;cases v
   .exact nL2
   .exact nR2
   .cases z) e
  have J:sT a p xi [] WI 0 g:=ix.keep λc o hc e=>fh c o (by
   rcases hc with rfl|hc
   .exact λz=>by rw[z,y] at S;cases S
   .exact xFi c hc) e
  have N:FO a p xf [] mk W M 0 m:=fo.keep λc o hc e=>fj c o (by
   rcases hc with rfl|hc
   .exact λz=>by rw[z,B] at Y;cases Y
   .exact xFf c hc) e
  have eLj:p L=some (.dK []):=fd' L _ I eL;have hLd:Hd L=some (.dK []):=kd L _ I eL;have hLf:Hf L=some (.dK []):=kf L _ I (se _ _ hLd);have hLh:Hh L=some (.dK []):=X L _ I (sg _ _ hLf);have h2f:Hf L2=some (.dK (QQ [])):=kf L2 _ nL2 th.lk;have h3f:Hf R2=some (.dK []):=kf R2 _ nR2 th.rp;have h2h:Hh L2=some (.dK (QQ [])):=X L2 _ nL2 (sg _ _ h2f);have h3h:Hh R2=some (.dK []):=X R2 _ nR2 (sg _ _ h3f);have hih:∀c∈g,∃o,Hh c=some o:=λc hc=>by
   obtain⟨o,e,_⟩:=ix.there hc;exact⟨o,X c o (xFi c hc) e⟩
  have ne2:∀{G:Hp}{c d:qc}{o:HO},G c=none->G d=some o->c≠d:=λh1 h2 z=>by rw[z,h2] at h1;cases h1
  have o0:∀{c C d:qc}{fs:qa (qb×V)},p c=some (.ins C d fs)->Ki D L L2 R2 g m c=0:=λ{c C d fs} e=>by
   unfold Ki;rw[qC (λz=>by rw[z,b.dr] at e;cases e),qC (λz=>by rw[z,eLj] at e;cases e),qC (λz=>by
    rcases z with z|z
    .rw[z,j.lk] at e;cases e
    .rw[z,j.rp] at e;cases e),qC (λz=>by
    rcases J.kind z with⟨kvs,q⟩|⟨xs,q⟩
    .rw[q] at e;cases e
    .rw[q] at e;cases e),qC (λz=>by obtain⟨kvs,q⟩:=N.kind z;rw[q] at e;cases e)]
  have oL:Ki D L L2 R2 g m L=5:=by
   unfold Ki;rw[qC (λz=>by have:=b.dr;rw[<-z,eLj] at this;cases this),qG rfl]
  have oT:∀c,(c=L2\/c=R2)->Ki D L L2 R2 g m c=1:=λc hc=>by
   unfold Ki;rw[qC (λz=>by
    rcases hc with h|h
    .have:=j.lk;rw[<-h,z,b.dr] at this;cases this
    .have:=j.rp;rw[<-h,z,b.dr] at this;cases this),qC (λz=>by
    rcases hc with h|h
    .exact ne2 oo.hL hLd (h.symm.trans z)
    .exact ne2 oo.hR hLd (h.symm.trans z)),qG hc]
  have oI:∀c∈g,Ki D L L2 R2 g m c=2:=λc hc=>by
   unfold Ki;rw[qC (λz=>by
    rcases J.kind hc with⟨kvs,q⟩|⟨xs,q⟩
    .rw[z,b.dr] at q;cases q
    .rw[z,b.dr] at q;cases q),qC (ne2 (s c hc) hLf),qC (λz=>z.elim (ne2 (s c hc) h2f) (ne2 (s c hc) h3f)),qG hc]
  have oF:∀c∈m,Ki D L L2 R2 g m c=3:=λc hc=>by
   unfold Ki;rw[qC (λz=>by obtain⟨kvs,q⟩:=N.kind hc;rw[z,b.dr] at q;cases q),qC (ne2 (i c hc) hLh),qC (λz=>z.elim (ne2 (i c hc) h2h) (ne2 (i c hc) h3h)),qC (λz=>by obtain⟨o,q⟩:=hih c z;exact ne2 (i c hc) q rfl),qG hc]
  obtain⟨di',E',B',ei⟩:=J.obj;obtain⟨df',X1,T1,N1,ef⟩:=N.obj;have oz:∀c o,c≠x->H c=some o->Ki D L L2 R2 g m c=0:=λc o n e=>by
   have A2:=kb c o n (sa _ _ e);have A4:=kd c o n (sc _ _ A2);have A6:=kf c o n (se _ _ A4);have A8:=X c o n (sg _ _ A6);unfold Ki;rw[qC (Qb e dD),qC (Qb A2 nL),qC (λz=>z.elim (Qb A4 oo.hL) (Qb A4 oo.hR)),qC (λz=>by have:=s c z;rw[A6] at this;cases this),qC (λz=>by have:=i c z;rw[A8] at this;cases this)]
  refine k p (Ki D L L2 R2 g m) xr L xt xi xf (λc o n e=>fa c o n (sa _ _ e)) oz ⟨Z,o0 Z,⟨dr,D,[],b,o0 b.obj,λc hc=>?_⟩,⟨eLj,oL,zB,zB,λl hl=>nomatch hl⟩,⟨dxt,L2,R2,[],j,qB _,qB _,o0 j.obj,λc hc=>?_⟩,⟨g,J,o0 ei,oI⟩,⟨m,N,o0 ef,oF⟩⟩
  .rcases hc with rfl|⟨f,z⟩
   .unfold Ki;rw[qG rfl]
   .cases z
  .rcases hc with h|h|⟨t,z⟩
   .exact oT c (.inl h)
   .exact oT c (.inr h)
   .cases z
structure KB(own own':qc->Nat)(H H':Hp):Prop where
 k:∀c o,H c=some o->(own c=0\/7<=own c\/AF o=true)->H' c=some o
 g:∀c o,H c=some o->(own c=0\/7<=own c\/AF o=true)->own' c=own c
def KB.of(k:lC own j H H')(a:1<=j)(b:j<=6):KB own (grow own j H) H H':=
 ⟨λc o e h=>k c o e (h.elim (λz=>.inl (by omega)) λh=>h.imp (λz=>by omega) id),λc o e _=>Qo e⟩
def KB.trans{b a:qc->Nat}{d:Hp}(x:KB own b H H')(y:KB b a H' d):KB own a H d:=
 ⟨λc o e h=>y.k c o (x.k c o e h) (by rw[x.g c o e h];exact h),λc o e h=>by rw[y.g c o (x.k c o e h) (by rw[x.g c o e h];exact h),x.g c o e h]⟩
def LsO.pop(h:LsO a H own L ls)(nm:qb) :
 LsO a (upd H L (.dK (Us (dG LE.nm (λl=>V.ref l.y) ls) (Sum.inr nm)))) (grow own 5 H) L (ls.filter λl=>decide (l.nm≠nm))/\lC own 5 H (upd H L (.dK (Us (dG LE.nm (λl=>V.ref l.y) ls) (Sum.inr nm)))):=by
 have k:lC own 5 H (upd H L (.dK (Us (dG LE.nm (λl=>V.ref l.y) ls) (Sum.inr nm)))):=λc o e q=>by
  have n:c≠L:=λz=>by
   rcases q with q|q
   .rw[z] at q;exact q h.o
   .rw[z,h.e] at e;cases e;cases q
  rw[Qa n];exact e
 refine⟨⟨by rw[Qc,XG],by rw[Qo h.e];exact h.o,(jI ((zH).map _) h.nd),(jI ((zH).map _) h.na),λl b=>?_⟩,k⟩;have b:=(qo.mp b).1;exact⟨(h.at_ l b).1.step k (by decide),(h.at_ l b).2⟩
def Ls(ls:qa LE)(nm:qb):L2.without (ls.map λl=>(l.nm,l.p.an)) nm=(ls.filter λl=>decide (l.nm≠nm)).map λl=>(l.nm,l.p.an):=by
 unfold L2.without;rw[ye];rfl
def cp(ls:qa LE)(nm:qb):noN (ls.map λl=>(l.nm,lwd l.p)) nm=(ls.filter λl=>decide (l.nm≠nm)).map λl=>(l.nm,lwd l.p):=by
 unfold noN;rw[ye];rfl
inductive N4(a:yD)(vs:qa V)(H:Hp)(Q:VK)(E:XK):Prop
 |mk:∀(own:qc->Nat)(b db xr L xt xi xf:qc)(es:qa Ent)(ls:qa LE)(bx:Rows)(mk:qb->qe)(WI W M:qe)(n:Nat)(nm:qb),vs=[.ref b,.str nm]->vS a H own b db xr L xt xi xf es ls bx mk WI W M n->nm∈ls.map LE.nm->nm∈bx.map (·.1) ->
   (∀H' own',vS a H' own' b db xr L xt xi xf es (ls.filter λl=>decide (l.nm≠nm)) (L2.without bx nm) mk WI W M n->KB own own' H H'->Q .non H')->N4 a vs H Q E
def Ld(F:zX K Zo "Board.take_out" UZ a.xh fd)(T:Txt P w K mg base a)(g:Yz K a):T.fq j6 3 a.xh fd [ZZ,ZJ] (N4 a):=by
 obtain⟨fd2,F2,lU⟩:=g.mj;have me:=Ta F2 T g;obtain⟨fd3,F3,nQ⟩:=g.oH;have ou:=Th F3 T g;obtain⟨fd4,F4,lV⟩:=g.mn;have mh:=To F4 T g;refine F.ok Ac (λcdv A outer st H vs Q E hr h=>?_)
 .obtain⟨own,b,db,xr,L,xt,xi,xf,es,ls,bx,mk,WI,W,M,n,nm,rfl,h,hl,hb,k⟩:=h;have d:QG 2 _:=hr;refine⟨_,(Qd (Qy (UL (Qm (pv 0) U) (pv 1) ⟨U,U,U,U⟩))
   (Qd (Qy (QN (Qm (pv 0) U) T.zW T.lY me d lU .nil Ql (zg (pv 1) Qe)))
   (Qd (Qy (QN (Qm (pv 0) U) T.j0 T.n3 ou d nQ .nil Ql (zg (pv 1) Qe)))
   (Qf (Qy (QN (Qm (pv 0) U) T.q8 T.lZ mh d lV .nil Ql (zg (pv 1) Qe))))))),?_⟩
  obtain⟨le,hle,rfl⟩:=qj.mp hl;obtain⟨t,e⟩:=h.l.pop le.nm;refine⟨_,U,b,_,db,_,_,U,h.e,T.zp,T.z8,U,L,U,.inl ⟨_,.inl h.l.e⟩,_,U,_,Sum.inr le.nm,_,h.l.e,U,QZ h.l.nd hle,?_⟩;have q:=e _ _ h.e (.inl (by rw[h.o];decide));have u:grow own 5 H b=0:=by rw[Qo h.e];exact h.o
  have v:=h.r.step e;have t1:=h.t.step e;have x:=h.i.step e;have f1:=h.f.step e;show YY _ _ _ _ (upd H L (.dK (Us (dG LE.nm (λl=>V.ref l.y) ls) (Sum.inr le.nm))));generalize upd H L (.dK (Us (dG LE.nm (λl=>V.ref l.y) ls) (Sum.inr le.nm)))=H1 at t e q v t1 x f1⊢;have kb1:KB own (grow own 5 H) H H1:=KB.of e (by decide) (by decide);generalize grow own 5 H=f at t u v t1 x f1 kb1;obtain⟨y,L2,R2,krT,m,_,_,z,_⟩:=id t1;refine⟨_,U,b,_,db,_,_,U,q,T.zp,T.xY,U,xt,y,_,U,m.obj,U,_,U,rest f 1 H1,xt,_,n,le.nm,U,t1.thf,(by rw[qT];exact qj.mpr ⟨le,hle,U⟩),λH2 ht _=>?_⟩;obtain⟨B,k2⟩:=ThO.of z ⟨_,m.obj⟩ ht;rw[Ls] at B;have r:=k2 _ _ q (.inl (by rw[u];decide));have C:grow f 1 H1 b=0:=by rw[Qo q];exact u
  have r2:=v.step k2;have l2:=t.step k2;have i2:=x.step k2;have f2:=f1.step k2;have kb2:=kb1.trans (KB.of k2 (by decide) (by decide));generalize grow f 1 H1=o at B r C r2 l2 i2 f2 kb2;obtain⟨Fi,D,G,I⟩:=i2;obtain⟨J,E1,B1,N⟩:=D.obj;refine⟨_,U,b,_,db,_,_,U,r,T.zp,T.xW,U,xi,J,_,U,N,U,_,U,xi,_,WI,n,Fi,le.nm,U,D,(by rw[qT];exact qj.mpr ⟨le,hle,U⟩),λH3 Fi' O kF hF=>?_⟩;obtain⟨R,i⟩:=IxO.own' D G I O kF (λc hc=>.inl (hF c hc));rw[cp] at R;have s:=i _ _ r (.inl (by rw[C];decide));have S:grow o 2 H2 b=0:=by rw[Qo r];exact C
  have r3:=r2.step i;have l3:=l2.step i;have t3:=B.step i;have f3:=f2.step i;have p:=kb2.trans (KB.of i (by decide) (by decide));generalize grow o 2 H2=X at t3 s S r3 l3 R f3 p;obtain⟨Ff,fo,Y,Z⟩:=f3;obtain⟨dxf,X1,T1,N1,exf⟩:=fo.obj;refine⟨_,U,b,_,db,_,_,U,s,T.zp,T.ji,U,xf,dxf,_,U,exf,U,_,U,xf,_,mk,W,M,n,Ff,le.nm,U,fo,hb,λH4 Ff' fo' kG hG=>?_⟩;obtain⟨f4,j⟩:=FoO.own' fo Y Z fo' kG (λc hc=>.inl (hG c hc));exact k H4 (grow X 3 H3) ⟨j _ _ s (.inl (by rw[S];decide)),by rw[Qo s];exact S,r3.step j,l3.step j,t3.step j,R.step j,f4⟩ (p.trans (KB.of j (by decide) (by decide)))
def skS{x y:qb}{A B:Prop}(h:decide (x=y)=false)(k:B):if decide (V.str x=V.str y)=true then A else B:=by
 rw[Um,h];exact QU k
def cD{x:qb}{A B:Prop}(k:A):if decide (V.str x=V.str x)=true then A else B:=by
 rw[qt rfl];exact Ya k
inductive Dd where
 |put (nm:qb) (p:LD)
 |place (nm fo:qb)
 |mark (nm y:qb) (on:Bool)
 |drop (nm:qb)
def Dd.nm:Dd->qb
 |.put nm _=>nm
 |.place nm _=>nm
 |.mark nm _ _=>nm
 |.drop nm=>nm
inductive DAt(H:Hp)(q:qc):Dd->Prop
 |put {nm:qb} {p:LD} {u:qc}:H q=some (.tup [.str Zx,.str nm,.ref u])->H u=some (.tup [.str p.s,.str p.t,.str p.b,.int p.d,.str p.an])->DAt H q (.put nm p)
 |place {nm fo:qb}:H q=some (.tup [.str Zh,.str nm,.str fo])->DAt H q (.place nm fo)
 |mark {nm y:qb} {on:Bool}:H q=some (.tup [.str Zd,.str nm,.str y,.bl on])->DAt H q (.mark nm y on)
 |drop {nm:qb}:H q=some (.tup [.str Zt,.str nm])->DAt H q (.drop nm)
def DAt.tups{q:qc}(h:DAt H q d)(k:∀c xs,H c=some (.tup xs)->H' c=some (.tup xs)):DAt H' q d:=by
 cases h with
 |put e a=>exact .put (k _ _ e) (k _ _ a)
 |place e=>exact .place (k _ _ e)
 |mark e=>exact .mark (k _ _ e)
 |drop e=>exact .drop (k _ _ e)
def chL(ls:qa LE):Dd->qa LE
 |.drop nm=>ls.filter λl=>decide (l.nm≠nm)
 |_=>ls
def chB(bx:Rows):Dd->Rows
 |.drop nm=>L2.without bx nm
 |.place nm fo=>L2.without bx nm++[(nm,fo)]
 |_=>bx
def chM(mk:qb->qe):Dd->qb->qe
 |.mark nm y true=>Ul mk nm (YH (mk nm) y)
 |.mark nm y false=>Ul mk nm ((mk nm).filter λz=>decide (z≠y))
 |_=>mk
def dOk(W M:qe):Dd->Prop
 |.put _ _=>False
 |.place _ fo=>fo∈W
 |.mark _ y _=>y∈M
 |.drop _=>True
inductive dc(a:yD)(vs:qa V)(H:Hp)(Q:VK)(E:XK):Prop
 |mk:∀(own:qc->Nat)(b db xr L xt xi xf:qc)(es:qa Ent)(ls:qa LE)(bx:Rows)(mk:qb->qe)(WI W M:qe)(n:Nat)(q:qc)(d:Dd),vs=[.ref b,.ref q]->vS a H own b db xr L xt xi xf es ls bx mk WI W M n->DAt H q d->dOk W M d->d.nm∈ls.map LE.nm->d.nm∈bx.map (·.1) ->
   (∀H' own',vS a H' own' b db xr L xt xi xf es (chL ls d) (chB bx d) (chM mk d) WI W M n->KB own own' H H'->Q .non H')->dc a vs H Q E
def vS.fold(h:vS a H own b db xr L xt xi xf es ls bx mk WI W M n)(f:FoO a H' (grow own 3 H) xf bx' mk' W M n)(k:lC own 3 H H'):vS a H' (grow own 3 H) b db xr L xt xi xf es ls bx' mk' WI W M n:=
 ⟨k _ _ h.e (.inl (by rw[h.o];decide)),by rw[Qo h.e];exact h.o,h.r.step k,h.l.step k,h.t.step k,h.i.step k,f⟩
def fP(F:zX K ZZj "Board.change" VN a.kH fd)(T:Txt P w K mg base a)(p:Yz K a):T.fq j6 4 a.kH fd [ZZ,JT] (dc a):=by
 obtain⟨B,C,kX⟩:=p.uc;have va:=Ld C T p;obtain⟨D,G,oX⟩:=p.pk;have ph:=PL G T p;obtain⟨I,J,pU⟩:=p.rB;have rl:=Tq J T p;obtain⟨N,O,nS⟩:=p.oJ;have ox:=MN O T p;refine F.ok XM (λR A outer st H vs Q E S h=>?_)
 .obtain⟨own,b,db,xr,L,xt,xi,xf,es,ls,bx,mk,WI,W,M,n,q,d,rfl,h,hd,z,V,v,k⟩:=h;have t:QG 3 _:=S;have s:QG 2 _:=t.mono;refine⟨_,(Qd (Qr (i:=2) XM.nd (Qv QR (pv 1) Qi))
   (Qf (QV (Qt YQ (Qv QR (pv 1) Qi) Qq) (Qf (Qy (QN (pv 0) T.zp T.wY va t kX .nil Ql (zg (pv 2) Qe)))) (Qf (QV (Qt YQ (Qv QR (pv 1) Qi) Qq) (Qf (Qy (QN (Qm (pv 0) U) T.q8 T.oZ ph s oX .nil Ql (zg (pv 2) (zg (Qv QR (pv 1) Qi) Qe))))) (Qf (QV (UH (Qv QR (pv 1) Qi)) (Qf (Qy (QN (Qm (pv 0) U) T.q8 T.p9 rl s pU .nil Ql (zg (pv 2) (zg (Qv QR (pv 1) Qi) Qe))))) (Qf (Qy (QN (Qm (pv 0) U) T.q8 T.n7 ox s nS .nil Ql (zg (pv 2) (zg (Qv QR (pv 1) Qi) Qe)))))))))))),?_⟩
  cases hd with
  |put e f=>exact z.elim
  |drop e=>
   refine⟨_,U,q,_,_,_,U,U,jX.of e,QB (j:=1) rfl,?_⟩;refine⟨_,U,q,_,_,_,U,U,jX.of e,QB (j:=0) rfl,U,_,U,cD ?_⟩;exact⟨_,U,b,db,_,U,h.e,U,_,U,own,b,db,xr,L,xt,xi,xf,es,ls,bx,mk,WI,W,M,n,_,U,h,V,v,λH' f g l=>k H' f g l⟩
  |place e=>
   obtain⟨x,fo,g,l⟩:=id h.f;obtain⟨m,X,T1,Y,o⟩:=fo.obj;refine⟨_,U,q,_,_,_,U,U,jX.of e,QB (j:=1) rfl,?_⟩;refine⟨_,U,q,_,_,_,U,U,jX.of e,QB (j:=0) rfl,U,_,U,skS (by decide +kernel) ⟨_,U,q,_,_,_,U,U,jX.of e,QB (j:=0) rfl,U,_,U,cD ?_⟩⟩;refine⟨_,U,b,_,db,_,_,U,h.e,T.zp,T.ji,U,xf,m,_,U,o,U,_,U,_,U,q,_,_,_,U,U,jX.of e,QB (j:=2) rfl,xf,_,mk,W,M,n,x,_,_,U,fo,v,z,λH' Z f u hG=>?_⟩;obtain⟨f4,r⟩:=FoO.own' fo g l f u hG;exact k H' _ (h.fold f4 r) (KB.of r (by decide) (by decide))
  |mark e=>
   rename_i nm y on
   obtain⟨x,fo,g,l⟩:=id h.f;obtain⟨m,X,T1,Y,o⟩:=fo.obj;refine⟨_,U,q,_,_,_,U,U,jX.of e,QB (j:=1) rfl,?_⟩;refine⟨_,U,q,_,_,_,U,U,jX.of e,QB (j:=0) rfl,U,_,U,skS (by decide +kernel) ⟨_,U,q,_,_,_,U,U,jX.of e,QB (j:=0) rfl,U,_,U,skS (by decide +kernel) ?_⟩⟩;refine⟨_,U,q,_,_,_,U,U,jX.of e,QB (j:=3) rfl,_,U,?_⟩
   cases on with
   |true=>
    refine Ya ⟨_,U,b,_,db,_,_,U,h.e,T.zp,T.ji,U,xf,m,_,U,o,U,_,U,_,U,q,_,_,_,U,U,jX.of e,QB (j:=2) rfl,xf,_,mk,W,M,n,x,_,_,U,fo,v,z,λH' f u=>?_⟩;obtain⟨f4,r⟩:=FoO.own' fo g l f u (λc hc=>.inl hc);exact k H' _ (h.fold f4 r) (KB.of r (by decide) (by decide))
   |false=>
    refine QU ⟨_,U,b,_,db,_,_,U,h.e,T.zp,T.ji,U,xf,m,_,U,o,U,_,U,_,U,q,_,_,_,U,U,jX.of e,QB (j:=2) rfl,xf,_,mk,W,M,n,x,_,_,U,fo,v,λH' f u=>?_⟩;obtain⟨f4,r⟩:=FoO.own' fo g l f u (λc hc=>.inl hc);exact k H' _ (h.fold f4 r) (KB.of r (by decide) (by decide))
inductive Sj(a:yD)(vs:qa V)(H:Hp)(Q:VK)(E:XK):Prop
 |mk:∀(own:qc->Nat)(b db xr L xt xi xf:qc)(es:qa Ent)(ls:qa LE)(bx:Rows)(mk:qb->qe)(WI W M:qe)(n:Nat)(l:LE),vs=[.ref b,.str l.nm]->vS a H own b db xr L xt xi xf es ls bx mk WI W M n->l∈ls ->
   (∀y H',H y=none->Qj H H'->UO a H' y l.p.s l.p.t l.p.b l.p.d l.p.an->Q (.ref y) H')->Sj a vs H Q E
inductive N6(a:yD)(vs:qa V)(H:Hp)(Q:VK)(E:XK):Prop
 |mk:∀(own:qc->Nat)(b db xr L xt xi xf:qc)(es:qa Ent)(ls:qa LE)(bx:Rows)(mk:qb->qe)(WI W M:qe)(n:Nat)(l:LE)(fo:qb),vs=[.ref b,.str l.nm]->vS a H own b db xr L xt xi xf es ls bx mk WI W M n->l∈ls->L2.up bx l.nm=some fo->l.nm∈bx.map (·.1) ->
   (∀y g H',H y=none->H g=none->Qj H H'->Np a H' y g l.p.s l.p.t l.p.b l.p.d l.p.an fo (SS (Qz (mk l.nm)))->Q (.ref y) H')->N6 a vs H Q E
def cb(F:zX K JS "Board.letter_at" Uy a.yP fd)(T:Txt P w K mg base a)(e:Yz K a):T.fq j6 8 a.yP fd [ZZ,ZJ] (Sj a):=by
 obtain⟨p,qP,zu⟩:=e.qP;have zv:=Uq qP T;obtain⟨q,yI,wF⟩:=e.yI;have wH:=Oz yI T e;refine F.ok Gr (λr A outer st H vs Q E j h=>?_)
 .obtain⟨own,b,db,xr,L,xt,xi,xf,es,ls,bx,mk,WI,W,M,n,l,rfl,h,m,k⟩:=h;have s:=Q5 j;have c:QG 7 _:=j;have i:QG 1 _:=c.mono;refine⟨_,(Qd (Qy (Qk zv i rfl T.jl qP.kp zu .nil Ql (zg (pv 1) (zg (Qm (pv 0) U) Qe))))
   (Qf (Qw (Y9 (QA s (Qm (pv 0) U) (pv 1)) T.zK T.lN wH c wF .nil Ql)))),?_⟩
  have o:=QZ (g:=λl=>V.ref l.y) h.l.nd m;obtain⟨d,hg⟩:=h.l.at_ l m;obtain⟨t,f,u⟩:=d.let.at
  refine⟨_,U,_,U,b,_,db,_,_,U,h.e,T.zp,T.z8,U,l.nm,L,_,_,U,h.l.e,o,?_⟩;refine⟨_,U,b,_,db,_,_,U,h.e,T.zp,T.z8,U,?_⟩;refine⟨_,U,L,_,U,.inl ⟨_,Sum.inr l.nm,.inl h.l.e,U,o.symm⟩,?_⟩;exact⟨l.y,t,_,U,u,U,l.y,_,_,_,_,_,U,d.let,hg,λy H' v s' x=>k y H' v s' x⟩
def Tx(F:zX K "card" "Board.card" WR a.vO fd)(T:Txt P w K mg base a)(c:Yz K a):T.fq j6 10 a.vO fd [ZZ,ZJ] (N6 a):=by
 obtain⟨z,qP,zu⟩:=c.qP;have zv:=Uq qP T;obtain⟨B,u7,QaH,_⟩:=c.u7;have QaQ:=Ts u7 T c;obtain⟨C,D,kW⟩:=c.ub;have kZ:=Dc D T c;obtain⟨G,I,vD⟩:=c.uM;have vF:=EX I T c;refine F.ok D6 (λJ A outer st H vs Q E r h=>?_)
 .obtain⟨own,b,db,xr,L,xt,xi,xf,es,ls,bx,mk,WI,W,M,n,l,fo,rfl,h,s,m,t,k⟩:=h;have N:=Q5 r;have d:QG 9 _:=r;have e:QG 2 _:=d.mono;have o:QG 1 _:=d.mono;refine⟨_,(Qd (Qy (Qk zv o rfl T.jl qP.kp zu .nil Ql (zg (pv 1) (zg (Qm (pv 0) U) Qe))))
   (Qf (Qw (F0 T.QdV QaQ d rfl T.Qc4 QaH .nil Ql (zg (QA N (Qm (pv 0) U) (pv 1)) (zg (QN (Qm (pv 0) U) T.q8 T.wX kZ e kW .nil Ql (zg (pv 1) Qe)) (zg (QN (Qm (pv 0) U) T.q8 T.uJ vF e vD .nil Ql (zg (pv 1) Qe)) Qe))))))),?_⟩
  have u:=QZ (g:=λl=>V.ref l.y) h.l.nd s;obtain⟨p,hg⟩:=h.l.at_ l s;obtain⟨v,j,O,R⟩:=h.f;obtain⟨f,X1,T1,N1,i⟩:=j.obj;have q:=j.Qdm t;refine⟨_,U,_,U,b,_,db,_,_,U,h.e,T.zp,T.z8,U,l.nm,L,_,_,U,h.l.e,u,?_⟩;refine⟨_,U,b,_,db,_,_,U,h.e,T.zp,T.z8,U,_,U,L,_,U,.inl ⟨_,Sum.inr l.nm,.inl h.l.e,U,u.symm⟩,?_⟩;refine⟨_,U,b,_,db,_,_,U,h.e,T.zp,T.ji,U,xf,f,_,U,i,U,_,U,xf,bx,mk,W,M,n,v,l.nm,fo,U,j,m,?_⟩;refine⟨_,U,b,_,db,_,_,U,h.e,T.zp,T.ji,U,xf,f,_,U,i,U,_,U,xf,bx,mk,W,M,n,v,l.nm,U,j,t,λlm H1 nl s1 S=>?_⟩;exact λy dy x X ne=>TK x X ne (p.let.mono s1) hg (.inr ⟨lm,U,.inl S⟩) (by rw[Uu];have:=q.2.2;omega) λY g s2 Z hc=>⟨U,k y g Y (s1.free x) (s1.free Z) (s1.trans s2) hc⟩
def Ej(es:qa Ent)(k:qe):Bool:=decide (k.getD 1 ""=Zd)&&(match QJ es k with|some e=>decide (e.2.2.2=V.bl true)|none=>false)
def OG(es:qa Ent)(nm:qb):qa (qe):=(Wy ((sel [nm] es).map (·.1))).map λi=>((sel [nm] es).map (·.1)).getD i []
def Kn(es:qa Ent)(nm:qb):qe:=((OG es nm).filter (Ej es)).map λk=>k.getD 2 ""
structure gE(es:qa Ent):Prop where
 ne:∀e∈es,e.1≠[]
 two:∀e∈es,2<=e.1.length
 mw:∀e∈es,e.1.getD 1 ""=Zd->(∃on,e.2.2.2=V.bl on)/\e.1.length=3
def HQ{H:Hp}:∀{bs:qa qc}{ts:qa (qe)}(i:Nat),WC H bs ts->i<ts.length->H (bs.getD i 0)=some (.tup ((ts.getD i []).map V.str))
 |_,_,i,.nil,a=>absurd a (sI _)
 |_,_,0,.cons e _ _,_=>e
 |_,_,i+1,.cons _ _ r,a=>HQ i r (yo a)
def IH:∀(bs:qa qc)(i:Nat),i<bs.length->(bs.map V.ref).getD i .non=V.ref (bs.getD i 0)
 |[],i,h=>absurd h (sI _)
 |_::_,0,_=>rfl
 |_::bs,i+1,h=>IH bs i (yo h)
def VQ(h:QJ es k=some e):e∈es/\e.1=k:=⟨List.mem_of_find?_eq_some h,by have z:=List.find?_some h;exact ql z⟩
def DZ(h:j<k.length):mv (k.map V.str) (j:Int)=some (V.str (k.getD j "")):=QB (by
 rw[qQ,zC,qA h];rfl)
def Cv(h:e∈es):∃a,QJ es e.1=some a:=by
 cases q:QJ es e.1 with
 |some a=>exact⟨a,U⟩
 |none=>
  have:=QbL.mp q e h;exact absurd (qt rfl) this
inductive hP(a:yD)(vs:qa V)(H:Hp)(Q:VK)(E:XK):Prop
 |mk:∀(own:qc->Nat)(b db xr L xt xi xf:qc)(es:qa Ent)(ls:qa LE)(bx:Rows)(mk:qb->qe)(WI W M:qe)(n:Nat)(nm:qb),vs=[.ref b,.str nm]->vS a H own b db xr L xt xi xf es ls bx mk WI W M n->gE es->es.length<64 ->
   (∀l H',H l=none->Qj H H'->H' l=some (.lst ((Kn es nm).map V.str))->Q (.ref l) H')->hP a vs H Q E
def ic(F:zX K JQ "Board.marks_told" YL a.yC fd)(T:Txt P w K mg base a)(O:Yz K a):T.fq j6 2 a.yC fd [ZZ,ZJ] (hP a):=by
 obtain⟨X,Y,lz⟩:=O.lI;have lG:=PH Y T;obtain⟨Z,F2,_,ds,B,oW⟩:=O.uL;have yH:=Tn F2 T;refine F.ok K6 (λcdv A outer st H vs Q E hr h=>?_)
 .obtain⟨own,b,db,xr,L,xt,xi,xf,es,ls,bx,mk,WI,W,M,n,nm,rfl,h,hm,C,k⟩:=h;have o:QG 1 _:=hr;refine⟨_,(Qf (Qw (VO (sc:=Qg YL) (N:=Ww) (fr:=[(0,ZZ)]) (cs_ rfl rfl) rfl rfl rfl (YD (QN (Qm (pv 0) U) T.jC T.lA lG o lz .nil Ql (zg (pv 1) Qe))) (λ_ _ _ _=>We (PW.pt (Vx (Qt YQ (Qv (Uj K) (pv 0) Qi) Qq) (U0 (UH (QN (Ha K (pv 1) U) T.jC T.xF yH o oW B Ql (zg (pv 0) Qe))))))) (λ_ _ _ _=>(Qv (Uj K) (pv 0) Qi))))),?_⟩;obtain⟨c,D,kd,u,oxr,oF⟩:=h.r;refine⟨_,U,b,_,db,_,_,U,h.e,T.zp,T.j8,U,xr,c,_,U,u.obj,U,_,U,xr,c,D,kd,es,nm,U,u,hm.ne,C,λl bs H1 nl s1 R G=>?_⟩;have d:∀i∈Wy ((sel [nm] es).map (·.1)),i<((sel [nm] es).map (·.1)).length:=λi m=>Hz m;have hbl:=R.len;have ex:(Wy ((sel [nm] es).map (·.1))).map (λi=>(bs.map V.ref).getD i .non)=((Wy ((sel [nm] es).map (·.1))).map λi=>(bs.getD i 0,((sel [nm] es).map (·.1)).getD i [])).map λx=>V.ref x.1:=by
   rw[qT];refine jU λi m=>?_;exact IH bs i (by have:=d i m;omega)
  rw[ex] at G;have p:∀x∈(Wy ((sel [nm] es).map (·.1))).map (λi=>(bs.getD i 0,((sel [nm] es).map (·.1)).getD i [])),H1 x.1=some (.tup (x.2.map V.str))/\∃e∈es,e.1=x.2:=λx r=>by
   obtain⟨i,m,rfl⟩:=qj.mp r;refine⟨HQ i R (d i m),?_⟩;have f:((sel [nm] es).map (·.1)).getD i []∈(sel [nm] es).map (·.1):=by
    rw[zC,qA (d i m)];exact jj _
   obtain⟨e,he,q⟩:=qj.mp f;exact⟨e,(qo.mp he).1,q⟩
  have hlen:((Wy ((sel [nm] es).map (·.1))).map (λi=>(bs.getD i 0,((sel [nm] es).map (·.1)).getD i []))).length<=sizeLine:=by
   rw[qh,DI,qh];have:(sel [nm] es).length<=es.length:=qW _ _;exact Q6 ((by omega))
  refine⟨l,U,⟨_,zQ.of G⟩,LY (λx=>V.ref x.1) (λx=>Ej es x.2) (λx=>V.str (x.2.getD 2 "")) hlen (zQ.of G) ?_ ?_ ?_⟩
  .intro x I Q' r s3 v;obtain⟨y,e,he,q⟩:=p x r;obtain⟨S,s⟩:=Cv he;rw[q] at s;have two:2<=x.2.length:=by rw[<-q];exact hm.two e he
   have f:=s1.trans s3;refine⟨_,U,x.1,_,_,_,U,U,jX.of (s3 _ _ y),DZ (j:=1) (by omega),U,_,U,?_⟩;by_cases g:x.2.getD 1 ""=Zd
   .obtain⟨⟨on,t⟩,_⟩:=hm.mw S (VQ s).1 (by rw[(VQ s).2];exact g);rw[g];refine cD ⟨_,U,b,_,db,_,_,U,f _ _ h.e,T.zp,T.j8,U,xr,c,_,U,f _ _ u.obj,U,_,U,xr,c,D,kd,es,x.1,x.2,.non,U,u.same f,(by intro z;rw[z] at two;exact absurd two (by decide)),s3 _ _ y,λH4 s4=>?_⟩;rw[s];have:=v H4 s4;have J:Ej es x.2=on:=by
     unfold Ej;rw[qt g,s];show(true&&decide (S.2.2.2=V.bl true))=on;rw[t];cases on<;>decide
    rw[J] at this;exact⟨on,t,this⟩
   .refine skS (qE g) ?_;have:=v I (Qj.refl _);have J:Ej es x.2=false:=by unfold Ej;rw[qE g];rfl
    rw[J] at this;exact this
  .intro x I Q' r s3 f v;obtain⟨y,e,he,q⟩:=p x r;have g:x.2.getD 1 ""=Zd:=by
    unfold Ej at f;exact ql (zZ.mp f).1
   have three:=(hm.mw e he (by rw[q];exact g)).2;rw[q] at three;exact⟨_,U,x.1,_,_,_,U,U,jX.of (s3 _ _ y),DZ (j:=2) (by omega),v I (Qj.refl _)⟩
  .intro f g s s2 t;refine k f g (s1.free s) (s1.trans s2) ?_;rw[t];congr 2;unfold Kn OG;rw[qT,ye,ye,qT,qT];rfl
inductive Im(a:yD)(vs:qa V)(H:Hp)(Q:VK)(E:XK):Prop
 |mk:∀x s t b d an,vs=[.ref x]->UO a H x s t b d an->Kx s t b d an->(∀D H',SX x H H'->Mg a H' x s t b d an D->(H D=none\/Mg a H x s t b d an D)->Q (.ref D) H')->Im a vs H Q E
inductive Sb(a:yD)(vs:qa V)(H:Hp)(Q:VK)(E:XK):Prop
 |mk:∀x s t b d an,vs=[.ref x]->UO a H x s t b d an->Kx s t b d an->(∀(l:qc)(H':Hp),H l=none->SX x H H'->(∃D,Mg a H' x s t b d an D/\(H D=none\/Mg a H x s t b d an D))->H' l=some (.lst ((WZ (v8 t++v8 b)).map V.str))->Q (.ref l) H')->Sb a vs H Q E
def PF(F:zX K ZZq "Letter.known" VI a.ku fd)(T:Txt P w K mg base a)(FF:Yz K a):T.fq j6 2 a.ku fd [ZZ] (Im a):=by
 obtain⟨fdA,vZ,pO⟩:=FF.vZ;have rd:=I1 vZ T;refine F.ok UP (λcdv A outer s H vs Q E X h=>?_)
 .obtain⟨x,s,t,b,d,an,rfl,hL,g,k⟩:=h;have hu:=Q5 X;have oR:QG 1 _:=X;refine⟨_,(Qd (QV (Qt S5 (Qm (pv 0) U) A3) (Qd (Qr (i:=1) UP.nd Q8)
   (Qd (Ud zx rfl (YD (Qk rd oR rfl T.pE vZ.kp pO .nil Ql (zg (Qm (pv 0) U) Qe))) (Ye (i:=2) UP.nd) (Qf (Yp hu (pv 1) (pv 2) YW rfl)))
   (Qd (Ud zx rfl (YD (Qk rd oR rfl T.pE vZ.kp pO .nil Ql (zg (Qm (pv 0) U) Qe))) (Ye (i:=2) UP.nd) (Qf (Qy (SV (pv 1) (pv 2) YW ⟨U,U,U,U⟩))))
   (Qf (YC (pv 0) (pv 1) U))))) QE)
   (Qf (Qw (Qm (pv 0) U)))),?_⟩
  have h1:=g.tl;have h2:=Nu t;have h3:=g.bl;have h4:=Nu b;rcases hL with⟨dx,f⟩|⟨D,⟨dx,f⟩,Y⟩
  .refine⟨_,U,x,_,dx,_,_,U,f,T.zK,T.jK,U,U,_,U,Ya ?_⟩;refine λD G=>?_;have s1:Qj H (upd H D (.dK [])):=Qj.zi G;have L:(upd H D (.dK [])) D=some (.dK []):=Qc;show YY _ _ _ _ (upd H D (.dK []));generalize upd H D (.dK [])=H1 at s1 L;refine⟨_,U,x,_,dx,_,_,U,s1 _ _ f,T.zK,T.xV,U,t,U,g.t_,by omega,λI H2 n1 s2 q=>?_⟩;have s3:=s1.trans s2;have lD:I≠D:=(Qb L n1).symm;refine⟨I,U,⟨_,zQ.of q⟩,YN (K:=K) (a:=I) (xs:=(v8 t).map V.str) (λi σ m=>∃o:Option V,σ=[some (.ref x),some (.ref D),o]/\Qj H m/\m D=some (.dK (kn (v8 t) ((v8 t).take i)))/\m I=some (.lst ((v8 t).map V.str)))
    ⟨none,U,s3,s2 _ _ L,q⟩ (λi σ m _ ⟨_,_,_,_,h⟩=>zQ.of h) ?_ ?_⟩
   .rintro i y σ m M ⟨o,rfl,s4,r,Z⟩;obtain⟨u,rfl,j⟩:=Mq M;have N:=ab (v8 t) ((v8 t).take i);rw[zb] at N;refine⟨_,U,_,U,D,_,U,UJ.k (k:=Sum.inr u) r (QD (by omega)),_,U,s4.z6 G,?_,by rw[Qa lD];exact Z⟩;rw[Qc,fW (qL j),zo,j];rfl
   .rintro σ m ⟨o,rfl,s4,r,Z⟩;rw[qh,zh (qB _)] at r;refine⟨_,U,x,_,dx,_,_,U,s4 _ _ f,T.zK,T.vb,U,b,U,g.b_,by omega,λJ H4 n2 s5 B=>?_⟩;have s6:=s4.trans s5;have O:J≠D:=(Qb r n2).symm;refine⟨J,U,⟨_,zQ.of B⟩,YN (K:=K) (a:=J) (xs:=(v8 b).map V.str) (λi σ n=>∃o:Option V,σ=[some (.ref x),some (.ref D),o]/\Qj H n/\n D=some (.dK (kn (v8 t) (v8 t++(v8 b).take i)))/\n J=some (.lst ((v8 b).map V.str)))
     ⟨o,U,s6,by rw[vp,zr];exact s5 _ _ r,B⟩ (λi σ n _ ⟨_,_,_,_,h⟩=>zQ.of h) ?_ ?_⟩
    .rintro i y σ n M ⟨o2,rfl,p,l,R⟩;obtain⟨u,rfl,j⟩:=Mq M;have N:=ab (v8 t) (v8 t++(v8 b).take i);rw[qx,zb] at N;have C:v8 t++(v8 b).take (i+1)=(v8 t++(v8 b).take i)++[u]:=by rw[zo,j,jk];rfl
     refine⟨_,U,D,U,.inl ⟨_,.inl l⟩,_,U,_,Sum.inr u,l,U,QD (by omega),λv S=>?_,λS=>?_⟩
     .exact⟨_,U,p,by rw[C,Lw S];exact l,R⟩
     .exact⟨_,U,p.z6 G,by rw[Qc,C,Lx (λz hz=>qy _ hz) S],by rw[Qa O];exact R⟩
    .rintro σ n ⟨o2,rfl,p,l,R⟩;rw[qh,zh (qB _)] at l;refine⟨_,U,_,U,x,_,dx,_,U,p _ _ f,T.zK,T.jK,(by show 6<1000;decide),?_⟩;refine⟨_,U,x,_,dx,_,_,U,Qc,T.zK,T.jK,U,?_⟩;refine k D _ (λc o ne e=>?_) ⟨⟨dx,Qc⟩,?_⟩ (.inl G)
     .rw[Qa ne];exact p _ _ e
     .rw[Qa (Q2 l (p _ _ f) nofun)];exact l
  .refine⟨_,U,x,_,dx,_,_,U,f,T.zK,T.jK,U,U,_,U,QU ?_⟩;exact⟨_,U,x,_,dx,_,_,U,f,T.zK,T.jK,U,k D H (λ_ _ _ e=>e) ⟨⟨dx,f⟩,Y⟩ (.inr ⟨⟨dx,f⟩,Y⟩)⟩
def bW(F:zX K Zr "Letter.words" VG a.kh fd)(T:Txt P w K mg base a)(i:Yz K a):T.fq j6 3 a.kh fd [ZZ] (Sb a):=by
 obtain⟨o,Qde,pS⟩:=i.rz;have rj:=PF Qde T i;refine F.ok BW (λp A outer s H vs Q E q h=>?_)
 .obtain⟨x,s,t,b,d,an,rfl,j,g,k⟩:=h;have oU:QG 2 _:=q;obtain⟨dx,f,r⟩:=j.at
  refine⟨_,(Qf (Qw (Uc (Ku rfl) rfl T.Qbf boot_list (Ov (Y9 (pv 0) T.zK T.pY rj oU pS .nil Ql) Qe)))),?_⟩;refine⟨_,U,x,dx,_,U,r,U,x,s,t,b,d,an,U,j,g,λD H1 s1 u v=>?_⟩;obtain⟨⟨e,m⟩,n⟩:=id u;refine⟨D,_,U,n,λl c=>k l _ (s1.free m c) (s1.trans (SX.of (Qj.zi c))) ⟨D,⟨⟨e,Qj.zi c _ _ m⟩,Qj.zi c _ _ n⟩,v⟩ ?_⟩;rw[Qc,cy]
inductive Il(a:yD)(vs:qa V)(H:Hp)(Q:VK)(E:XK):Prop
 |mk:∀p s t b d an,vs=[.ref p]->H p=some (.tup [.str s,.str t,.str b,.int d,.str an])->Kx s t b d an->(∀x H',H x=none->Qj H H'->(∃dx,H' x=some (.ins a.jg dx (lfs s t b d an .non)))->Q (.ref x) H')->Il a vs H Q E
def Hu{b:qb}{d:Int}{Q:VK}{E:XK}(g:Kx s t b d an)(k:∀x H',H x=none->Qj H H'->(∃dx,H' x=some (.ins a.jg dx (lfs s t b d an .non)))->Q (.ref x) H') :
 ∀x dx,H x=none->H dx=none->dx≠x->FG a (.ref x::[.str s,.str t,.str b,.int d,.str an]) (upd (upd H dx (.own x)) x (.ins a.jg dx [])) (λv f=>v=.non/\Q (.ref x) f) E:=by
 intro x dx f hd ne;refine⟨x,dx,s,t,b,d,an,U,g,Qc,λH' i h=>⟨U,k x H' f (λc o e=>i c o (Qb e f) ?_) ⟨dx,h⟩⟩⟩;rw[Qa (Qb e f),Qa (Qb e hd)];exact e
def D9(F:zX K Jm Jm Xv a.wb fd)(T:Txt P w K mg base a)(c:Yz K a):T.fq j6 7 a.wb fd [ZA] (Il a):=by
 obtain⟨f,Qbr,wG,_⟩:=c.lQ;have wI:=OA Qbr T c;refine F.ok FJ (λi A outer s H vs Q E j h=>?_)
 .obtain⟨p,s,t,b,d,an,rfl,e,g,k⟩:=h;have uj:QG 6 _:=j;refine⟨_,(Qd (QV (PW.pt (XN (U3 (UH (QC YX rfl T.j4 boot_isinstance (zg (pv 0) (zg (WS (v:=.ty "tuple") rfl T.Qdc PyProof.Rows.boot_tuple rfl) Qe))))) (V1 (Qt BC (QC Yb rfl T.vt zT (zg (pv 0) Qe)) Qi)))) (Qf VS) QE)
   (Qf (Qw (F0 T.Qau wI uj rfl T.sN wG .nil Ql (zg (Qv QR (pv 0) Qi) (zg (Qv QR (pv 0) Qi) (zg (Qv QR (pv 0) Qi) (zg (Qv QR (pv 0) Qi) (zg (Qv QR (pv 0) Qi) Qe))))))))),?_⟩
  have hS:jX K H p [.str s,.str t,.str b,.int d,.str an]:=jX.of e;refine⟨_,U,_,_,_,_,_,U,U,WG.tup e,ij,_,U,QU ?_⟩;refine⟨_,U,p,_,U,.inr hS,U,_,U,QU ?_⟩;exact⟨_,U,p,_,_,_,U,U,hS,U,_,U,p,_,_,_,U,U,hS,U,_,U,p,_,_,_,U,U,hS,U,_,U,p,_,_,_,U,U,hS,U,_,U,p,_,_,_,U,U,hS,U,Hu g k⟩
def EY:∀{ls:qa LE}{z l:LE},(ls.map LE.y).Nodup->z∈ls->l∈ls->z.y=l.y->z=l
 |[],_,_,_,h,_,_=>nomatch h
 |x::xs,z,l,c,hz,d,e=>by
  rw[qU,zN] at c;rcases qJ.mp hz with b|b
  .rcases qJ.mp d with a|a
   .rw[b,a]
   .exact absurd (qj.mpr ⟨l,a,by rw[<-e,b]⟩) c.1
  .rcases qJ.mp d with a|a
   .exact absurd (qj.mpr ⟨z,b,by rw[e,a]⟩) c.1
   .exact EY c.2 b a e
def LsO.put(h:LsO a H own L ls){l:LE}(b:¬l.nm∈ls.map LE.nm)(d:¬l.y∈ls.map LE.y)(f:LtO a H own l.y l.p)(hg:Kx l.p.s l.p.t l.p.b l.p.d l.p.an) :
 LsO a (upd H L (.dK (Yc (dG LE.nm (λl=>V.ref l.y) ls) (Sum.inr l.nm) (.ref l.y)))) (grow own 5 H) L (ls++[l])/\lC own 5 H (upd H L (.dK (Yc (dG LE.nm (λl=>V.ref l.y) ls) (Sum.inr l.nm) (.ref l.y)))):=by
 have k:lC own 5 H (upd H L (.dK (Yc (dG LE.nm (λl=>V.ref l.y) ls) (Sum.inr l.nm) (.ref l.y)))):=λc o e q=>by
  have n:c≠L:=λz=>by
   rcases q with q|q
   .rw[z] at q;exact q h.o
   .rw[z,h.e] at e;cases e;cases q
  rw[Qa n];exact e
 refine⟨⟨by rw[Qc,Bx l b rfl rfl],by rw[Qo h.e];exact h.o,by rw[qI];exact YO h.nd b,by rw[qI];exact YO h.na d,λz hz=>?_⟩,k⟩;rcases qr.mp hz with hz|hz
 .exact⟨(h.at_ z hz).1.step k (by decide),(h.at_ z hz).2⟩
 .rw[qk.mp hz];exact⟨f.step k (by decide),hg⟩
def LsO.words(h:LsO a H own L ls){l:LE}(m:l∈ls)(s:SX l.y H H')(p:∃D,Mg a H' l.y l.p.s l.p.t l.p.b l.p.d l.p.an D/\(H D=none\/Mg a H l.y l.p.s l.p.t l.p.b l.p.d l.p.an D)) :
 LsO a H' (grow own 6 H) L ls/\lC own 6 H H':=by
 have d:=(h.at_ l m).1;obtain⟨w,f,g⟩:=d.let.at
 have k:lC own 6 H H':=λc o e q=>s c o (λz=>by
  rcases q with q|q
  .rw[z] at q;exact q d.1
  .rw[z,g] at e;cases e;cases q) e
 refine⟨⟨s _ _ (Q2 h.e g nofun) h.e,by rw[Qo h.e];exact h.o,h.nd,h.na,λz hz=>⟨?_,(h.at_ z hz).2⟩⟩,k⟩;have i:=(h.at_ z hz).1;by_cases e:z.y=l.y
 .obtain⟨D,r,j⟩:=p;have t:z=l:=EY h.na hz m e;rw[t];refine⟨by rw[Qo g];exact d.1,.inr ⟨D,r,Xn ?_⟩⟩;rcases j with j|⟨⟨x,n⟩,_⟩
  .exact .inr j
  .left
   rcases d.2 with⟨u,b⟩|⟨y,⟨⟨u,b⟩,_⟩,v⟩
   .rw[n] at b;injection b with b;injection b with _ _ b;simp at b
   .rw[n] at b;injection b with b;injection b with _ _ b;simp at b;rw[b];exact v
 .rcases i with⟨j,⟨dx,ex⟩|⟨D,⟨⟨dx,ex⟩,b⟩,n⟩⟩
  .exact⟨by rw[Qo ex];exact j,.inl ⟨dx,s _ _ e ex⟩⟩
  .exact⟨by rw[Qo ex];exact j,.inr ⟨D,⟨⟨dx,s _ _ e ex⟩,s _ _ (Q2 b g nofun) b⟩,by rw[Qo b];exact n⟩⟩
structure RM(H:Hp)(es:qa Ent)(nm:qb)(p:LD)(u:qc)(fo:qb)(dr:Bool)(WI W M:qe):Prop where
 mk_:gE es
 few:es.length<64
 pt:((QJ es [nm,Zx]).map (·.2.2.2)).getD .non=.ref u
 tu:H u=some (.tup [.str p.s,.str p.t,.str p.b,.int p.d,.str p.an])
 g:Kx p.s p.t p.b p.d p.an
 wi:∀w∈WZ (v8 p.t++v8 p.b),w∈WI
 wl:(WZ (v8 p.t++v8 p.b)).length<=60
 d0:dr=false->((QJ es [nm,Zt]).map (·.2.2.2)).getD .non=.non
 d1:dr=true->∃z,((QJ es [nm,Zt]).map (·.2.2.2)).getD .non=.str z
 pl:((QJ es [nm,Zh]).map (·.2.2.2)).getD (.str Zp)=.str fo
 fw:fo∈W
 mm:∀y∈Kn es nm,y∈M
def LsO.same(j:Nat)(h:LsO a H own L ls)(s:Qj H H'):LsO a H' (grow own j H) L ls:=by
 refine⟨s _ _ h.e,by rw[Qo h.e];exact h.o,h.nd,h.na,λl b=>⟨?_,(h.at_ l b).2⟩⟩;rcases (h.at_ l b).1 with⟨c,⟨dx,ex⟩|⟨D,⟨⟨dx,ex⟩,d⟩,e⟩⟩
 .exact⟨by rw[Qo ex];exact c,.inl ⟨dx,s _ _ ex⟩⟩
 .exact⟨by rw[Qo ex];exact c,.inr ⟨D,⟨⟨dx,s _ _ ex⟩,s _ _ d⟩,by rw[Qo d];exact e⟩⟩
def KB.same(j:Nat)(s:Qj H H'):KB own (grow own j H) H H':=⟨λc o e _=>s c o e,λc o e _=>Qo e⟩
inductive c9(a:yD)(vs:qa V)(H:Hp)(Q:VK)(E:XK):Prop
 |mk:∀(own:qc->Nat)(b db xr L xt xi xf:qc)(es:qa Ent)(ls:qa LE)(bx:Rows)(mk:qb->qe)(WI W M:qe)(n:Nat)(nm:qb)(p:LD)(u:qc)(fo:qb)(dr:Bool),vs=[.ref b,.str nm]->vS a H own b db xr L xt xi xf es ls bx mk WI W M n->RM H es nm p u fo dr WI W M->n<40->(∀m,m∈bx.map (·.1)↔m∈ls.map LE.nm) ->
   (dr=true->∀H' own',vS a H' own' b db xr L xt xi xf es (ls.filter λl=>decide (l.nm≠nm)) (L2.without bx nm) mk WI W M n->KB own own' H H'->Q .non H') ->
   (dr=false->∀y H' own',vS a H' own' b db xr L xt xi xf es ((ls.filter λl=>decide (l.nm≠nm))++[⟨nm,y,p⟩]) (L2.without bx nm++[(nm,fo)]) (Ul mk nm (dd (Kn es nm))) WI W M (n+1)->KB own own' H H'->Q .non H')->c9 a vs H Q E
def fO(F:zX K JV "Board.bring_in" YI a.yj fd)(T:Txt P w K mg base a)(j:Yz K a):T.fq j6 8 a.yj fd [ZZ,ZJ] (c9 a):=by
 obtain⟨fd1,F1,kX⟩:=j.uc;have va:=Ld F1 T j;obtain⟨fd2,F2,Qd5,ds,hds,QcL⟩:=j.uL;have yH:=Tn F2 T;obtain⟨fd3,wu,QaA⟩:=j.wu;have QaK:=D9 wu T j;obtain⟨fd4,F4,rT,_⟩:=j.sj;have sb:=cc F4 T j;obtain⟨fd5,F5,QaG⟩:=j.QaS;have QaP:=bZ F5 T j;obtain⟨fd6,F6,pR⟩:=j.rv;have ri:=bW F6 T j;obtain⟨fd7,F7,rV,_⟩:=j.sk;have sh:=b5 F7 T j;obtain⟨fd8,F8,lX⟩:=j.mq;have mi:=ic F8 T j;refine F.ok WM (λcdv A outer st H vs Q E hr h=>?_)
 .obtain⟨own,b,db,xr,L,xt,xi,xf,es,ls,bx,mk,WI,W,M,n,nm,p,u,fo,dr,rfl,h,m,hn,x,kD,kN⟩:=h;have hu:=Q5 hr;have G:QG 7 _:=hr;have hr3:QG 3 _:=G.mono;have I:QG 2 _:=G.mono;have hr1:QG 1 _:=G.mono;obtain⟨t1,f,sp1⟩:∃t,PSs (HF j6 P w K mg base Xk "Board.bring_in" (Qg YI) a.yj cdv A outer st H E).nox ((YE YI).drop 1) t /\
   ∀(H1:Hp)(d:qc->Nat),vS a H1 d b db xr L xt xi xf es (ls.filter λl=>decide (l.nm≠nm)) (L2.without bx nm) mk WI W M n->KB own d H H1 ->
    t {nx:=λ_ H'=>Q .non H',rt:=Q} [some (.ref b),some (.str nm),none] H1:=by
   refine⟨_,(Qd (QV (Qt Ow (QN (Qm (pv 0) U) T.jC T.xF yH hr1 QcL hds Ql (zg (Yq (Qh (pv 1) (Qh Qq Qu))) Qe)) A3) (Qf Om) QE)
    (Qd (Qr (i:=2) WM.nd (Qk QaK G rfl T.Qan wu.kp QaA .nil Ql (zg (QN (Qm (pv 0) U) T.jC T.xF yH hr1 QcL hds Ql (zg (Yq (Qh (pv 1) (Qh Qq Qu))) Qe)) Qe)))
    (Qd (Yp hu (Qm (pv 0) U) (pv 1) (pv 2) U)
    (Qd (Qy (QN (Qm (pv 0) U) T.zW T.rW sb I rT .nil Ql (zg (pv 1) (zg (Qm (pv 2) U) Qe))))
    (Qd (Qy (QN (Qm (pv 0) U) T.j0 T.QaJ QaP I QaG .nil Ql (zg (pv 1) (zg (Y9 (pv 2) T.zK T.pX ri hr3 pR .nil Ql) Qe))))
    (Qf (Qy (QN (Qm (pv 0) U) T.q8 T.rX sh I rV .nil Ql (zg (pv 1) (zg (QN (Qm (pv 0) U) T.jC T.xF yH hr1 Qd5 .nil Ql (zg (Yq (Qh (pv 1) (Qh Qq Qu))) (zg Qq Qe))) (zg (QN (pv 0) T.zp T.md mi I lX .nil Ql (zg (pv 1) Qe)) Qe))))))))))),λH1 d f kb1=>?_⟩
   obtain⟨J,D,kd,rg,oxr,oF⟩:=id f.r;have hlen:(ls.filter λl=>decide (l.nm≠nm)).length<=n:=by obtain⟨_,_,_,_,_,q,_⟩:=id f.t;rw[qh] at q;exact q
   refine⟨_,U,b,_,db,_,_,U,f.e,T.zp,T.j8,U,xr,J,_,U,rg.obj,U,_,U,Vr,λq2 H2 n2 s2 e2=>⟨xr,J,D,kd,es,q2,[nm,Zt],.non,U,rg.same s2,(by intro z;cases z),e2,λH3 s3=>⟨rfl,_,rfl,?_⟩⟩⟩;have s:=s2.trans s3
   cases dr with
   |true=>
    obtain⟨z,hz⟩:=m.d1 rfl;rw[hz];exact Ya (kD rfl H3 _ (f.quiet s) (kb1.trans (KB.same 7 s)))
   |false=>
    rw[m.d0 rfl];refine QU ⟨_,U,b,_,db,_,_,U,s _ _ f.e,T.zp,T.j8,U,xr,J,_,U,s _ _ rg.obj,U,_,U,Vr,λq4 H4 n4 s4 e4=>⟨xr,J,D,kd,es,q4,[nm,Zx],.non,U,rg.same (s.trans s4),(by intro z;cases z),e4,λH5 s5=>?_⟩⟩;rw[m.pt];have s15:=(s.trans s4).trans s5;refine⟨u,_,_,_,_,_,U,s15 _ _ (kb1.k _ _ m.tu (.inr (.inr rfl))),m.g,λy H6 ny s6 ⟨dy,ey⟩=>?_⟩;have S:=s15.trans s6;have ny1:H1 y=none:=s15.free ny;have k6:lC d 6 H1 H6:=lC.of S;have b6:=S _ _ f.e;have o6:grow d 6 H1 b=0:=by rw[Qo f.e];exact f.o
    have r6:=f.r.step k6;have t6:=f.t.step k6;have i6:=f.i.step k6;have f6:=f.f.step k6;have l6:=f.l.same 6 S;have kb6:=kb1.trans (KB.same (own:=d) 6 S);have y6:LtO a H6 (grow d 6 H1) y p:=⟨UM ny1,.inl ⟨dy,ey⟩⟩;have yn:¬y∈(ls.filter λl=>decide (l.nm≠nm)).map LE.y:=λhy=>by
     obtain⟨l,hl,e⟩:=qj.mp hy;obtain⟨o,q⟩:=(f.l.at_ l hl).1.there;rw[e,ny1] at q;cases q
    have nn:¬nm∈(ls.filter λl=>decide (l.nm≠nm)).map LE.nm:=λhy=>by
     obtain⟨l,hl,e⟩:=qj.mp hy;exact ql (qo.mp hl).2 e
    generalize grow d 6 H1=R at o6 r6 t6 i6 f6 l6 kb6 y6;obtain⟨l7,X⟩:=l6.put (l:=⟨nm,y,p⟩) nn yn y6 m.g;refine⟨_,U,_,U,b,_,db,_,_,U,b6,T.zp,T.z8,U,_,U,L,_,U,UJ.k (k:=Sum.inr nm) l6.e (by rw[GD];exact QD (by omega)),?_⟩;have b7:=X _ _ b6 (.inl (by rw[o6];decide));have o7:grow R 5 H6 b=0:=by rw[Qo b6];exact o6
    have r7:=r6.step X;have t7:=t6.step X;have i7:=i6.step X;have f7:=f6.step X;have kb7:=kb6.trans (KB.of X (by decide) (by decide));have e7:=X _ _ ey (.inl (by rw[y6.1];decide));show YY _ _ _ _ (upd H6 L (.dK (Yc (dG LE.nm (λl=>V.ref l.y) (ls.filter λl=>decide (l.nm≠nm))) (Sum.inr nm) (.ref y))));generalize upd H6 L (.dK (Yc (dG LE.nm (λl=>V.ref l.y) (ls.filter λl=>decide (l.nm≠nm))) (Sum.inr nm) (.ref y)))=H7 at l7 X b7 r7 t7 i7 f7 kb7 e7⊢;generalize grow R 5 H6=B at o7 l7 r7 t7 i7 f7 kb7;generalize hls:(ls.filter λl=>decide (l.nm≠nm))=ls1 at l7 t7 i7 nn yn;obtain⟨dxt,L2',R2',krT,thT,hrl,_,oxt,_⟩:=id t7;refine⟨_,U,b,_,db,_,_,U,b7,T.zp,T.xY,U,xt,dxt,_,U,thT.obj,U,_,U,_,U,y,_,dy,_,_,U,e7,T.zK,T.yT,U,rest B 1 H7,xt,_,n,nm,p.an,U,t7.thf,hn,VD.mpr (by rw[qT];exact nn),λH8 ht _=>?_⟩;obtain⟨t8,k8⟩:=ThO.of oxt ⟨_,thT.obj⟩ ht;have b8:=k8 _ _ b7 (.inl (by rw[o7];decide));have o8:grow B 1 H7 b=0:=by rw[Qo b7];exact o7
    have r8:=r7.step k8;have l8:=l7.step k8;have i8:=i7.step k8;have f8:=f7.step k8;have kb8:=kb7.trans (KB.of k8 (by decide) (by decide));generalize grow B 1 H7=Y at o8 l8 r8 t8 i8 f8 kb8;have hy8:(⟨nm,y,p⟩:LE)∈ls1++[⟨nm,y,p⟩]:=qv _ (qk.mpr rfl);have lt8:=(l8.at_ _ hy8).1;obtain⟨dy8,fy8,ey8⟩:=lt8.let.at
    obtain⟨Fi,ix,oxi,oFi⟩:=id i8;obtain⟨dxi,E1,B1,exi⟩:=ix.obj;refine⟨_,U,b,_,db,_,_,U,b8,T.zp,T.xW,U,xi,dxi,_,U,exi,U,_,U,_,U,y,dy8,_,U,ey8,U,y,_,_,_,_,_,U,lt8.let,m.g,λlw H9 nlw sx hk e9=>?_⟩;obtain⟨l9,k9⟩:=l8.words hy8 sx hk;have b9:=k9 _ _ b8 (.inl (by rw[o8];decide));have o9:grow Y 6 H8 b=0:=by rw[Qo b8];exact o8
    have r9:=r8.step k9;have t9:=t8.step k9;have i9:=i8.step k9;have f9:=f8.step k9;have kb9:=kb8.trans (KB.of k9 (by decide) (by decide));generalize grow Y 6 H8=Z at o9 l9 r9 t9 i9 f9 kb9;obtain⟨Fi9,ix9,oxi9,oFi9⟩:=id i9;refine⟨xi,lw,_,WI,n,Fi9,nm,_,U,ix9,hn,(by rw[qT];exact nn),e9,m.wi,m.wl,λH10 Fi' ix' kF hF=>?_⟩;obtain⟨i10,v⟩:=IxO.own' ix9 oxi9 oFi9 ix' kF hF;have N:=v _ _ b9 (.inl (by rw[o9];decide));have o10:grow Z 2 H9 b=0:=by rw[Qo b9];exact o9
    have r10:=r9.step v;have l10:=l9.step v;have t10:=t9.step v;have f10:=f9.step v;have kb10:=kb9.trans (KB.of v (by decide) (by decide));generalize grow Z 2 H9=C at o10 l10 r10 t10 i10 f10 kb10;obtain⟨dx10,D10,kd10,rg10,_,_⟩:=id r10;obtain⟨Ff,ff,oxf,oFf⟩:=id f10;obtain⟨dxf,X1,T1,N1,exf⟩:=ff.obj;have B10:vS a H10 C b db xr L xt xi xf es (ls1++[⟨nm,y,p⟩]) (L2.without bx nm) mk WI W M (n+1):=⟨N,o10,r10,l10,by rw[qI];exact t10,by rw[qI];exact i10,⟨Ff,ff.up,oxf,oFf⟩⟩;refine⟨_,U,b,_,db,_,_,U,N,T.zp,T.ji,U,xf,dxf,_,U,exf,U,_,U,_,U,b,_,db,_,_,U,N,T.zp,T.j8,U,xr,dx10,_,U,rg10.obj,U,_,U,Vr,λq11 H11 n11 s11 e11=>⟨xr,dx10,D10,kd10,es,q11,[nm,Zh],.str Zp,U,rg10.same s11,(by intro z;cases z),e11,λH12 s12=>?_⟩⟩;rw[m.pl];have S12:=s11.trans s12;refine⟨_,U,b,db,_,U,S12 _ _ N,U,_,U,_,b,db,xr,L,xt,xi,xf,es,_,_,mk,WI,W,M,n+1,nm,U,B10.quiet S12,m.mk_,m.few,λlm H13 nl s13' e13=>?_⟩;have O:=S12.trans s13';have B13:=B10.quiet O;have wn:¬nm∈(L2.without bx nm).map (·.1):=λhm=>by
     obtain⟨r,hr',e⟩:=qj.mp hm;exact ql (qo.mp hr').2 e
    refine⟨xf,lm,_,mk,W,M,n,Ff,nm,fo,_,U,ff.same O,hn,VD.mpr wn,m.fw,e13,m.mm,λH14 Ff' fo' kG hG=>?_⟩;obtain⟨f14,k14⟩:=FoO.own' (own:=grow C 7 H10) (ff.same O) (by rw[Qo exf];exact oxf) (λc hc=>by obtain⟨kvs,e⟩:=ff.kind hc;rw[Qo e];exact oFf c hc) fo' kG hG;subst hls;exact kN rfl y H14 _ (B13.fold f14 k14) ((kb10.trans (KB.same 7 O)).trans (KB.of k14 (by decide) (by decide)))
  refine⟨_,(Qd (QV (UI (Kh hu (pv 1) (Qm (pv 0) U))) (Qf (Qy (QN (pv 0) T.zp T.wY va hr3 kX .nil Ql (zg (pv 1) Qe)))) QE) f),?_⟩;by_cases hm:nm∈ls.map LE.nm
  .obtain⟨le,hle,rfl⟩:=qj.mp hm;refine⟨_,U,_,U,b,_,db,_,_,U,h.e,T.zp,T.z8,U,L,some (.ref le.y),U,.inl ⟨_,Sum.inr le.nm,.inl h.l.e,U,(QZ (g:=λl=>V.ref l.y) h.l.nd hle).symm⟩,?_⟩;refine⟨_,U,Ya ⟨_,U,b,db,_,U,h.e,U,_,U,own,b,db,xr,L,xt,xi,xf,es,ls,bx,mk,WI,W,M,n,le.nm,U,h,hm,(x _).mpr hm,λH' d s v=>sp1 H' d s v⟩⟩
  .refine⟨_,U,_,U,b,_,db,_,_,U,h.e,T.zp,T.z8,U,L,none,U,.inl ⟨_,Sum.inr nm,.inl h.l.e,U,(Vq hm).symm⟩,?_⟩;have d:(ls.filter λl=>decide (l.nm≠nm))=ls:=jV.mpr λl hl=>qt λe=>hm (qj.mpr ⟨l,hl,e⟩);have q2:L2.without bx nm=bx:=jV.mpr λr hr'=>qt λe=>hm ((x _).mp (qj.mpr ⟨r,hr',e⟩));exact⟨_,U,QU (sp1 H own (by rw[d,q2];exact h) ⟨λc o e _=>e,λc o _ _=>rfl⟩)⟩
def Ub:Dd->qe
 |.put nm _=>[nm,Zx]
 |.place nm _=>[nm,Zh]
 |.mark nm y _=>[nm,Zd,y]
 |.drop nm=>[nm,Zt]
inductive c7(vs:qa V)(H:Hp)(Q:VK)(E:XK):Prop
 |mk:∀(q:qc)(d:Dd),vs=[.ref q]->DAt H q d->(∀k H',H k=none->Qj H H'->H' k=some (.tup ((Ub d).map V.str))->Q (.ref k) H')->c7 vs H Q E
inductive c6(vs:qa V)(H:Hp)(Q:VK)(E:XK):Prop
 |mk:∀(q:qc)(c:Int)(h:qb)(r:qa V),vs=[.ref q]->H q=some (.tup (.int c::.str h::r))->(∀k H',H k=none->Qj H H'->H' k=some (.tup [.int c,.str h])->Q (.ref k) H')->c6 vs H Q E
def fN(F:zX K JI JI Cg a.mM fd)(T:Txt P w K mg base a):T.fq j6 1 a.mM fd [JT] c7:=by
 refine F.ok Pk (λc A outer st H vs Q E f h=>?_)
 .obtain⟨q,d,rfl,hd,k⟩:=h;refine⟨_,(Qd (QV (Qt YQ (Qv QR (pv 0) Qi) Qq) (Qf (Qw (Yq (Qh (Qv QR (pv 0) Qi) (Qh Qq (Qh (Qv QR (pv 0) Qi) Qu)))))) QE)
   (Qf (Qw (Yq (Qh (Qv QR (pv 0) Qi) (Qh (Qv QR (pv 0) Qi) Qu)))))),?_⟩
  cases hd with
  |put e g=>
   exact⟨_,U,q,_,_,_,U,U,jX.of e,QB (j:=0) rfl,U,_,U,skS (by decide +kernel) ⟨_,U,q,_,_,_,U,U,jX.of e,QB (j:=1) rfl,_,U,q,_,_,_,U,U,jX.of e,QB (j:=0) rfl,Vr,λx H' nx s' b=>k x H' nx s' b⟩⟩
  |place e=>
   exact⟨_,U,q,_,_,_,U,U,jX.of e,QB (j:=0) rfl,U,_,U,skS (by decide +kernel) ⟨_,U,q,_,_,_,U,U,jX.of e,QB (j:=1) rfl,_,U,q,_,_,_,U,U,jX.of e,QB (j:=0) rfl,Vr,λx H' nx s' b=>k x H' nx s' b⟩⟩
  |mark e=>
   exact⟨_,U,q,_,_,_,U,U,jX.of e,QB (j:=0) rfl,U,_,U,cD ⟨_,U,q,_,_,_,U,U,jX.of e,QB (j:=1) rfl,_,U,q,_,_,_,U,U,jX.of e,QB (j:=2) rfl,Mj,λx H' nx s' b=>k x H' nx s' b⟩⟩
  |drop e=>
   exact⟨_,U,q,_,_,_,U,U,jX.of e,QB (j:=0) rfl,U,_,U,skS (by decide +kernel) ⟨_,U,q,_,_,_,U,U,jX.of e,QB (j:=1) rfl,_,U,q,_,_,_,U,U,jX.of e,QB (j:=0) rfl,Vr,λx H' nx s' b=>k x H' nx s' b⟩⟩
def fL(F:zX K Jw Jw KA a.um fd)(T:Txt P w K mg base a):T.fq j6 1 a.um fd [JD] c6:=by
 refine F.ok IB (λb A outer st H vs Q E f h=>?_)
 .obtain⟨q,c,h,r,rfl,e,k⟩:=h;refine⟨_,(Qf (Qw (Yq (Qh (Qv QR (pv 0) Qi) (Qh (Qv QR (pv 0) Qi) Qu))))),?_⟩;exact⟨_,U,q,_,_,_,U,U,jX.of e,QB (j:=0) rfl,_,U,q,_,_,_,U,U,jX.of e,QB (j:=1) rfl,Vr,λx H' nx s' d=>k x H' nx s' d⟩
def Nj(u:qc):Dd->qa V
 |.put nm _=>[.str Zx,.str nm,.ref u]
 |.place nm fo=>[.str Zh,.str nm,.str fo]
 |.mark nm y on=>[.str Zd,.str nm,.str y,.bl on]
 |.drop nm=>[.str Zt,.str nm]
def Ut(u:qc):Dd->V
 |.put _ _=>.ref u
 |.place _ fo=>.str fo
 |.mark _ _ on=>.bl on
 |.drop nm=>.str nm
def Ek:Dd->qb
 |.put _ _=>Zx
 |.place _ _=>Zh
 |.mark _ _ _=>Zd
 |.drop _=>Zt
structure DU(H:Hp)(q u:qc)(d:Dd):Prop where
 e:H q=some (.tup (Nj u d))
 p:∀nm p,d=.put nm p->H u=some (.tup [.str p.s,.str p.t,.str p.b,.int p.d,.str p.an])
def DU.at{q:qc}(h:DU H q u d):DAt H q d:=by
 cases d with
 |put nm p=>exact .put h.e (h.p nm p rfl)
 |place nm fo=>exact .place h.e
 |mark nm y on=>exact .mark h.e
 |drop nm=>exact .drop h.e
def GC(u:qc)(d:Dd):mv (Nj u d) 0=some (V.str (Ek d)):=by cases d<;>exact QB (j:=0) rfl
def GB(u:qc)(d:Dd):mv (Nj u d) 1=some (V.str d.nm):=by cases d<;>exact QB (j:=1) rfl
def Ni(u:qc)(d:Dd):mv (Nj u d) (-1)=some (Ut u d):=by cases d<;>rfl
def YT:Dd->Bool
 |.put _ _=>true
 |_=>false
def IS(d:Dd):decide (Ek d=Zx)=YT d:=by
 cases d with
 |put nm p=>show decide (Zx=Zx)=true;decide +kernel
 |place nm fo=>show decide (Zh=Zx)=false;decide +kernel
 |mark nm y on=>show decide (Zd=Zx)=false;decide +kernel
 |drop nm=>show decide (Zt=Zx)=false;decide +kernel
def OX(d:Dd):Ub d≠[]:=by cases d<;>exact λz=>nomatch z
def RM.kept{nm:qb}{a:Bool}(h:RM H es nm p u fo a WI W M)(k:∀c xs,H c=some (.tup xs)->H' c=some (.tup xs)):RM H' es nm p u fo a WI W M:=
 ⟨h.mk_,h.few,h.pt,k _ _ h.tu,h.g,h.wi,h.wl,h.d0,h.d1,h.pl,h.fw,h.mm⟩
inductive Mr(a:yD)(vs:qa V)(H:Hp)(Q:VK)(E:XK):Prop
 |mk:∀(own:qc->Nat)(b db xr L xt xi xf:qc)(es:qa Ent)(ls:qa LE)(bx:Rows)(mk:qb->qe)(WI W M:qe)(n:Nat)(x:qc)(c:Int)(hd:qb)(num:Int)(q u:qc)(d:Dd),vs=[.ref b,.ref x]->vS a H own b db xr L xt xi xf es ls bx mk WI W M n->H x=some (.tup [.int c,.str hd,.int num,.ref q])->DU H q u d->es.length<=900->(∀m,m∈bx.map (·.1)↔m∈ls.map LE.nm) ->
   (YG es (Ub d,c,hd,Ut u d)=false->∀H' own',vS a H' own' b db xr L xt xi xf (QX es (Ub d,c,hd,Ut u d)) ls bx mk WI W M n->KB own own' H H'->Q .non H') ->
   (YG es (Ub d,c,hd,Ut u d)=true->∀nm p,d=.put nm p->∃fo dr,RM H (QX es (Ub d,c,hd,Ut u d)) nm p u fo dr WI W M/\n<40 /\
     (dr=true->∀H' own',vS a H' own' b db xr L xt xi xf (QX es (Ub d,c,hd,Ut u d)) (ls.filter λl=>decide (l.nm≠nm)) (L2.without bx nm) mk WI W M n->KB own own' H H'->Q .non H') /\
     (dr=false->∀y H' own',vS a H' own' b db xr L xt xi xf (QX es (Ub d,c,hd,Ut u d)) ((ls.filter λl=>decide (l.nm≠nm))++[⟨nm,y,p⟩]) (L2.without bx nm++[(nm,fo)]) (Ul mk nm (dd (Kn (QX es (Ub d,c,hd,Ut u d)) nm))) WI W M (n+1)->KB own own' H H'->Q .non H')) ->
   (YG es (Ub d,c,hd,Ut u d)=true->YT d=false->dOk W M d/\(d.nm∈ls.map LE.nm->∀H' own',vS a H' own' b db xr L xt xi xf (QX es (Ub d,c,hd,Ut u d)) (chL ls d) (chB bx d) (chM mk d) WI W M n->KB own own' H H'->Q .non H') /\
     (¬d.nm∈ls.map LE.nm->∀H' own',vS a H' own' b db xr L xt xi xf (QX es (Ub d,c,hd,Ut u d)) ls bx mk WI W M n->KB own own' H H'->Q .non H'))->Mr a vs H Q E
def bX(F:zX K "show" "Board.show" WO a.vM fd)(T:Txt P w K mg base a)(B:Yz K a):T.fq j6 9 a.vM fd [ZZ,JD] (Mr a):=by
 obtain⟨fd1,F1,nO⟩:=B.oE;have oq:=bY F1 T;obtain⟨fd2,nt,QcK⟩:=B.nt;have QcN:=fN nt T;obtain⟨fd3,uA,Qbe⟩:=B.uA;have Qbm:=fL uA T;obtain⟨fd4,F4,nV⟩:=B.oN;have oB:=fO F4 T B;obtain⟨fd5,F5,pW⟩:=B.rD;have rn:=fP F5 T B;refine F.ok Ge (λcdv A outer st H vs Q E hr h=>?_)
 .obtain⟨own,b,db,xr,L,xt,xi,xf,es,ls,bx,mk,WI,W,M,n,x,c,hd,num,q,u,d,rfl,h,hx,t,J,r,k0,k1,k2⟩:=h;have hu:=Q5 hr;have C:QG 8 _:=hr;have hr4:QG 4 _:=C.mono;have G:QG 1 _:=C.mono;refine⟨_,(Qd (Qr (i:=2) Ge.nd (Qv QR (pv 1) Qi))
   (Qd (QV (U3 (UH (QN (Qm (pv 0) U) T.jC T.nZ oq G nO .nil Ql (zg (Qk QcN G rfl T.QcD nt.kp QcK .nil Ql (zg (pv 2) Qe)) (zg (Qk Qbm G rfl T.Qa5 uA.kp Qbe .nil Ql (zg (pv 1) Qe)) (zg (Qv QR (pv 2) (dw RT Qi)) Qe)))))) (Qf Om) QE)
   (Qf (QV (Qt YQ (Qv QR (pv 2) Qi) Qq) (Qf (Qy (QN (pv 0) T.zp T.oe oB C nV .nil Ql (zg (Qv QR (pv 2) Qi) Qe)))) (Qf (QV (UI (Kh hu (Qv QR (pv 2) Qi) (Qm (pv 0) U))) (Qf (Qy (QN (pv 0) T.zp T.rb rn hr4 pW .nil Ql (zg (pv 2) Qe)))) QE)))))),?_⟩
  obtain⟨N,D,kd,O,oxr,oF⟩:=id h.r;refine⟨_,U,x,_,_,_,U,U,jX.of hx,QB (j:=3) rfl,?_⟩;refine⟨_,U,b,_,db,_,_,U,h.e,T.zp,T.j8,U,xr,N,_,U,O.obj,U,_,U,q,d,U,t.at,λkp H1 nk s1 ek=>?_⟩;refine⟨_,U,x,c,hd,_,U,s1 _ _ hx,λsp H2 ns s2 es2=>?_⟩;have s:=s1.trans s2;have ox2:grow own 7 H xr=0:=by rw[Qo O.obj];exact oxr
  have oF2:∀c,FP D kd c->grow own 7 H c=4:=λc hc=>by obtain⟨kvs,e⟩:=O.fp hc;rw[Qo e];exact oF c hc
  have v:=h.quiet s;refine⟨_,U,_,U,q,_,_,_,U,U,jX.of (s _ _ t.e),Ni u d,xr,N,D,kd,es,kp,sp,Ub d,c,hd,Ut u d,U,O.same s,J,OX d,s2 _ _ ek,es2,λkd' R rg' kk hF=>⟨_,U,?_⟩⟩;obtain⟨r3,I⟩:=RgO.own' (O.same s) ox2 oF2 rg' kk hF;have o:vS a R (grow (grow own 7 H) 4 H2) b db xr L xt xi xf (QX es (Ub d,c,hd,Ut u d)) ls bx mk WI W M n:=⟨I _ _ v.e (.inl (by rw[v.o];decide)),by rw[Qo v.e];exact v.o,r3,v.l.step I,v.t.step I,v.i.step I,v.f.step I⟩;have k:KB own (grow (grow own 7 H) 4 H2) H R:=(KB.same 7 s).trans (KB.of I (by decide) (by decide));have kt:∀c xs,H c=some (.tup xs)->R c=some (.tup xs):=λc xs e=>k.k _ _ e (.inr (.inr rfl));generalize grow (grow own 7 H) 4 H2=m at o k;have Y:=kt _ _ t.e
  cases hk:YG es (Ub d,c,hd,Ut u d) with
  |false=>exact Ya (k0 hk R m o k)
  |true=>
   refine QU ⟨_,U,q,_,_,_,U,U,jX.of Y,GC u d,U,_,U,?_⟩;rw[Um,IS]
   cases Z:YT d with
   |true=>
    cases d with
    |put nm p=>
     obtain⟨fo,dr,hI,hn,j1,j2⟩:=k1 hk nm p rfl;exact Ya ⟨_,U,b,db,_,U,o.e,U,_,U,q,_,_,_,U,U,jX.of Y,GB u (.put nm p),m,b,db,xr,L,xt,xi,xf,_,ls,bx,mk,WI,W,M,n,nm,p,u,fo,dr,U,o,hI.kept kt,hn,r,λz H' f S X=>j1 z H' f S (k.trans X),λz y H' f S X=>j2 z y H' f S (k.trans X)⟩
    |place nm fo=>cases Z
    |mark nm y on=>cases Z
    |drop nm=>cases Z
   |false=>
    obtain⟨dk,j1,j2⟩:=k2 hk Z;by_cases hm:d.nm∈ls.map LE.nm
    .obtain⟨le,hle,en⟩:=qj.mp hm;refine QU ⟨_,U,q,_,_,_,U,U,jX.of Y,GB u d,_,U,b,_,db,_,_,U,o.e,T.zp,T.z8,U,L,some (.ref le.y),U,.inl ⟨_,Sum.inr d.nm,.inl o.l.e,U,by rw[<-en];exact(QZ (g:=λl=>V.ref l.y) o.l.nd hle).symm⟩,_,U,Ya ?_⟩;exact⟨_,U,b,db,_,U,o.e,U,_,U,m,b,db,xr,L,xt,xi,xf,_,ls,bx,mk,WI,W,M,n,q,d,U,o,t.at.tups kt,dk,hm,(r _).mpr hm,λH' f S X=>j1 hm H' f S (k.trans X)⟩
    .refine QU ⟨_,U,q,_,_,_,U,U,jX.of Y,GB u d,_,U,b,_,db,_,_,U,o.e,T.zp,T.z8,U,L,none,U,.inl ⟨_,Sum.inr d.nm,.inl o.l.e,U,(Vq hm).symm⟩,_,U,QU ?_⟩;exact j2 hm R m o k
section
open PySem.Spec PyProof.Rows
structure TxI(ws:qe)(n:Nat)(x:qb):Prop where
 l:∀w∈(wK x.cps.toList).1,w=Str.empty\/w∈ws
 c:(x=("":qb)/\(wK x.cps.toList).2=Str.empty)\/(x≠("":qb)/\(wK x.cps.toList).2∈ws)
 a:ud x
 nn:¬10∈x.cps.toList
 len:x.length<=n
def VB(x y:qb):(x++y).cps.toList=x.cps.toList++y.cps.toList:=by show(x.cps++y.cps).toList=_;simp
def Cb(x y:qb):wK (x++y).cps.toList=y.cps.toList.foldl wJ (wK x.cps.toList):=by
 unfold wK;rw[VB,jB]
def DP(f:Nat->Nat):∀(l:qa Nat)(L:qe)(a:qb),(∀c∈l,AR (f c)=true/\lo1 (f c)=c)->(l.map f).foldl wJ (L,a)=(L,a++⟨l.toArray⟩)
 |[],L,a,_=>by show(L,a)=(L,⟨a.cps++#[]⟩);rw[Array.append_empty]
 |c::l,L,a,h=>by
  obtain⟨b,g⟩:=h c (qz ..);rw[qU,zy];have e:wJ (L,a) (f c)=(L,a++⟨#[c]⟩):=by unfold wJ;rw[qG b,g]
  rw[e,DP f l L _ λd hd=>h d (qF _ hd)];congr 1;show(⟨(a.cps++#[c])++l.toArray⟩:qb)=⟨a.cps++(c::l).toArray⟩;congr 1;apply Array.ext';simp
def gz:(aZ.cps.toList.all λc=>AR c&&decide (lo1 c=c)&&AR (up1 c)&&decide (lo1 (up1 c)=c)&&decide (c≠10)&&decide (up1 c≠10))=true:=by decide +kernel
def O7{c:Nat}(h:c∈aZ.cps.toList):(AR c=true/\lo1 c=c)/\(AR (up1 c)=true/\lo1 (up1 c)=c)/\c≠10/\up1 c≠10:=by
 have:=jd.mp gz c h;simp only[jc,decide_eq_true_eq] at this;obtain⟨⟨⟨⟨⟨a,b⟩,g⟩,d⟩,e⟩,f⟩:=this;exact⟨⟨a,b⟩,⟨g,d⟩,e,f⟩
def Rv{w:qb}(hw:UE w)(L:qe):w.cps.toList.foldl wJ (L,Str.empty)=(L,w):=by
 have:=DP id w.cps.toList L Str.empty λc hc=>(O7 (hw.in_ c hc)).1;rw[List.map_id] at this;rw[this];congr 1;show(⟨#[]++w.cps.toList.toArray⟩:qb)=w;simp
def Nc{w:qb}(hw:UE w)(L:qe):(⟨w.cps.map up1⟩:qb).cps.toList.foldl wJ (L,Str.empty)=(L,w):=by
 have:=DP up1 w.cps.toList L Str.empty λc hc=>(O7 (hw.in_ c hc)).2.1;have e:(⟨w.cps.map up1⟩:qb).cps.toList=w.cps.toList.map up1:=by simp
 rw[e,this];congr 1;show(⟨#[]++w.cps.toList.toArray⟩:qb)=w;simp
def TxI.nil(ws:qe):TxI ws 0 "":=⟨λw h=>(nomatch (show w∈([]:qe) from h)),.inl ⟨U,U⟩,λc h=>(nomatch (show c∈([]:qa Nat) from h)),λh=>(nomatch (show 10∈([]:qa Nat) from h)),qB _⟩
def Gap(g:qb):Prop:=g=" "\/g=", "\/g="-"
def Gap.fold{g:qb}(h:Gap g)(L:qe)(c:qb):g.cps.toList.foldl wJ (L,c)=(L++[c],Str.empty)\/g.cps.toList.foldl wJ (L,c)=(L++[c]++[Str.empty],Str.empty):=by
 have a:AR 32=false:=by decide +kernel
 have b:AR 44=false:=by decide +kernel
 have d:AR 45=false:=by decide +kernel
 rcases h with rfl|rfl|rfl
 .left
  show wJ (L,c) 32=_;unfold wJ;rw[a];rfl
 .right
  show wJ (wJ (L,c) 44) 32=_;unfold wJ;rw[a,b];rfl
 .left
  show wJ (L,c) 45=_;unfold wJ;rw[d];rfl
def Gap.asc{g:qb}(h:Gap g):ud g/\¬10∈g.cps.toList/\g.length<=2:=by
 rcases h with rfl|rfl|rfl
 .exact⟨λc hc=>by revert c;decide +kernel,by decide +kernel,by decide +kernel⟩
 .exact⟨λc hc=>by revert c;decide +kernel,by decide +kernel,by decide +kernel⟩
 .exact⟨λc hc=>by revert c;decide +kernel,by decide +kernel,by decide +kernel⟩
def Wrt(w y:qb):Prop:=y=w\/y=⟨w.cps.map up1⟩
def Wrt.fold{w y:qb}(h:Wrt w y)(hw:UE w)(L:qe):y.cps.toList.foldl wJ (L,Str.empty)=(L,w):=by
 rcases h with rfl|rfl
 .exact Rv hw L
 .exact Nc hw L
def Wrt.asc{w y:qb}(h:Wrt w y)(hw:UE w):ud y/\¬10∈y.cps.toList/\y.length=w.length:=by
 rcases h with rfl|rfl
 .exact⟨hw.asc,λh=>(O7 (hw.in_ _ h)).2.2.1 rfl,U⟩
 .refine⟨hw.asc.upper,λh=>?_,by simp[Str.length]⟩;have:10∈w.cps.toList.map up1:=by simpa using h
  obtain⟨d,hd,e⟩:=qj.mp this;exact(O7 (hw.in_ _ hd)).2.2.2 e
def WT(x y:qb):(x++y).length=x.length+y.length:=by simp only[Str.length];show(x.cps++y.cps).size=_;simp
def TM{x:qb}(h:1<=x.length):x≠("":qb):=λz=>by rw[z] at h;exact absurd h (by decide +kernel)
def TxI.step{x g w y:qb}(h:TxI ws n x)(hg:(x=("":qb)/\g=("":qb))\/(x≠("":qb)/\Gap g))(hw:UE w)(k:w.length<=18)(hm:w∈ws)(c:Wrt w y):TxI ws (n+20) (x++g++y):=by
 obtain⟨i,j,m⟩:=c.asc hw;have lo:=hw.lo;have b:x++g++y≠("":qb):=TM (by rw[WT];omega);rcases hg with⟨d,l⟩|⟨d,hg⟩
 .subst d l;have e:(("":qb)++("":qb)++y)=y:=by show(⟨#[]++#[]++y.cps⟩:qb)=y;simp
  rw[e] at b⊢;have f:wK y.cps.toList=([],w):=c.fold hw [];exact⟨λv a=>by rw[f] at a;(cases a),.inr ⟨b,by rw[f];exact hm⟩,i,j,by omega⟩
 .obtain⟨g1,g2,g3⟩:=hg.asc;have hc:(wK x.cps.toList).2∈ws:=by
   rcases h.c with⟨q,_⟩|⟨_,q⟩
   .exact absurd q d
   .exact q
  have hlen:=h.len;refine⟨λv a=>?_,.inr ⟨b,?_⟩,(h.a.app g1).app i,λa=>?_,by rw[WT,WT];omega⟩
  .rw[Cb,Cb] at a;rcases hg.fold (wK x.cps.toList).1 (wK x.cps.toList).2 with f|f
   .rw[show(wK x.cps.toList)=((wK x.cps.toList).1,(wK x.cps.toList).2) from rfl,f,c.fold hw] at a;rcases qr.mp a with q|q
    .exact h.l v q
    .rw[qk.mp q];exact .inr hc
   .rw[show(wK x.cps.toList)=((wK x.cps.toList).1,(wK x.cps.toList).2) from rfl,f,c.fold hw] at a;rcases qr.mp a with q|q
    .rcases qr.mp q with q|q
     .exact h.l v q
     .rw[qk.mp q];exact .inr hc
    .rw[qk.mp q];exact .inl rfl
  .rw[Cb,Cb];rcases hg.fold (wK x.cps.toList).1 (wK x.cps.toList).2 with f|f
   .rw[show(wK x.cps.toList)=((wK x.cps.toList).1,(wK x.cps.toList).2) from rfl,f,c.fold hw];exact hm
   .rw[show(wK x.cps.toList)=((wK x.cps.toList).1,(wK x.cps.toList).2) from rfl,f,c.fold hw];exact hm
  .rw[VB,VB] at a;rcases qr.mp a with q|q
   .rcases qr.mp q with q|q
    .exact h.nn q
    .exact g2 q
   .exact j q
def TxI.up{m:Nat}{x:qb}(h:TxI ws n x)(k:n<=m):TxI ws m x:=⟨h.l,h.c,h.a,h.nn,zm h.len k⟩
def TxI.v8{x:qb}(h:TxI ws n x):∀w∈L2.v8 x,w∈ws:=λw hw=>by
 unfold L2.v8 at hw;obtain⟨b,a⟩:=qo.mp hw;have ne:w≠Str.empty:=λz=>by rw[z] at a;exact absurd a (by decide +kernel)
 rcases qr.mp b with q|q
 .exact(h.l w q).resolve_left ne
 .have q:=qk.mp q;rcases h.c with⟨_,e⟩|⟨_,e⟩
  .exact absurd (q.trans e) ne
  .rw[q];exact e
def Ag:∀(xs acc:qe),acc.Nodup->(xs.foldl YR acc).Nodup
 |[],_,h=>h
 |x::xs,acc,h=>by
  rw[zy];refine Ag xs _ ?_;unfold YR;split
  .exact h
  .rename_i c
   rw[jf];refine⟨h,by simp,λa d b f e=>?_⟩;rw[qk.mp f] at e;exact c (e▸d)
def bV(xs:qe):(WZ xs).Nodup:=Ag xs [] zB
def Dg:∀{xs ys:qe},xs.Nodup->(∀x∈xs,x∈ys)->xs.length<=ys.length
 |[],_,_,_=>q0 _
 |x::xs,ys,a,h=>by
  rw[zN] at a;have b:=h x (qz ..);have:xs.length<=(ys.erase x).length:=Dg a.2 λz hz=>(List.mem_erase_of_ne (λ(e:z=x)=>a.1 (by rw[<-e];exact hz))).mpr (h z (qF _ hz));rw[List.length_erase_of_mem b] at this;have:0<ys.length:=List.length_pos_of_mem b;rw[qV];omega
end
def Co{k:Nat}(h:k<n):ixN n (k:Int)=some k:=by
 unfold ixN;rw[qG (by omega),qG (by omega)];rfl
def hS:qb:="abcdefghijklmnopqrstuvwxyz"
structure dP(x:qb):Prop where
 lo:1<=x.length
 hi:x.length<=8
 in_:∀c∈x.cps.toList,c∈hS.cps.toList
def iz:∀k:Nat,k<26->hS.cps.toList[k]?=some (97+k):=by decide +kernel
def OQ{i:Int}(h0:0<=i)(b:i<26):mv hS.cps.toList i=some (97+i.toNat)/\97+i.toNat∈hS.cps.toList:=by
 have c:(hS.cps.toList.length:Int)=26:=by decide +kernel
 obtain⟨n,rfl⟩:=jq h0;have a:n<26:=by omega
 have e:=iz n a;exact⟨by rw[QB e];rfl,qL e⟩
structure gG(z:Nat)(f:Int)(j:Nat)(y:qb):Prop where
 h:dP y
 len:z+1<=y.length
 at_:y.cps.toList[z]?=some (97+((f+7*(j:Int))%26).toNat)
def Xu(x:qb):x.length=x.cps.toList.length:=by simp[Str.length]
def aj{x:qb}{z:Nat}{c:Nat}(hz:z<=x.length):(Txt.slice x none (some (z:Int))++⟨#[c]⟩++Txt.slice x (some (z:Int)) none).cps.toList=x.cps.toList.take z++[c]++x.cps.toList.drop z:=by
 rw[Yk,Yk,CL,CN]
structure aY(hs:qe):Prop where
 n0:1<=hs.length
 n1:hs.length<=4
 nd:hs.Nodup
 h:∀y∈hs,dP y
def OP{z:Nat}{f:Int}(h:∀j y,ys[j]?=some y->gG z f j y)(h0:1<=ys.length)(b:ys.length<=4):aY ys:=by
 refine⟨h0,b,?_,λy c=>?_⟩
 .show List.Pairwise _ _;rw[List.pairwise_iff_getElem];intro i j d a g e;have a1:=(h j _ (qA a)).at_;have a2:=(h i _ (qA d)).at_;rw[e,a1] at a2;have:=qN a2;omega
 .obtain⟨j,a⟩:=Qaj c;exact(h j y a).h
inductive Ir(K:Frag)(vs:qa V)(H:Hp)(Q:VK)(E:XK):Prop
 |mk:∀(st sc:qc)(ls:qa Int)(m:Nat),vs=[.ref st,.int m]->nW K H st sc ls->ls.length<=63->1<=m->m<=4->(∀(l:qc)(xs:qe) H',H l=none->aY xs->xs.length=m->H' l=some (.lst (xs.map V.str))->SX st H H'->nW K H' st sc ls->Q (.ref l) H')->Ir K vs H Q E
def nW.put{a:Hp}{l:qc}{ls:qa Int}(h:nW K H st sc ls)(h0:zQ K a sc (ls.map V.int))(d:a l=none)(n:l≠st):nW K (upd H l o) st sc ls:=by
 obtain⟨⟨n',c,e,b⟩,f⟩:=h;exact⟨⟨n',c,by rw[Qa n.symm];exact e,b⟩,ND h0 d f λc o g e=>by rw[Qa g];exact e⟩
def PK(F:zX K Z9 Z9 GQ a.iW fd)(T:Txt P w K mg base a)(N:Yz K a):T.fq j6 3 a.iW fd [Za,Jj] (Ir K):=by
 obtain⟨fdW,kL,mN⟩:=N.kL;obtain⟨fdN,zc,zF⟩:=N.zc;have mX:=Oy kL T N;have zG:=Wf zc T;refine F.ok U2 (λcdv A outer s H vs Q E hr h=>?_)
 .obtain⟨st,sc,ls,m,rfl,O,L,m1,m4,k⟩:=h;have u9:QG 2 _:=hr;have zO:QG 1 _:=hr.mono;refine⟨_,(Qd (Qr (i:=2) U2.nd Qq)
   (Qd (Qr (i:=3) U2.nd (Qk mX u9 rfl T.pF kL.kp mN .nil Ql (zg (pv 0) (zg (pv 2) (zg Qi Qe)))))
   (Qd (Qr (i:=4) U2.nd (QM Yo (Qk zG zO rfl T.ja zc.kp zF .nil Ql (zg (pv 0) Qe)) (QM Ue (QC Wi rfl T.vt zT (zg (pv 3) Qe)) Qi)))
   (Qd (Qr (i:=5) U2.nd (QM Yo (Qk zG zO rfl T.ja zc.kp zF .nil Ql (zg (pv 0) Qe)) Qi))
   (Qd (Qr (i:=6) U2.nd (Yf Qu))
   (Qd (Ud zx rfl (AZ rfl T.tI (zg (pv 1) Qe)) (Ye (i:=7) U2.nd) (Qf (Qy (Vs plainAttrs_list zR zS YS (pv 6) (zg (QM Up (QM Up (Xg Mt (pv 3) KL (KJ (pv 4))) (Qv af (pv 2) (QM Yo (QM Ue (pv 5) (QM S4 Qi (pv 7))) Qi))) (Xg Mt (pv 3) (KJ (pv 4)) KL)) Qe)))))
   (Qd (QV (Qt YQ (QM Yo (Qk zG zO rfl T.ja zc.kp zF .nil Ql (zg (pv 0) Qe)) Qi) Qi) (Qf (Gs (Xg Mt (Qv QT (pv 6) Qi) KL (KJ (QM Ue (pv 4) Qi))) (A1 (pv 6) Qi Xa))) QE)
   (Qf (Qw (pv 6)))))))))),?_⟩
  refine⟨_,U,_,U,st,sc,ls,hS,7,U,O,L,by decide,by decide,(by decide +kernel),(by decide +kernel),λb H1 M x1 R=>?_⟩;have hb1:=M.lo;have hb7:b.length<=7:=by have:=M.hi;omega
  refine⟨_,U,st,sc,ls,U,R,L,λS H2 r20 r21 x2 X=>⟨_,U,b,U,Q6 ((by omega)),_,_,U,U,_,_,U,U,(by omega),?_⟩⟩;have z0:=zt S (b:=(b.length:Int)+1) (by omega);have z1:=zl S (b:=(b.length:Int)+1) (by omega);generalize S%((b.length:Int)+1)=zz at z0 z1;obtain⟨z,rfl⟩:=jq z0;have hz:z<=b.length:=by omega
  refine⟨_,U,st,sc,ls,U,X,L,λr3 H3 r30 r31 x3 C=>⟨_,_,U,U,cV,?_⟩⟩;have D:=(x1.trans x2).trans x3;refine⟨q0 _,λl H4 v s4 e4=>?_⟩;have Y:=C.of s4;have Z:=D.trans (SX.of s4);have lst:l≠st:=λq=>by obtain⟨_,e⟩:=C.lst;rw[q,e] at v;cases v
  have r:H l=none:=by
   cases e:H l with
   |none=>rfl
   |some o=>rw[D _ _ lst e] at v;cases v
  have lH:∀c o,H c=some o->c≠l:=λc o e=>Qb e r;generalize r3%26=f;have mk:∀i:Nat,gG z f i (Txt.slice b none (some (z:Int))++⟨#[97+((f+7*(i:Int))%26).toNat]⟩++Txt.slice b (some (z:Int)) none):=λi=>by
   obtain⟨_,p⟩:=OQ (i:=(f+7*(i:Int))%26) (zt _ (by decide)) (zl _ (by decide));have B:=aj (x:=b) (z:=z) (c:=97+((f+7*(i:Int))%26).toNat) hz;have g:(Txt.slice b none (some (z:Int))++⟨#[97+((f+7*(i:Int))%26).toNat]⟩++Txt.slice b (some (z:Int)) none).length=b.length+1:=by
    rw[Xu,B,qx,qx,zb,yt,qO,<-Xu];omega
   refine⟨⟨by omega,by omega,λd hd=>?_⟩,by omega,?_⟩
   .rw[B] at hd;rcases qr.mp hd with q|q
    .rcases qr.mp q with q|q
     .exact M.in_ _ (uS q)
     .rw[qk.mp q];exact p
    .exact M.in_ _ (List.mem_of_mem_drop q)
   .have t:b.cps.toList.length=b.length:=(Xu b).symm;rw[B,jk,mB (by rw[zb];omega),zb,v5 (by omega),Nat.sub_self];rfl
  refine⟨_,U,_,U,by omega,by omega,Fl (n:=(m:Int).toNat) (λi σ G=>∃(o7:Option V)(ys:qe),σ=[some (.ref st),some (.int m),some (.str hS),some (.str b),some (.int (z:Int)),some (.int f),some (.ref l),o7]/\ys.length=i/\(∀j y,ys[j]?=some y->gG z f j y)/\G l=some (.lst (ys.map V.str))/\SX st H G/\nW K G st sc ls) ⟨none,[],U,U,λj y h=>(by cases h),e4,Z,Y⟩ ?_ ?_⟩
  .rintro i σ G hi ⟨o7,ys,rfl,g,t,I,J,u⟩;obtain⟨hc,_⟩:=OQ (i:=(f+7*(0+(i:Int)))%26) (zt _ (by decide)) (zl _ (by decide));have sl1:(Txt.slice b none (some (z:Int))).length<=8:=zm (RB b z) (by omega);have sl2:(Txt.slice b (some (z:Int)) none).length<=8:=by rw[Xu,CN,yt,<-Xu];omega
   refine⟨_,U,.inl ⟨U,_,zQ.of I⟩,_,U,_,U,_,U,b,U,Q6 ((by omega)),_,U,_,U,_,U,_,_,U,U,.inl ⟨by decide,by decide⟩,_,_,U,U,_,_,U,U,cV,hS,_,_,U,U,(by decide +kernel),hc,?_⟩;refine⟨_,_,U,U,(by rw[Hk];exact Q6 ((by omega))),?_⟩;refine⟨_,U,_,U,_,U,b,U,Q6 ((by omega)),?_⟩;refine⟨_,_,U,U,(by rw[O5,Hk];exact Q6 ((by omega))),?_⟩;refine⟨l,_,_,U,U,I,(by rw[qh];exact QD (by omega)),?_⟩;refine⟨_,ys++[_],U,by rw[qx,g];rfl,λj y p=>?_,by rw[Qc,qI];rfl,λc o n e=>by rw[Qa (lH c o e)];exact J c o n e,u.put O.sq r lst⟩;rcases Nat.lt_or_ge j ys.length with h|h
   .rw[nE h] at p;exact t j y p
   .rw[mB h] at p;have:j-ys.length=0:=by
     rcases Nat.eq_zero_or_pos (j-ys.length) with q|q
     .exact q
     .rw[kP (by rw[qO];omega)] at p;cases p
    rw[this] at p;have ej:j=i:=by omega
    have p:=qN p;rw[<-p,ej,show(0:Int)+(i:Int)=(i:Int) from Int.zero_add _];exact mk i
  .rintro σ G ⟨o7,ys,rfl,g,t,e5,x05,sa5⟩;have g:ys.length=m:=by omega
   refine⟨_,U,st,sc,ls,U,sa5,L,λr6 H6 r60 r61 x6 I=>⟨_,_,U,U,gN,U,_,U,?_⟩⟩;have e6:=x6 _ _ lst e5;have J:=x05.trans x6;refine M5 (λ_=>?_) (λ_=>⟨_,U,k l ys H6 r (OP t (by omega) (by omega)) g e6 J I⟩);obtain⟨y,u,rfl⟩:∃y u,ys=y::u:=by
    cases ys with
    |nil=>exact absurd g (by show ¬0=m;omega)
    |cons y u=>exact⟨y,u,U⟩
   have B:=t 0 y rfl;refine⟨_,U,l,_,_,_,U,U,zQ.of e6,QB (j:=0) rfl,_,U,_,_,U,U,_,U,y,U,Q6 ((by have:=B.h.hi;omega)),?_⟩;refine⟨_,U,l,_,_,0,U,U,e6,Co (k:=0) (by rw[qh,qV];omega),?_⟩;have hc:(Txt.slice y none (some ((z:Int)+1))).cps.toList=y.cps.toList.take (z+1):=CL y (z+1);have hlen:=B.len;have hcl:(Txt.slice y none (some ((z:Int)+1))).length=z+1:=by rw[Xu,hc,zb,<-Xu];omega
   refine⟨_,U,k l (Txt.slice y none (some ((z:Int)+1))::u) _ r (OP (z:=z) (f:=f) (λj x p=>?_) (by rw[qV];omega) (by rw[qV] at g⊢;omega)) g Qc (λc o n e=>by rw[Qa (lH c o e)];exact J c o n e) (I.put O.sq r lst)⟩
   cases j with
   |zero=>
    have p:=qN p;subst p;refine⟨⟨by omega,by have:=B.h.hi;omega,λc h=>B.h.in_ c (uS (by rw[hc] at h;exact h))⟩,by omega,?_⟩;rw[hc,List.getElem?_take_of_lt (by omega)];exact B.at_
   |succ j=>exact t (j+1) x p
abbrev wdK(a wl nl pl cl b:qc):qa (Key×V):=[(Sum.inr ZN,.ref a),(Sum.inr Zr,.ref wl),(Sum.inr Zl,.ref nl),(Sum.inr Jf,.ref pl),(Sum.inr ZL,.ref cl),(Sum.inr Ji,.ref b)]
section
variable {hl wl nl pl cl ml:qc}
def XU:some (V.ref hl)=Qx (wdK hl wl nl pl cl ml) (Sum.inr ZN):=by rfl
def HK:some (V.ref wl)=Qx (wdK hl wl nl pl cl ml) (Sum.inr Zr):=by rfl
def GG:some (V.ref nl)=Qx (wdK hl wl nl pl cl ml) (Sum.inr Zl):=by rfl
def Cc:some (V.ref pl)=Qx (wdK hl wl nl pl cl ml) (Sum.inr Jf):=by rfl
def AD:some (V.ref cl)=Qx (wdK hl wl nl pl cl ml) (Sum.inr ZL):=by rfl
def Gm:some (V.ref ml)=Qx (wdK hl wl nl pl cl ml) (Sum.inr Ji):=by rfl
end
structure WA where
 st:qc
 sc:qc
 s:qc
 hl:qc
 wl:qc
 nl:qc
 pl:qc
 cl:qc
 ml:qc
structure WD where
 hands:qe
 words:qe
 names:qe
 kQ:qa Int
 jF:qa Int
 nums:qa Int
def WA.all(A:WA):qa qc:=[A.st,A.s,A.hl,A.wl,A.nl,A.pl,A.cl,A.ml]
def WA.ch(A:WA):qa qc:=[A.st,A.nl,A.pl,A.cl,A.ml]
structure kJ(K:Frag)(H:Hp)(A:WA)(ls:qa Int)(D:WD):Prop where
 sa:nW K H A.st A.sc ls
 e:H A.s=some (.dK (wdK A.hl A.wl A.nl A.pl A.cl A.ml))
 eh:H A.hl=some (.lst (D.hands.map V.str))
 ew:H A.wl=some (.lst (D.words.map V.str))
 en:H A.nl=some (.lst (D.names.map V.str))
 ep:H A.pl=some (.lst (D.kQ.map V.int))
 ec:H A.cl=some (.lst (D.jF.map V.int))
 em:H A.ml=some (.lst (D.nums.map V.int))
 nd:A.all.Nodup
 scn:(∀G:Hp,zQ K G A.sc (ls.map V.int))\/A.sc∉A.all
def dig(n:Int):qb:=Str.ofString (toString n)
def NmS(a:qe)(x:qb):Prop:=∃h∈a,∃n:Nat,1<=n/\n<=9/\x=h++dig n
structure rF(n:Nat)(D:WD):Prop where
 hs:aY D.hands
 w0:0<D.words.length
 w5:D.words.length<=5
 ws:∀w∈D.words,UE w/\w.length<=18
 pl:D.kQ.length=D.hands.length
 cl:D.jF.length=D.hands.length
 ml:D.nums.length=D.hands.length
 pb:∀p∈D.kQ,0<=p/\p<=8
 nm:∀x∈D.names,∃(k:Nat)(h:qb)(p:Int)(n:Nat),D.hands[k]?=some h/\D.kQ[k]?=some p/\1<=n/\(n:Int)<=p/\x=h++dig n
 nl:D.names.length<=n
def rF.nms(h:rF n D):∀x∈D.names,NmS D.hands x:=λx a=>by
 obtain⟨k,hd,p,m,b,c,d,f,e⟩:=h.nm x a;have:=(h.pb p (qL c)).2;exact⟨hd,qL b,m,d,by omega,e⟩
def Bw:∀n:Nat,n<10->(dig n).cps.size=1/\((dig n).cps.toList.all λc=>decide (c∈aZ.cps.toList))=true:=by decide +kernel
def cL:∀n:Nat,n<10->∀m:Nat,m<10->dig n=dig m->n=m:=by decide +kernel
def iA:(hS.cps.toList.all λc=>decide (c∈aZ.cps.toList))=true:=by decide +kernel
def NmS.word{b:qe}{x:qb}(h:NmS b x)(ok:aY b):UE x:=by
 obtain⟨y,d,n,g,i,rfl⟩:=h;have a:=ok.h y d;obtain⟨e,f⟩:=Bw n (by omega);have j:=a.lo;have k:=a.hi;have l:(dig n).length=1:=e;refine⟨by rw[WT];omega,by rw[WT];omega,λc hc=>?_⟩;rw[VB] at hc;rcases qr.mp hc with q|q
 .exact ql (jd.mp iA c (a.in_ c q))
 .exact ql (jd.mp f c q)
def fR{x y:qb}{m:Nat}(c:n<10)(hm:m<10)(h:x++dig n=y++dig m):x=y/\n=m:=by
 have e:(x++dig n).cps.toList=(y++dig m).cps.toList:=by rw[h]
 rw[VB,VB] at e;have d:(dig n).cps.toList.length=1:=by have:=(Bw n c).1;rw[zf];exact this
 have g:(dig m).cps.toList.length=1:=by have:=(Bw m hm).1;rw[zf];exact this
 obtain⟨i,j⟩:=List.append_inj' e (by rw[d,g]);have f:∀{a b:qb},a.cps.toList=b.cps.toList->a=b:=λ{a b} q=>by
  cases a;cases b;congr 1;exact Array.toList_inj.mp q
 exact⟨f i,cL n c m hm (f j)⟩
section
variable {K:Frag}{H H':Hp}{A:WA}{ls:qa Int}{D:WD}
def kJ.ne{a:qc}(h:kJ K H A ls D)(d:A.all[i]?=some a)(f:A.all[j]?=some b)(c:i≠j):a≠b:=λe=>by
 subst e;exact c (List.getElem?_inj (qY.mp d).1 h.nd |>.mp (d.trans f.symm))
def kJ.sx(h:kJ K H A ls D)(x:SX A.st H H')(sa:nW K H' A.st A.sc ls):kJ K H' A ls D:=
 ⟨sa,x _ _ (h.ne (i:=1) (j:=0) rfl rfl (by decide)) h.e,x _ _ (h.ne (i:=2) (j:=0) rfl rfl (by decide)) h.eh,x _ _ (h.ne (i:=3) (j:=0) rfl rfl (by decide)) h.ew,x _ _ (h.ne (i:=4) (j:=0) rfl rfl (by decide)) h.en,x _ _ (h.ne (i:=5) (j:=0) rfl rfl (by decide)) h.ep,x _ _ (h.ne (i:=6) (j:=0) rfl rfl (by decide)) h.ec,x _ _ (h.ne (i:=7) (j:=0) rfl rfl (by decide)) h.em,h.nd,h.scn⟩
def kJ.same(h:kJ K H A ls D)(s:Qj H H'):kJ K H' A ls D:=h.sx (SX.of s) (h.sa.of s)
def nW.upd{l:qc}(h:nW K H st sc ls)(n:l≠st)(m:(∀G:Hp,zQ K G sc (ls.map V.int))\/sc≠l):nW K (upd H l o) st sc ls:=by
 obtain⟨⟨n',c,e,b⟩,a⟩:=h;refine⟨⟨n',c,by rw[Qa n.symm];exact e,b⟩,?_⟩;rcases m with m|m
 .exact m _
 rcases a with(h|⟨d,h⟩)|h
 .exact .inl (.inl (by rw[Qa m];exact h))
 .exact .inl (.inr ⟨d,by rw[Qa m];exact h⟩)
 .exact .inr h
def kJ.Qc2{a:qc}(h:kJ K H A ls D)(b:A.all[i]?=some a):(∀G:Hp,zQ K G A.sc (ls.map V.int))\/A.sc≠a:=h.scn.imp id λq e=>q (e▸qL b)
def kJ.putN(h:kJ K H A ls D):kJ K (L2.upd H A.nl (.lst (xs.map V.str))) A ls {D with names:=xs}:=
 ⟨h.sa.upd (h.ne (i:=4) (j:=0) rfl rfl (by decide)) (h.Qc2 (i:=4) rfl),by rw[Qa (h.ne (i:=1) (j:=4) rfl rfl (by decide))];exact h.e,by rw[Qa (h.ne (i:=2) (j:=4) rfl rfl (by decide))];exact h.eh,by rw[Qa (h.ne (i:=3) (j:=4) rfl rfl (by decide))];exact h.ew,Qc,by rw[Qa (h.ne (i:=5) (j:=4) rfl rfl (by decide))];exact h.ep,by rw[Qa (h.ne (i:=6) (j:=4) rfl rfl (by decide))];exact h.ec,by rw[Qa (h.ne (i:=7) (j:=4) rfl rfl (by decide))];exact h.em,h.nd,h.scn⟩
def kJ.putP{xs:qa Int}(h:kJ K H A ls D):kJ K (L2.upd H A.pl (.lst (xs.map V.int))) A ls {D with kQ:=xs}:=
 ⟨h.sa.upd (h.ne (i:=5) (j:=0) rfl rfl (by decide)) (h.Qc2 (i:=5) rfl),by rw[Qa (h.ne (i:=1) (j:=5) rfl rfl (by decide))];exact h.e,by rw[Qa (h.ne (i:=2) (j:=5) rfl rfl (by decide))];exact h.eh,by rw[Qa (h.ne (i:=3) (j:=5) rfl rfl (by decide))];exact h.ew,by rw[Qa (h.ne (i:=4) (j:=5) rfl rfl (by decide))];exact h.en,Qc,by rw[Qa (h.ne (i:=6) (j:=5) rfl rfl (by decide))];exact h.ec,by rw[Qa (h.ne (i:=7) (j:=5) rfl rfl (by decide))];exact h.em,h.nd,h.scn⟩
def kJ.putC{xs:qa Int}(h:kJ K H A ls D):kJ K (L2.upd H A.cl (.lst (xs.map V.int))) A ls {D with jF:=xs}:=
 ⟨h.sa.upd (h.ne (i:=6) (j:=0) rfl rfl (by decide)) (h.Qc2 (i:=6) rfl),by rw[Qa (h.ne (i:=1) (j:=6) rfl rfl (by decide))];exact h.e,by rw[Qa (h.ne (i:=2) (j:=6) rfl rfl (by decide))];exact h.eh,by rw[Qa (h.ne (i:=3) (j:=6) rfl rfl (by decide))];exact h.ew,by rw[Qa (h.ne (i:=4) (j:=6) rfl rfl (by decide))];exact h.en,by rw[Qa (h.ne (i:=5) (j:=6) rfl rfl (by decide))];exact h.ep,Qc,by rw[Qa (h.ne (i:=7) (j:=6) rfl rfl (by decide))];exact h.em,h.nd,h.scn⟩
def kJ.putM{xs:qa Int}(h:kJ K H A ls D):kJ K (L2.upd H A.ml (.lst (xs.map V.int))) A ls {D with nums:=xs}:=
 ⟨h.sa.upd (h.ne (i:=7) (j:=0) rfl rfl (by decide)) (h.Qc2 (i:=7) rfl),by rw[Qa (h.ne (i:=1) (j:=7) rfl rfl (by decide))];exact h.e,by rw[Qa (h.ne (i:=2) (j:=7) rfl rfl (by decide))];exact h.eh,by rw[Qa (h.ne (i:=3) (j:=7) rfl rfl (by decide))];exact h.ew,by rw[Qa (h.ne (i:=4) (j:=7) rfl rfl (by decide))];exact h.en,by rw[Qa (h.ne (i:=5) (j:=7) rfl rfl (by decide))];exact h.ep,by rw[Qa (h.ne (i:=6) (j:=7) rfl rfl (by decide))];exact h.ec,Qc,h.nd,h.scn⟩
def KX(xs:qa qc)(H H':Hp):Prop:=∀c o,c∉xs->H c=some o->H' c=some o
def KX.trans{xs:qa qc}{a:Hp}(x:KX xs H H')(y:KX xs H' a):KX xs H a:=λc o n e=>y c o n (x c o n e)
def KX.of{xs:qa qc}(s:Qj H H'):KX xs H H':=λc o _ e=>s c o e
def KX.sx{xs:qa qc}(a:st∈xs)(s:SX st H H'):KX xs H H':=λc o n e=>s c o (λz=>n (z▸a)) e
def KX.upd{xs:qa qc}{l:qc}{a:HO}(b:l∈xs):KX xs H (L2.upd H l a):=λc o n e=>by rw[Qa (λ(z:c=l)=>n (by rw[z];exact b))];exact e
end
def C5(r:Int)(h:0<ws.length):∃w,mv (ws.map V.str) (r%((ws.map V.str).length:Nat))=some (.str w)/\w∈ws:=by
 obtain⟨v,a,b,_⟩:=D0 (xs:=ws.map V.str) (i:=r%((ws.map V.str).length:Nat)) (zt _ (by rw[qh];omega)) (zl _ (by rw[qh];omega));obtain⟨w,hw,rfl⟩:=qj.mp b;exact⟨w,a,hw⟩
def Aw{α:Type}{f:α->V}{xs:qa α}{k:Nat}{x:α}(h:xs[k]?=some x):mv (xs.map f) (k:Int)=some (f x):=QB (by rw[qQ,h];rfl)
inductive Ib(K:Frag)(vs:qa V)(H:Hp)(Q:VK)(E:XK):Prop
 |mk:∀(A:WA)(ls:qa Int)(D:WD)(n:Nat),vs=[.ref A.st,.ref A.s]->kJ K H A ls D->rF n D->ls.length<=63->(∀(x:qb) H',x∈D.words->SX A.st H H'->kJ K H' A ls D->Q (.str x) H')->Ib K vs H Q E
inductive Ig(K:Frag)(vs:qa V)(H:Hp)(Q:VK)(E:XK):Prop
 |mk:∀(A:WA)(ls:qa Int)(D:WD)(n:Nat),vs=[.ref A.st,.ref A.s]->kJ K H A ls D->rF n D->ls.length<=63->(∀(x:qb) H',TxI D.words 60 x->SX A.st H H'->kJ K H' A ls D->Q (.str x) H')->Ig K vs H Q E
inductive NQ(K:Frag)(vs:qa V)(H:Hp)(Q:VK)(E:XK):Prop
 |mk:∀(A:WA)(ls:qa Int)(D:WD)(hd:qb),vs=[.ref A.st,.ref A.s,.str hd]->kJ K H A ls D->hd∈D.hands->aY D.hands->(∀x∈D.names,NmS D.hands x)->ls.length<=63->(∀(x:qb) H',NmS D.hands x->SX A.st H H'->kJ K H' A ls D->Q (.str x) H')->NQ K vs H Q E
def Bm{i:Int}(h0:0<=i)(a:i<=1000):i.natAbs.log2<1920:=by
 have h:i.natAbs<=1000:=by omega
 rcases Nat.eq_zero_or_pos i.natAbs with e|e
 .rw[e];decide
 .exact zj (Nat.log2_lt (by omega) |>.mpr (xN h (by decide:1000<2^10))) (by decide)
def gk(a:0<=z)(b:z<4):∃g:qb,mv [V.str " ",V.str " ",V.str ", ",V.str "-"] z=some (.str g)/\Gap g:=by
 obtain⟨n,rfl⟩:=jq a;have c:n<4:=Int.ofNat_lt.mp b
 match n,c with
 |0,_=>exact⟨_,U,.inl rfl⟩
 |1,_=>exact⟨_,U,.inl rfl⟩
 |2,_=>exact⟨_,U,.inr (.inl rfl)⟩
 |3,_=>exact⟨_,U,.inr (.inr rfl)⟩
def dS{w:qb}(a:0<=z)(b:z<3):∃y:qb,mv [V.str w,V.str w,V.str ⟨w.cps.map PyProof.Rows.up1⟩] z=some (.str y)/\Wrt w y:=by
 obtain⟨n,rfl⟩:=jq a;have c:n<3:=Int.ofNat_lt.mp b
 match n,c with
 |0,_=>exact⟨_,U,.inl rfl⟩
 |1,_=>exact⟨_,U,.inl rfl⟩
 |2,_=>exact⟨_,U,.inr rfl⟩
def KS(F:zX K ZP ZP Xw a.wc fd)(T:Txt P w K mg base a)(g:Yz K a):T.fq j6 2 a.wc fd [Za,Zn] (Ib K):=by
 obtain⟨i,zc,zF⟩:=g.zc;have zG:=Wf zc T;refine F.ok FK (λj A outer s H vs Q E d h=>?_)
 .obtain⟨W,ls,D,n,rfl,hw,ok,l,k⟩:=h;have zO:QG 1 _:=d;have e:=Q5 d;refine⟨_,(Qf (Qw (Qv QT (QA e (pv 1) Qq) (QM Yo (Qk zG zO rfl T.ja zc.kp zF .nil Ql (zg (pv 0) Qe)) (QC Yb rfl T.vt zT (zg (QA e (pv 1) Qq) Qe)))))),?_⟩;refine⟨_,U,W.s,_,U,.inl ⟨_,Sum.inr Zr,.inl hw.e,U,HK⟩,_,U,W.st,W.sc,ls,U,hw.sa,l,λm H1 o p f c=>?_⟩;have b:=hw.sx f c;obtain⟨y,q,hm⟩:=C5 (ws:=D.words) m ok.w0;exact⟨_,U,W.s,_,U,.inl ⟨_,Sum.inr Zr,.inl b.e,U,HK⟩,W.wl,_,U,.inl (zQ.of b.ew),_,_,U,U,(by rw[qh];have:=ok.w0;omega),W.wl,_,_,_,U,U,zQ.of b.ew,q,k y H1 hm f b⟩
def PB(F:zX K Jq Jq Cd a.mJ fd)(T:Txt P w K mg base a)(o:Yz K a):T.fq j6 3 a.mJ fd [Za,Zn] (Ig K):=by
 obtain⟨fdN,zc,zF⟩:=o.zc;have zG:=Wf zc T;obtain⟨fdW,z5,yq⟩:=o.z5;have yr:=KS z5 T o;refine F.ok Wn (λcdv A outer s H vs Q E hr h=>?_)
 .obtain⟨W,ls,D,n,rfl,hw,ok,l,k⟩:=h;have yz:QG 2 _:=hr;have zO:QG 1 _:=yz.mono;refine⟨_,(Qd (Qr (i:=2) Wn.nd Qq)
   (Qd (Ud zx rfl (AZ rfl T.tI (zg (QM Yo (Qk zG zO rfl T.ja zc.kp zF .nil Ql (zg (pv 0) Qe)) Qi) Qe)) (Ye (i:=3) Wn.nd) (Qd (Qr (i:=4) Wn.nd (Qk yr yz rfl T.vq z5.kp yq .nil Ql (zg (pv 0) (zg (pv 1) Qe))))
   (Qd (Qr (i:=5) Wn.nd (Qv QT (Yf (Qh Qq (Qh Qq (Qh Qq (Qh Qq Qu))))) (QM Yo (Qk zG zO rfl T.ja zc.kp zF .nil Ql (zg (pv 0) Qe)) Qi)))
   (Qf (Qr (i:=2) Wn.nd (QM Up (QM Up (pv 2) (Qv QT (Yf (Qh (pv 5) (Qh Qq Qu))) (Uc K1 rfl T.QaF boot_int (zg (UB YQ (pv 2) Qq) Qe)))) (Qv QT (Yf (Qh (pv 4) (Qh (pv 4) (Qh (C8 plainAttrs_str PySem.F.slot_str_upper PySem.F.type_str_upper TX (pv 4)) Qu)))) (QM Yo (Qk zG zO rfl T.ja zc.kp zF .nil Ql (zg (pv 0) Qe)) Qi))))))))
   (Qf (Qw (pv 2))))),?_⟩
  refine⟨_,U,W.st,W.sc,ls,U,hw.sa,l,λr H1 r10 r11 x1 t=>⟨_,_,U,U,bc,?_⟩⟩;have u:=hw.sx x1 t;have z0:=zt r (b:=4) (by decide);have z1:=zl r (b:=4) (by decide);generalize r%4=zz at z0 z1;refine⟨_,U,by omega,by omega,Fl (n:=zz.toNat) (λi σ G=>∃(x:qb)(v B C:Option V),σ=[some (.ref W.st),some (.ref W.s),some (.str x),v,B,C]/\TxI D.words (20*i) x/\SX W.st H G/\kJ K G W ls D) ⟨"",none,none,none,U,TxI.nil _,x1,u⟩ ?_ ?_⟩
  .rintro i σ G hi ⟨x,v,B,C,rfl,m,I,J⟩;have i3:i<3:=by omega
   have xl:=m.len;refine⟨_,U,_,U,W,ls,D,n,U,J,ok,l,λL H2 hm x2 M=>?_⟩;obtain⟨c,N⟩:=ok.ws L hm;refine⟨ba,λp H3 np s3 e3=>?_⟩;refine⟨_,U,W.st,W.sc,ls,U,(M.same s3).sa,l,λr4 H4 r40 r41 O R=>?_⟩;obtain⟨g,hg,gg⟩:=gk (zt r4 (b:=4) (by decide)) (zl r4 (b:=4) (by decide));have S:p≠W.st:=λz=>by obtain⟨_,q⟩:=M.sa.lst;rw[z,q] at np;cases np
   refine⟨_,_,U,U,bc,p,_,_,_,U,U,zQ.of (O _ _ S e3),hg,?_⟩;have h4:=(M.same s3).sx O R;refine⟨_,U,_,U,Vr,λp5 H5 np5 s5 e5=>?_⟩;have X:=h4.same s5;refine⟨_,U,U,.inr ⟨_,U,?_⟩⟩;have d:∃g':qb,mv [V.str g,V.str ""] (if decide (V.str x=V.str "")=true then 1 else 0)=some (.str g')/\((x=("":qb)/\g'=("":qb))\/(x≠("":qb)/\Gap g'))/\g'.length<=2:=by
    rw[Um];by_cases e:x=("":qb)
    .rw[qt e,qG rfl];exact⟨"",U,.inl ⟨e,U⟩,by decide +kernel⟩
    .rw[qE e];exact⟨g,U,.inr ⟨e,gg⟩,gg.asc.2.2⟩
   obtain⟨g',Y,Z,gl⟩:=d;refine⟨p5,_,_,_,U,U,zQ.of e5,Y,_,_,U,U,Q6 ((by omega)),?_⟩;refine⟨_,U,_,U,_,U,U,L,U,U,c.asc,(by omega),Mj,λp6 H6 f s6 e6=>?_⟩;refine⟨_,U,W.st,W.sc,ls,U,(X.same s6).sa,l,λr7 H7 r70 r71 x7 sa7=>?_⟩;obtain⟨y,hy,wy⟩:=dS (w:=L) (zt r7 (b:=3) (by decide)) (zl r7 (b:=3) (by decide));have j:p6≠W.st:=λz=>by obtain⟨_,q⟩:=X.sa.lst;rw[z,q] at f;cases f
   have yl:=(wy.asc c).2.2;refine⟨_,_,U,U,RO,p6,_,_,_,U,U,zQ.of (x7 _ _ j e6),hy,_,_,U,U,(by rw[WT];exact Q6 ((by omega))),?_⟩;exact⟨_,_,_,_,U,m.step Z c N hm wy,(((((I.trans x2).trans (SX.of s3)).trans O).trans (SX.of s5)).trans (SX.of s6)).trans x7,(X.same s6).sx x7 sa7⟩
  .rintro σ G ⟨x,v,B,C,rfl,m,I,J⟩;exact⟨_,U,k x G (m.up (by omega)) I J⟩
def I8(F:zX K JZ JZ GP a.iU fd)(T:Txt P w K mg base a)(Z:Yz K a):T.fq j6 2 a.iU fd [Za,Zn,Jz] (NQ K):=by
 obtain⟨fdN,zc,zF⟩:=Z.zc;have zG:=Wf zc T;refine F.ok Mv (λcdv A outer s H vs Q E C h=>?_)
 .obtain⟨W,ls,D,hd,rfl,hw,R,ok,l,B,k⟩:=h;have zO:QG 1 _:=C;have I:=Q5 C;have m:=C.units;refine⟨_,(Qd (QV (PW.pt (XN (Qt (S7 m) (QA I (pv 1) Qq) (Yf Qu)) (V1 (Qt YQ (QM Yo (Qk zG zO rfl T.ja zc.kp zF .nil Ql (zg (pv 0) Qe)) Qi) Qi)))) (Qf (Qw (QM Up (pv 2) (Uc Au rfl T.sR boot_str (zg (QM Ue Qi (QM Yo (Qk zG zO rfl T.ja zc.kp zF .nil Ql (zg (pv 0) Qe)) Qi)) Qe))))) QE)
   (Qf (Qw (Qv QT (QA I (pv 1) Qq) (QM Yo (Qk zG zO rfl T.ja zc.kp zF .nil Ql (zg (pv 0) Qe)) (QC Yb rfl T.vt zT (zg (QA I (pv 1) Qq) Qe))))))),?_⟩
  have d:∀(r:Int)(G:Hp),SX W.st H G->kJ K G W ls D->Q (.str (hd++dig (1+r%9))) G:=λr G J L=>by
   have S:=zt r (b:=9) (by decide);have X:=zl r (b:=9) (by decide);refine k _ G ⟨hd,R,(1+r%9).toNat,by omega,by omega,?_⟩ J L;rw[jW (by omega)]
  have mk:∀(G:Hp),SX W.st H G->kJ K G W ls D->(∃x:V,([some (.ref W.st),some (.ref W.s),some (.str hd)]:St)[2]?=some (some x)/\True):=λ_ _ _=>⟨_,U,trivial⟩;have hdl:=(ok.h hd R).hi;refine⟨_,U,W.s,_,U,.inl ⟨_,Sum.inr Zl,.inl hw.e,U,GG⟩,q0 _,λp H1 np s1 e1=>?_⟩;have e:=hw.same s1;have n:SX W.st H H1:=SX.of s1;have asc:∀x∈D.names,ud x:=λx hx=>((l x hx).word ok).asc;refine⟨.list (D.names.map PyData.str),.list (([]:qe).map PyData.str),.lst (zQ.of e.en) (Ad _),.lst (zQ.of e1) .nil,YV asc,U,?_⟩;rw[LQ];have fin:∀(r:Int)(G:Hp),SX W.st H G->kJ K G W ls D->0<D.names.length->∃y,mv (D.names.map V.str) (r%((D.names.map V.str).length:Nat))=some (.str y)/\Q (.str y) G:=λr G J L h0=>by
   obtain⟨y,M,hm⟩:=C5 (ws:=D.names) r h0;exact⟨y,M,k y G (l y hm) J L⟩
  by_cases N:D.names=[]
  .rw[qt N];refine⟨_,U,Ya ?_⟩;refine⟨_,U,_,U,W.st,W.sc,ls,U,e.sa,B,λc Y o t u i=>?_⟩;have S:=zt c (b:=9) (by decide);have X:=zl c (b:=9) (by decide);refine⟨_,_,U,U,gM,_,_,U,U,_,U,Bm (by omega) (by omega),_,_,U,U,?_,d c Y (n.trans u) (e.sx u i)⟩;obtain⟨g,_⟩:=Bw (1+c%9).toNat (by omega);rw[jW (by omega)] at g;have g:(Str.ofString (toString (1+c%9))).length=1:=g;exact Q6 ((by omega))
  .have n0:0<D.names.length:=List.length_pos_iff.mpr N;rw[qE N];refine⟨_,U,QU ?_⟩;refine⟨_,U,W.st,W.sc,ls,U,e.sa,B,λc Y o t u i=>?_⟩;refine⟨_,_,U,U,zi_6,U,_,U,?_⟩;have f:=e.sx u i;have v:=n.trans u;refine M5 (λ_=>?_) (λ_=>?_)
   .refine⟨_,U,_,U,W.st,W.sc,ls,U,f.sa,B,λc O o t z j=>?_⟩;have S:=zt c (b:=9) (by decide);have X:=zl c (b:=9) (by decide);refine⟨_,_,U,U,gM,_,_,U,U,_,U,Bm (by omega) (by omega),_,_,U,U,?_,d c O (v.trans z) (f.sx z j)⟩;obtain⟨g,_⟩:=Bw (1+c%9).toNat (by omega);rw[jW (by omega)] at g;have g:(Str.ofString (toString (1+c%9))).length=1:=g;exact Q6 ((by omega))
   .refine⟨_,U,W.s,_,U,.inl ⟨_,Sum.inr Zl,.inl f.e,U,GG⟩,_,U,W.st,W.sc,ls,U,f.sa,B,λS O X r31 z j=>?_⟩;have g:=f.sx z j;obtain⟨y,M,q⟩:=fin S O (v.trans z) g n0;exact⟨_,U,W.s,_,U,.inl ⟨_,Sum.inr Zl,.inl g.e,U,GG⟩,W.nl,_,U,.inl (zQ.of g.en),_,_,U,U,(by rw[qh];omega),W.nl,_,_,_,U,U,zQ.of g.en,M,q⟩
structure O9(ws:qe)(p:LD):Prop where
 g:Kx p.s p.t p.b p.d p.an
 t:TxI ws 60 p.t
 b:TxI ws 60 p.b
def rF.put{k:Nat}{hd:qb}{p:Int}(h:rF n D)(l:D.hands[k]?=some hd)(d:D.kQ[k]?=some p)(s:p<8):rF (n+1) {D with names:=D.names++[hd++dig (p+1)],kQ:=D.kQ.set k (p+1)}:=by
 have pb:=h.pb p (qL d);have f:k<D.kQ.length:=(qY.mp d).1;refine⟨h.hs,h.w0,h.w5,h.ws,by show(D.kQ.set k (p+1)).length=_;rw[so];exact h.pl,h.cl,h.ml,λq m=>?_,λx o=>?_,by show(D.names++[_]).length<=_;rw[qx,qO];have:=h.nl;omega⟩
 .rcases List.mem_or_eq_of_mem_set m with z|z
  .exact h.pb q z
  .rw[z];omega
 .show ∃(a:Nat)(h':qb)(b:Int)(n':Nat),D.hands[a]?=some h'/\(D.kQ.set k (p+1))[a]?=some b/\1<=n'/\(n':Int)<=b/\x=h'++dig n';rcases qr.mp o with z|z
  .obtain⟨a,h',b,n',g,c,i,r,j⟩:=h.nm x z;by_cases e:a=k
   .subst e;rw[d] at c;have c:=qN c;exact⟨a,h',p+1,n',g,by rw[jN f],i,by omega,j⟩
   .exact⟨a,h',b,n',g,by rw[Qad (xK e)];exact c,i,r,j⟩
  .refine⟨k,hd,p+1,(p+1).toNat,l,by rw[jN f],by omega,by omega,?_⟩;rw[qk.mp z,jW (by omega)]
def rF.new{k:Nat}{hd:qb}{p:Int}(h:rF n D)(c:D.hands[k]?=some hd)(d:D.kQ[k]?=some p)(o:p<8):¬(hd++dig (p+1))∈D.names:=λe=>by
 have pb:=h.pb p (qL d);obtain⟨f,h',g,n',i,a,q,r,b⟩:=h.nm _ e;have j:=h.pb g (qL a);have b:hd++dig ((p+1).toNat:Int)=h'++dig n':=by rw[jW (by omega)];exact b
 obtain⟨l,s⟩:=fR (by omega) (by omega) b;have m:k=f:=(List.getElem?_inj (qY.mp c).1 h.hs.nd).mp (by rw[c,i,l]);rw[<-m,d] at a;have:=qN a;omega
inductive NM(K:Frag)(vs:qa V)(H:Hp)(Q:VK)(E:XK):Prop
 |mk:∀(A:WA)(ls:qa Int)(D:WD)(n k:Nat)(hd:qb)(p:Int),vs=[.ref A.st,.ref A.s,.int k]->kJ K H A ls D->rF n D->n<100->D.hands[k]?=some hd->D.kQ[k]?=some p->p<8->ls.length<=63 ->
   (∀(q u:qc)(l:LD) H',H' q=some (.tup [.str Zx,.str (hd++dig (p+1)),.ref u])->H' u=some (.tup [.str l.s,.str l.t,.str l.b,.int l.d,.str l.an])->O9 D.words l->KX A.ch H H'->kJ K H' A ls {D with names:=D.names++[hd++dig (p+1)],kQ:=D.kQ.set k (p+1)}->Q (.ref q) H')->NM K vs H Q E
def gy{a:qe}{x y nm:qb}(b:NmS a x)(c:NmS a y)(d:NmS a nm)(e:0<=z)(f:z<5):∃an:qb,mv [V.str "",V.str "",V.str x,V.str y,V.str nm] z=some (.str an)/\(an=("":qb)\/NmS a an):=by
 obtain⟨n,rfl⟩:=jq e;have g:n<5:=Int.ofNat_lt.mp f
 match n,g with
 |0,_=>exact⟨_,U,.inl rfl⟩
 |1,_=>exact⟨_,U,.inl rfl⟩
 |2,_=>exact⟨_,U,.inr b⟩
 |3,_=>exact⟨_,U,.inr c⟩
 |4,_=>exact⟨_,U,.inr d⟩
def Te(F:zX K ZY ZY KC a.uo fd)(T:Txt P w K mg base a)(j:Yz K a):T.fq j6 4 a.uo fd [Za,Zn,Jk] (NM K):=by
 obtain⟨fdN,zc,zF⟩:=j.zc;have zG:=Wf zc T;obtain⟨fdW,z5,yq⟩:=j.z5;have yr:=KS z5 T j;obtain⟨fdT,u3,QaC⟩:=j.u3;have QaM:=PB u3 T j;obtain⟨fdM,yk,vQ⟩:=j.yk;have vR:=I8 yk T j;refine F.ok VR (λcdv A outer s H vs Q E hr h=>?_)
 .obtain⟨W,ls,D,n,d,hd,p,rfl,hw,ok,hn,M,I,h8,l,k⟩:=h;have wV:QG 3 _:=hr;have yz:QG 2 _:=wV.mono;have kT:QG 2 _:=wV.mono;have zO:QG 1 _:=wV.mono;have m:=Q5 hr;refine⟨_,(Qd (Qr (i:=3) VR.nd (Qv QT (QA m (pv 1) Qq) (pv 2)))
   (Qd (Gs (QM Ue (Qv QT (QA m (pv 1) Qq) (pv 2)) Qi) (A1 (QA m (pv 1) Qq) (pv 2) Xa))
   (Qd (Qr (i:=4) VR.nd (QM Up (pv 3) (Uc Au rfl T.sR boot_str (zg (Qv QT (QA m (pv 1) Qq) (pv 2)) Qe))))
   (Qd (Qy (Vs plainAttrs_list zR zS YS (QA m (pv 1) Qq) (zg (pv 4) Qe)))
   (Qd (Qr (i:=5) VR.nd (Qv QT (QA m (pv 1) Qq) (QM Yo (Qk zG zO rfl T.ja zc.kp zF .nil Ql (zg (pv 0) Qe)) (QC Yb rfl T.vt zT (zg (QA m (pv 1) Qq) Qe)))))
   (Qd (Qr (i:=6) VR.nd (Qv QT (Yf (Qh Qq (Qh Qq (Qh (Qk vR kT rfl T.wR yk.kp vQ .nil Ql (zg (pv 0) (zg (pv 1) (zg (pv 3) Qe)))) (Qh (Qk vR kT rfl T.wR yk.kp vQ .nil Ql (zg (pv 0) (zg (pv 1) (zg (pv 5) Qe)))) (Qh (pv 4) Qu)))))) (QM Yo (Qk zG zO rfl T.ja zc.kp zF .nil Ql (zg (pv 0) Qe)) Qi)))
   (Qf (Qw (Yq (Qh Qq (Qh (pv 4) (Qh (Yq (Qh (Qk yr yz rfl T.vq z5.kp yq .nil Ql (zg (pv 0) (zg (pv 1) Qe))) (Qh (Qk QaM wV rfl T.Qap u3.kp QaC .nil Ql (zg (pv 0) (zg (pv 1) Qe))) (Qh (Qk QaM wV rfl T.Qap u3.kp QaC .nil Ql (zg (pv 0) (zg (pv 1) Qe))) (Qh Qi (Qh (pv 6) Qu)))))) Qu)))))))))))),?_⟩
  have pb:=ok.pb p (qL I);have y:d<D.kQ.length:=(qY.mp I).1;have o:=qL M;have f:=ok.put M I h8;have r:NmS D.hands (hd++dig (p+1)):=⟨hd,o,(p+1).toNat,by omega,by omega,by rw[jW (by omega)]⟩;refine⟨_,U,W.s,_,U,.inl ⟨_,Sum.inr ZN,.inl hw.e,U,XU⟩,_,U,W.hl,_,_,_,U,U,zQ.of hw.eh,Aw M,?_⟩;refine⟨_,U,W.s,_,U,.inl ⟨_,Sum.inr Jf,.inl hw.e,U,Cc⟩,_,U,W.pl,_,_,_,U,U,zQ.of hw.ep,Aw I,_,_,U,U,?_⟩;refine⟨_,U,W.s,_,U,.inl ⟨_,Sum.inr Jf,.inl hw.e,U,Cc⟩,_,U,W.pl,_,_,d,U,U,hw.ep,Co (by rw[qh];exact y),?_⟩;have t:kJ K (upd H W.pl (.lst ((D.kQ.map V.int).set d (.int (p+1))))) W ls {D with kQ:=D.kQ.set d (p+1)}:=by
   have e:(D.kQ.map V.int).set d (.int (p+1))=(D.kQ.set d (p+1)).map V.int:=by rw[List.map_set]
   rw[e];exact hw.putP
  have k1:KX W.ch H (upd H W.pl (.lst ((D.kQ.map V.int).set d (.int (p+1))))):=KX.upd (by simp[WA.ch]);show YY _ _ _ _ (upd H W.pl (.lst ((D.kQ.map V.int).set d (.int (p+1)))));generalize upd H W.pl (.lst ((D.kQ.map V.int).set d (.int (p+1))))=H1 at t k1⊢;have N:(D.kQ.set d (p+1))[d]?=some (p+1):=by rw[jN y]
  obtain⟨O,_⟩:=Bw (p+1).toNat (by omega);rw[jW (by omega)] at O;have O:(Str.ofString (toString (p+1))).length=1:=O;have hdl:=(ok.hs.h hd o).hi;refine⟨_,U,_,U,W.s,_,U,.inl ⟨_,Sum.inr Jf,.inl t.e,U,Cc⟩,_,U,W.pl,_,_,_,U,U,zQ.of t.ep,Aw N,_,U,Bm (by omega) (by omega),_,_,U,U,Q6 ((by omega)),?_⟩;refine⟨_,U,W.s,_,U,.inl ⟨_,Sum.inr Zl,.inl t.e,U,GG⟩,.inl ⟨U,_,zQ.of t.en⟩,_,U,W.nl,_,_,U,U,t.en,(by rw[qh];exact QD (by have:=ok.nl;show D.names.length<=1000;omega)),?_⟩;have J:kJ K (upd H1 W.nl (.lst (D.names.map V.str++[V.str (hd++dig (p+1))]))) W ls {D with names:=D.names++[hd++dig (p+1)],kQ:=D.kQ.set d (p+1)}:=by
   have e:D.names.map V.str++[V.str (hd++dig (p+1))]=(D.names++[hd++dig (p+1)]).map V.str:=by rw[qI];rfl
   rw[e];exact t.putN
  have k2:KX W.ch H (upd H1 W.nl (.lst (D.names.map V.str++[V.str (hd++dig (p+1))]))):=k1.trans (KX.upd (by simp[WA.ch]));show YY _ _ _ _ (upd H1 W.nl (.lst (D.names.map V.str++[V.str (hd++dig (p+1))])));generalize upd H1 W.nl (.lst (D.names.map V.str++[V.str (hd++dig (p+1))]))=H2 at J k2⊢;show YY _ _ _ [some (.ref W.st),some (.ref W.s),some (.int d),some (.str hd),some (.str (hd++dig (p+1))),none,none] H2;have c:W.st∈W.ch:=by simp[WA.ch]
  refine⟨_,U,W.s,_,U,.inl ⟨_,Sum.inr ZN,.inl J.e,U,XU⟩,_,U,W.st,W.sc,ls,U,J.sa,l,λr3 H3 r30 r31 x3 R=>?_⟩;have L:=J.sx x3 R;have k3:=k2.trans (KX.sx c x3);obtain⟨oh,S,X⟩:=C5 (ws:=D.hands) r3 ok.hs.n0;refine⟨_,U,W.s,_,U,.inl ⟨_,Sum.inr ZN,.inl L.e,U,XU⟩,W.hl,_,U,.inl (zQ.of L.eh),_,_,U,U,(by rw[qh];have:=ok.hs.n0;show(0:Int)<(D.hands.length:Int);omega),W.hl,_,_,_,U,U,zQ.of L.eh,S,?_⟩;refine⟨_,U,_,U,_,U,W,ls,_,hd,U,L,o,ok.hs,f.nms,l,λx4 H4 Y s4 w4=>?_⟩;refine⟨_,U,_,U,_,U,W,ls,_,oh,U,w4,X,ok.hs,f.nms,l,λx5 H5 Z s5 w5=>?_⟩;refine⟨_,U,a0,λpa H6 B s6 e6=>?_⟩;have w6:=w5.same s6;refine⟨_,U,W.st,W.sc,ls,U,w6.sa,l,λr7 H7 r70 r71 s7 sa7=>?_⟩;obtain⟨an,han,C⟩:=gy Y Z r (zt r7 (b:=5) (by decide)) (zl r7 (b:=5) (by decide));have past:pa≠W.st:=λz=>by obtain⟨_,q⟩:=w5.sa.lst;rw[z,q] at B;cases B
  refine⟨_,_,U,U,zi_5,pa,_,_,_,U,U,zQ.of (s7 _ _ past e6),han,?_⟩;have w7:=w6.sx s7 sa7;have k7:=(((k3.trans (KX.sx c s4)).trans (KX.sx c s5)).trans (KX.of s6)).trans (KX.sx c s7);refine⟨_,U,_,U,_,U,W,ls,_,n+1,U,w7,f,l,λsd H8 hsd s8 w8=>?_⟩;refine⟨_,U,_,U,W,ls,_,n+1,U,w8,f,l,λtt H9 g s9 w9=>?_⟩;refine⟨_,U,_,U,W,ls,_,n+1,U,w9,f,l,λbb H10 v s10 w10=>?_⟩;refine⟨_,U,a0,λu H11 nu G e11=>?_⟩;refine⟨Mj,λq H12 nq x e12=>?_⟩;have k12:=((((k7.trans (KX.sx c s8)).trans (KX.sx c s9)).trans (KX.sx c s10)).trans (KX.of G)).trans (KX.of x);refine k q u ⟨sd,tt,bb,5,an⟩ H12 e12 (x _ _ e11) ⟨⟨(ok.ws sd hsd).1,g.a,g.len,g.nn,v.a,zm v.len (by decide),by show(0:Int)<=5;decide,by show(5:Int)<=9999;decide,?_⟩,g,v⟩ k12 ((w10.same G).same x);exact C.imp id λz=>z.word ok.hs
structure Stp(D:WD)(k:Nat)(c:Int)(hd:qb)(d:Dd)(D':WD):Prop where
 hd_:D.hands[k]?=some hd
 hands:D'.hands=D.hands
 words:D'.words=D.words
 ck:∃c0,D.jF[k]?=some c0/\c0<c/\D'.jF=D.jF.set k c
 nm:NmS D.hands d.nm
 pt:∀nm p,d=.put nm p->nm∉D.names/\D'.names=D.names++[nm]/\O9 D.words p
 np:YT d=false->D'.names=D.names/\dOk D.words D.words d
inductive ED(K:Frag)(vs:qa V)(H:Hp)(Q:VK)(E:XK):Prop
 |mk:∀(A:WA)(ls:qa Int)(D:WD)(n k:Nat),vs=[.ref A.st,.ref A.s,.int k]->kJ K H A ls D->rF n D->n<100->k<D.hands.length->ls.length<=63 ->
   (∀(x q u:qc)(c num:Int)(hd:qb)(d:Dd)(D':WD) H',H' x=some (.tup [.int c,.str hd,.int num,.ref q])->DU H' q u d->KX A.ch H H'->kJ K H' A ls D'->rF (n+1) D'->Stp D k c hd d D'->Q (.ref x) H')->ED K vs H Q E
def rF.up(h:rF n D):rF (n+1) D:=⟨h.hs,h.w0,h.w5,h.ws,h.pl,h.cl,h.ml,h.pb,h.nm,Nat.le_succ_of_le h.nl⟩
def MJ(F:zX K ZI ZI Vw a.vr fd)(T:Txt P w K mg base a)(I:Yz K a):T.fq j6 5 a.vr fd [Za,Zn,Jk] (ED K):=by
 obtain⟨fdN,zc,zF⟩:=I.zc;have zG:=Wf zc T;obtain⟨fdW,z5,yq⟩:=I.z5;have yr:=KS z5 T I;obtain⟨fdT,uB,Qbg⟩:=I.uB;have Qbn:=Te uB T I;obtain⟨fdM,yk,vQ⟩:=I.yk;have vR:=I8 yk T I;refine F.ok YZ (λcdv A outer s H vs Q E hr h=>?_)
 .obtain⟨W,ls,D,n,f,rfl,hw,ok,hn,O,r,k⟩:=h;have v9:QG 4 _:=hr;have yz:QG 2 _:=v9.mono;have kT:QG 2 _:=v9.mono;have zO:QG 1 _:=v9.mono;have B:=Q5 hr;obtain⟨hd,R⟩:∃hd,D.hands[f]?=some hd:=⟨_,qA O⟩;obtain⟨pp,Z⟩:∃p,D.kQ[f]?=some p:=⟨_,qA (by rw[ok.pl];exact O)⟩;obtain⟨c0,hc⟩:∃c,D.jF[f]?=some c:=⟨_,qA (by rw[ok.cl];exact O)⟩;obtain⟨m0,hm⟩:∃c,D.nums[f]?=some c:=⟨_,qA (by rw[ok.ml];exact O)⟩;have hkC:f<D.jF.length:=by rw[ok.cl];exact O
  have hkM:f<D.nums.length:=by rw[ok.ml];exact O
  have l:W.st∈W.ch:=by simp[WA.ch]
  obtain⟨t1,h1,v⟩:∃t,PSs (HF j6 P w K mg base BE ZI (Qg Vw) a.vr cdv A outer s H E).nox ((YE Vw).drop 4) t /\
   ∀(kd:Int)(q u:qc)(d:Dd)(H1:Hp)(g:WD),DU H1 q u d->KX W.ch H H1->kJ K H1 W ls g->rF (n+1) g->g.hands=D.hands->g.words=D.words->g.jF=D.jF->g.nums=D.nums->NmS D.hands d.nm ->
    (∀nm p,d=.put nm p->nm∉D.names/\g.names=D.names++[nm]/\O9 D.words p)->(YT d=false->g.names=D.names/\dOk D.words D.words d) ->
    t {nx:=λ_ H'=>Q .non H',rt:=Q} [some (.ref W.st),some (.ref W.s),some (.int f),some (.int kd),some (.str hd),some (.ref q)] H1:=by
   refine⟨_,(Qd (Gs (QM Ue (QM Ue (Qv QT (QA B (pv 1) Qq) (pv 2)) Qi) (QM Yo (Qk zG zO rfl T.ja zc.kp zF .nil Ql (zg (pv 0) Qe)) Qi)) (A1 (QA B (pv 1) Qq) (pv 2) Xa))
    (Qd (Gs (QM Ue (Qv QT (QA B (pv 1) Qq) (pv 2)) Qi) (A1 (QA B (pv 1) Qq) (pv 2) Xa))
    (Qf (Qw (Yq (Qh (Qv QT (QA B (pv 1) Qq) (pv 2)) (Qh (pv 4) (Qh (Qv QT (QA B (pv 1) Qq) (pv 2)) (Qh (pv 5) Qu))))))))),?_⟩
   intro kd q u d H1 g du k1 S j q1 q2 q3 q4 nmd hpt hnp;have hc1:g.jF[f]?=some c0:=by rw[q3];exact hc
   have hm1:g.nums[f]?=some m0:=by rw[q4];exact hm
   have C:f<g.jF.length:=by rw[q3];exact hkC
   have G:f<g.nums.length:=by rw[q4];exact hkM
   refine⟨_,U,W.s,_,U,.inl ⟨_,Sum.inr ZL,.inl S.e,U,AD⟩,_,U,W.cl,_,_,_,U,U,zQ.of S.ec,Aw hc1,_,_,U,U,_,U,W.st,W.sc,ls,U,S.sa,r,λr2 J r20 r21 X L=>?_⟩;have M:=S.sx X L;have z0:=zt r2 (b:=3) (by decide);refine⟨_,_,U,U,RO,_,_,U,U,?_⟩;generalize hcv:c0+1+r2%3=m;have cgt:c0<m:=by omega
   refine⟨_,U,W.s,_,U,.inl ⟨_,Sum.inr ZL,.inl M.e,U,AD⟩,_,U,W.cl,_,_,f,U,U,M.ec,Co (by rw[qh];exact C),?_⟩;have y:kJ K (upd J W.cl (.lst ((g.jF.map V.int).set f (.int m)))) W ls {g with jF:=g.jF.set f m}:=by
    have e:(g.jF.map V.int).set f (.int m)=(g.jF.set f m).map V.int:=by rw[List.map_set]
    rw[e];exact M.putC
   have k3:KX W.ch H (upd J W.cl (.lst ((g.jF.map V.int).set f (.int m)))):=(k1.trans (KX.sx l X)).trans (KX.upd (by simp[WA.ch]));have t3:∀c xs,H1 c=some (.tup xs)->(upd J W.cl (.lst ((g.jF.map V.int).set f (.int m)))) c=some (.tup xs):=λc xs e=>by
    rw[Qa (λz=>by rw[z,S.ec] at e;cases e)];exact X c _ (λz=>by obtain⟨_,q⟩:=S.sa.lst;rw[z,q] at e;cases e) e
   show YY _ _ _ _ (upd J W.cl (.lst ((g.jF.map V.int).set f (.int m))));generalize upd J W.cl (.lst ((g.jF.map V.int).set f (.int m)))=Y at y k3 t3⊢;have hcc:(g.jF.set f m)[f]?=some m:=by rw[jN C]
   refine⟨_,U,W.s,_,U,.inl ⟨_,Sum.inr Ji,.inl y.e,U,Gm⟩,_,U,W.ml,_,_,_,U,U,zQ.of y.em,Aw hm1,_,_,U,U,?_⟩;refine⟨_,U,W.s,_,U,.inl ⟨_,Sum.inr Ji,.inl y.e,U,Gm⟩,_,U,W.ml,_,_,f,U,U,y.em,Co (by rw[qh];exact G),?_⟩;have o:kJ K (upd Y W.ml (.lst ((g.nums.map V.int).set f (.int (m0+1))))) W ls {g with jF:=g.jF.set f m,nums:=g.nums.set f (m0+1)}:=by
    have e:(g.nums.map V.int).set f (.int (m0+1))=(g.nums.set f (m0+1)).map V.int:=by rw[List.map_set]
    rw[e];exact y.putM
   have N:KX W.ch H (upd Y W.ml (.lst ((g.nums.map V.int).set f (.int (m0+1))))):=k3.trans (KX.upd (by simp[WA.ch]));have t4:∀c xs,H1 c=some (.tup xs)->(upd Y W.ml (.lst ((g.nums.map V.int).set f (.int (m0+1))))) c=some (.tup xs):=λc xs e=>by
    have:=t3 c xs e;rw[Qa (λz=>by rw[z,y.em] at this;cases this)];exact this
   show Wl.nx _ _ (upd Y W.ml (.lst ((g.nums.map V.int).set f (.int (m0+1)))));generalize upd Y W.ml (.lst ((g.nums.map V.int).set f (.int (m0+1))))=H4 at o N t4⊢;have hmm:(g.nums.set f (m0+1))[f]?=some (m0+1):=by rw[jN G]
   refine⟨_,U,W.s,_,U,.inl ⟨_,Sum.inr ZL,.inl o.e,U,AD⟩,_,U,W.cl,_,_,_,U,U,zQ.of o.ec,Aw hcc,_,U,_,U,W.s,_,U,.inl ⟨_,Sum.inr Ji,.inl o.e,U,Gm⟩,_,U,W.ml,_,_,_,U,U,zQ.of o.em,Aw hmm,_,U,ba,λx H5 nx s5 e5=>?_⟩;refine k x q u m (m0+1) hd d _ H5 e5 ⟨s5 _ _ (t4 _ _ du.e),λnm p e=>s5 _ _ (t4 _ _ (du.p nm p e))⟩ (N.trans (KX.of s5)) (o.same s5) ?_ ⟨R,q1,q2,⟨c0,hc,cgt,by show g.jF.set f m=_;rw[q3]⟩,nmd,hpt,hnp⟩;exact⟨j.hs,j.w0,j.w5,j.ws,j.pl,by show(g.jF.set f m).length=_;rw[so];exact j.cl,by show(g.nums.set f (m0+1)).length=_;rw[so];exact j.ml,j.pb,j.nm,j.nl⟩
  refine⟨_,(Qd (Qr (i:=3) YZ.nd (QM Yo (Qk zG zO rfl T.ja zc.kp zF .nil Ql (zg (pv 0) Qe)) Qi))
   (Qd (Qr (i:=4) YZ.nd (Qv QT (QA B (pv 1) Qq) (pv 2)))
   (Qd (Qr (i:=5) YZ.nd (Yq (Qh Qq (Qh (Qk vR kT rfl T.wR yk.kp vQ .nil Ql (zg (pv 0) (zg (pv 1) (zg (pv 4) Qe)))) Qu))))
   (Qd (QV (PW.pt (Vx (Qt IY (pv 3) Qi) (U0 (Qt IY (Qv QT (QA B (pv 1) Qq) (pv 2)) Qi)))) (Qf (Qr (i:=5) YZ.nd (Qk Qbn v9 rfl T.Qa6 uB.kp Qbg .nil Ql (zg (pv 0) (zg (pv 1) (zg (pv 2) Qe)))))) (Qf (QV (Qt IY (pv 3) Qi) (Qf (Qr (i:=5) YZ.nd (Yq (Qh Qq (Qh (Qk vR kT rfl T.wR yk.kp vQ .nil Ql (zg (pv 0) (zg (pv 1) (zg (pv 4) Qe)))) (Qh (Qk yr yz rfl T.vq z5.kp yq .nil Ql (zg (pv 0) (zg (pv 1) Qe))) Qu)))))) (Qf (QV (Qt IY (pv 3) Qi) (Qf (Qr (i:=5) YZ.nd (Yq (Qh Qq (Qh (Qk vR kT rfl T.wR yk.kp vQ .nil Ql (zg (pv 0) (zg (pv 1) (zg (pv 4) Qe)))) (Qh (Qk yr yz rfl T.vq z5.kp yq .nil Ql (zg (pv 0) (zg (pv 1) Qe))) (Qh (UB S6 (QM Yo (Qk zG zO rfl T.ja zc.kp zF .nil Ql (zg (pv 0) Qe)) Qi) Qi) Qu))))))) QE))))) h1)))),?_⟩
  refine⟨_,U,W.st,W.sc,ls,U,hw.sa,r,λr2 J r20 r21 X L=>⟨_,_,U,U,gO,?_⟩⟩;have M:=hw.sx X L;have k2:KX W.ch H J:=KX.sx l X;refine⟨_,U,W.s,_,U,.inl ⟨_,Sum.inr ZN,.inl M.e,U,XU⟩,_,U,W.hl,_,_,_,U,U,zQ.of M.eh,Aw R,?_⟩;have j:=qL R;refine⟨_,U,_,U,_,U,W,ls,D,hd,U,M,j,ok.hs,ok.nms,r,λnm3 Y G x3 y=>?_⟩;refine⟨Vr,λq4 H4 nq4 s4 e4=>?_⟩;have o:=y.same s4;have N:=(k2.trans (KX.sx l x3)).trans (KX.of s4);generalize r2%12=kd;refine⟨_,U,_,_,U,U,_,U,M5 (λh4=>⟨_,U,W.s,_,U,.inl ⟨_,Sum.inr Jf,.inl o.e,U,Cc⟩,_,U,W.pl,_,_,_,U,U,zQ.of o.ep,Aw Z,_,_,U,U,_,U,M5 (λS=>?_) (λ_=>?_)⟩) (λ_=>?_)⟩
  .refine⟨_,U,_,U,_,U,W,ls,D,n,f,hd,pp,U,o,ok,hn,R,Z,ql S,r,λC u5 l5 H5 e5 g m k5 w5=>?_⟩;have S:=ql S;have pb:=ok.pb pp (qL Z);refine v kd C u5 (.put _ l5) H5 _ ⟨e5,λnm p e=>by cases e;exact g⟩ (N.trans k5) w5 (ok.put R Z S) rfl rfl rfl rfl ⟨hd,j,(pp+1).toNat,by omega,by omega,by rw[jW (by omega)];rfl⟩ (λnm p e=>?_) (λz=>by cases z);cases e;exact⟨ok.new R Z S,U,m⟩
  all_goals
   refine⟨_,U,_,_,U,U,_,U,M5 (λ_=>?_) (λ_=>?_)⟩
   .refine⟨_,U,_,U,_,U,W,ls,D,hd,U,o,j,ok.hs,ok.nms,r,λm H5 g x5 w5=>⟨_,U,_,U,W,ls,D,n,U,w5,ok,r,λwd H6 C x6 w6=>⟨Mj,λq7 H7 nq7 s7 e7=>?_⟩⟩⟩;exact v kd q7 q7 (.place m wd) H7 D ⟨e7,λ_ _ z=>nomatch z⟩ (((N.trans (KX.sx l x5)).trans (KX.sx l x6)).trans (KX.of s7)) (w6.same s7) ok.up rfl rfl rfl rfl g nofun (λ_=>⟨U,C⟩)
   .refine⟨_,U,_,_,U,U,_,U,M5 (λ_=>?_) (λ_=>?_)⟩
    .refine⟨_,U,_,U,_,U,W,ls,D,hd,U,o,j,ok.hs,ok.nms,r,λm H5 g x5 w5=>⟨_,U,_,U,W,ls,D,n,U,w5,ok,r,λwd H6 C x6 w6=>⟨_,U,W.st,W.sc,ls,U,w6.sa,r,λr8 H8 r80 r81 x8 sa8=>⟨_,_,U,U,RO,_,_,U,U,ba,λq7 H7 nq7 s7 e7=>?_⟩⟩⟩⟩;exact v kd q7 q7 (.mark m wd _) H7 D ⟨e7,λ_ _ z=>nomatch z⟩ ((((N.trans (KX.sx l x5)).trans (KX.sx l x6)).trans (KX.sx l x8)).trans (KX.of s7)) ((w6.sx x8 sa8).same s7) ok.up rfl rfl rfl rfl g nofun (λ_=>⟨U,C⟩)
    .exact v kd q4 q4 (.drop nm3) H4 D ⟨e4,λ_ _ z=>nomatch z⟩ N o ok.up rfl rfl rfl rfl G nofun (λ_=>⟨U,trivial⟩)
inductive NF(K:Frag)(vs:qa V)(H:Hp)(Q:VK)(E:XK):Prop
 |mk:∀(st sc:qc)(ls:qa Int)(m:Nat),vs=[.ref st,.int m]->nW K H st sc ls->ls.length<=63->1<=m->m<=4 ->
   (∀(A:WA)(D:WD) H',A.st=st->A.sc=sc->(∀c∈A.all,c≠st->H c=none)->SX st H H'->kJ K H' A ls D->rF 0 D->D.hands.length=m->D.names=[]->(∀c∈D.jF,c=0)->Q (.ref A.s) H')->NF K vs H Q E
def aD(m:Nat):(List.replicate m [V.int 0]).flatten=(List.replicate m (0:Int)).map V.int:=by
 induction m with
 |zero=>rfl
 |succ m a=>rw[yh,j9,a,yh,qU];rfl
def eQ{ls:qa Int}(h:nW K H st sc ls):(∀G:Hp,zQ K G sc (ls.map V.int))\/(sc≠st/\∀l,H l=none->sc≠l):=by
 obtain⟨⟨n,c,e,_⟩,b⟩:=h;rcases b with(h|⟨o,h⟩)|h
 .refine .inr ⟨λz=>?_,λl a=>Qb h a⟩;rw[z,e] at h;have h:=HO.lst.inj (qN h)
  match ls,h with
  |_::_::_,h=>exact nomatch (qD (qD h).2).1
 .refine .inr ⟨λz=>?_,λl a=>Qb h a⟩;rw[z,e] at h;cases h
 .exact .inl λ_=>.inr h
def HJ{x:qb}(h:WIn aZ 18 x):UE x/\x.length<=18:=by
 have:=h.hi;exact⟨⟨h.lo,by omega,h.in_⟩,by omega⟩
def HR:UE JP/\UE Zp/\UE "then":=by
 refine⟨⟨by decide +kernel,by decide +kernel,λc hc=>?_⟩,⟨by decide +kernel,by decide +kernel,λc hc=>?_⟩,⟨by decide +kernel,by decide +kernel,λc hc=>?_⟩⟩
 all_goals (revert c;decide +kernel)
def S9(F:zX K JJ JJ GN a.iR fd)(T:Txt P w K mg base a)(FF:Yz K a):T.fq j6 4 a.iR fd [Za,Jj] (NF K):=by
 obtain⟨fdH,lh,Qb2⟩:=FF.lh;have Qb9:=PK lh T FF;obtain⟨fdW,kL,mN⟩:=FF.kL;have mX:=Oy kL T FF;refine F.ok Ws (λcdv A outer s H vs Q E hr h=>?_)
 .obtain⟨st,sc,ls,m,rfl,sa,hl,m1,m4,k⟩:=h;have pH:QG 3 _:=hr;have u9:QG 2 _:=pH.mono;have hu:=Q5 hr;refine⟨_,(Qd (Qr (i:=2) Ws.nd (Qk Qb9 pH rfl T.QbR lh.kp Qb2 .nil Ql (zg (pv 0) (zg (pv 1) Qe))))
   (Qd (Qr (i:=3) Ws.nd Qq)
   (Qd (Qr (i:=4) Ws.nd (Yf (Qh Qq (Qh Qq (Qh (Qk mX u9 rfl T.pF kL.kp mN .nil Ql (zg (pv 0) (zg (pv 3) (zg Qi Qe)))) (Qh (Qk mX u9 rfl T.pF kL.kp mN .nil Ql (zg (pv 0) (zg (pv 3) (zg Qi Qe)))) (Qh Qq Qu)))))))
   (Qd (Qr (i:=5) Ws.nd (Ou (Xe Qq (pv 2) (Xe Qq (pv 4) (Xe Qq (Yf Qu) (Xe Qq (QM Hj (Yf (Qh Qi Qu)) (pv 1)) (Xe Qq (QM Hj (Yf (Qh Qi Qu)) (pv 1)) Oo))))) rfl rfl (by simp) (by decide)))
   (Qd (Yp hu (pv 5) Qq (QM Hj (Yf (Qh Qi Qu)) (pv 1)) rfl)
   (Qf (Qw (pv 5)))))))),?_⟩
  have hsq:=eQ sa;obtain⟨o0,est⟩:=sa.lst;refine⟨_,U,_,U,st,sc,ls,m,U,sa,hl,m1,m4,λb hs H1 nh hok hlen e1 x1 sa1=>?_⟩;have nst:b≠st:=(Qb est nh).symm;refine⟨_,U,_,U,st,sc,ls,aZ,18,U,sa1,hl,by decide,by decide,(by decide +kernel),(by decide +kernel),λw1 H2 hw1 x2 sa2=>?_⟩;refine⟨_,U,_,U,st,sc,ls,aZ,18,U,sa2,hl,by decide,by decide,(by decide +kernel),(by decide +kernel),λw2 H3 hw2 x3 sa3=>?_⟩;refine⟨a0,λwl M N s4 e4=>?_⟩;have V:=x3 _ _ nst (x2 _ _ nst e1);have y:=s4 _ _ V;have x04:SX st H M:=((x1.trans x2).trans x3).trans (SX.of s4);have sa4:=sa3.of s4;obtain⟨o4,B⟩:=sa4.lst;have nw0:wl≠st:=λz=>by obtain⟨_,q⟩:=sa3.lst;rw[z,q] at N;cases N
  have nwh:wl≠b:=(Qb V N).symm;have fr:∀{G:Hp}{l:qc},SX st H G->(∃o,G st=some o)->G l=none->H l=none:=λ{G l} x hst e=>by
   by_cases z:l=st
   .obtain⟨o,q⟩:=hst;rw[z,q] at e;cases e
   .cases q:H l with
    |none=>rfl
    |some o=>rw[x _ _ z q] at e;cases e
  have nw:H wl=none:=fr ((x1.trans x2).trans x3) (let ⟨o,q⟩:=sa3.lst;⟨_,q⟩) N;intro ss nss;have s5:Qj M (upd M ss (.dK [])):=Qj.zi nss;have e5:(upd M ss (.dK [])) ss=some (.dK []):=Qc;generalize upd M ss (.dK [])=H5 at s5 e5⊢;refine⟨_,U,_,U,q0 _,λnl H6 nnl s6 e6=>?_⟩;refine⟨RN,λt1 H7 nt1 s7 e7=>⟨_,U,t1,(m:Int),[.int 0],U,U,e7,by omega,by omega,(by show 1*(m:Int).toNat<=sizeLine;exact Q6 ((by omega))),λpl H8 O s8 e8=>?_⟩⟩;refine⟨RN,λt2 H9 nt2 X e9=>⟨_,U,t2,(m:Int),[.int 0],U,U,e9,by omega,by omega,(by show 1*(m:Int).toNat<=sizeLine;exact Q6 ((by omega))),λcl j C s10 e10=>?_⟩⟩;have R:=(s6.trans s7).trans s8;have D:=(R.trans X).trans s10;refine⟨D _ _ e5,[(Sum.inr ZN,.ref b),(Sum.inr Zr,.ref wl),(Sum.inr Zl,.ref nl),(Sum.inr Jf,.ref pl),(Sum.inr ZL,.ref cl)],U,(by show 5<=15;decide),?_⟩;have f:=s5.trans D;have hss10:=D _ _ e5;have S:∀{c:qc}{o:HO},M c=some o->c≠ss:=λe=>Qb e nss;have e11:(upd j ss (.dK (W2 [] [(Sum.inr ZN,.ref b),(Sum.inr Zr,.ref wl),(Sum.inr Zl,.ref nl),(Sum.inr Jf,.ref pl),(Sum.inr ZL,.ref cl)]))) ss=some (.dK [(Sum.inr ZN,.ref b),(Sum.inr Zr,.ref wl),(Sum.inr Zl,.ref nl),(Sum.inr Jf,.ref pl),(Sum.inr ZL,.ref cl)]):=by rw[Qc];rfl
  have r:SX ss j (upd j ss (.dK (W2 [] [(Sum.inr ZN,.ref b),(Sum.inr Zr,.ref wl),(Sum.inr Zl,.ref nl),(Sum.inr Jf,.ref pl),(Sum.inr ZL,.ref cl)]))):=λc o n e=>by rw[Qa n];exact e
  show YY _ _ _ _ (upd j ss (.dK (W2 [] [(Sum.inr ZN,.ref b),(Sum.inr Zr,.ref wl),(Sum.inr Zl,.ref nl),(Sum.inr Jf,.ref pl),(Sum.inr ZL,.ref cl)])));generalize upd j ss (.dK (W2 [] [(Sum.inr ZN,.ref b),(Sum.inr Zr,.ref wl),(Sum.inr Zl,.ref nl),(Sum.inr Jf,.ref pl),(Sum.inr ZL,.ref cl)]))=H11 at e11 r⊢;refine⟨RN,λt3 H12 nt3 t e12=>⟨_,U,t3,(m:Int),[.int 0],U,U,e12,by omega,by omega,(by show 1*(m:Int).toNat<=sizeLine;exact Q6 ((by omega))),λv I u s13 e13=>?_⟩⟩;have J:=t.trans s13;have Qd2:=J _ _ e11;refine⟨_,U,ss,_,U,UJ.k (k:=Sum.inr Ji) Qd2 (by show 5<sizeLine;decide),?_⟩;have e14:(upd I ss (.dK (Yc [(Sum.inr ZN,.ref b),(Sum.inr Zr,.ref wl),(Sum.inr Zl,.ref nl),(Sum.inr Jf,.ref pl),(Sum.inr ZL,.ref cl)] (Sum.inr Ji) (.ref v)))) ss=some (.dK (wdK b wl nl pl cl v)):=by rw[Qc];rfl
  have k14:SX ss I (upd I ss (.dK (Yc [(Sum.inr ZN,.ref b),(Sum.inr Zr,.ref wl),(Sum.inr Zl,.ref nl),(Sum.inr Jf,.ref pl),(Sum.inr ZL,.ref cl)] (Sum.inr Ji) (.ref v)))):=λc o n e=>by rw[Qa n];exact e
  show Wl.nx _ _ (upd I ss (.dK (Yc [(Sum.inr ZN,.ref b),(Sum.inr Zr,.ref wl),(Sum.inr Zl,.ref nl),(Sum.inr Jf,.ref pl),(Sum.inr ZL,.ref cl)] (Sum.inr Ji) (.ref v))));generalize upd I ss (.dK (Yc [(Sum.inr ZN,.ref b),(Sum.inr Zr,.ref wl),(Sum.inr Zl,.ref nl),(Sum.inr Jf,.ref pl),(Sum.inr ZL,.ref cl)] (Sum.inr Ji) (.ref v)))=H14 at e14 k14⊢;rw[show((m:Int).toNat)=m from jO m,aD] at e8 e10 e13;have d:∀{c:qc}{o:HO},c≠ss->j c=some o->H14 c=some o:=λn e=>k14 _ _ n (J _ _ (r _ _ n e));have tj:nl≠ss:=(Qb e5 nnl).symm;have ti:pl≠ss:=(Qb (s7 _ _ (s6 _ _ e5)) O).symm;have tp:cl≠ss:=(Qb (X _ _ (R _ _ e5)) C).symm;have tm:v≠ss:=(Qb (t _ _ e11) u).symm;have QbB:st≠ss:=S B;have QbC:b≠ss:=S y;have QbA:wl≠ss:=S e4;have f5:∀{c:qc}{o:HO},M c=some o->c≠nl/\c≠pl/\c≠cl/\c≠v:=λ{c o} e=>
   ⟨Qb (s5 _ _ e) nnl,Qb (s7 _ _ (s6 _ _ (s5 _ _ e))) O,Qb (X _ _ (R _ _ (s5 _ _ e))) C,Qb (t _ _ (r _ _ (S e) (f _ _ e))) u⟩
  obtain⟨a1,a2,a3,a4⟩:=f5 B;obtain⟨b1,b2,b3,b4⟩:=f5 y;obtain⟨c1,c2,c3,c4⟩:=f5 e4;have d1:nl≠pl:=Qb (s7 _ _ e6) O;have d2:nl≠cl:=Qb (X _ _ (s8 _ _ (s7 _ _ e6))) C;have Y:j nl=some (.lst []):=s10 _ _ (X _ _ (s8 _ _ (s7 _ _ e6)));have d3:nl≠v:=Qb (t _ _ (r _ _ tj Y)) u;have d4:pl≠cl:=Qb (X _ _ e8) C;have Z:=s10 _ _ (X _ _ e8);have d5:pl≠v:=Qb (t _ _ (r _ _ ti Z)) u;have d6:cl≠v:=Qb (t _ _ (r _ _ tp e10)) u;have pM:∀{c:qc},M c=none->H c=none:=λe=>fr x04 ⟨_,B⟩ e;have dn:∀{G G':Hp}{c:qc},Qj G G'->G' c=none->G c=none:=λs e=>s.free e;have g:H ss=none:=pM nss;have h_nl:H nl=none:=pM (dn s5 nnl);have h_pl:H pl=none:=pM (dn s5 (dn s6 (dn s7 O)));have h_cl:H cl=none:=pM (dn s5 (dn R (dn X C)));have h_ml:H v=none:=pM (by
   cases q:M v with
   |none=>rfl
   |some o=>have:=t _ _ (r _ _ tm (f _ _ q));rw[this] at u;cases u)
  have x14:SX st H H14:=λc o n e=>d (Qb e g) (f _ _ (x04 c o n e));refine⟨_,U,k ⟨st,sc,ss,b,wl,nl,pl,cl,v⟩ ⟨hs,[JP,Zp,w1,w2,"then"],[],List.replicate m 0,List.replicate m 0,List.replicate m 0⟩ H14 rfl rfl (λc hc n=>?_) x14 ⟨?_,e14,d QbC (f _ _ y),d QbA (f _ _ e4),d tj Y,d ti Z,d tp e10,k14 _ _ tm e13,?_,?_⟩ ⟨hok,(by show 0<5;decide),(by show 5<=5;decide),?_,by show(List.replicate m 0).length=hs.length;rw[uG,hlen],by show(List.replicate m 0).length=hs.length;rw[uG,hlen],by show(List.replicate m 0).length=hs.length;rw[uG,hlen],λp hp=>?_,λx hx=>(nomatch (show x∈([]:qe) from hx)),qB _⟩ hlen rfl λc hc=>(List.mem_replicate.mp hc).2⟩
  .simp only[WA.all,qJ,je,wQ] at hc;rcases hc with h|h|h|h|h|h|h|h
   .exact absurd h n
   .rw[h];exact g
   .rw[h];exact nh
   .rw[h];exact nw
   .rw[h];exact h_nl
   .rw[h];exact h_pl
   .rw[h];exact h_cl
   .rw[h];exact h_ml
  .have sa10:=sa4.of f;obtain⟨⟨n',c',e',b'⟩,hq⟩:=sa10;refine⟨⟨n',c',d QbB e',b'⟩,?_⟩;rcases hsq with q|⟨q1,L⟩
   .exact q _
   .rcases hq with(h|⟨o',h⟩)|h
    .exact .inl (.inl (d (L _ g) h))
    .exact .inl (.inr ⟨o',d (L _ g) h⟩)
    .exact .inr h
  .simp only[WA.all,zN,qJ,je,wQ,not_or,not_false_eq_true,zB,and_true];exact⟨⟨QbB,nst.symm,nw0.symm,a1,a2,a3,a4⟩,⟨QbC.symm,QbA.symm,tj.symm,ti.symm,tp.symm,tm.symm⟩,⟨nwh.symm,b1,b2,b3,b4⟩,⟨c1,c2,c3,c4⟩,⟨d1,d2,d3⟩,⟨d4,d5⟩,d6⟩
  .rcases hsq with q|⟨q1,L⟩
   .exact .inl q
   .refine .inr ?_;simp only[WA.all,qJ,je,wQ,not_or];exact⟨q1,L _ g,L _ nh,L _ nw,L _ h_nl,L _ h_pl,L _ h_cl,L _ h_ml⟩
  .intro x hx;obtain⟨t1,t2,t3⟩:=HR;simp only[qJ,je,wQ] at hx;rcases hx with rfl|rfl|rfl|rfl|rfl
   .exact⟨t1,by decide +kernel⟩
   .exact⟨t2,by decide +kernel⟩
   .exact HJ hw1
   .exact HJ hw2
   .exact⟨t3,by decide +kernel⟩
  .have:=(List.mem_replicate.mp hp).2;omega
def Am(es:qa Ent)(k:qe)(c:Int)(h:qb)(v:V):YG es (k,c,h,v)=match QJ es k with
 |none=>true
 |some o=>HT.Qak c h o.2.1 o.2.2.1:=by
 unfold YG;show(match QJ es k with|none=>true|some o=>_)=_
 cases QJ es k with
 |none=>rfl
 |some o=>exact(HT.Qcv _ _ _ _).symm
structure Rw where
 x:qc
 c:Int
 h:qb
 num:Int
 q:qc
 u:qc
 d:Dd
structure XT(H:Hp)(r:Rw):Prop where
 e:H r.x=some (.tup [.int r.c,.str r.h,.int r.num,.ref r.q])
 du:DU H r.q r.u r.d
def XT.tups(h:XT H r)(k:∀c xs,H c=some (.tup xs)->H' c=some (.tup xs)):XT H' r:=⟨k _ _ h.e,k _ _ h.du.e,λnm p e=>k _ _ (h.du.p nm p e)⟩
def U4:Dd->Bool
 |.drop _=>true
 |_=>false
def Ry(d:Dd):decide (Ek d=Zt)=U4 d:=by
 cases d with
 |put nm p=>show decide (Zx=Zt)=false;decide +kernel
 |place nm fo=>show decide (Zh=Zt)=false;decide +kernel
 |mark nm y on=>show decide (Zd=Zt)=false;decide +kernel
 |drop nm=>show decide (Zt=Zt)=true;decide +kernel
def Yw(rs:qa Rw):qe:=(rs.filter λr=>U4 r.d).map λr=>r.d.nm
def K9(g:qe)(rs:qa Rw):qa Rw:=rs.filter λr=>YT r.d&&!decide (r.d.nm∈g)
def putN(rs:qa Rw):qe:=(rs.filter λr=>YT r.d).map λr=>r.d.nm
def Wj(r:Rw):Option Ent:=match r.d with
 |.place nm fo=>some ([nm,""],r.c,r.h,.str fo)
 |.mark nm y on=>some ([nm,y],r.c,r.h,.bl on)
 |_=>none
def Q0(rs:qa Rw):qa Ent:=(rs.filterMap Wj).foldl QX []
abbrev ltK(g:qe)(rs:qa Rw):qa (Key×V):=dG (λr:Rw=>r.d.nm) (λr=>V.ref r.u) (K9 g rs)
def P9(g:qe)(rs:qa Rw)(r:Rw):K9 g (rs++[r])=if (YT r.d&&!decide (r.d.nm∈g))=true then K9 g rs++[r] else K9 g rs:=by
 unfold K9;rw[q9,qM];split
 .rfl
 .rw[lx,zr]
def By(rs:qa Rw)(r:Rw):Q0 (rs++[r])=match Wj r with
 |some e=>QX (Q0 rs) e
 |none=>Q0 rs:=by
 unfold Q0;rw[List.filterMap_append,jB]
 cases h:Wj r with
 |none=>rw[show[r].filterMap Wj=[] by simp[h]];rfl
 |some e=>rw[show[r].filterMap Wj=[e] by simp[h]];rfl
def Fg(es:qa Ent)(e:Ent):(QX es e).length<=es.length+1:=by
 unfold QX;split
 .exact(IT es e).1
 .omega
def Mc(rs:qa Rw):(Q0 rs).length<=rs.length:=by
 have h:∀(xs:qa Ent)(es:qa Ent),(xs.foldl QX es).length<=es.length+xs.length:=λxs=>by
  induction xs with
  |nil=>intro es;exact qB _
  |cons x xs a=>
   intro es;rw[zy];have:=a (QX es x);have:=Fg es x;rw[qV];omega
 have a:=h (rs.filterMap Wj) [];have b:=List.length_filterMap_le Wj rs;have c:([]:qa Ent).length=0:=rfl;unfold Q0;omega
def OC{g:qe}(h:m∈(K9 g rs).map λr=>r.d.nm):m∈putN rs:=by
 obtain⟨r,a,e⟩:=qj.mp h;obtain⟨b,c⟩:=qo.mp a;exact qj.mpr ⟨r,qo.mpr ⟨b,(zZ.mp c).1⟩,e⟩
def KH(rs:qa Rw)(r:Rw):putN (rs++[r])=if YT r.d=true then putN rs++[r.d.nm] else putN rs:=by
 unfold putN;rw[q9,qM];split
 .rw[qI];rfl
 .rw[lx,zr]
def gq(hd:r.d=d)(h:YT d=false)(b:U4 d=false):∃z a:qb,mv (Nj u d) 2=some (.str z)/\mv [V.str "",V.str z] (if decide (V.str (Ek d)=V.str Zd)=true then 1 else 0)=some (.str a)/\Wj r=some ([d.nm,a],r.c,r.h,Ut u d):=by
 cases d with
 |put nm p=>cases h
 |drop nm=>cases b
 |place nm fo=>
  refine⟨fo,"",QB (j:=2) rfl,?_,by unfold Wj;rw[hd];rfl⟩;rw[Um,show decide (Ek (.place nm fo)=Zd)=false by show decide (Zh=Zd)=false;decide +kernel];rfl
 |mark nm y on=>
  refine⟨y,y,QB (j:=2) rfl,?_,by unfold Wj;rw[hd];rfl⟩;rw[Um,show decide (Ek (.mark nm y on)=Zd)=true by show decide (Zd=Zd)=true;decide +kernel];rfl
def fu(h:YT d=false)(a:U4 d=false):Ek d=Zh\/Ek d=Zd:=by
 cases d with
 |put nm p=>cases h
 |drop nm=>cases a
 |place nm fo=>exact .inl rfl
 |mark nm y on=>exact .inr rfl
def bP(h:¬(YT r.d=false/\U4 r.d=false)):Wj r=none:=by
 unfold Wj
 cases hd:r.d with
 |put nm p=>rfl
 |drop nm=>rfl
 |place nm fo=>rw[hd] at h;exact absurd ⟨U,U⟩ h
 |mark nm y on=>rw[hd] at h;exact absurd ⟨U,U⟩ h
def fv(h:¬(YT d=false/\U4 d=false)):Ek d≠Zh/\Ek d≠Zd:=by
 cases d with
 |put nm p=>exact⟨by show Zx≠Zh;decide +kernel,by show Zx≠Zd;decide +kernel⟩
 |drop nm=>exact⟨by show Zt≠Zh;decide +kernel,by show Zt≠Zd;decide +kernel⟩
 |place nm fo=>exact absurd ⟨U,U⟩ h
 |mark nm y on=>exact absurd ⟨U,U⟩ h
def aH(h:YT d=true):mv (Nj u d) 2=some (.ref u):=by
 cases d with
 |put nm p=>exact QB (j:=2) rfl
 |place nm fo=>cases h
 |mark nm y on=>cases h
 |drop nm=>cases h
inductive NN(vs:qa V)(H:Hp)(Q:VK)(E:XK):Prop
 |mk:∀(R:qc)(rs:qa Rw),vs=[.ref R]->H R=some (.lst (rs.map λr=>V.ref r.x))->(∀r∈rs,XT H r)->rs.length<=63->(putN rs).Nodup ->
   (∀(t L B:qc)(kvs:qa (qa Key×V)) H',Qj H H'->H L=none->H B=none->H' t=some (.tup [.ref L,.ref B])->H' L=some (.dK (ltK (Yw rs) rs))->H' B=some (.dT kvs)->QS H' kvs (Q0 rs)->Q (.ref t) H')->NN vs H Q E
def Got.of{o:Option V}{e:Option Ent}(h:Got H o e){G:Prop}(a:o=none->e=none->G)(b:∀(p st:qc)(x:Ent),o=some (.ref p)->e=some x->H p=some (.tup [.ref st,x.2.2.2])->H st=some (.tup [.int x.2.1,.str x.2.2.1])->G):G:=by
 cases h with
 |no=>exact a rfl rfl
 |yes c d=>exact b _ _ _ rfl rfl c d
def Tf(F:zX K Ja Ja X2 a.iT fd)(T:Txt P w K mg base a):T.fq j6 1 a.iT fd [Z3] NN:=by
 refine F.ok Y0 (λcdv A outer s H vs Q E hr h=>?_)
 .obtain⟨R,rs,rfl,eR,C,hlen,hnd,k⟩:=h;have hu:=Q5 hr;have hu0:=hr.Qcu;refine⟨_,(Qd (XA (sc:=Qg X2) (N:=E3) (i:=1) (fr:=[]) (cs_ rfl rfl) rfl rfl rfl Y0.nd U rfl (YD (pv 0)) (λ_ _ _ _=>We (Qt YQ (Qv (Uj K) (Qv (Uj K) (pv 0) Qi) Qi) Qq)) (λ_ _ _ _=>(Qv (Uj K) (Qv (Uj K) (pv 0) Qi) Qi)))
   (Qd (Qr (i:=2) Y0.nd Q8)
   (Qd (Qr (i:=3) Y0.nd Kg)
   (Qd (Ud zx rfl (YD (pv 0)) (SR rfl (Xf (Ye (i:=4) Y0.nd) (Xf (Ye (i:=5) Y0.nd) (Xf (Ye (i:=6) Y0.nd) (Xf (Ye (i:=7) Y0.nd) Ot))))) (Qd (QV (PW.pt (Vx (Qt YQ (Qv QR (pv 7) Qi) Qq) (U0 (Qt XB (Qv QR (pv 7) Qi) (pv 1) (by with_unfolding_all rfl))))) (Qf (Yp hu (pv 2) (Qv QR (pv 7) Qi) (Qv QR (pv 7) Qi) rfl)) QE)
   (Qf (QV (PW.pt (XN (Qt YQ (Qv QR (pv 7) Qi) Qq) (V1 (Qt YQ (Qv QR (pv 7) Qi) Qq)))) (Qd (Qr (i:=8) Y0.nd (Yq (Qh (Qv QR (pv 7) Qi) (Qh (Qv QT (Yf (Qh Qq (Qh (Qv QR (pv 7) Qi) Qu))) (Uc K1 rfl T.QaF boot_int (zg (UB YQ (Qv QR (pv 7) Qi) Qq) Qe))) Qu))))
   (Qf (QV (PW.pt (XN (UI (U8 hu (pv 8) (pv 3))) (V1 (Qt (fH hu0) (Qv QR (QA hu (pv 3) (pv 8)) Qi) (Yq (Qh (pv 4) (Qh (pv 5) Qu))))))) (Qf (Yp hu (pv 3) (pv 8) (Yq (Qh (Yq (Qh (pv 4) (Qh (pv 5) Qu))) (Qh (Qv QR (pv 7) (dw RT Qi)) Qu))) rfl)) QE))) QE))))
   (Qf (Qw (Yq (Qh (pv 2) (Qh (pv 3) Qu))))))))),?_⟩
  refine⟨_,U,R,U,⟨_,zQ.of eR⟩,Ks (K:=K) (xs:=rs) (λr=>V.ref r.x) (λr=>U4 r.d) (λr=>V.str r.d.nm) (Q6 ((by omega))) (zQ.of eR) ?_ ?_ ?_⟩
  .intro r H3 Q' hm s3 d;have b:=(C r hm).tups λc xs e=>s3 _ _ e;refine⟨_,U,r.x,_,_,_,U,U,jX.of b.e,QB (j:=3) rfl,r.q,_,_,_,U,U,jX.of b.du.e,GC r.u r.d,U,_,U,?_⟩;show Q' _ _;rw[Um,Ry];exact d
  .intro r H3 Q' hm s3 M d;have b:=(C r hm).tups λc xs e=>s3 _ _ e;exact⟨_,U,r.x,_,_,_,U,U,jX.of b.e,QB (j:=3) rfl,r.q,_,_,_,U,U,jX.of b.du.e,GB r.u r.d,d⟩
  .intro g ng;have s1:Qj H (upd H g (.lst ((rs.filter λr=>U4 r.d).map λr=>V.str r.d.nm))):=Qj.zi ng;have e1:(upd H g (.lst ((rs.filter λr=>U4 r.d).map λr=>V.str r.d.nm))) g=some (.lst ((Yw rs).map V.str)):=by rw[Qc];unfold Yw;rw[qT];rfl
   show BM _ _ _ (upd H g (.lst ((rs.filter λr=>U4 r.d).map λr=>V.str r.d.nm))) _;generalize upd H g (.lst ((rs.filter λr=>U4 r.d).map λr=>V.str r.d.nm))=H1 at s1 e1⊢;intro L nL;have s2:Qj H1 (upd H1 L (.dK [])):=Qj.zi nL;have e2:(upd H1 L (.dK [])) L=some (.dK []):=Qc;show YY _ _ _ _ (upd H1 L (.dK []));generalize upd H1 L (.dK [])=H2 at s2 e2⊢;intro B nB;have s3:Qj H2 (upd H2 B (.dT [])):=Qj.zi nB;have e3:(upd H2 B (.dT [])) B=some (.dT []):=Qc;show YY _ _ _ _ (upd H2 B (.dT []));generalize upd H2 B (.dT [])=H3 at s3 e3⊢;have LB:L≠B:=Qb e2 nB;have s03:=(s1.trans s2).trans s3;have nL0:H L=none:=s1.free nL;have nB0:H B=none:=(s1.trans s2).free nB;refine⟨_,U,R,U,⟨_,zQ.of (s03 _ _ eR)⟩,YN (K:=K) (a:=R) (xs:=rs.map λr=>V.ref r.x) (λi σ G=>∃(o4 o5 o6 o7 o8:Option V)(kvs:qa (qa Key×V)),σ=[some (.ref R),some (.ref g),some (.ref L),some (.ref B),o4,o5,o6,o7,o8]/\Qj H G/\G g=some (.lst ((Yw rs).map V.str))/\G L=some (.dK (ltK (Yw rs) (rs.take i)))/\G B=some (.dT kvs)/\QS G kvs (Q0 (rs.take i)))
    ⟨none,none,none,none,none,[],U,s03,s3 _ _ (s2 _ _ e1),s3 _ _ e2,e3,.nil⟩ (λi σ G _ ⟨_,_,_,_,_,_,_,Y,_⟩=>zQ.of (Y _ _ eR)) ?_ ?_⟩
   .rintro i v σ G hi ⟨o4,o5,o6,o7,o8,kvs,rfl,Y,eg,Z,eB,hE⟩;rw[qQ] at hi;obtain⟨r,O,rfl⟩:∃r,rs[i]?=some r/\V.ref r.x=v:=by
     cases h:rs[i]? with
     |none=>rw[h] at hi;cases hi
     |some r=>rw[h] at hi;exact⟨r,U,qN hi⟩
    have il:i<rs.length:=(qY.mp O).1;have hm:=qL O;have hG:=(C r hm).tups λc xs e=>Y _ _ e;have et:rs.take (i+1)=rs.take i++[r]:=by rw[zo,O];rfl
    refine⟨r.x,_,U,jX.of hG.e,U,_,_,U,_,_,U,_,_,U,_,_,U,U,?_⟩;refine Wr λN hN=>?_;have rest:∀(G1:Hp),Qj H G1->G1 g=some (.lst ((Yw rs).map V.str))->G1 L=some (.dK (ltK (Yw rs) (rs.take (i+1))))->G1 B=some (.dT kvs)->QS G1 kvs (Q0 (rs.take i))->N [some (.ref R),some (.ref g),some (.ref L),some (.ref B),some (.int r.c),some (.str r.h),some (.int r.num),some (.ref r.q),o8] G1:=λG1 sG1 eg1 eL1 eB1 hE1=>by
     subst hN;have n:=(C r hm).tups λc xs e=>sG1 _ _ e;refine⟨_,U,r.q,_,_,_,U,U,jX.of n.du.e,GC r.u r.d,U,_,U,?_⟩;by_cases o:YT r.d=false/\U4 r.d=false
     .obtain⟨z,y,h2,h3,hb⟩:=gq (r:=r) (u:=r.u) rfl o.1 o.2;rcases fu o.1 o.2 with M|M
      case' inl=>
       rw[Um,qt M];refine Ya ?_
      case' inr=>
       rw[Um,qE (by rw[M];decide +kernel)];refine QU ⟨_,U,r.q,_,_,_,U,U,jX.of n.du.e,GC r.u r.d,U,_,U,?_⟩;rw[Um,qt M];refine Ya ?_
      all_goals
       refine⟨_,U,r.q,_,_,_,U,U,jX.of n.du.e,GB r.u r.d,_,U,r.q,_,_,_,U,U,jX.of n.du.e,h2,Vr,λp1 H1' np1 q e1'=>⟨_,U,r.q,_,_,_,U,U,jX.of (q _ _ n.du.e),GC r.u r.d,U,.inr ⟨_,U,p1,_,_,_,U,U,zQ.of e1',h3,Vr,λkb H2' nkb D ekb=>?_⟩⟩⟩;have S:=(sG1.trans q).trans D;have hG2:=(C r hm).tups λc xs e=>S _ _ e;have eg2:=D _ _ (q _ _ eg1);have eL2:=D _ _ (q _ _ eL1);have d:=D _ _ (q _ _ eB1);have I:=hE1.mono λc xs e=>D _ _ (q _ _ e);have ek:H2' kb=some (.tup ((QW [r.d.nm,y]).map kV)):=by rw[VW];exact ekb
       have hkl:kvs.length<sizeLine:=by
        rw[I.len];have:=Mc (rs.take i);rw[zb] at this;exact QD (by omega)
       have bs:Q0 (rs.take i++[r])=QX (Q0 (rs.take i)) ([r.d.nm,y],r.c,r.h,Ut r.u r.d):=by rw[By,hb]
       have fin2:∀(f:Hp)(m J:qc),Qj H f->f g=some (.lst ((Yw rs).map V.str))->f L=some (.dK (ltK (Yw rs) (rs.take (i+1))))->f B=some (.dT kvs)->QS f kvs (Q0 (rs.take i))->f J=some (.tup [.ref m,Ut r.u r.d])->f m=some (.tup [.int r.c,.str r.h])->YG (Q0 (rs.take i)) ([r.d.nm,y],r.c,r.h,Ut r.u r.d)=true ->
        ∃(o4 o5 o6 o7 o8:Option V)(l:qa (qa Key×V)),[some (V.ref R),some (.ref g),some (.ref L),some (.ref B),some (.int r.c),some (.str r.h),some (.int r.num),some (.ref r.q),some (.ref kb)]=[some (.ref R),some (.ref g),some (.ref L),some (.ref B),o4,o5,o6,o7,o8]/\Qj H (upd f B (.dT (Yc kvs (QW [r.d.nm,y]) (.ref J))))/\(upd f B (.dT (Yc kvs (QW [r.d.nm,y]) (.ref J)))) g=some (.lst ((Yw rs).map V.str))/\(upd f B (.dT (Yc kvs (QW [r.d.nm,y]) (.ref J)))) L=some (.dK (ltK (Yw rs) (rs.take (i+1))))/\(upd f B (.dT (Yc kvs (QW [r.d.nm,y]) (.ref J)))) B=some (.dT l)/\QS (upd f B (.dT (Yc kvs (QW [r.d.nm,y]) (.ref J)))) l (Q0 (rs.take (i+1))):=λf m J b eg7 eL7 eB7 hE7 ep est X=>by
        refine⟨_,_,_,_,_,_,U,b.z6 nB0,by rw[Qa (Q2 eg7 eB7 nofun)];exact eg7,by rw[Qa LB];exact eL7,Qc,?_⟩;rw[et,bs];unfold QX;rw[qG X];exact(hE7.put ep est).mono λc xs e=>by rw[Qa (Q2 e eB7 nofun)];exact e
       refine(I.get [r.d.nm,y]).of (λho he=>?_) (λp st x ho he ep est=>?_)
       .have kB:YG (Q0 (rs.take i)) ([r.d.nm,y],r.c,r.h,Ut r.u r.d)=true:=by rw[Am,he]
        refine⟨_,U,_,U,B,none,U,by rw[<-ho];exact Q3.t d ek,_,U,Ya ?_⟩;exact⟨_,U,_,U,Vr,λm H6 nst l e6=>⟨_,U,_,U,r.q,_,_,_,U,U,jX.of (l _ _ hG2.du.e),Ni r.u r.d,Vr,λJ f np2 b e7=>⟨_,U,_,U,B,_,U,UJ.t (b _ _ (l _ _ d)) (b _ _ (l _ _ ek)) hkl,fin2 f m J ((S.trans l).trans b) (b _ _ (l _ _ eg2)) (b _ _ (l _ _ eL2)) (b _ _ (l _ _ d)) (I.mono λc xs e=>b _ _ (l _ _ e)) e7 (b _ _ e6) kB⟩⟩⟩
       .have kB:YG (Q0 (rs.take i)) ([r.d.nm,y],r.c,r.h,Ut r.u r.d)=HT.Qak r.c r.h x.2.1 x.2.2.1:=by rw[Am,he]
        refine⟨_,U,_,U,B,some (.ref p),U,by rw[<-ho];exact Q3.t d ek,_,U,QU ⟨_,U,_,U,B,_,U,by rw[<-ho];exact Q3.t d ek,p,_,_,_,U,U,jX.of ep,QB (j:=0) rfl,_,U,_,U,Vr,λq5 H5 nq5 s5 e5=>⟨st,q5,_,_,_,_,U,U,jX.of (s5 _ _ est),jX.of e5,_,U,?_⟩⟩⟩;rw[HT.Qc1,<-kB]
        cases X:YG (Q0 (rs.take i)) ([r.d.nm,y],r.c,r.h,Ut r.u r.d) with
        |true=>exact Ya ⟨_,U,_,U,Vr,λm H6 nst l e6=>⟨_,U,_,U,r.q,_,_,_,U,U,jX.of (l _ _ (s5 _ _ hG2.du.e)),Ni r.u r.d,Vr,λJ f np2 b e7=>⟨_,U,_,U,B,_,U,UJ.t (b _ _ (l _ _ (s5 _ _ d))) (b _ _ (l _ _ (s5 _ _ ek))) hkl,fin2 f m J (((S.trans s5).trans l).trans b) (b _ _ (l _ _ (s5 _ _ eg2))) (b _ _ (l _ _ (s5 _ _ eL2))) (b _ _ (l _ _ (s5 _ _ d))) (I.mono λc xs e=>b _ _ (l _ _ (s5 _ _ e))) e7 (b _ _ e6) X⟩⟩⟩
        |false=>
         refine QU ⟨_,_,_,_,_,kvs,U,S.trans s5,s5 _ _ eg2,s5 _ _ eL2,s5 _ _ d,?_⟩;rw[et,bs];unfold QX;rw[X];exact I.mono λc xs e=>s5 _ _ e
     .have hb:Wj r=none:=bP o;have bs:Q0 (rs.take i++[r])=Q0 (rs.take i):=by rw[By,hb]
      obtain⟨b,d⟩:=fv o;rw[Um,qE b];refine QU ⟨_,U,r.q,_,_,_,U,U,jX.of n.du.e,GC r.u r.d,U,_,U,?_⟩;rw[Um,qE d];refine QU ⟨_,_,_,_,_,kvs,U,sG1,eg1,eL1,eB1,?_⟩;rw[et,bs];exact hE1
    have b:=P9 (Yw rs) (rs.take i) r;rw[<-et] at b;refine⟨_,U,r.q,_,_,_,U,U,jX.of hG.du.e,GC r.u r.d,U,_,U,?_⟩;rw[Um,IS]
    cases M:YT r.d with
    |false=>
     rw[M] at b;exact QU (rest G Y eg (by rw[Z];unfold ltK;rw[b];rfl) eB hE)
    |true=>
     rw[M] at b;refine Ya ⟨_,U,r.q,_,_,_,U,U,jX.of hG.du.e,GB r.u r.d,_,U,g,_,U,.inl (zQ.of eg),U,?_,_,U,?_⟩
     .rw[List.all_map];exact jd.mpr λ_ _=>rfl
     .rw[qG rfl,Ao]
      cases hg:decide (r.d.nm∈Yw rs) with
      |true=>
       rw[hg] at b;exact QU (rest G Y eg (by rw[Z];unfold ltK;rw[b];rfl) eB hE)
      |false=>
       rw[hg] at b;have d:¬r.d.nm∈(K9 (Yw rs) (rs.take i)).map λr=>r.d.nm:=λz=>by
        have z:=OC z;have e:putN rs=putN (rs.take i)++putN (rs.drop i):=by
         unfold putN;rw[<-qI,<-q9,List.take_append_drop]
        have hd:rs.drop i=r::rs.drop (i+1):=by rw[List.drop_eq_getElem_cons il];congr 1;exact(qY.mp O).2
        have f:r.d.nm∈putN (rs.drop i):=by rw[hd];unfold putN;rw[qM,qG M];exact qz ..
        rw[e,jf] at hnd;exact hnd.2.2 _ z _ f rfl
       have f:mv (Nj r.u r.d) 2=some (.ref r.u):=aH M;refine Ya ⟨_,U,r.q,_,_,_,U,U,jX.of hG.du.e,f,_,U,_,U,r.q,_,_,_,U,U,jX.of hG.du.e,GB r.u r.d,L,_,U,UJ.k (k:=Sum.inr r.d.nm) Z (by rw[GD];have:=qW (λr:Rw=>YT r.d&&!decide (r.d.nm∈Yw rs)) (rs.take i);rw[zb] at this;exact QD (by unfold K9;omega)),?_⟩;refine rest _ (Y.z6 nL0) (by rw[Qa (Q2 eg Z nofun)];exact eg) ?_ (by rw[Qa LB.symm];exact eB) (hE.mono λc xs e=>by rw[Qa (Q2 e Z nofun)];exact e);rw[Qc,Bx r d rfl rfl];unfold ltK;rw[b];rfl
   .rintro σ G ⟨o4,o5,o6,o7,o8,kvs,rfl,Y,eg,Z,eB,hE⟩;rw[qh,zh (qB _)] at Z hE;exact⟨_,U,_,U,Vr,λt H5 b s5 e5=>k t L B kvs H5 (Y.trans s5) nL0 nB0 e5 (s5 _ _ Z) (s5 _ _ eB) (hE.mono λc xs e=>s5 _ _ e)⟩
def Ap(es:qa Ent)(nm:qb):V:=match QJ es [nm,""] with
 |some e=>e.2.2.2
 |none=>.str Zp
def rM(es:qa Ent)(k:qe):Bool:=match QJ es k with
 |some e=>decide (e.2.2.2=V.bl true)
 |none=>false
def mkL(es:qa Ent)(nm:qb)(e:Ent):Bool:=decide (e.1.getD 0 ""=nm)&&(!decide (e.1.getD 1 ""=("":qb))&&rM es e.1)
def Vy(es:qa Ent)(nm:qb):qe:=(es.filter (mkL es nm)).map λe=>e.1.getD 1 ""
structure BOk(es:qa Ent):Prop where
 two:∀e∈es,e.1.length=2
 on:∀e∈es,e.1.getD 1 ""≠("":qb)->∃on,e.2.2.2=V.bl on
def Pg{a:Obj}{kvs:qa (qa Key×V)}(e:H B=some (.dT kvs))(s:Qj (upd H B (.jG a (.dT kvs))) G):Qj H (upd G B (.dT kvs)):=λc o h=>by
 by_cases z:c=B
 .rw[z,e] at h;rw[z,Qc];exact h
 .rw[Qa z];exact s c o (by rw[Qa z];exact h)
def Cs{H:Hp}:∀{bs:qa qc}{es:qa Ent},Xo H bs ((es.map (·.1)).map QW)->∀x∈bs.zip es,H x.1=some (.tup (x.2.1.map V.str))/\x.2∈es
 |_,[],h,x,a=>by rw[List.zip_nil_right] at a;cases a
 |bs,e::es,h,x,a=>by
  rw[qU,qU] at h
  cases h with
  |cons b r=>
   rw[List.zip_cons_cons] at a;rcases qJ.mp a with rfl|a
   .exact⟨by rw[<-VW];exact b,qz ..⟩
   .obtain⟨c,d⟩:=Cs r x a;exact⟨c,qF _ d⟩
def Ct(p:Ent->Bool)(f:Ent->V):∀{bs:qa qc}{es:qa Ent},bs.length=es.length->((bs.zip es).filter λx=>p x.2).map (λx=>f x.2)=(es.filter p).map f
 |[],[],_=>rfl
 |b::bs,e::es,h=>by
  rw[List.zip_cons_cons,qM,qM];have a:=Ct p f (bs:=bs) (es:=es) (by simpa using h)
  cases c:p e with
  |true=>simp only[c,vy,qU,a]
  |false=>simp only[c,zE,yE,a]
inductive EF(vs:qa V)(H:Hp)(Q:VK)(E:XK):Prop
 |mk:∀(B:qc)(kvs:qa (qa Key×V))(es:qa Ent)(nm:qb),vs=[.ref B,.str nm]->H B=some (.dT kvs)->QS H kvs es->(∀H',Qj H H'->Q (Ap es nm) H')->EF vs H Q E
inductive Ij(vs:qa V)(H:Hp)(Q:VK)(E:XK):Prop
 |mk:∀(B:qc)(kvs:qa (qa Key×V))(es:qa Ent)(nm:qb),vs=[.ref B,.str nm]->H B=some (.dT kvs)->QS H kvs es->BOk es->es.length<64->(∀l H',H l=none->Qj H H'->H' l=some (.lst ((Qz (Vy es nm)).map V.str))->Q (.ref l) H')->Ij vs H Q E
def Gv(F:zX K Z0 Z0 KD a.uv fd)(T:Txt P w K mg base a):T.fq j6 1 a.uv fd [Zj,ZD] EF:=by
 refine F.ok ID (λn A outer s H vs Q E o h=>?_)
 .obtain⟨B,kvs,es,nm,rfl,d,q,k⟩:=h;have i:=Q5 o;refine⟨_,(Qd (QV (UI (Kh i (Yq (Qh (pv 1) (Qh Qq Qu))) (pv 0))) (Qf (Qw (Qv QR (QA i (pv 0) (Yq (Qh (pv 1) (Qh Qq Qu)))) Qi))) QE)
   (Qf (Qw Qq))),?_⟩
  refine⟨_,U,Vr,λr H1 t s1 u=>?_⟩;have l:H1 r=some (.tup ((QW [nm,""]).map kV)):=by rw[VW];exact u
  have f:=q.mono λc xs e=>s1 _ _ e;refine(f.get [nm,""]).of (λb he=>?_) (λp st x b he v y=>?_)
  .refine⟨_,U,B,none,U,by rw[<-b];exact Q3.t (s1 _ _ d) l,_,U,QU ?_⟩;have:=k H1 s1;unfold Ap at this;rw[he] at this;exact this
  .refine⟨_,U,B,some (.ref p),U,by rw[<-b];exact Q3.t (s1 _ _ d) l,_,U,Ya ?_⟩;refine⟨_,U,_,U,Vr,λz m C s2 D=>?_⟩;have g:m z=some (.tup ((QW [nm,""]).map kV)):=by rw[VW];exact D
   refine⟨B,_,U,by rw[<-b];exact Q3.t (s2 _ _ (s1 _ _ d)) g,p,_,_,_,U,U,jX.of (s2 _ _ v),QB (j:=1) rfl,?_⟩;have:=k m (s1.trans s2);unfold Ap at this;rw[he] at this;exact this
def EV(F:zX K Jb Jb X4 a.iV fd)(T:Txt P w K mg base a):T.fq j6 1 a.iV fd [Zj,ZD] Ij:=by
 refine F.ok Mw (λX A outer s H vs Q E Y h=>?_)
 .obtain⟨B,kvs,es,nm,rfl,v,Z,C,h64,k⟩:=h;have hu:=Q5 Y;refine⟨_,(Qf (SM (Qw (QC VZ rfl T.jR boot_sorted (zg (VO (sc:=Qg X4) (N:=E4) (fr:=[(1,ZD),(0,Zj)]) (cs_ rfl rfl) rfl rfl rfl (SQ (pv 0)) (λ_ _ _ _=>We (PW.pt (Vx (Qt YQ (Qv (Uj K) (pv 0) Qi) (pv 1)) (Vx (Qt BC (Qv (Uj K) (pv 0) Qi) Qq) (U0 (UH (Qv (Uj K) (QA hu (pv 2) (pv 0)) Qi))))))) (λ_ _ _ _=>(Qv (Uj K) (pv 0) Qi))) Qe))))),?_⟩;refine⟨B,kvs,v,λi=>?_⟩;have kt:∀c xs,H c=some (.tup xs)->(upd H B (.jG i (.dT kvs))) c=some (.tup xs):=λc xs e=>by rw[Qa (λz=>by rw[z,v] at e;cases e)];exact e
  have m:=Z.mono kt;have r:(upd H B (.jG i (.dT kvs))) B=some (.jG i (.dT kvs)):=Qc;have b:∀G,Qj (upd H B (.jG i (.dT kvs))) G->Qj H (upd G B (.dT kvs)):=λG s=>Pg v s;generalize upd H B (.jG i (.dT kvs))=H1 at m r b⊢;refine⟨_,U,B,i,kvs,U,r,λbs f=>?_⟩;rw[m.keys] at f;have I:bs.length=es.length:=by have:=f.len;rw[qh,qh] at this;exact this
  have J:(bs.zip es).length=es.length:=by rw[List.length_zip];omega
  refine LZ (xs:=bs.zip es) (λx=>V.ref x.1) (λx=>mkL es nm x.2) (λx=>V.str (x.2.1.getD 1 "")) (by rw[J];exact Q6 ((by omega))) r (by rw[show(λx:qc×Ent=>V.ref x.1)=V.ref∘Prod.fst from rfl,<-qT,List.map_fst_zip (by omega)]) ?_ ?_ ?_
  .intro x R Q' L s3 d;obtain⟨ex,g⟩:=Cs f x L;have two:=C.two _ g;have n:=s3 _ _ ex;refine⟨_,U,x.1,_,_,_,U,U,jX.of n,DZ (j:=0) (by omega),_,U,U,_,U,?_⟩;unfold mkL at d;rw[Um]
   cases h0:decide (x.2.1.getD 0 ""=nm) with
   |false=>rw[h0] at d;exact QU d
   |true=>
    rw[h0] at d;refine Ya ⟨_,U,x.1,_,_,_,U,U,jX.of n,DZ (j:=1) (by omega),U,_,U,?_⟩;rw[FE]
    cases t:decide (x.2.1.getD 1 ""=("":qb)) with
    |true=>rw[t] at d;exact QU d
    |false=>
     rw[t] at d;have t:=yG t;have ek:R x.1=some (.tup ((QW x.2.1).map kV)):=by rw[VW];exact n
     have M:=m.mono λc xs e=>s3 _ _ e;obtain⟨S,O⟩:=Cv g;have hg:=M.get x.2.1;rw[O] at hg;refine Ya ?_;refine hg.of nofun (λp st y ho he ep est=>?_);cases he;obtain⟨m1,m2⟩:=VQ O;obtain⟨on,u⟩:=C.on S m1 (by rw[m2];exact t);refine⟨_,U,_,U,B,_,U,.inr ⟨kvs,QW x.2.1,x.1,.inr ⟨i,s3 _ _ r⟩,U,ek,ho.symm⟩,p,_,_,_,U,U,jX.of ep,QB (j:=1) rfl,?_⟩;rw[u];refine⟨on,U,?_⟩;have e0:rM es x.2.1=on:=by unfold rM;rw[O];show decide (S.2.2.2=V.bl true)=on;rw[u];cases on<;>decide
     rw[e0] at d;exact d
  .intro x R Q' L s3 n d;obtain⟨ex,g⟩:=Cs f x L;have two:=C.two _ g;exact⟨_,U,x.1,_,_,_,U,U,jX.of (s3 _ _ ex),DZ (j:=1) (by omega),d⟩
  .intro D M;rw[Ct (mkL es nm) (λe=>V.str (e.1.getD 1 "")) I];have d:Qj H1 (upd H1 D (.lst ((es.filter (mkL es nm)).map λe=>V.str (e.1.getD 1 "")))):=Qj.zi M;have n:(upd H1 D (.lst ((es.filter (mkL es nm)).map λe=>V.str (e.1.getD 1 "")))) D=some (.lst ((Vy es nm).map V.str)):=by rw[Qc];unfold Vy;rw[qT];rfl
   generalize upd H1 D (.lst ((es.filter (mkL es nm)).map λe=>V.str (e.1.getD 1 "")))=t at d n⊢;have g:(Vy es nm).length<64:=by unfold Vy;rw[qh];have:=qW (mkL es nm) es;omega
   refine⟨D,Vy es nm,U,zQ.of n,g,λl nl=>?_⟩;have u:Qj H1 (upd t l (.lst ((Qz (Vy es nm)).map V.str))):=d.trans (Qj.zi nl);have L:l≠B:=(Qb (d _ _ r) nl).symm;refine⟨u _ _ r,k l _ ?_ (b _ u) (by rw[Qa L];exact Qc)⟩
   cases q:H l with
   |none=>rfl
   |some o=>
    have:=b t d _ _ q;rw[Qa L,nl] at this;cases this
def SJ{x:Ent}(h:x∈Xd es e):x=e\/x∈es:=by
 unfold Xd at h;split at h
 .obtain⟨y,a,rfl⟩:=qj.mp h;by_cases z:y.1=e.1
  .rw[qG z];exact .inl rfl
  .rw[qC z];exact .inr a
 .rcases qr.mp h with q|q
  .exact .inr q
  .exact .inl (qk.mp q)
def Wm(x:Ent)(es:qa Ent)(k:qe):QJ (x::es) k=if x.1=k then some x else QJ es k:=by
 unfold QJ;by_cases h:x.1=k
 .rw[wN (by simp[h]),qG h]
 .rw[wO (by simp[h]),qC h]
def HP:∀(es:qa Ent)(e:Ent)(k:qe),QJ (es++[e]) k=(match QJ es k with|some x=>some x|none=>if e.1=k then some e else none)
 |[],e,k=>by rw[List.nil_append,Wm];rfl
 |x::es,e,k=>by
  rw[List.cons_append,Wm,Wm];by_cases h:x.1=k
  .rw[qG h,qG h]
  .rw[qC h,qC h];exact HP es e k
def Cw:∀(es:qa Ent)(e:Ent)(k:qe),QJ (es.map λx=>if x.1=e.1 then e else x) k=(match QJ es k with|some x=>(if x.1=e.1 then some e else some x)|none=>none)
 |[],_,_=>rfl
 |x::es,e,k=>by
  rw[qU,Wm,Wm];by_cases h:x.1=e.1
  .rw[qG h];by_cases a:e.1=k
   .rw[qG a,qG (h.trans a)];show _=if x.1=e.1 then some e else some x;rw[qG h]
   .rw[qC a,qC (λz=>a (h.symm.trans z))];exact Cw es e k
  .rw[qC h];by_cases a:x.1=k
   .rw[qG a,qG a];show _=if x.1=e.1 then some e else some x;rw[qC h]
   .rw[qC a,qC a];exact Cw es e k
def LJ{k:qe}:∀es:qa Ent,DJ es k=(QJ es k).isSome
 |[]=>rfl
 |x::es=>by
  have a:=LJ (k:=k) es;rw[Wm];unfold DJ at a⊢;rw[kO,a];by_cases h:x.1=k
  .rw[qG h,qt h];rfl
  .rw[qC h,qE h];rfl
def RR(es:qa Ent)(e:Ent)(k:qe):QJ (Xd es e) k=if e.1=k then some e else QJ es k:=by
 unfold Xd;rw[LJ]
 cases h:QJ es e.1 with
 |some y=>
  rw[qG (show(some y).isSome=true from rfl),Cw];by_cases a:e.1=k
  .subst a;rw[h,qG rfl];show(if y.1=e.1 then some e else some y)=some e;rw[qG (VQ h).2]
  .rw[qC a]
   cases b:QJ es k with
   |none=>rfl
   |some x=>show(if x.1=e.1 then some e else some x)=some x;rw[qC (λz=>a (z.symm.trans (VQ b).2))]
 |none=>
  rw[qC (show ¬(none:Option Ent).isSome=true from qH),HP];by_cases a:e.1=k
  .subst a;rw[h]
  .cases b:QJ es k with
   |none=>rfl
   |some x=>show some x=if e.1=k then some e else some x;rw[qC a]
def U6(es:qa Ent)(e:Ent)(k:qe):QJ (QX es e) k=if e.1=k then (if YG es e=true then some e else QJ es k) else QJ es k:=by
 unfold QX;by_cases h:YG es e=true
 .rw[qG h,qG h,RR]
 .rw[qC h,qC h];exact(ite_self _).symm
def LA(h:QJ es e.1=none):YG es e=true:=by
 unfold YG;rw[h]
def Lz(h:YG es e=false):∃x,QJ es e.1=some x:=by
 cases q:QJ es e.1 with
 |none=>rw[LA q] at h;cases h
 |some x=>exact⟨x,U⟩
def Uo(r:Rw):Ent:=(Ub r.d,r.c,r.h,Ut r.u r.d)
def Yh(rs:qa Rw):qa Ent:=rs.foldl (λes r=>QX es (Uo r)) []
def UD(rs:qa Rw)(r:Rw):Yh (rs++[r])=QX (Yh rs) (Uo r):=by unfold Yh;rw[jB];rfl
def aE(rs:qa Rw):(Yh rs).length<=rs.length:=by
 have h:∀(xs:qa Rw)(es:qa Ent),(xs.foldl (λes r=>QX es (Uo r)) es).length<=es.length+xs.length:=λxs=>by
  induction xs with
  |nil=>intro es;exact qB _
  |cons x xs a=>
   intro es;rw[zy];have:=a (QX es (Uo x));have:=Fg es (Uo x);rw[qV];omega
 have:=h rs [];have a:([]:qa Ent).length=0:=rfl;unfold Yh;omega
def Rl{x:Ent}(h:x∈QX es e):x=e\/x∈es:=by
 unfold QX at h;split at h
 .exact SJ h
 .exact .inr h
def DO:∀(xs:qa Ent)(es:qa Ent){e:Ent},e∈xs.foldl QX es->e∈es\/e∈xs
 |[],_,_,h=>.inl h
 |x::xs,es,e,h=>by
  rcases DO xs _ h with q|q
  .rcases Rl q with q|q
   .exact .inr (q▸qz ..)
   .exact .inl q
  .exact .inr (qF _ q)
def cJ(rs:qa Rw):Yh rs=(rs.map Uo).foldl QX []:=by unfold Yh;rw[List.foldl_map]
def DQ(h:e∈Yh rs):∃r∈rs,e=Uo r:=by
 rw[cJ] at h;rcases DO _ _ h with q|q
 .cases q
 .obtain⟨r,a,rfl⟩:=qj.mp q;exact⟨r,a,U⟩
def Mb(h:e∈Q0 rs):∃r∈rs,Wj r=some e:=by
 rcases DO _ _ h with q|q
 .cases q
 .obtain⟨r,a,q⟩:=QbK.mp q;exact⟨r,a,q⟩
def fg(e:Ent)(h:(es.map (·.1)).Nodup):((Xd es e).map (·.1)).Nodup:=by
 unfold Xd;split
 .have c:(es.map λx=>if x.1=e.1 then e else x).map (·.1)=es.map (·.1):=by
   rw[qT];refine jU λx _=>?_;show(if x.1=e.1 then e else x).1=x.1;by_cases z:x.1=e.1
   .rw[qG z,z]
   .rw[qC z]
  rw[c];exact h
 .rename_i d
  rw[qI];refine jf.mpr ⟨h,by simp,λa f b g z=>?_⟩;obtain⟨x,i,c⟩:=qj.mp f;have j:b=e.1:=by simpa using g
  refine d ?_;unfold DJ;exact uN.mpr ⟨x,i,qt (c.trans (z.trans j))⟩
def cA(e:Ent)(h:(es.map (·.1)).Nodup):((QX es e).map (·.1)).Nodup:=by
 unfold QX;split
 .exact fg e h
 .exact h
def OS:∀(xs:qa Ent){es:qa Ent},(es.map (·.1)).Nodup->((xs.foldl QX es).map (·.1)).Nodup
 |[],_,h=>h
 |x::xs,es,h=>OS xs (cA x h)
def cO(rs:qa Rw):((Q0 rs).map (·.1)).Nodup:=OS _ zB
def XR(o:Option Ent):Option (Int×qb×V):=o.map (·.2)
def Rm{a:qa Ent}{b:qe}{c:Int}(q:XR (QJ es k)=XR (QJ a b)):YG es (k,c,h,v)=YG a (b,c,h,v):=by
 rw[Am,Am]
 cases e:QJ es k with
 |none=>rw[e] at q;cases d:QJ a b with
  |none=>rfl
  |some y=>rw[d] at q;cases q
 |some x=>rw[e] at q;cases d:QJ a b with
  |none=>rw[d] at q;cases q
  |some y=>rw[d] at q;have q:x.2=y.2:=qN q;show HT.Qak c h x.2.1 x.2.2.1=HT.Qak c h y.2.1 y.2.2.1;rw[q]
def LC{a:qa Ent}{b:qe}{c:Int}(q:XR (QJ es k)=XR (QJ a b)):XR (QJ (QX es (k,c,h,v)) k)=XR (QJ (QX a (b,c,h,v)) b):=by
 rw[U6,U6,qG rfl,qG rfl,Rm q];split
 .rfl
 .exact q
def Yt(h:e.1≠k):QJ (QX es e) k=QJ es k:=by rw[U6,qC h]
structure XS(ws:qe)(r:Rw):Prop where
 pt:∀nm p,r.d=.put nm p->O9 ws p
 np:YT r.d=false->dOk ws ws r.d
def E8(h:XS ws r){nm y:qb}{on:Bool}(e:r.d=.mark nm y on):y∈ws:=by
 have:=h.np (by rw[e];rfl);rw[e] at this;exact this
def MF(h:XS ws r){nm:qb}(e:r.d=.place nm fo):fo∈ws:=by
 have:=h.np (by rw[e];rfl);rw[e] at this;exact this
def Gh:Zh≠Zx/\Zh≠Zt/\Zd≠Zx/\Zd≠Zt/\Zt≠Zx/\Zd≠Zh:=by decide +kernel
def aW{ws:qe}(hw:∀w∈ws,w≠("":qb)):∀(n:Nat)(rs:qa Rw),rs.length=n->(∀r∈rs,XS ws r)->∀nm:qb,XR (QJ (Yh rs) [nm,Zh])=XR (QJ (Q0 rs) [nm,""])/\∀y:qb,y≠("":qb)->XR (QJ (Yh rs) [nm,Zd,y])=XR (QJ (Q0 rs) [nm,y])
 |0,rs,g,_,nm=>by
  have:rs=[]:=ya.mp g;subst this;exact⟨U,λ_ _=>rfl⟩
 |n+1,rs,g,ok,nm=>by
  obtain⟨c,r,rfl⟩:∃c r,rs=c++[r]:=by
   rcases sV rs with h|⟨a,b,h⟩
   .rw[h] at g;cases g
   .exact⟨a,b,by rw[h,sW]⟩
  have l:∀r∈c,XS ws r:=λx s=>ok x (qy _ s);have o:=ok r (qv _ (qk.mpr rfl));have t:c.length=n:=by rw[qx] at g;simpa using g
  obtain⟨i,j⟩:=aW hw n c t l nm;rw[UD,By];obtain⟨u,v,A,B,C,D⟩:=Gh
  cases hd:r.d with
  |put m p=>
   have e:Uo r=([m,Zx],r.c,r.h,.ref r.u):=by unfold Uo;rw[hd];rfl
   have f:Wj r=none:=by unfold Wj;rw[hd]
   rw[e,f];exact⟨by rw[Yt (by intro z;exact u (qD (qD z).2).1.symm)];exact i,λy d=>by rw[Yt (by intro z;exact A (qD (qD z).2).1.symm)];exact j y d⟩
  |drop m=>
   have e:Uo r=([m,Zt],r.c,r.h,.str m):=by unfold Uo;rw[hd];rfl
   have f:Wj r=none:=by unfold Wj;rw[hd]
   rw[e,f];exact⟨by rw[Yt (by intro z;exact v (qD (qD z).2).1.symm)];exact i,λy d=>by rw[Yt (by intro z;exact B (qD (qD z).2).1.symm)];exact j y d⟩
  |place m fo=>
   have e:Uo r=([m,Zh],r.c,r.h,.str fo):=by unfold Uo;rw[hd];rfl
   have f:Wj r=some ([m,""],r.c,r.h,.str fo):=by unfold Wj;rw[hd]
   rw[e,f];refine⟨?_,λy d=>?_⟩
   .by_cases h:m=nm
    .subst h;exact LC i
    .show XR (QJ (QX _ _) _)=XR (QJ (QX _ _) _);rw[Yt (λz=>h (qD z).1),Yt (λz=>h (qD z).1)];exact i
   .show XR (QJ (QX _ _) _)=XR (QJ (QX _ _) _);rw[Yt (by intro z;cases (qD (qD z).2).2),Yt (by intro z;exact d (qD (qD z).2).1.symm)];exact j y d
  |mark m k on=>
   have e:Uo r=([m,Zd,k],r.c,r.h,.bl on):=by unfold Uo;rw[hd];rfl
   have f:Wj r=some ([m,k],r.c,r.h,.bl on):=by unfold Wj;rw[hd]
   have q:=hw k (E8 o hd);rw[e,f];refine⟨?_,λy d=>?_⟩
   .show XR (QJ (QX _ _) _)=XR (QJ (QX _ _) _);rw[Yt (by intro z;cases (qD (qD z).2).2),Yt (by intro z;exact q (qD (qD z).2).1)];exact i
   .by_cases h:m=nm/\k=y
    .obtain⟨rfl,rfl⟩:=h;exact LC (j k d)
    .show XR (QJ (QX _ _) _)=XR (QJ (QX _ _) _);rw[Yt (λz=>h ⟨(qD z).1,(qD (qD (qD z).2).2).1⟩),Yt (λz=>h ⟨(qD z).1,(qD (qD z).2).1⟩)];exact j y d
def foN(es:qa Ent)(m:qb):qb:=match QJ es [m,Zh] with
 |some (_,_,_,.str fo)=>fo
 |_=>Zp
structure BI(rs:qa Rw)(ls:qa LE)(bx:Rows)(mk:qb->qe):Prop where
 l1:∀l∈ls,(∃r∈rs,r.d=.put l.nm l.p)/\¬l.nm∈Yw rs
 l2:∀r∈rs,∀nm p,r.d=.put nm p->¬nm∈Yw rs->∃l∈ls,l.nm=nm/\l.p=p
 b:∀m,m∈bx.map (·.1)↔m∈ls.map LE.nm
 fo:∀m∈ls.map LE.nm,L2.up bx m=some (foN (Yh rs) m)
 mk_:∀m∈ls.map LE.nm,∀y,y∈mk m↔rM (Yh rs) [m,Zd,y]=true
def Bs(rs:qa Rw)(r:Rw):Yw (rs++[r])=if U4 r.d=true then Yw rs++[r.d.nm] else Yw rs:=by
 unfold Yw;rw[q9,qM];split
 .rw[qI];rfl
 .rw[lx,zr]
def U9(h:m∈Yw rs):m∈Yw (rs++[r]):=by
 rw[Bs];split
 .exact qy _ h
 .exact h
def Vz(h:m∈Yw (rs++[r])):m∈Yw rs\/(U4 r.d=true/\m=r.d.nm):=by
 rw[Bs] at h;split at h
 .rename_i hd
  rcases qr.mp h with q|q
  .exact .inl q
  .exact .inr ⟨hd,qk.mp q⟩
 .exact .inl h
def GH(h:QJ (Yh rs) k=some e):∃r∈rs,e=Uo r/\Ub r.d=k:=by
 obtain⟨a,b⟩:=VQ h;obtain⟨r,c,rfl⟩:=DQ a;exact⟨r,c,U,b⟩
def k2{a b c d:qb}(h:[a,b]=[c,d]):a=c/\b=d:=⟨(qD h).1,(qD (qD h).2).1⟩
def Ly{nm:qb}(h:Ub d=[nm,Zt]):d=.drop nm:=by
 obtain⟨c,a,e,f,b,g⟩:=Gh
 cases d with
 |put m p=>exact absurd (k2 h).2.symm b
 |place m fo=>exact absurd (k2 h).2 a
 |mark m y on=>cases (qD (qD h).2).2
 |drop m=>rw[(k2 h).1]
def cz{nm:qb}(h:Ub d=[nm,Zx]):∃p,d=.put nm p:=by
 obtain⟨a,c,e,f,b,g⟩:=Gh
 cases d with
 |put m p=>exact⟨p,by rw[(k2 h).1]⟩
 |place m fo=>exact absurd (k2 h).2 a
 |mark m y on=>cases (qD (qD h).2).2
 |drop m=>exact absurd (k2 h).2 b
def Rg{nm:qb}(h:Ub d=[nm,Zh]):∃fo,d=.place nm fo:=by
 obtain⟨a,b,c,e,f,g⟩:=Gh
 cases d with
 |put m p=>exact absurd (k2 h).2.symm a
 |place m fo=>exact⟨fo,by rw[(k2 h).1]⟩
 |mark m y on=>cases (qD (qD h).2).2
 |drop m=>exact absurd (k2 h).2.symm b
def ae{nm y:qb}(h:Ub d=[nm,Zd,y]):∃on,d=.mark nm y on:=by
 cases d with
 |put m p=>cases (qD (qD h).2).2
 |place m fo=>cases (qD (qD h).2).2
 |mark m c on=>
  have a:=(qD h).1;have b:=(qD (qD (qD h).2).2).1;exact⟨on,by rw[a,b]⟩
 |drop m=>cases (qD (qD h).2).2
def fZ{t:qe}(h:Ub d=m::t):d.nm=m:=by
 cases d<;>exact(qD h).1
def Rj(e:Ent)(h:∃x,QJ es k=some x):∃x,QJ (QX es e) k=some x:=by
 obtain⟨x,a⟩:=h;rw[U6];split
 .split
  .exact⟨_,U⟩
  .exact⟨x,a⟩
 .exact⟨x,a⟩
def Rk(es:qa Ent)(e:Ent):∃x,QJ (QX es e) e.1=some x:=by
 rw[U6,qG rfl]
 cases h:YG es e with
 |true=>exact⟨_,U⟩
 |false=>exact Lz h
def aF:∀(n:Nat){rs:qa Rw},rs.length=n->∀{r:Rw},r∈rs->∃e,QJ (Yh rs) (Ub r.d)=some e
 |0,rs,d,r,h=>by rw[ya.mp d] at h;cases h
 |n+1,rs,d,r,h=>by
  obtain⟨c,f,rfl⟩:∃c r,rs=c++[r]:=by
   rcases sV rs with h|⟨a,b,h⟩
   .rw[h] at d;cases d
   .exact⟨a,b,by rw[h,sW]⟩
  rw[UD];rcases qr.mp h with q|q
  .exact Rj _ (aF n (by rw[qx] at d;simpa using d) q)
  .rw[qk.mp q];exact Rk (Yh c) (Uo f)
def DM{nm:qb}:nm∈Yw rs↔∃e,QJ (Yh rs) [nm,Zt]=some e:=by
 constructor
 .intro h;obtain⟨r,b,rfl⟩:=qj.mp h;obtain⟨c,a⟩:=qo.mp b;obtain⟨e,he⟩:=aF _ rfl c
  cases hd:r.d with
  |drop m=>rw[hd] at he;exact⟨e,he⟩
  |put m p=>rw[hd] at a;cases a
  |place m p=>rw[hd] at a;cases a
  |mark m p q=>rw[hd] at a;cases a
 .rintro⟨e,he⟩;obtain⟨r,b,_,a⟩:=GH he;have hd:=Ly a;exact qj.mpr ⟨r,qo.mpr ⟨b,by rw[hd];rfl⟩,by rw[hd];rfl⟩
def Oj{nm:qb}(h:QJ (Yh rs) [nm,Zx]=some e):nm∈putN rs:=by
 obtain⟨r,a,_,b⟩:=GH h;obtain⟨p,hd⟩:=cz b;exact qj.mpr ⟨r,qo.mpr ⟨a,by rw[hd];rfl⟩,by rw[hd];rfl⟩
def AW{nm:qb}(a:(putN (rs++[r])).Nodup)(hd:r.d=.put nm p):¬nm∈putN rs:=λh=>by
 rw[KH,hd,qG (show YT (Dd.put nm p)=true from rfl),jf] at a;exact a.2.2 nm h nm (qk.mpr rfl) rfl
def cB{nm:qb}(a:r∈rs)(hd:r.d=.put nm p):nm∈putN rs:=qj.mpr ⟨r,qo.mpr ⟨a,by rw[hd];rfl⟩,by rw[hd];rfl⟩
def BI.Qa2(h:BI rs ls bx mk)(hm:m∈ls.map LE.nm):m∈putN rs/\¬m∈Yw rs:=by
 obtain⟨l,a,rfl⟩:=qj.mp hm;obtain⟨⟨r,b,hd⟩,hg⟩:=h.l1 l a;exact⟨cB b hd,hg⟩
def OV(h:YG (Yh rs) (Uo r)=false):Yh (rs++[r])=Yh rs:=by
 rw[UD];unfold QX;rw[h];rfl
def Ng(h:Ub r.d≠k):QJ (Yh (rs++[r])) k=QJ (Yh rs) k:=by rw[UD];exact Yt h
def KY(h:Ub r.d≠[m,Zh]):foN (Yh (rs++[r])) m=foN (Yh rs) m:=by unfold foN;rw[Ng h]
def KR{y:qb}(h:Ub r.d≠[m,Zd,y]):rM (Yh (rs++[r])) [m,Zd,y]=rM (Yh rs) [m,Zd,y]:=by unfold rM;rw[Ng h]
section
variable {rs:qa Rw}{ls:qa LE}{bx:Rows}{mk:qb->qe}{r:Rw}
def BI.away(h:BI rs ls bx mk)(c:YT r.d=false)(d:¬r.d.nm∈ls.map LE.nm):BI (rs++[r]) ls bx mk:=by
 have e:∀{m:qb}{t:qe},m∈ls.map LE.nm->Ub r.d≠m::t:=λhm z=>d (by rw[fZ z];exact hm);refine⟨λl f=>?_,λb a nm p hd hg=>?_,h.b,λm hm=>?_,λm hm y=>?_⟩
 .obtain⟨⟨b,a,hd⟩,hg⟩:=h.l1 l f;refine⟨⟨b,qy _ a,hd⟩,λz=>?_⟩;rcases Vz z with q|⟨_,q⟩
  .exact hg q
  .exact d (q▸zI f)
 .rcases qr.mp a with q|q
  .exact h.l2 b q nm p hd (λz=>hg (U9 z))
  .rw[qk.mp q] at hd;rw[hd] at c;cases c
 .rw[KY (e hm)];exact h.fo m hm
 .rw[KR (e hm)];exact h.mk_ m hm y
def BI.keep0(h:BI rs ls bx mk)(g:YG (Yh rs) (Uo r)=false)(j:(putN (rs++[r])).Nodup):BI (rs++[r]) ls bx mk:=by
 obtain⟨x,f⟩:=Lz g;have k:∀m,m∈Yw (rs++[r])->m∈Yw rs:=λm hm=>by
  rcases Vz hm with q|⟨hd,q⟩
  .exact q
  .refine DM.mpr ⟨x,?_⟩
   cases d:r.d with
   |drop i=>have e:(Uo r).1=[i,Zt]:=by unfold Uo;rw[d];rfl
            rw[e] at f;rw[q,d];exact f
   |put a b=>rw[d] at hd;cases hd
   |place a b=>rw[d] at hd;cases hd
   |mark a b c=>rw[d] at hd;cases hd
 refine⟨λl n=>?_,λi d nm p hd hg=>?_,h.b,λm hm=>by rw[OV g];exact h.fo m hm,λm hm y=>by rw[OV g];exact h.mk_ m hm y⟩
 .obtain⟨⟨i,d,hd⟩,hg⟩:=h.l1 l n;exact⟨⟨i,qy _ d,hd⟩,λz=>hg (k _ z)⟩
 .rcases qr.mp d with q|q
  .exact h.l2 i q nm p hd (λz=>hg (U9 z))
  .rw[qk.mp q] at hd;have e:(Uo r).1=[nm,Zx]:=by unfold Uo;rw[hd];rfl
   rw[e] at f;exact absurd (Oj f) (AW j hd)
def Rx{nm:qb}(a:¬nm∈ls.map LE.nm):(ls.filter λl=>decide (l.nm≠nm))=ls:=jV.mpr λl b=>qt λe=>a (qj.mpr ⟨l,b,e⟩)
def Ml{nm:qb}(a:¬nm∈bx.map (·.1)):L2.without bx nm=bx:=jV.mpr λl b=>qt λe=>a (qj.mpr ⟨l,b,e⟩)
def BI.Qcy(h:BI rs ls bx mk){nm:qb}(hd:r.d=.put nm p)(hg:nm∈Yw rs)(k:(putN (rs++[r])).Nodup):BI (rs++[r]) (ls.filter λl=>decide (l.nm≠nm)) (L2.without bx nm) mk:=by
 have nn:¬nm∈ls.map LE.nm:=λz=>(h.Qa2 z).2 hg;have kd:Ub r.d=[nm,Zx]:=by rw[hd];rfl
 obtain⟨f,n,o,s,t,u⟩:=Gh;have g:∀m,m∈Yw (rs++[r])->m∈Yw rs:=λm hm=>(Vz hm).elim id λq=>by rw[hd] at q;cases q.1
 rw[Rx nn,Ml (λz=>nn ((h.b nm).mp z))];refine⟨λl i=>?_,λd a e j b c=>?_,h.b,λm hm=>?_,λm hm y=>?_⟩
 .obtain⟨⟨d,a,hd⟩,hg⟩:=h.l1 l i;exact⟨⟨d,qy _ a,hd⟩,λz=>hg (g _ z)⟩
 .rcases qr.mp a with q|q
  .exact h.l2 d q e j b (λz=>c (U9 z))
  .rw[qk.mp q,hd] at b;cases b;exact absurd (U9 hg) c
 .rw[KY (by rw[kd];exact λz=>f (k2 z).2.symm)];exact h.fo m hm
 .rw[KR (by rw[kd];exact λz=>nomatch (qD (qD z).2).2)];exact h.mk_ m hm y
end
def dW{nm:qb}(h:up bx nm=none)(t:qb):up (bx++[(nm,fo)]) t=if t=nm then some fo else up bx t:=by
 unfold up;rw[List.find?_append];by_cases e:t=nm
 .subst e;have a:bx.find? (λr=>decide (r.1=t))=none:=by
   unfold up at h;exact Option.map_eq_none_iff.mp h
  rw[a,qG rfl];simp
 .rw[qC e];have a:([(nm,fo)]:Rows).find? (λr=>decide (r.1=t))=none:=by
   rw[yb,qE (λz:nm=t=>e z.symm)];rfl
  rw[a,Option.or_none]
def RS(bx:Rows)(nm t:qb):up (L2.without bx nm) t=if t=nm then none else up bx t:=by
 by_cases e:t=nm
 .subst e;rw[qG rfl];refine VD.mpr λh=>?_;obtain⟨r,a,z⟩:=qj.mp h;exact ql (qo.mp a).2 z
 .rw[qC e];unfold up L2.without;congr 1;rw[List.find?_filter];congr 1;funext r;by_cases q:r.1=t
  .rw[qt q];simp[q,e]
  .rw[qE q];simp
def cW{nm:qb}:up (L2.without bx nm++[(nm,fo)]) m=if m=nm then some fo else up bx m:=by
 rw[dW (by rw[RS,qG rfl]),RS];by_cases e:m=nm
 .rw[qG e,qG e]
 .rw[qC e,qC e,qC e]
def fV(rs:qa Rw):gE (Yh rs):=by
 refine⟨λe he=>?_,λe he=>?_,λe he hm=>?_⟩
 .obtain⟨r,a,rfl⟩:=DQ he;exact OX r.d
 .obtain⟨r,a,rfl⟩:=DQ he;show 2<=(Ub r.d).length;cases r.d<;>(simp[Ub])
 .obtain⟨r,a,rfl⟩:=DQ he;obtain⟨f,g,b,c,h,d⟩:=Gh;have hm:(Ub r.d).getD 1 ""=Zd:=hm;show(∃on,Ut r.u r.d=V.bl on)/\(Ub r.d).length=3
  cases hd:r.d with
  |put m p=>rw[hd] at hm;exact absurd hm.symm b
  |place m fo=>rw[hd] at hm;exact absurd hm.symm d
  |mark m y on=>exact⟨⟨on,U⟩,U⟩
  |drop m=>rw[hd] at hm;exact absurd hm.symm c
def E6{nm:qb} :k∈OG es nm↔∃e∈es,e.1=k/\k.take 1=[nm]:=by
 unfold OG;constructor
 .intro h;obtain⟨i,b,rfl⟩:=qj.mp h;have a:=Hz b;have hm:((sel [nm] es).map (·.1)).getD i []∈(sel [nm] es).map (·.1):=by
   rw[zC,qA a];exact jj _
  obtain⟨e,he,q⟩:=qj.mp hm;obtain⟨c,d⟩:=qo.mp he;exact⟨e,c,q,by rw[<-q];exact ql d⟩
 .rintro⟨e,he,rfl,c⟩;have hm:e.1∈(sel [nm] es).map (·.1):=qj.mpr ⟨e,qo.mpr ⟨he,qt c⟩,U⟩;obtain⟨i,b⟩:=Qaj hm;have a:=(qY.mp b).1;refine qj.mpr ⟨i,(Bq _).mem_iff.mpr (xk.mpr a),?_⟩;rw[zC,b];rfl
def OH{y:qb}:Ej es [m,Zd,y]=rM es [m,Zd,y]:=by
 unfold Ej rM;rw[show decide (([m,Zd,y]:qe).getD 1 ""=Zd)=true from qt rfl,uP]<;>rfl
def Dy{nm y:qb}:y∈Kn (Yh rs) nm↔rM (Yh rs) [nm,Zd,y]=true:=by
 unfold Kn;constructor
 .intro h;obtain⟨k,d,rfl⟩:=qj.mp h;obtain⟨b,a⟩:=qo.mp d;obtain⟨e,he,rfl,c⟩:=E6.mp b;have hm:e.1.getD 1 ""=Zd:=by unfold Ej at a;exact ql (zZ.mp a).1
  obtain⟨r,l,rfl⟩:=DQ he;obtain⟨n,o,f,g,q,i⟩:=Gh;have hm:(Ub r.d).getD 1 ""=Zd:=hm
  cases hd:r.d with
  |put m p=>rw[hd] at hm;exact absurd hm.symm f
  |place m fo=>rw[hd] at hm;exact absurd hm.symm i
  |drop m=>rw[hd] at hm;exact absurd hm.symm g
  |mark m y on=>
   have j:(Uo r).1=[m,Zd,y]:=by unfold Uo;rw[hd];rfl
   rw[j] at c a⊢;have:m=nm:=(qD c).1;subst this;rw[OH] at a;exact a
 .intro h;have h0:=h;unfold rM at h
  cases c:QJ (Yh rs) [nm,Zd,y] with
  |none=>rw[c] at h;cases h
  |some e=>
   obtain⟨b,a⟩:=VQ c;exact qj.mpr ⟨[nm,Zd,y],qo.mpr ⟨E6.mpr ⟨e,b,a,U⟩,by rw[OH];exact h0⟩,U⟩
section
variable {rs:qa Rw}{ls:qa LE}{bx:Rows}{mk:qb->qe}{r:Rw}
def W3{nm:qb}{y:qc}  :m∈((ls.filter λl:LE=>decide (l.nm≠nm))++[(⟨nm,y,p⟩:LE)]).map LE.nm↔m=nm\/(m≠nm/\m∈ls.map LE.nm):=by
 rw[qI,qr];constructor
 .rintro(h|h)
  .obtain⟨l,a,rfl⟩:=qj.mp h;obtain⟨c,b⟩:=qo.mp a;exact .inr ⟨ql b,zI c⟩
  .exact .inl (by simpa using h)
 .rintro(h|⟨h,b⟩)
  .exact .inr (by simp[h])
  .obtain⟨l,a,rfl⟩:=qj.mp b;exact .inl (qj.mpr ⟨l,qo.mpr ⟨a,qt h⟩,U⟩)
def DA{nm:qb}:m∈(L2.without bx nm++[(nm,fo)]).map (·.1)↔m=nm\/(m≠nm/\m∈bx.map (·.1)):=by
 rw[qI,qr];constructor
 .rintro(h|h)
  .obtain⟨l,a,rfl⟩:=qj.mp h;obtain⟨c,b⟩:=qo.mp a;exact .inr ⟨ql b,zI c⟩
  .exact .inl (by simpa using h)
 .rintro(h|⟨h,b⟩)
  .exact .inr (by simp[h])
  .obtain⟨l,a,rfl⟩:=qj.mp b;exact .inl (qj.mpr ⟨l,qo.mpr ⟨a,qt h⟩,U⟩)
def BI.Qc3(h:BI rs ls bx mk){nm:qb}(y:qc)(hd:r.d=.put nm p)(hg:¬nm∈Yw rs)(j:(putN (rs++[r])).Nodup):BI (rs++[r]) ((ls.filter λl=>decide (l.nm≠nm))++[⟨nm,y,p⟩]) (L2.without bx nm++[(nm,foN (Yh (rs++[r])) nm)]) (Ul mk nm (dd (Kn (Yh (rs++[r])) nm))):=by
 have nn:¬nm∈ls.map LE.nm:=λz=>AW j hd (h.Qa2 z).1;have kd:Ub r.d=[nm,Zx]:=by rw[hd];rfl
 obtain⟨k,t,u,v,w,x⟩:=Gh;have i:∀m,m∈Yw (rs++[r])->m∈Yw rs:=λm hm=>(Vz hm).elim id λq=>by rw[hd] at q;cases q.1
 refine⟨λl c=>?_,λd a f n b g=>?_,λm=>?_,λm hm=>?_,λm hm z=>?_⟩
 .rcases qr.mp c with q|q
  .obtain⟨⟨d,a,hd⟩,hg⟩:=h.l1 l (qo.mp q).1;exact⟨⟨d,qy _ a,hd⟩,λz=>hg (i _ z)⟩
  .rw[qk.mp q];exact⟨⟨r,qv _ (qk.mpr rfl),hd⟩,λz=>hg (i _ z)⟩
 .rcases qr.mp a with q|q
  .obtain⟨l,c,o,s⟩:=h.l2 d q f n b (λz=>g (U9 z));exact⟨l,qy _ (qo.mpr ⟨c,qt λz=>nn (z▸zI c)⟩),o,s⟩
  .rw[qk.mp q,hd] at b;cases b;exact⟨_,qv _ (qk.mpr rfl),U,U⟩
 .rw[W3,DA,h.b m]
 .rw[cW];by_cases e:m=nm
  .rw[qG e,e]
  .rw[qC e,KY (by rw[kd];exact λz=>k (k2 z).2.symm)];exact h.fo m ((W3.mp hm).resolve_left e).2
 .by_cases e:m=nm
  .rw[e,Ym,Dz];exact Dy
  .rw[YB e,KR (by rw[kd];exact λz=>nomatch (qD (qD z).2).2)];exact h.mk_ m ((W3.mp hm).resolve_left e).2 z
def BI.change(h:BI rs ls bx mk)(v:YT r.d=false)(w:YG (Yh rs) (Uo r)=true)(n:r.d.nm∈ls.map LE.nm):BI (rs++[r]) (chL ls r.d) (chB bx r.d) (chM mk r.d):=by
 obtain⟨A,x,B,C,D,E⟩:=Gh
 cases hd:r.d with
 |put nm p=>rw[hd] at v;cases v
 |drop nm=>
  have kd:Ub r.d=[nm,Zt]:=by rw[hd];rfl
  have o:∀{m:qb},m∈(ls.filter λl=>decide (l.nm≠nm)).map LE.nm↔m≠nm/\m∈ls.map LE.nm:=λ{m}=>by
   constructor
   .intro hm;obtain⟨l,d,rfl⟩:=qj.mp hm;obtain⟨i,j⟩:=qo.mp d;exact⟨ql j,zI i⟩
   .rintro⟨i,j⟩;obtain⟨l,d,rfl⟩:=qj.mp j;exact qj.mpr ⟨l,qo.mpr ⟨d,qt i⟩,U⟩
  show BI (rs++[r]) (ls.filter λl=>decide (l.nm≠nm)) (L2.without bx nm) mk;refine⟨λl d=>?_,λf b c k a g=>?_,λm=>?_,λm hm=>?_,λm hm z=>?_⟩
  .obtain⟨i,j⟩:=qo.mp d;obtain⟨⟨f,b,a⟩,hg⟩:=h.l1 l i;refine⟨⟨f,qy _ b,a⟩,λz=>?_⟩;rcases Vz z with q|⟨_,q⟩
   .exact hg q
   .rw[hd] at q;exact ql j q
  .rcases qr.mp b with q|q
   .obtain⟨l,d,s,t⟩:=h.l2 f q c k a (λz=>g (U9 z));refine⟨l,qo.mpr ⟨d,qt λz=>g ?_⟩,s,t⟩;rw[Bs,hd,qG (show U4 (Dd.drop nm)=true from rfl),<-s,z];exact qv _ (qk.mpr rfl)
   .rw[qk.mp q,hd] at a;cases a
  .rw[o,<-h.b m];constructor
   .intro hm;obtain⟨l,d,rfl⟩:=qj.mp hm;obtain⟨i,j⟩:=qo.mp d;exact⟨ql j,zI i⟩
   .rintro⟨i,j⟩;obtain⟨l,d,rfl⟩:=qj.mp j;exact qj.mpr ⟨l,qo.mpr ⟨d,qt i⟩,U⟩
  .obtain⟨j,i⟩:=o.mp hm;rw[RS,qC j,KY (by rw[kd];exact λz=>x (k2 z).2.symm)];exact h.fo m i
  .obtain⟨j,i⟩:=o.mp hm;rw[KR (by rw[kd];exact λz=>nomatch (qD (qD z).2).2)];exact h.mk_ m i z
 |place nm fo=>
  rw[hd] at n;have n:nm∈ls.map LE.nm:=n;have kd:Ub r.d=[nm,Zh]:=by rw[hd];rfl
  have t:∀m,m∈Yw (rs++[r])->m∈Yw rs:=λm hm=>(Vz hm).elim id λq=>by rw[hd] at q;cases q.1
  have vs:QJ (Yh (rs++[r])) [nm,Zh]=some ([nm,Zh],r.c,r.h,.str fo):=by
   have e:Uo r=([nm,Zh],r.c,r.h,.str fo):=by unfold Uo;rw[hd];rfl
   rw[UD,U6,e,qG rfl,qG (by rw[<-e];exact w)]
  show BI (rs++[r]) ls (L2.without bx nm++[(nm,fo)]) mk;refine⟨λl d=>?_,λf b c k a g=>?_,λm=>?_,λm hm=>?_,λm hm z=>?_⟩
  .obtain⟨⟨f,b,a⟩,hg⟩:=h.l1 l d;exact⟨⟨f,qy _ b,a⟩,λz=>hg (t _ z)⟩
  .rcases qr.mp b with q|q
   .exact h.l2 f q c k a (λz=>g (U9 z))
   .rw[qk.mp q,hd] at a;cases a
  .rw[DA,h.b m];exact⟨λq=>q.elim (λz=>z▸n) λz=>z.2,λq=>(Decidable.em (m=nm)).imp id λz=>⟨z,q⟩⟩
  .rw[cW];by_cases e:m=nm
   .rw[qG e,e];unfold foN;rw[vs]
   .rw[qC e,KY (by rw[kd];exact λz=>e (k2 z).1.symm)];exact h.fo m hm
  .rw[KR (by rw[kd];exact λz=>nomatch (qD (qD z).2).2)];exact h.mk_ m hm z
 |mark nm y on=>
  rw[hd] at n;have n:nm∈ls.map LE.nm:=n;have kd:Ub r.d=[nm,Zd,y]:=by rw[hd];rfl
  have t:∀m,m∈Yw (rs++[r])->m∈Yw rs:=λm hm=>(Vz hm).elim id λq=>by rw[hd] at q;cases q.1
  have vs:rM (Yh (rs++[r])) [nm,Zd,y]=on:=by
   have e:Uo r=([nm,Zd,y],r.c,r.h,.bl on):=by unfold Uo;rw[hd];rfl
   unfold rM;rw[UD,U6,e,qG rfl,qG (by rw[<-e];exact w)];show decide (V.bl on=V.bl true)=on;cases on<;>decide
  have j:∀m∈ls.map LE.nm,L2.up bx m=some (foN (Yh (rs++[r])) m):=λm hm=>by
   rw[KY (by rw[kd];exact λz=>nomatch (qD (qD z).2).2)];exact h.fo m hm
  have o:∀l∈ls,(∃f∈rs++[r],f.d=.put l.nm l.p)/\¬l.nm∈Yw (rs++[r]):=λl d=>by
   obtain⟨⟨f,b,a⟩,hg⟩:=h.l1 l d;exact⟨⟨f,qy _ b,a⟩,λz=>hg (t _ z)⟩
  have s:∀f∈rs++[r],∀c k,f.d=.put c k->¬c∈Yw (rs++[r])->∃l∈ls,l.nm=c/\l.p=k:=λf b c k a g=>by
   rcases qr.mp b with q|q
   .exact h.l2 f q c k a (λz=>g (U9 z))
   .rw[qk.mp q,hd] at a;cases a
  have mo:∀{m z:qb},m∈ls.map LE.nm->¬(m=nm/\z=y)->(z∈mk m↔rM (Yh (rs++[r])) [m,Zd,z]=true):=λ{m z} hm u=>by
   rw[KR (by rw[kd];exact λq=>u ⟨(qD q).1.symm,(qD (qD (qD q).2).2).1.symm⟩)];exact h.mk_ m hm z
  cases on with
  |true=>
   refine⟨o,s,h.b,j,λm hm z=>?_⟩;show z∈Ul mk nm (YH (mk nm) y) m↔_;by_cases e:m=nm
   .subst e;rw[Ym];have ad:z∈YH (mk m) y↔z∈mk m\/z=y:=by
     unfold YH;split
     .rename_i i
      exact⟨.inl,λq=>q.elim id λq=>q▸i⟩
     .rw[qr,qk]
    rw[ad];by_cases i:z=y
    .subst i;rw[vs];exact⟨λ_=>rfl,λ_=>.inr rfl⟩
    .rw[<-mo hm (λq=>i q.2)];exact⟨λq=>q.resolve_right i,.inl⟩
   .rw[YB e];exact mo hm (λq=>e q.1)
  |false=>
   refine⟨o,s,h.b,j,λm hm z=>?_⟩;show z∈Ul mk nm ((mk nm).filter λz=>decide (z≠y)) m↔_;by_cases e:m=nm
   .subst e;rw[Ym,qo];by_cases i:z=y
    .subst i;rw[vs];exact⟨λq=>absurd rfl (ql q.2),λq=>nomatch q⟩
    .rw[<-mo hm (λq=>i q.2)];exact⟨λq=>q.1,λq=>⟨q,qt i⟩⟩
   .rw[YB e];exact mo hm (λq=>e q.1)
end
def Nd(ok:∀r∈rs,XS ws r)(m:qb):((QJ (Yh rs) [m,Zh]).map (·.2.2.2)).getD (.str Zp)=.str (foN (Yh rs) m)/\foN (Yh rs) m∈Zp::ws:=by
 unfold foN
 cases a:QJ (Yh rs) [m,Zh] with
 |none=>exact⟨U,qz ..⟩
 |some e=>
  obtain⟨r,b,rfl,c⟩:=GH a;obtain⟨fo,hd⟩:=Rg c;have e:Uo r=([m,Zh],r.c,r.h,.str fo):=by unfold Uo;rw[hd];rfl
  rw[e];exact⟨U,qF _ (MF (ok r b) hd)⟩
def Ox(ok:∀r∈rs,XS ws r){y:qb}(h:rM (Yh rs) [m,Zd,y]=true):y∈ws:=by
 unfold rM at h
 cases a:QJ (Yh rs) [m,Zd,y] with
 |none=>rw[a] at h;cases h
 |some e=>
  obtain⟨r,b,rfl,c⟩:=GH a;obtain⟨on,hd⟩:=ae c;exact E8 (ok r b) hd
def ir{nm:qb}(ok:∀x∈rs++[r],XS ws x)(o:ws.length<=5)(s:rs.length<=62)(hd:r.d=.put nm p)(g:(putN (rs++[r])).Nodup)(i:XT H r):RM H (Yh (rs++[r])) nm p r.u (foN (Yh (rs++[r])) nm) (decide (nm∈Yw rs)) ws (Zp::ws) ws:=by
 have b:=ok r (qv _ (qk.mpr rfl));have c:=b.pt nm p hd;obtain⟨t,u,v,A,j,B⟩:=Gh;have kd:Ub r.d=[nm,Zx]:=by rw[hd];rfl
 have a:∀w∈WZ (v8 p.t++v8 p.b),w∈ws:=λw hw=>by
  rcases qr.mp (I0 hw) with q|q
  .exact c.t.v8 w q
  .exact c.b.v8 w q
 have f:QJ (Yh (rs++[r])) [nm,Zt]=QJ (Yh rs) [nm,Zt]:=Ng (by rw[kd];exact λz=>j (k2 z).2.symm);obtain⟨f1,f2⟩:=Nd ok nm;have k:Uo r=([nm,Zx],r.c,r.h,.ref r.u):=by unfold Uo;rw[hd];rfl
 have pn:QJ (Yh rs) [nm,Zx]=none:=by
  cases q:QJ (Yh rs) [nm,Zx] with
  |none=>rfl
  |some e=>exact absurd (Oj q) (AW g hd)
 refine⟨fV _,xN (aE _) (by rw[qx,qO];omega),?_,i.du.p nm p hd,c.g,a,zm (Dg (bV _) a) (by omega),λh=>?_,λh=>?_,f1,f2,λy l=>Ox ok (Dy.mp l)⟩
 .rw[UD,U6,k,qG rfl,qG (LA pn)];rfl
 .rw[f]
  cases q:QJ (Yh rs) [nm,Zt] with
  |none=>rfl
  |some e=>exact absurd (DM.mpr ⟨e,q⟩) (yG h)
 .obtain⟨e,he⟩:=DM.mp (ql h);rw[f,he];obtain⟨C,m,rfl,n⟩:=GH he;have d:=Ly n;exact⟨nm,by unfold Uo;rw[d];rfl⟩
def bE{Q:VK}{E:XK}
 (h:vS a H own b db xr L xt xi xf (Yh rs) ls bx mk ws (Zp::ws) ws n) (bi:BI rs ls bx mk) (j:XT H r) (ok:∀x∈rs++[r],XS ws x) (f:(putN (rs++[r])).Nodup) (o:ws.length<=5) (q:rs.length<=62) (g:n<=(putN rs).length) (e:(putN (rs++[r])).length<=40)
 (k:∀H' c d bx' mk' n',vS a H' c b db xr L xt xi xf (Yh (rs++[r])) d bx' mk' ws (Zp::ws) ws n'->n'<=(putN (rs++[r])).length->BI (rs++[r]) d bx' mk'->KB own c H H'->Q .non H'):Mr a [.ref b,.ref r.x] H Q E:=by
 have l:=ok r (qv _ (qk.mpr rfl));have pl:(putN rs).length<=(putN (rs++[r])).length:=by
  rw[KH];split
  .rw[qx];omega
  .exact qB _
 refine⟨own,b,db,xr,L,xt,xi,xf,Yh rs,ls,bx,mk,ws,_,ws,n,r.x,r.c,r.h,r.num,r.q,r.u,r.d,U,h,j.e,j.du,zm (aE rs) (by omega),bi.b,?_,?_,?_⟩
 .intro g H' c d e;refine k H' c ls bx mk n ?_ (by omega) (bi.keep0 g f) e;rw[UD];exact d
 .intro g nm p hd;have i:=ir ok o q hd f j;rw[UD] at i;have s:(putN (rs++[r])).length=(putN rs).length+1:=by rw[KH,hd,qG (show YT (Dd.put nm p)=true from rfl),qx];rfl
  refine⟨_,_,i,by omega,λhg H' c d e=>?_,λhg y H' c d e=>?_⟩
  .refine k H' c _ _ _ n ?_ (by omega) (bi.Qcy hd (ql hg) f) e;rw[UD];exact d
  .refine k H' c _ _ _ (n+1) ?_ (by omega) (bi.Qc3 y hd (yG hg) f) e;rw[UD];exact d
 .intro g f;have i:=l.np f;refine⟨?_,λhm H' c d e=>?_,λhm H' c d e=>?_⟩
  .cases hd:r.d with
   |put a b=>rw[hd] at f;cases f
   |place m fo=>rw[hd] at i;exact qF _ i
   |mark m y on=>rw[hd] at i;exact i
   |drop m=>trivial
  .refine k H' c _ _ _ n ?_ (by omega) (bi.change f g hm) e;rw[UD];exact d
  .refine k H' c _ _ _ n ?_ (by omega) (bi.away f hm) e;rw[UD];exact d
def O6(hw:∀w∈ws,w≠("":qb))(ok:∀r∈rs,XS ws r):BOk (Q0 rs):=by
 refine⟨λe he=>?_,λe he b=>?_⟩
 .obtain⟨r,c,a⟩:=Mb he;unfold Wj at a;split at a
  .cases a;rfl
  .cases a;rfl
  .cases a
 .obtain⟨r,c,a⟩:=Mb he;unfold Wj at a;split at a
  .cases a;exact absurd rfl b
  .rename_i on _;cases a;exact⟨_,U⟩
  .cases a
def cI(hw:∀w∈ws,w≠("":qb))(ok:∀r∈rs,XS ws r)(m:qb):Ap (Q0 rs) m=.str (foN (Yh rs) m):=by
 obtain⟨f1,_⟩:=Nd ok m;have a:=(aW hw _ rs rfl ok m).1;unfold Ap
 cases c:QJ (Yh rs) [m,Zh] with
 |none=>
  rw[c] at a f1
  cases b:QJ (Q0 rs) [m,""] with
  |none=>exact f1
  |some y=>rw[b] at a;cases a
 |some x=>
  rw[c] at a f1
  cases b:QJ (Q0 rs) [m,""] with
  |none=>rw[b] at a;cases a
  |some y=>
   rw[b] at a;have a:x.2=y.2:=qN a;show y.2.2.2=_;rw[<-a];exact f1
def dA(hw:∀w∈ws,w≠("":qb))(ok:∀r∈rs,XS ws r){y:qb}(d:y≠("":qb)):rM (Q0 rs) [m,y]=rM (Yh rs) [m,Zd,y]:=by
 have a:=(aW hw _ rs rfl ok m).2 y d;unfold rM
 cases c:QJ (Yh rs) [m,Zd,y] with
 |none=>
  rw[c] at a
  cases b:QJ (Q0 rs) [m,y] with
  |none=>rfl
  |some y=>rw[b] at a;cases a
 |some x=>
  rw[c] at a
  cases b:QJ (Q0 rs) [m,y] with
  |none=>rw[b] at a;cases a
  |some z=>
   rw[b] at a;have a:x.2=z.2:=qN a;show decide (z.2.2.2=V.bl true)=decide (x.2.2.2=V.bl true);rw[a]
def Cy(h:k.length=2):k=[k.getD 0 "",k.getD 1 ""]:=by
 match k,h with
 |[a,b],_=>rfl
def MW(ok:BOk es){y:qb}:y∈Vy es m↔y≠("":qb)/\rM es [m,y]=true:=by
 unfold Vy;constructor
 .intro h;obtain⟨e,he,rfl⟩:=qj.mp h;obtain⟨b,a⟩:=qo.mp he;unfold mkL at a;simp only[jc,decide_eq_true_eq,oP,decide_eq_false_iff_not] at a;obtain⟨d,f,c⟩:=a;refine⟨f,?_⟩;rw[Cy (ok.two e b),d] at c;exact c
 .rintro⟨b,a⟩;have h0:=a;unfold rM at a
  cases c:QJ es [m,y] with
  |none=>rw[c] at a;cases a
  |some e=>
   obtain⟨f,d⟩:=VQ c;refine qj.mpr ⟨e,qo.mpr ⟨f,?_⟩,by rw[d];rfl⟩;unfold mkL;rw[d,h0];show(decide (m=m)&&(!decide (y=("":qb))&&true))=true;rw[qt rfl,qE b];rfl
def P8(a:(es.map (·.1)).Nodup)(ok:BOk es)(m:qb):(Vy es m).Nodup:=by
 have go:∀xs:qa Ent,(xs.map (·.1)).Nodup->(∀e∈xs,e∈es)->(((xs.filter (mkL es m)).map λe=>e.1.getD 1 "")).Nodup:=λxs=>by
  induction xs with
  |nil=>intro _ _;exact zB
  |cons x xs b=>
   intro a c;rw[qU,zN] at a;have b:=b a.2 λe he=>c e (qF _ he);rw[qM];split
   .rename_i f
    rw[qU,zN];refine⟨λd=>a.1 ?_,b⟩;obtain⟨e,he,q⟩:=qj.mp d;obtain⟨g,h⟩:=qo.mp he;unfold mkL at f h;have i:x.1.getD 0 ""=m:=ql (zZ.mp f).1;have j:e.1.getD 0 ""=m:=ql (zZ.mp h).1;have k:=Cy (ok.two x (c x (qz ..)));have l:=Cy (ok.two e (c e (qF _ g)));rw[show x.1=e.1 by rw[k,l,i,j,q]];exact zI g
   .exact b
 exact go es a λe he=>he
def TY(hw:∀w∈ws,w≠("":qb))(ok:∀r∈rs,XS ws r)(bi:BI rs ls bx mk)(hm:m∈ls.map LE.nm):Qz (Vy (Q0 rs) m)=SS (Qz (mk m)):=by
 have a:=O6 hw ok;rw[<-aX (P8 (cO rs) a m)];refine Ay λy=>?_;rw[MW a,Yl,bi.mk_ m hm y];constructor
 .rintro⟨c,b⟩;rw[dA hw ok c] at b;exact b
 .intro h;have b:=hw y (Ox ok h);exact⟨b,by rw[dA hw ok b];exact h⟩
def T2(a:(putN rs).Nodup):((K9 (Yw rs) rs).map λr=>r.d.nm).Nodup:=by
 have:List.Sublist (K9 (Yw rs) rs) (rs.filter λr=>YT r.d):=by
  unfold K9;have e:(rs.filter λr=>YT r.d&&!decide (r.d.nm∈Yw rs))=(rs.filter λr=>YT r.d).filter λr=>!decide (r.d.nm∈Yw rs):=by
   rw[xO];congr 1;funext r;exact Bool.and_comm _ _
  rw[e];exact zH
 exact jI (this.map _) a
def vS.law(h:vS a H own b db xr L xt xi xf es ls bx mk WI W M n)(k:lC own 7 H H'):vS a H' (grow own 7 H) b db xr L xt xi xf es ls bx mk WI W M n:=
 ⟨k _ _ h.e (.inl (by rw[h.o];decide)),by rw[Qo h.e];exact h.o,h.r.step k,h.l.step k,h.t.step k,h.i.step k,h.f.step k⟩
def An:HO->Bool
 |.ins _ _ _=>true
 |_=>false
def En(H:Hp)(own:qc->Nat)(c:qc):Prop:=(∃o,H c=some o/\AF o=false)/\own c=7
def En.grow(h:En H own c)(e:∃o,H' c=some o/\AF o=false):En H' (grow own 7 H) c:=⟨e,by obtain⟨o,q,_⟩:=h.1;rw[Qo q];exact h.2⟩
def En.kept{a:qc->Nat}(h:En H own c)(k:KB own a H H'):En H' a c:=by
 obtain⟨⟨o,e,t⟩,b⟩:=h;exact⟨⟨o,k.k c o e (.inr (.inl (by rw[b];exact qB _))),t⟩,by rw[k.g c o e (.inr (.inl (by rw[b];exact qB _)))];exact b⟩
def KX.kpo{xs:qa qc}(k:KX xs H H')(h:∀c∈xs,En H own c):lC own 7 H H':=λc o e q=>k c o (λz=>by
 obtain⟨⟨d,a,t⟩,b⟩:=h c z;rcases q with q|q
 .exact q b
 .rw[e] at a;cases a;rw[t] at q;cases q) e
def kJ.there{ls:qa Int}(w:kJ K H A ls D):∀c∈A.all,∃o,H c=some o/\AF o=false:=λc hc=>by
 simp only[WA.all,qJ,je,wQ] at hc;rcases hc with h|h|h|h|h|h|h|h
 .obtain⟨xs,e⟩:=w.sa.lst;rw[h];exact⟨_,e,U⟩
 .rw[h];exact⟨_,w.e,U⟩
 .rw[h];exact⟨_,w.eh,U⟩
 .rw[h];exact⟨_,w.ew,U⟩
 .rw[h];exact⟨_,w.en,U⟩
 .rw[h];exact⟨_,w.ep,U⟩
 .rw[h];exact⟨_,w.ec,U⟩
 .rw[h];exact⟨_,w.em,U⟩
def gv(h:c∈A.ch):c∈A.all:=by
 simp only[WA.ch,qJ,je,wQ] at h;simp only[WA.all,qJ,je,wQ];rcases h with h|h|h|h|h
 .exact .inl h
 .exact .inr (.inr (.inr (.inr (.inl h))))
 .exact .inr (.inr (.inr (.inr (.inr (.inl h)))))
 .exact .inr (.inr (.inr (.inr (.inr (.inr (.inl h))))))
 .exact .inr (.inr (.inr (.inr (.inr (.inr (.inr h))))))
def ScZ(K:Frag)(H:Hp)(own:qc->Nat)(sc:qc)(ls:qa Int):Prop:=(∀G:Hp,zQ K G sc (ls.map V.int))\/((∃o,H sc=some o/\AF o=false)/\own sc=7)
def kJ.board{ls:qa Int}{d:qc->Nat}(w:kJ K H A ls D)(h:∀c∈A.all,En H own c)(j:ScZ K H own A.sc ls)(k:KB own d H H'):kJ K H' A ls D:=by
 have a:∀{c:qc}{o:HO},c∈A.all->H c=some o->H' c=some o:=λ{c o} hc e=>k.k c o e (.inr (.inl (by rw[(h c hc).2];exact qB _)));have m:∀i c,A.all[i]?=some c->c∈A.all:=λi c e=>qL e;refine⟨?_,a (m 1 _ rfl) w.e,a (m 2 _ rfl) w.eh,a (m 3 _ rfl) w.ew,a (m 4 _ rfl) w.en,a (m 5 _ rfl) w.ep,a (m 6 _ rfl) w.ec,a (m 7 _ rfl) w.em,w.nd,w.scn⟩;obtain⟨⟨n,c,e,b⟩,l⟩:=w.sa;refine⟨⟨n,c,a (m 0 _ rfl) e,b⟩,?_⟩;rcases j with q|⟨⟨o,g,_⟩,p⟩
 .exact q _
 .have f:=k.k _ _ g (.inr (.inl (by rw[p];exact qB _)));rcases l with(h|⟨r,h⟩)|h
  .rw[g] at h;cases h;exact .inl (.inl f)
  .rw[g] at h;cases h;exact .inl (.inr ⟨r,f⟩)
  .exact .inr h
def kJ.off{ls:qa Int}{R:qc}(w:kJ K H A ls D)(d:R∉A.all)(f:(∀G:Hp,zQ K G A.sc (ls.map V.int))\/A.sc≠R):kJ K (L2.upd H R o) A ls D:=by
 have a:∀{c:qc}{b:HO},c∈A.all->H c=some b->(L2.upd H R o) c=some b:=λ{c b} hc e=>by rw[Qa (λ(z:c=R)=>d (by rw[<-z];exact hc))];exact e
 have m:∀i c,A.all[i]?=some c->c∈A.all:=λi c e=>qL e;exact⟨w.sa.upd (λz=>d (by rw[z];exact m 0 _ rfl)) f,a (m 1 _ rfl) w.e,a (m 2 _ rfl) w.eh,a (m 3 _ rfl) w.ew,a (m 4 _ rfl) w.en,a (m 5 _ rfl) w.ep,a (m 6 _ rfl) w.ec,a (m 7 _ rfl) w.em,w.nd,w.scn⟩
section
variable {K:Frag}{a:yD}{ns:qa Int}{A:WA}{b R sl:qc}{ws:qe}{G G':Hp}{own:qc->Nat}{rs:qa Rw}{ls:qa LE}{bx:Rows}{mk:qb->qe}{n:Nat}{db xr L xt xi xf:qc}{D:WD}
end
inductive NJ(K:Frag)(vs:qa V)(H:Hp)(Q:VK)(E:XK):Prop
 |mk:∀(st sc rw:qc)(ls:qa Int)(xs:qa V),vs=[.ref st,.ref rw]->nW K H st sc ls->ls.length<=63->rw≠st->H rw=some (.lst xs)->xs.length<=100->(∀(l:qc)(ys:qa V) H',H l=none->ys.Perm xs->SX st H H'->nW K H' st sc ls->H' l=some (.lst ys)->Q (.ref l) H')->NJ K vs H Q E
inductive Iz(a:yD)(vs:qa V)(H:Hp)(Q:VK)(E:XK):Prop
 |mk:∀(own:qc->Nat)(b db xr L xt xi xf:qc)(es:qa Ent)(ls:qa LE)(bx:Rows)(mk:qb->qe)(WI W M:qe)(n:Nat),vs=[.ref b]->vS a H own b db xr L xt xi xf es ls bx mk WI W M n->(∀l H',H l=none->Qj H H'->H' l=some (.lst ((Qz (ls.map LE.nm)).map V.str))->Q (.ref l) H')->Iz a vs H Q E
inductive BA(a:yD)(vs:qa V)(H:Hp)(Q:VK)(E:XK):Prop
 |mk:∀(own:qc->Nat)(b db xr L xt xi xf:qc)(es:qa Ent)(ls:qa LE)(bx:Rows)(mk:qb->qe)(WI W M:qe)(n:Nat)(du:qc),vs=[.ref b,.ref du]->vS a H own b db xr L xt xi xf es ls bx mk WI W M n->(∀m∈ls.map LE.nm,ud m)->ls.length<=100->H du=some (.lst ((Qz (ls.map LE.nm)).map V.str))->(∀H',Qj H H'->Q (.bl true) H')->BA a vs H Q E
def Kp{α:Type}{ms xs:qa α}{y:α}(k:Nat)(p:ms.Perm xs):(ms.take k++y::ms.drop k).Perm (xs++[y]):=by
 refine List.perm_middle.trans ?_;rw[List.take_append_drop];exact(p.cons y).trans (List.perm_append_singleton y xs).symm
def Tb(F:zX K ZK ZK WJ a.vK fd)(T:Txt P w K mg base a)(B:Yz K a):T.fq j6 2 a.vK fd [Za,ZZb] (NJ K):=by
 obtain⟨C,zc,zF⟩:=B.zc;have zG:=Wf zc T;refine F.ok WX (λD A outer s H vs Q E I h=>?_)
 .obtain⟨st,sc,rw,ls,xs,rfl,p,J,t,f,L,k⟩:=h;have zO:QG 1 _:=I;refine⟨_,(Qd (Qr (i:=2) WX.nd (Yf Qu))
   (Qd (Ud zx rfl (YD (pv 1)) (Ye (i:=3) WX.nd) (Qf (Qy (Vs plainAttrs_list PySem.F.slot_list_insert PySem.F.type_list_insert P7 (pv 2) (zg (QM Yo (Qk zG zO rfl T.ja zc.kp zF .nil Ql (zg (pv 0) Qe)) (QM Ue (QC Yb rfl T.vt zT (zg (pv 2) Qe)) Qi)) (zg (pv 3) Qe))))))
   (Qf (Qw (pv 2))))),?_⟩
  refine⟨q0 _,λl H1 nl s1 M=>?_⟩;have lst:l≠st:=λz=>by obtain⟨_,q⟩:=p.lst;rw[z,q] at nl;cases nl
  refine⟨_,U,rw,U,⟨_,zQ.of (s1 _ _ f)⟩,YN (K:=K) (xs:=xs) (λi σ G=>∃(o:Option V)(ms:qa V),σ=[some (.ref st),some (.ref rw),some (.ref l),o]/\ms.Perm (xs.take i)/\G l=some (.lst ms)/\SX st H G/\nW K G st sc ls) ⟨none,[],U,.nil,M,SX.of s1,p.of s1⟩ ?_ ?_ ?_⟩
  .rintro i σ G _ ⟨o,ms,rfl,_,_,g,_⟩;exact zQ.of (g _ _ t f)
  .rintro i v σ G x ⟨o,ms,rfl,pm,m,g,d⟩;have N:i<xs.length:=(qY.mp x).1;have O:ms.length=i:=by rw[pm.length_eq,zb];omega
   refine⟨_,U,.inl ⟨U,_,zQ.of m⟩,_,U,st,sc,ls,U,d,J,λr R S X y u=>?_⟩;have j:=y _ _ lst m;have m0:=zt r (b:=(ms.length:Int)+1) (by omega);have Y:=zl r (b:=(ms.length:Int)+1) (by omega);refine⟨_,U,l,_,U,.inl (zQ.of j),_,_,U,U,_,_,U,U,(by omega),_,U,l,_,_,_,U,U,j,m0,(by omega),(by omega),?_⟩;refine⟨_,_,U,?_,Qc,λc o n e=>by rw[Qa (Qb e nl)];exact y _ _ n (g _ _ n e),u.put p.sq nl lst⟩;rw[zo,x];exact Kp _ pm
  .rintro σ G ⟨o,ms,rfl,pm,m,g,d⟩;rw[zh (qB _)] at pm;exact⟨_,U,k l ms G nl pm g d m⟩
def PN(F:zX K Zl "Board.names" Wc a.vj fd)(T:Txt P w K mg base a)(g:Yz K a):T.fq j6 2 a.vj fd [ZZ] (Iz a):=by
 obtain⟨i,j,vC⟩:=g.uK;have vE:=I7 j T;refine F.ok C0 (λm A outer st H vs Q E o h=>?_)
 .obtain⟨own,b,db,xr,L,xt,xi,xf,es,ls,bx,mk,WI,W,M,n,rfl,h,k⟩:=h;have e:QG 1 _:=o;obtain⟨c,L2,R2,f,d,p,q,r,_⟩:=id h.t;refine⟨_,(Qf (Qw (Y9 (Qm (pv 0) U) T.zW T.uI vE e vC .nil Ql))),?_⟩;refine⟨_,U,b,_,db,_,_,U,h.e,T.zp,T.xY,U,xt,c,_,U,d.obj,U,xt,_,n,U,⟨c,L2,R2,f,d,p,q⟩,λl H' nl s' s=>k l H' nl s' ?_⟩;rw[s,qT];rfl
def Hl(F:zX K ZC ZC VE a.kc fd)(T:Txt P w K mg base a)(q:Yz K a):T.fq j6 3 a.kc fd [Zy,ZZc] (BA a):=by
 obtain⟨u,x,lM⟩:=q.sm;have lP:=PN x T q;refine F.ok XJ (λy A outer st H vs Q E r h=>?_)
 .obtain⟨own,b,db,xr,L,xt,xi,xf,es,ls,bx,mk,WI,W,M,n,G,rfl,h,asc,z,s,k⟩:=h;have d:QG 2 _:=r;have c:=r.units;refine⟨_,(Qd (Qr (i:=2) XJ.nd (Y9 (pv 0) T.zp T.lO lP d lM .nil Ql))
   (Qd (QV (PW.pt (XN (U3 (UH (QC YX rfl T.j4 boot_isinstance (zg (pv 2) (zg (WS (v:=.ty "list") rfl T.Qbf boot_list rfl) Qe))))) (V1 (Qt (WY c) (pv 2) (pv 1))))) (Qf (Qw YW)) QE)
   (Qd (Qy (Vs plainAttrs_list zR zS YS (pv 2) (zg Qq Qe)))
   (Qd (Qy (Vs plainAttrs_list slot_list_pop type_list_pop Dv (pv 2) (zg Qi Qe)))
   (Qf (Qw (UB (S7 c) (Y9 (pv 0) T.zp T.lO lP d lM .nil Ql) (pv 1)))))))),?_⟩
  have e:∀m∈Qz (ls.map LE.nm),ud m:=λm hm=>asc m (Yl.mp hm);have B:(Qz (ls.map LE.nm)).length<=100:=by rw[Uu,qh];exact z
  refine⟨_,U,b,db,_,U,h.e,U,own,b,db,xr,L,xt,xi,xf,es,ls,bx,mk,WI,W,M,n,U,h,λl H1 nl s1 f=>?_⟩;refine⟨_,U,_,_,_,_,_,U,U,WG.lst f,ik,_,U,QU ?_⟩;refine⟨_,U,_,U,Wg (Uz (zQ.of f)) (Uz (zQ.of (s1 _ _ s))) (YV e) ⟨_,U,QU ?_⟩⟩;refine⟨_,U,.inl ⟨U,_,zQ.of f⟩,l,_,_,U,U,f,(by rw[qh];exact QD (by omega)),?_⟩;generalize g:(Qz (ls.map LE.nm)).map V.str++[V.str "zz"]=xs;have j:0<xs.length:=by rw[<-g,qx,qO];omega
  have s2:Qj H (upd H1 l (.lst xs)):=s1.z6 nl;have o:(upd H1 l (.lst xs)) l=some (.lst xs):=Qc;show YY _ _ _ _ (upd H1 l (.lst xs));generalize upd H1 l (.lst xs)=p at s2 o⊢;refine⟨_,U,.inl ⟨U,_,zQ.of o⟩,l,xs,0,0,xs[0],U,U,o,by decide,by decide,seqIndex_of (by decide) (by omega),qA j,?_⟩;have s3:Qj H (upd p l (.lst (xs.eraseIdx 0))):=s2.z6 nl;show Wl.nx _ _ (upd p l (.lst (xs.eraseIdx 0)));generalize upd p l (.lst (xs.eraseIdx 0))=I at s3⊢;have t:=h.quiet s3;refine⟨_,U,b,db,_,U,t.e,U,_,b,db,xr,L,xt,xi,xf,es,ls,bx,mk,WI,W,M,n,U,t,λJ N C s4 D=>?_⟩;exact⟨_,U,cK (Uz (zQ.of D)) (Uz (zQ.of (s4 _ _ (s3 _ _ s)))) (YV e) (k _ (s3.trans s4))⟩
abbrev wL:qa Rw->qa (Key×V):=dG (λr:Rw=>r.d.nm) (λr=>V.ref r.u)
abbrev ptV(p:LD):qa V:=[.str p.s,.str p.t,.str p.b,.int p.d,.str p.an]
def fk(p:LD):PyData:=.tuple [.str p.s,.str p.t,.str p.b,.int p.d,.str p.an]
def Ol(g:Kx p.s p.t p.b p.d p.an):SeqAt.shaped (fk p)=true:=by
 have a:=g.s_.asc.ok;have b:=g.t_.ok;have c:=g.b_.ok;have d:PyData.strOk p.an=true:=by
  rcases g.a_ with e|e
  .rw[e];decide +kernel
  .exact e.asc.ok
 simp[fk,SeqAt.shaped,PyData.canLay0,PyData.canLayAll0,PyData.depth,PyData.depthAll,a,b,c,d]
def Ci{p:qc}{l:LD}(e:H p=some (.tup (ptV l))):RD K H (.ref p) (fk l):=.tup (jX.of e) (.cons (.str _) (.cons (.str _) (.cons (.str _) (.cons (.int _) (.cons (.str _) .nil)))))
structure pf(ws:qe)(ls:qa LE)(bx:Rows)(mk:qb->qe)(xs:qa Rw)(be:qa Ent):Prop where
 x1:∀r∈xs,∃l∈ls,r.d=.put l.nm l.p
 x2:∀l∈ls,∃r∈xs,r.d=.put l.nm l.p
 nd:(xs.map λr=>r.d.nm).Nodup
 len:xs.length<=40
 bo:BOk be
 n64:be.length<64
 bm:∀m,m∈bx.map (·.1)↔m∈ls.map LE.nm
 fo:∀l∈ls,∃fo,L2.up bx l.nm=some fo/\Ap be l.nm=.str fo/\fo∈Zp::ws
 mk_:∀l∈ls,Qz (Vy be l.nm)=Qz (mk l.nm)
 ma:∀l∈ls,(mk l.nm).Nodup/\(∀y∈mk l.nm,y∈ws)/\(mk l.nm).length<=20
 wa:∀w∈Zp::ws,ud w
def pf.ss{xs:qa Rw}{be:qa Ent}(h:pf ws ls bx mk xs be){l:LE}(a:l∈ls):SS (Qz (mk l.nm))=Qz (mk l.nm):=by
 rw[Ay λ_=>Yl,aX (h.ma l a).1]
def ig(hw:∀w∈ws,w≠("":qb))(j:∀w∈Zp::ws,ud w)(ok:∀r∈rs,XS ws r)(bi:BI rs ls bx mk)(g:(putN rs).Nodup)(k:rs.length<=63)(n:(putN rs).length<=40)(mo:∀m∈bx.map (·.1),(mk m).Nodup/\(∀y∈mk m,y∈ws)/\(mk m).length<=20):pf ws ls bx mk (K9 (Yw rs) rs) (Q0 rs):=by
 have lm:∀{l:LE},l∈ls->l.nm∈ls.map LE.nm:=λh=>zI h;have bm:∀{l:LE},l∈ls->l.nm∈bx.map (·.1):=λh=>(bi.b _).mpr (lm h);refine⟨λr f=>?_,λl d=>?_,T2 g,?_,O6 hw ok,xN (Mc rs) (by omega),bi.b,λl d=>⟨_,bi.fo _ (lm d),cI hw ok _,(Nd ok _).2⟩,λl d=>?_,λl d=>mo _ (bm d),j⟩
 .obtain⟨o,q⟩:=qo.mp f;obtain⟨e,i⟩:=zZ.mp q
  cases hd:r.d with
  |put nm p=>
   obtain⟨l,d,s,t⟩:=bi.l2 r o nm p hd (by rw[hd] at i;exact yG (oP _ |>.mp i));exact⟨l,d,by rw[s,t]⟩
  |place a b=>rw[hd] at e;cases e
  |mark a b c=>rw[hd] at e;cases e
  |drop a=>rw[hd] at e;cases e
 .obtain⟨⟨r,f,hd⟩,hg⟩:=bi.l1 l d;exact⟨r,qo.mpr ⟨f,by rw[hd];show(true&&!decide (l.nm∈Yw rs))=true;rw[qE hg];rfl⟩,hd⟩
 .have:=YM (T2 g) (l:=putN rs) λm hm=>OC hm;rw[qh] at this;omega
 .rw[TY hw ok bi (lm d),Ay λ_=>Yl,aX (mo _ (bm d)).1]
def vS.fast(h:vS a H own b db xr L xt xi xf es ls bx mk WI W M n){d:qc}{f:qa (Key×V)}(e:H d=some (.dK f))(g:own d=7)(i:Obj):vS a (upd H d (.jG i (.dK f))) (grow own 7 H) b db xr L xt xi xf es ls bx mk WI W M n:=
 h.law ((KX.upd (qk.mpr rfl)).kpo λc hc=>by rw[qk.mp hc];exact⟨⟨_,e,U⟩,g⟩)
def Gp{a:Obj}(e:H B=some (.dK kvs))(s:Qj (upd H B (.jG a (.dK kvs))) G):Qj H (upd G B (.dK kvs)):=λc o h=>by
 by_cases z:c=B
 .rw[z,e] at h;rw[z,Qc];exact h
 .rw[Qa z];exact s c o (by rw[Qa z];exact h)
inductive NZ(a:yD)(vs:qa V)(H:Hp)(Q:VK)(E:XK):Prop
 |mk:∀(own:qc->Nat)(b db xr L xt xi xf:qc)(es:qa Ent)(ls:qa LE)(bx:Rows)(mk:qb->qe)(WI W M:qe)(n:Nat)(ws:qe)(LL B:qc)(kvs:qa (qa Key×V))(be:qa Ent)(xs:qa Rw),
   vs=[.ref b,.ref LL,.ref B]->vS a H own b db xr L xt xi xf es ls bx mk WI W M n->own LL=7->pf ws ls bx mk xs be->(∀r∈xs,XT H r)->H LL=some (.dK (wL xs))->H B=some (.dT kvs)->QS H kvs be->(∀H',Qj H H'->Q (.bl true) H')->NZ a vs H Q E
def Tu(F:zX K Jd Jd GR a.iX fd)(T:Txt P w K mg base a)(p:Yz K a):T.fq j6 11 a.iX fd [Zy,Zc,Zj] (NZ a):=by
 obtain⟨fd1,jM,vX⟩:=p.jM;have vY:=Gv jM T;obtain⟨fd2,xI,nI⟩:=p.xI;have og:=EV xI T;obtain⟨fd3,F3,tN⟩:=p.tX;have tT:=Tx F3 T p;obtain⟨fd4,F4,uY⟩:=p.ry;have u0:=Tg F4 T;obtain⟨fd5,F5,mQ⟩:=p.nA;have ni:=cb F5 T p;obtain⟨fd6,F6,kW⟩:=p.ub;have kZ:=Dc F6 T p;obtain⟨fd7,F7,vD⟩:=p.uM;have vF:=EX F7 T p;refine F.ok Gq (λcdv A outer s H vs Q E hr h=>?_)
 .obtain⟨own,b,db,xr,L,xt,xi,xf,es,ls,bx,mk,WI,W,M,n,ws,o,B,kvs,be,xs,rfl,h,o7,v,hx,eL,eB,hE,k⟩:=h;have hu:=Q5 hr;have d:=hr.units;have j:QG 10 _:=hr;have hr8:QG 8 _:=j.mono;have hr2:QG 2 _:=j.mono;have C:QG 1 _:=j.mono;refine⟨_,(Qd (KI (Ud zx rfl (Kf (pv 1)) (Ye (i:=3) Gq.nd) (Qd (Qr (i:=4) Gq.nd (QN (pv 0) T.zp T.tP tT j tN .nil Ql (zg (pv 3) Qe)))
   (Qd (QV (PW.pt (XN (Qt (WY d) (Y9 (Qm (pv 4) U) T.zK T.uZ u0 C uY .nil Ql) (QA hu (pv 1) (pv 3))) (V1 (Qt (WY d) (Y9 (QN (pv 0) T.zp T.mV ni hr8 mQ .nil Ql (zg (pv 3) Qe)) T.zK T.uZ u0 C uY .nil Ql) (QA hu (pv 1) (pv 3)))))) (Qf (Qw YW)) QE)
   (Qd (QV (PW.pt (XN (Qt BC (Qm (pv 4) U) (Qk vY C rfl T.lS jM.kp vX .nil Ql (zg (pv 2) (zg (pv 3) Qe)))) (V1 (Qt (WY d) (Qm (pv 4) U) (Qk og C rfl T.sO xI.kp nI .nil Ql (zg (pv 2) (zg (pv 3) Qe))))))) (Qf (Qw YW)) QE)
   (Qf (QV (PW.pt (XN (Qt BC (QN (Qm (pv 0) U) T.q8 T.wX kZ hr2 kW .nil Ql (zg (pv 3) Qe)) (Qm (pv 4) U)) (V1 (Qt (WY d) (QN (Qm (pv 0) U) T.q8 T.uJ vF hr2 vD .nil Ql (zg (pv 3) Qe)) (Qm (pv 4) U))))) (Qf (Qw YW)) QE)))))))
   (Qf (Qw YW))),?_⟩
  refine⟨o,_,eL,λx=>?_⟩;have h1:=h.fast eL o7 x;have kt:∀c ys,H c=some (.tup ys)->(upd H o (.jG x (.dK (wL xs)))) c=some (.tup ys):=λc ys e=>by rw[Qa (λz=>by rw[z,eL] at e;cases e)];exact e
  have O:(upd H o (.jG x (.dK (wL xs)))) B=some (.dT kvs):=by rw[Qa (λz=>by rw[z,eL] at eB;cases eB)];exact eB
  have eF:(upd H o (.jG x (.dK (wL xs)))) o=some (.jG x (.dK (wL xs))):=Qc;have J:∀G,Qj (upd H o (.jG x (.dK (wL xs)))) G->Qj H (upd G o (.dK (wL xs))):=λG s=>Gp eL s;have R:=hE.mono kt;have hx1:∀r∈xs,XT _ r:=λr hr=>(hx r hr).tups kt;generalize upd H o (.jG x (.dK (wL xs)))=H1 at h1 O eF J R hx1⊢;refine⟨_,U,o,_,U,.inl ⟨x,eF,LM (λi σ G=>∃o3 o4:Option V,σ=[some (.ref b),some (.ref o),some (.ref B),o3,o4]/\Qj H1 G) ⟨none,none,U,Qj.refl _⟩ ?_ ?_ ?_⟩⟩
  .rintro i σ G _ ⟨o3,o4,rfl,s⟩;exact s _ _ eF
  .rintro i kv σ G m ⟨o3,o4,rfl,s2⟩;obtain⟨r,S,rfl⟩:∃r∈xs,kv=(Sum.inr r.d.nm,V.ref r.u):=by
    unfold wL dG at m;rw[qQ] at m
    cases e:xs[i]? with
    |none=>rw[e] at m;cases m
    |some r=>rw[e] at m;exact⟨r,qL e,(qN m).symm⟩
   obtain⟨l,N,hd⟩:=v.x1 r S;have en:r.d.nm=l.nm:=by rw[hd];rfl
   obtain⟨fo,f1,f2,f3⟩:=v.fo l N;obtain⟨m1,m2,m3⟩:=v.ma l N;have hbm:=(v.bm l.nm).mpr (zI N);have hg:=(h1.l.at_ l N).2;have hv:Qx (wL xs) (Sum.inr l.nm)=some (V.ref r.u):=by
    have:=QZ (f:=λr:Rw=>r.d.nm) (g:=λr=>V.ref r.u) v.nd S;rw[en] at this;exact this
   have eu:=(hx1 r S).du.p _ _ hd;have am:∀y∈Qz (mk l.nm),ud y:=λy hy=>v.wa y (qF _ (m2 y (Yl.mp hy)));have esg:=v.ss N;show YY _ _ _ _ _;rw[show kV (Sum.inr r.d.nm:Key)=V.str l.nm by rw[en];rfl];have hB2:=h1.quiet s2;refine⟨_,U,b,db,_,U,hB2.e,U,_,U,_,b,db,xr,L,xt,xi,xf,es,ls,bx,mk,WI,W,M,n,l,fo,U,hB2,N,f1,hbm,λy3 g3 H3 ny3 ng3 s3 c3=>?_⟩;obtain⟨⟨q,yl3,t,il3⟩,X⟩:=c3;rw[esg] at X;obtain⟨dl3,fl3,el3⟩:=il3.at
   have s13:=s2.trans s3;refine⟨_,U,y3,_,q,_,_,U,t,T.uW,T.lK,U,yl3,dl3,_,U,el3,U,yl3,_,_,_,_,_,U,il3,λp4 np4=>?_⟩;have s4:Qj H3 (upd H3 p4 (.tup (ptV l.p))):=Qj.zi np4;have e4:(upd H3 p4 (.tup (ptV l.p))) p4=some (.tup (ptV l.p)):=Qc;generalize upd H3 p4 (.tup (ptV l.p))=H4 at s4 e4⊢;have D:=s13.trans s4;refine⟨_,U,_,U,o,_,U,.inl ⟨_,Sum.inr l.nm,.inr ⟨x,D _ _ eF⟩,U,hv.symm⟩,Wg (Ci e4) (Ci (D _ _ eu)) (Ol hg) ⟨_,U,QU ?_⟩⟩;have hB4:=h1.quiet D;refine⟨_,U,b,db,_,U,hB4.e,U,_,U,_,b,db,xr,L,xt,xi,xf,es,ls,bx,mk,WI,W,M,n,l,U,hB4,N,λy5 H5 ny5 s5 il5=>?_⟩;obtain⟨dl5,fl5,el5⟩:=il5.at
   have s15:=D.trans s5;refine⟨y5,dl5,_,U,el5,U,y5,_,_,_,_,_,U,il5,λp6 np6=>?_⟩;have s6:Qj H5 (upd H5 p6 (.tup (ptV l.p))):=Qj.zi np6;have e6:(upd H5 p6 (.tup (ptV l.p))) p6=some (.tup (ptV l.p)):=Qc;generalize upd H5 p6 (.tup (ptV l.p))=H6 at s6 e6⊢;have u:=s15.trans s6;have s36:=(s4.trans s5).trans s6;refine⟨_,U,_,U,o,_,U,.inl ⟨_,Sum.inr l.nm,.inr ⟨x,u _ _ eF⟩,U,hv.symm⟩,Wg (Ci e6) (Ci (u _ _ eu)) (Ol hg) ⟨_,U,QU ?_⟩⟩;refine⟨_,U,y3,_,q,_,_,U,s36 _ _ t,T.uW,T.lR,U,_,U,_,U,B,kvs,be,l.nm,U,u _ _ O,R.mono λc ys e=>u _ _ e,λH7 s7=>?_⟩;rw[f2];refine⟨U,_,U,?_⟩;rw[FE,qt rfl];have Y:=u.trans s7;have s37:=s36.trans s7;refine QU ⟨_,U,y3,_,q,_,_,U,s37 _ _ t,T.uW,T.ui,U,_,U,_,U,B,kvs,be,l.nm,U,Y _ _ O,R.mono λc ys e=>Y _ _ e,v.bo,v.n64,λm8 H8 nm8 s8 e8=>?_⟩;rw[v.mk_ l N] at e8;have s18:=Y.trans s8;have I:=s37.trans s8;refine Wg (Uz (zQ.of (I _ _ X))) (Uz (zQ.of e8)) (YV am) ⟨_,U,QU ?_⟩;have Z:=h1.quiet s18;obtain⟨Ff,ff,oxf,oFf⟩:=Z.f;obtain⟨dxf,X1,T1,N1,exf⟩:=ff.obj;refine⟨_,U,b,_,db,_,_,U,Z.e,T.zp,T.ji,U,xf,dxf,_,U,exf,U,_,U,xf,bx,mk,W,M,n,Ff,l.nm,fo,U,ff,f1,?_⟩;refine⟨_,U,y3,_,q,_,_,U,I _ _ t,T.uW,T.lR,U,U,_,U,?_⟩;rw[FE,qt rfl];refine QU ⟨_,U,b,_,db,_,_,U,Z.e,T.zp,T.ji,U,xf,dxf,_,U,exf,U,_,U,xf,bx,mk,W,M,n,Ff,l.nm,U,ff,hbm,λm9 H9 nm9 s9 e9=>?_⟩;refine⟨_,U,y3,_,q,_,_,U,s9 _ _ (I _ _ t),T.uW,T.ui,U,?_⟩;exact Wg (Uz (zQ.of e9)) (Uz (zQ.of (s9 _ _ (I _ _ X)))) (YV am) ⟨_,U,QU ⟨_,_,U,s18.trans s9⟩⟩
  .rintro σ G ⟨o3,o4,rfl,s⟩;exact⟨s _ _ eF,k _ (J _ s)⟩
def DK{a b:qb×qb}(h:Br a b=true):Br b a=true:=by
 unfold Br at h⊢;rw[sC,sC,jc] at h⊢;rcases h with h|h|⟨c,d⟩
 .exact .inr (.inl h)
 .exact .inl h
 .have e:=ql d;exact .inr (.inr ⟨by rw[<-e];exact c,qt e.symm⟩)
def rwF(rows:Rows)(m:qb):qb×qb:=(m,(L2.up rows m).getD "")
def MA(a:(rows.map (·.1)).Nodup){r:qb×qb}(h:r∈rows):rwF rows r.1=r:=by
 obtain⟨x,ex⟩:=VC (qj.mpr ⟨r,h,U⟩);unfold rwF;rw[ex,Wv a (WV ex) h];rfl
def FR(b:(rows.map (·.1)).Nodup)(h:m∈rows.map (·.1)):rwF rows m∈rows:=by
 obtain⟨r,a,rfl⟩:=qj.mp h;rw[MA b a];exact a
def hg(rows:Rows)(x y:qb):Bool:=Br (rwF rows x) (rwF rows y)
def aw(a:(rows.map (·.1)).Nodup)(ne:NoE rows){x y:qb}(b:x∈rows.map (·.1))(c:y∈rows.map (·.1))(h:hg rows x y=true):mx rows x y:=ay a ne (FR a c) (FR a b) (DK h)
structure OW(rows:Rows)(ns left:qe)(fd:qa (qe)):Prop where
 sub:left.Sublist ns
 ev:left.foldl (Ug rows) fd=Ve rows ns
 un:∀m∈left,Yj rows m∉fd
 cov:∀m∈ns,m∈left\/∃n∈ns,mx rows n m/\Yj rows n∈fd
structure IW(rows:Rows)(n:qb)(l0 t left:qe)(i:Nat):Prop where
 nd:t.Nodup
 tn:n∈t
 ts:∀m∈t,m=n\/m∈l0
 rc:∀m∈t,mx rows n m
 lf:left=l0.filter λm=>!decide (m∈t)
 cl:∀j x,j<i->t[j]?=some x->∀m∈left,hg rows x m=false
def OW.init{ns:qe}:OW rows ns ns []:=⟨List.Sublist.refl _,U,λ_ _=>je,λm h=>.inl h⟩
def IW.init{n:qb}(h:¬n∈l0):IW rows n l0 [n] l0 0:=
 ⟨zN.mpr ⟨je,zB⟩,qk.mpr rfl,λm hm=>.inl (qk.mp hm),λm hm=>by rw[qk.mp hm];exact .refl,(jV.mpr λm hm=>by rw[qE (λz:m∈[n]=>h (by rw[<-qk.mp z];exact hm))];rfl).symm,λj x h=>absurd h (sI _)⟩
def IW.step(nd:(rows.map (·.1)).Nodup)(ne:NoE rows){n x:qb}{t left:qe}(h:IW rows n l0 t left i)(l:n∈rows.map (·.1))(h0:∀m∈l0,m∈rows.map (·.1))(o:l0.Nodup)(c:t[i]?=some x) :
 IW rows n l0 (t++left.filter (hg rows x)) (left.filter λm=>!decide (m∈left.filter (hg rows x))) (i+1):=by
 have a:=qL c;have inr:∀m∈t,m∈rows.map (·.1):=λm hm=>(h.ts m hm).elim (λz=>z▸l) (h0 m);have d:∀{m},m∈left->m∈l0/\m∉t:=λ{m} hm=>by
  rw[h.lf] at hm;obtain⟨b,g⟩:=qo.mp hm;exact⟨b,yG (by simpa using g)⟩
 refine⟨?_,qy _ h.tn,λm hm=>?_,λm hm=>?_,?_,λj y r b m hm=>?_⟩
 .refine jf.mpr ⟨h.nd,?_,λu g v k z=>?_⟩
  .rw[h.lf];exact(o.filter _).filter _
  .exact(d (qo.mp k).1).2 (z▸g)
 .exact(qr.mp hm).elim (h.ts m) λq=>.inr (d (qo.mp q).1).1
 .rcases qr.mp hm with q|q
  .exact h.rc m q
  .obtain⟨g,k⟩:=qo.mp q;exact(h.rc x a).trans (aw nd ne (inr x a) (h0 m (d g).1) k)
 .have g:∀f:qb->Bool,left.filter f=l0.filter λm=>f m&&!decide (m∈t):=λf=>by conv=>lhs;rw[h.lf,xO]
  rw[g λm=>!decide (m∈left.filter (hg rows x))];refine kR λm hm=>?_;by_cases q:m∈t
  .rw[qt q,qt (qy _ q)];simp
  .have e:(m∈left.filter (hg rows x))↔(m∈t++left.filter (hg rows x)):=⟨λz=>qv _ z,λz=>(qr.mp z).resolve_left q⟩;rw[qE q];have k:decide (m∈left.filter (hg rows x))=decide (m∈t++left.filter (hg rows x)):=decide_eq_decide.mpr e;rw[k];simp
 .obtain⟨g,k⟩:=qo.mp hm;have p:i<t.length:=(qY.mp c).1;rw[nE (by omega)] at b;by_cases e:j=i
  .subst e;rw[c] at b;cases b
   cases q:hg rows x m with
   |false=>rfl
   |true=>
    rw[qt (qo.mpr ⟨g,q⟩)] at k;cases k
  .exact h.cl j y (by omega) b m g
def IW.done(nd:(rows.map (·.1)).Nodup)(ne:NoE rows){ns:qe}(b:∀m,m∈ns↔m∈rows.map (·.1)){n:qb}{t left:qe}{fd:qa (qe)}(o:OW rows ns (n::l0) fd)(h:IW rows n l0 t left i)(s:t.length<=i):Qz t=Yj rows n:=by
 have inl:∀m∈n::l0,m∈rows.map (·.1):=λm hm=>(b m).mp (o.sub.subset hm);have k:∀m∈t,m∈n::l0:=λm hm=>(h.ts m hm).elim (λz=>z▸qz ..) (qF _);refine RV nd h.nd λm=>⟨λhm=>⟨inl m (k m hm),h.rc m hm⟩,λ⟨hm,d⟩=>?_⟩;have key:∀{q:qb},q∈rows.map (·.1)->∀{x:qb},x∈t->hg rows x q=true->q∈t:=λ{q} f {x} a g=>by
  refine vH λz=>?_;rcases o.cov q ((b q).mpr f) with c|⟨n',l,u,v⟩
  .have w:q∈l0:=(qJ.mp c).resolve_left λe=>z (e▸h.tn);obtain⟨j,p⟩:=Qaj a;have:=h.cl j x (zj (qY.mp p).1 s) p q (by rw[h.lf];exact qo.mpr ⟨w,by rw[qE z];rfl⟩);rw[this] at g;cases g
  .have p:mx rows n' x:=u.trans (aw nd ne f (inl x (k x a)) (DK g));exact o.un x (k x a) (by rw[CA nd ne (ne n' ((b n').mp l)) p];exact v)
 have:=az nd ne (S:=t.map (rwF rows)) (λr d=>by
  obtain⟨x,a,rfl⟩:=qj.mp d;exact FR nd (inl x (k x a))) (qj.mpr ⟨_,zI h.tn,U⟩) (λr d q f g=>by
  obtain⟨x,a,rfl⟩:=qj.mp d;have e:=MA nd f;rw[<-e];exact zI (key (zI f) a (by unfold hg;rw[e];exact DK g))) hm d
 obtain⟨r,d,e⟩:=qj.mp this;obtain⟨x,a,rfl⟩:=qj.mp d;exact e▸a
def gj{acc:qa (qe)}{n:qb}{t:qe}(h:t∈acc):t∈Ug rows acc n:=by
 unfold Ug;split
 .exact h
 .exact qy _ h
def Bt{rows:Rows}(p:qb->Bool):∀(l:qe)(acc:qa (qe)),(∀m∈l,p m=false->Yj rows m∈acc)->l.foldl (Ug rows) acc=(l.filter p).foldl (Ug rows) acc
 |[],_,_=>rfl
 |m::l,acc,h=>by
  rw[zy,qM]
  cases b:p m with
  |true=>
   rw[qG rfl,zy];exact Bt p l _ λx a q=>gj (h x (qF _ a) q)
  |false=>
   rw[qC qH];have e:Ug rows acc m=acc:=by unfold Ug;rw[qG (h m (qz ..) b)]
   rw[e];exact Bt p l _ λx a q=>h x (qF _ a) q
def OW.step(g:(rows.map (·.1)).Nodup)(ne:NoE rows){ns:qe}(a:∀m,m∈ns↔m∈rows.map (·.1)){n:qb}{t left:qe}{fd:qa (qe)}(o:OW rows ns (n::l0) fd)(h:IW rows n l0 t left i)(k:t.length<=i):OW rows ns left (fd++[Qz t]):=by
 have d:=h.done g ne a o k;have b:n∈ns:=o.sub.subset (qz ..);have mt:∀{m},m∈t↔m∈rows.map (·.1)/\mx rows n m:=λ{m}=>by rw[<-Yl,d,XE]
 have s0:l0.Sublist ns:=(List.sublist_cons_self n l0).trans o.sub;refine⟨by rw[h.lf];exact zH.trans s0,?_,λm hm z=>?_,λm hm=>?_⟩
 .rw[<-o.ev,zy];have e:Ug rows fd n=fd++[Qz t]:=by unfold Ug;rw[qC (o.un n (qz ..)),d]
  rw[e,h.lf];refine(Bt _ l0 _ λm hm q=>?_).symm;have f:m∈t:=ql (by simpa using q);rw[CA g ne (ne n ((a n).mp b)) (h.rc m f),<-d];exact qv _ (qk.mpr rfl)
 .rw[h.lf] at hm;obtain⟨j,f⟩:=qo.mp hm;have f:m∉t:=yG (by simpa using f);rcases qr.mp z with q|q
  .exact o.un m (qF _ j) q
  .have q:=qk.mp q;have:m∈Yj rows m:=XE.mpr ⟨(a m).mp (s0.subset j),.refl⟩;rw[q] at this;exact f (Yl.mp this)
 .have f:Yj rows n∈fd++[Qz t]:=by rw[d];exact qv _ (qk.mpr rfl)
  rcases o.cov m hm with c|⟨n',a1,a2,j⟩
  .rcases qJ.mp c with e|c
   .exact .inr ⟨n,b,e▸.refl,f⟩
   .by_cases q:m∈t
    .exact .inr ⟨n,b,h.rc m q,f⟩
    .exact .inl (by rw[h.lf];exact qo.mpr ⟨c,by rw[qE q];rfl⟩)
  .exact .inr ⟨n',a1,a2,qy _ j⟩
def OT{rows:Rows}:∀(ns:qe)(acc:qa (qe)),acc.length<=(ns.foldl (Ug rows) acc).length
 |[],_=>qB _
 |n::ns,acc=>by
  rw[zy];refine zm ?_ (OT ns _);unfold Ug;split
  .exact qB _
  .rw[qx];omega
def KZ :(xs.map V.str).all Gk=true:=by
 rw[jd];intro v a;obtain⟨x,_,rfl⟩:=qj.mp a;rfl
abbrev Vd(ls:qa LE):Rows:=ls.map λl=>(l.nm,l.p.an)
inductive NT(vs:qa V)(H:Hp)(Q:VK)(E:XK):Prop
 |mk:∀(LL:qc)(lk:qa (Key×V))(x y:qb)(u v:qc)(p q:LD),vs=[.ref LL,.str x,.str y]->H LL=some (.dK lk)->Qx lk (Sum.inr x)=some (.ref u)->Qx lk (Sum.inr y)=some (.ref v)->H u=some (.tup (ptV p))->H v=some (.tup (ptV q))->Q (.bl (Br (x,p.an) (y,q.an))) H->NT vs H Q E
inductive CG(vs:qa V)(H:Hp)(Q:VK)(E:XK):Prop
 |mk:∀(LL:qc)(xs:qa Rw)(ls:qa LE),vs=[.ref LL]->H LL=some (.dK (wL xs))->(xs.map λr=>r.d.nm).Nodup->(∀r∈xs,∃l∈ls,r.d=.put l.nm l.p)->(∀l∈ls,∃r∈xs,r.d=.put l.nm l.p)->(∀r∈xs,XT H r)->(ls.map LE.nm).Nodup->NoE (Vd ls)->(∀m∈ls.map LE.nm,ud m)->xs.length<=40 ->
   (∀l H' lt,Qj H H'->lt.map (·.2)=Ve (Vd ls) (Qz ((Vd ls).map (·.1)))->Xq H' l lt->Q (.ref l) H')->CG vs H Q E
def Tj(F:zX K Jr Jr Cf a.mL fd)(T:Txt P w K mg base a):T.fq j6 1 a.mL fd [Zc,JN,JO] NT:=by
 refine F.ok AL (λn A outer st H vs Q E o h=>?_)
 .obtain⟨e,s,x,y,u,v,p,q,rfl,f,c,d,r,ev,k⟩:=h;have g:=Q5 o;refine⟨_,(Qd (Qr (i:=3) AL.nd (Qv QR (QA g (pv 0) (pv 1)) Qi))
   (Qd (Qr (i:=4) AL.nd (Qv QR (QA g (pv 0) (pv 2)) Qi))
   (Qf (Qw (SU (UB YQ (pv 3) (pv 2)) (SU (UB YQ (pv 4) (pv 1)) (Gu (A5 (UB BC (pv 3) Qq) (Gu (UB YQ (pv 3) (pv 4))))))))))),?_⟩
  refine⟨_,U,_,U,e,_,U,.inl ⟨_,Sum.inr x,.inl f,U,c.symm⟩,u,_,_,_,U,U,jX.of r,QB (j:=4) rfl,?_⟩;refine⟨_,U,_,U,e,_,U,.inl ⟨_,Sum.inr y,.inl f,U,d.symm⟩,v,_,_,_,U,U,jX.of ev,QB (j:=4) rfl,?_⟩;unfold Br at k;refine⟨_,U,_,U,U,_,U,?_⟩;rw[Um]
  cases l:decide (p.an=y) with
  |true=>rw[show decide ((x,p.an).2=(y,q.an).1)=true from l] at k;exact Ya k
  |false=>
   rw[show decide ((x,p.an).2=(y,q.an).1)=false from l] at k;refine QU ⟨_,U,_,U,U,_,U,?_⟩;rw[Um]
   cases m:decide (q.an=x) with
   |true=>rw[show decide ((y,q.an).2=(x,p.an).1)=true from m] at k;exact Ya k
   |false=>
    rw[show decide ((y,q.an).2=(x,p.an).1)=false from m] at k;refine QU ⟨_,U,U,_,U,?_⟩;rw[FE];by_cases b:p.an=("":qb)
    .rw[qt b];rw[qE (λz=>z b)] at k;exact QU k
    .rw[qE b];rw[qt (show(x,p.an).2≠"" from b)] at k;refine Ya ⟨_,U,_,U,U,?_⟩;rw[Um];exact k
def I9(F:zX K ZQ ZQ Vv a.we fd)(T:Txt P w K mg base a)(FF:Yz K a):T.fq j6 2 a.we fd [Zc] CG:=by
 obtain⟨fd1,nr,QcJ⟩:=FF.nr;have QcM:=Tj nr T;refine F.ok YA (λcdv A outer st H vs Q E hr h=>?_)
 .obtain⟨LL,xs,ls,rfl,eL,xnd,x1,x2,hx,lnd,ne,asc,h40,k⟩:=h;have hu:=Q5 hr;have hu64:=hr.units;have hr1:QG 1 _:=hr;refine⟨_,(Qd (Qr (i:=1) YA.nd (QC (Yd rfl) rfl T.jR boot_sorted (zg (pv 0) Qe)))
   (Qd (Qr (i:=2) YA.nd (Yf Qu))
   (Qd (C4 zx (Qt (WY hu64) (pv 1) (Yf Qu)) (Qd (Qr (i:=3) YA.nd (Yf (Qh (Vs plainAttrs_list slot_list_pop type_list_pop Dv (pv 1) (zg Qi Qe)) Qu)))
   (Qd (Qr (i:=4) YA.nd Qi)
   (Qd (C4 zx (Qt IY (pv 4) (QC Yb rfl T.vt zT (zg (pv 3) Qe))) (Qd (Qr (i:=5) YA.nd (VO (sc:=Qg Vv) (N:=Kl) (fr:=[(0,Zc),(3,"_law_thread_of"),(4,"_law_at")]) (cs_ rfl rfl) rfl rfl rfl (YD (pv 1)) (λ_ _ _ _=>We (UH (Qk QcM hr1 rfl T.QcC nr.kp QcJ .nil Ql (zg (pv 1) (zg (Qv (LF K) (pv 2) (pv 3)) (zg (pv 0) Qe)))))) (λ_ _ _ _=>(pv 0))))
   (Qd (XA (sc:=Qg Vv) (N:=Kl) (i:=1) (fr:=[(5,"_law_more")]) (cs_ rfl rfl) rfl rfl rfl YA.nd U rfl (YD (pv 1)) (λ_ _ _ _=>We (Qt (D8 K) (pv 0) (pv 1) (by with_unfolding_all rfl))) (λ_ _ _ _=>(pv 0)))
   (Qd (Qr (i:=3) YA.nd (QM bU (pv 3) (pv 5)))
   (Qf (Qr (i:=4) YA.nd (QM Ue (pv 4) Qi)))))))
   (Qf (Qy (Vs plainAttrs_list zR zS YS (pv 2) (zg (QC VZ rfl T.jR boot_sorted (zg (pv 3) Qe)) Qe))))))))
   (Qf (Qw (pv 2)))))),?_⟩
  have hsm:∀m:Nat,m<=100->m<=sizeLine:=λm h=>Q6 ((by omega));have tnm:(Vd ls).map (·.1)=ls.map LE.nm:=by rw[qT];rfl
  have O:((Vd ls).map (·.1)).Nodup:=by rw[tnm];exact lnd
  have xm:∀m,m∈(xs.map λr=>r.d.nm)↔m∈ls.map LE.nm:=λm=>by
   constructor
   .intro h;obtain⟨r,hr,rfl⟩:=qj.mp h;obtain⟨l,b,e⟩:=x1 r hr;rw[e];exact qj.mpr ⟨l,b,U⟩
   .intro h;obtain⟨l,b,rfl⟩:=qj.mp h;obtain⟨r,hr,e⟩:=x2 l b;exact qj.mpr ⟨r,hr,by rw[e];rfl⟩
  have ens:Qz (xs.map λr=>r.d.nm)=Qz ((Vd ls).map (·.1)):=YJ ((yF xnd O).mpr λm=>by rw[tnm];exact xm m);have look:∀m∈(Vd ls).map (·.1),∃(u:qc)(p:LD),Qx (wL xs) (Sum.inr m)=some (.ref u)/\H u=some (.tup (ptV p))/\rwF (Vd ls) m=(m,p.an):=λm hm=>by
   rw[tnm] at hm;obtain⟨l,b,rfl⟩:=qj.mp hm;obtain⟨r,hr,e⟩:=x2 l b;have:=QZ (f:=λr:Rw=>r.d.nm) (g:=λr=>V.ref r.u) xnd hr;have c:r.d.nm=l.nm:=by rw[e];rfl
   rw[c] at this;exact⟨r.u,l.p,this,(hx r hr).du.p _ _ e,MA O (r:=(l.nm,l.p.an)) (qj.mpr ⟨l,b,U⟩)⟩
  refine⟨_,U,LL,_,xs.map (λr=>r.d.nm),U,eL,As _ _ _,by rw[qh];omega,λl1 nl1=>?_⟩;rw[ens];generalize hns:Qz ((Vd ls).map (·.1))=ns at k;have nsm:∀m,m∈ns↔m∈(Vd ls).map (·.1):=λm=>by rw[<-hns];exact Yl
  have nsl:ns.length<=40:=by rw[<-hns,<-ens,Uu,qh];exact h40
  have nsn:ns.Nodup:=by rw[<-hns];exact(U1 _).nodup_iff.mpr O
  have nsa:∀m∈ns,ud m:=λm hm=>asc m (by rw[<-tnm];exact(nsm m).mp hm);have s1:Qj H (upd H l1 (.lst (ns.map V.str))):=Qj.zi nl1;have e1:(upd H l1 (.lst (ns.map V.str))) l1=some (.lst (ns.map V.str)):=Qc;show YY _ _ _ _ (upd H l1 (.lst (ns.map V.str)));generalize upd H l1 (.lst (ns.map V.str))=H1 at s1 e1⊢;refine⟨q0 _,λv H2 nfa s2 e2=>?_⟩;have fl:l1≠v:=Qb e1 nfa;refine⟨λm σ G=>∃(c:qc)(left:qe)(lt:qa (qc×qe))(o3 o4 o5:Option V),m=left.length/\σ=[some (.ref LL),some (.ref c),some (.ref v),o3,o4,o5]/\Qj H G/\H c=none/\G c=some (.lst (left.map V.str))/\Xq G v lt/\c≠v/\(∀p∈lt,p.1≠c/\p.1≠v)/\OW (Vd ls) ns left (lt.map (·.2)),
   ⟨_,l1,ns,[],none,none,none,U,U,s1.trans s2,nl1,s2 _ _ e1,⟨e2,nofun⟩,fl,nofun,OW.init⟩,?_⟩
  have nf:H v=none:=s1.free nfa;rintro m σ G ⟨c,left,lt,o3,o4,o5,rfl,rfl,sG,nla,ela,th,R,lp,ow⟩;refine⟨_,U,q0 _,λp1 G1 np1 t1 ep1=>?_⟩;have lasc:∀m∈left,ud m:=λm hm=>nsa m (ow.sub.subset hm);have S:=t1 _ _ ela;have th1:Xq G1 v lt:=⟨t1 _ _ th.1,λp d=>t1 _ _ (th.2 p d)⟩;have sG1:=sG.trans t1;refine⟨.list (left.map PyData.str),.list (([]:qe).map PyData.str),.lst (zQ.of S) (Ad _),.lst (zQ.of ep1) .nil,YV lasc,U,?_⟩;rw[LQ]
  cases left with
  |nil=>
   rw[qt rfl];refine⟨_,U,QU ⟨_,U,k v G1 lt sG1 ow.ev th1⟩⟩
  |cons n l0=>
   rw[qE nofun];refine⟨_,U,Ya ⟨_,λσ' H' z=>z,?_⟩⟩;have nnd:(n::l0).Nodup:=jI ow.sub nsn;obtain⟨nn0,l0nd⟩:=zN.mp nnd;have hnr:n∈(Vd ls).map (·.1):=(nsm n).mp (ow.sub.subset (qz ..));have h0r:∀m∈l0,m∈(Vd ls).map (·.1):=λm hm=>(nsm m).mp (ow.sub.subset (qF _ hm));have l0l:(n::l0).length<=40:=zm ow.sub.length_le nsl;rw[qV] at l0l;refine⟨_,U,.inl ⟨U,_,zQ.of S⟩,c,_,0,0,.str n,U,U,S,by decide,by decide,seqIndex_of (by decide) (by rw[qh,qV];omega),U,?_⟩;have sG2:Qj H (upd G1 c (.lst (((n::l0).map V.str).eraseIdx 0))):=sG1.z6 nla;have X:(upd G1 c (.lst (((n::l0).map V.str).eraseIdx 0))) c=some (.lst (l0.map V.str)):=Qc;have th2:Xq (upd G1 c (.lst (((n::l0).map V.str).eraseIdx 0))) v lt:=⟨by rw[Qa R.symm];exact th1.1,λp d=>by rw[Qa (lp p d).1];exact th1.2 p d⟩;generalize upd G1 c (.lst (((n::l0).map V.str).eraseIdx 0))=G2 at sG2 X th2⊢;refine⟨hsm _ (by show 1<=100;decide),λJ G3 nta t3 eta=>?_⟩;have th3:Xq G3 v lt:=⟨t3 _ _ th2.1,λp d=>t3 _ _ (th2.2 p d)⟩;have sG3:=sG2.trans t3;have taf:J≠v:=λz=>by rw[z,th2.1] at nta;cases nta
   have tal:c≠J:=Qb X nta;have ntH:H J=none:=sG2.free nta;refine⟨λm σ G=>∃(c J:qc)(t left:qe)(i:Nat)(o5:Option V),m=41-i/\σ=[some (.ref LL),some (.ref c),some (.ref v),some (.ref J),some (.int (i:Int)),o5]/\Qj H G/\H c=none/\G c=some (.lst (left.map V.str))/\G J=some (.lst (t.map V.str))/\Xq G v lt/\c≠v/\(∀p∈lt,p.1≠c/\p.1≠v)/\IW (Vd ls) n l0 t left i/\i<=t.length,
    ⟨_,c,J,[n],l0,0,o5,U,U,sG3,nla,t3 _ _ X,eta,th3,R,lp,IW.init nn0,q0 _⟩,?_⟩
   rintro m σ L ⟨c,J,t,left,i,o5,rfl,rfl,Y,nla,o,D,y,R,lp,iw,hi⟩;have tl:t.length<=40:=by
    have:=YM iw.nd (l:=n::l0) λm hm=>(iw.ts m hm).elim (λz=>z▸qz ..) (qF _);rw[qV] at this;omega
   have ll:left.length<=l0.length:=by rw[iw.lf];exact qW _ _
   have lm:∀m∈left,m∈l0:=λm hm=>by rw[iw.lf] at hm;exact(qo.mp hm).1
   refine⟨_,U,_,U,J,_,U,.inl (zQ.of D),_,_,U,U,_,U,?_⟩;rw[qh];by_cases hlt:i<t.length
   .rw[qt (by omega:(i:Int)<(t.length:Int))];refine Ya ⟨_,λσ' H' z=>z,?_⟩;obtain⟨x,hxt⟩:∃x,t[i]?=some x:=⟨t[i],qA hlt⟩;have hxr:x∈(Vd ls).map (·.1):=(iw.ts x (qL hxt)).elim (λz=>z▸hnr) (h0r x);obtain⟨ux,px,vx,ex,rx⟩:=look x hxr;refine⟨_,U,c,U,⟨_,zQ.of o⟩,Ks (K:=K) (xs:=left) V.str (hg (Vd ls) x) V.str (hsm _ (by omega)) (zQ.of o) ?_ ?_ ?_⟩
    .intro m G5 Q' hm s5 b;obtain⟨B,pm,C,em,I⟩:=look m (h0r m (lm m hm));have s:=Y.trans s5;have he:hg (Vd ls) x m=Br (x,px.an) (m,pm.an):=by unfold hg;rw[rx,I]
     rw[he] at b;exact⟨_,U,_,U,_,U,J,_,_,_,U,U,zQ.of (s5 _ _ D),(by rw[QB (j:=i) (by rw[qQ,hxt];rfl)]),_,U,LL,_,x,m,ux,B,px,pm,U,s _ _ eL,vx,C,s _ _ ex,s _ _ em,_,U,b⟩
    .intro m G5 Q' hm s5 _ b;exact⟨_,U,b⟩
    .intro mo Z;have I:Qj H (upd L mo (.lst ((left.filter (hg (Vd ls) x)).map V.str))):=Y.z6 (Y.free Z);have emo:(upd L mo (.lst ((left.filter (hg (Vd ls) x)).map V.str))) mo=some (.lst ((left.filter (hg (Vd ls) x)).map V.str)):=Qc;have B:(upd L mo (.lst ((left.filter (hg (Vd ls) x)).map V.str))) c=some (.lst (left.map V.str)):=by rw[Qa (Qb o Z)];exact o
     have Qd0:(upd L mo (.lst ((left.filter (hg (Vd ls) x)).map V.str))) J=some (.lst (t.map V.str)):=by rw[Qa (Qb D Z)];exact D
     have s:Xq (upd L mo (.lst ((left.filter (hg (Vd ls) x)).map V.str))) v lt:=⟨by rw[Qa (Qb y.1 Z)];exact y.1,λp d=>by rw[Qa (Qb (y.2 p d) Z)];exact y.2 p d⟩;show YY _ _ _ _ (upd L mo (.lst ((left.filter (hg (Vd ls) x)).map V.str)));generalize upd L mo (.lst ((left.filter (hg (Vd ls) x)).map V.str))=G5 at I emo B Qd0 s⊢;have iw2:=iw.step O ne hnr h0r l0nd hxt;generalize hmo:left.filter (hg (Vd ls) x)=more at emo iw2;have mol:more.length<=left.length:=by rw[<-hmo];exact qW _ _
     refine⟨_,U,c,U,⟨_,zQ.of B⟩,Ks (K:=K) (xs:=left) V.str (λm=>!decide (m∈more)) V.str (hsm _ (by omega)) (zQ.of B) ?_ ?_ ?_⟩
     .intro m G6 Q' hm C b;refine⟨_,U,_,U,mo,_,U,.inl (zQ.of (C _ _ emo)),U,KZ,_,U,?_⟩;rw[qG rfl,Ao];exact b
     .intro m G6 Q' hm C _ b;exact⟨_,U,b⟩
     .intro M C;generalize hl2:(left.filter λm=>!decide (m∈more))=b at iw2;have sG6:Qj H (upd G5 M (.lst (b.map V.str))):=I.z6 (I.free C);have el6:(upd G5 M (.lst (b.map V.str))) M=some (.lst (b.map V.str)):=Qc;have eta6:(upd G5 M (.lst (b.map V.str))) J=some (.lst (t.map V.str)):=by rw[Qa (Qb Qd0 C)];exact Qd0
      have emo6:(upd G5 M (.lst (b.map V.str))) mo=some (.lst (more.map V.str)):=by rw[Qa (Qb emo C)];exact emo
      have th6:Xq (upd G5 M (.lst (b.map V.str))) v lt:=⟨by rw[Qa (Qb s.1 C)];exact s.1,λp d=>by rw[Qa (Qb (s.2 p d) C)];exact s.2 p d⟩;have l6f:M≠v:=λz=>by rw[z,s.1] at C;cases C
      have l6p:∀p∈lt,p.1≠M/\p.1≠v:=λp d=>⟨Qb (s.2 p d) C,(lp p d).2⟩;have n6:H M=none:=I.free C;show YY _ _ _ _ (upd G5 M (.lst (b.map V.str)));generalize upd G5 M (.lst (b.map V.str))=G6 at sG6 el6 eta6 emo6 th6⊢;refine⟨_,U,_,U,J,mo,_,_,U,U,eta6,emo6,(by rw[qh,qh];exact hsm _ (by omega)),λta7 G7 nt7 t7 eta7=>?_⟩;rw[<-qI] at eta7;refine⟨_,U,_,_,U,U,41-(i+1),(by omega),M,ta7,t++more,b,i+1,_,U,U,sG6.trans t7,n6,t7 _ _ el6,eta7,⟨t7 _ _ th6.1,λp d=>t7 _ _ (th6.2 p d)⟩,l6f,l6p,iw2,?_⟩;rw[qx];omega
   .rw[qE (by omega:¬(i:Int)<(t.length:Int))];refine QU ⟨_,U,.inl ⟨U,_,zQ.of y.1⟩,_,U,J,t,U,zQ.of D,by omega,λst b=>?_⟩;have C:=ow.step O ne nsm iw (by omega);have ltl:lt.length<=40:=by
     have Z:=zV List.length C.ev;have h2:=CB (rows:=Vd ls) ns;have M:=OT (rows:=Vd ls) left (lt.map (·.2)++[Qz t]);rw[qx,qh] at M;omega
    have I:Qj H (upd L st (.lst ((Qz t).map V.str))):=Y.z6 (Y.free b);have M:(upd L st (.lst ((Qz t).map V.str))) st=some (.lst ((Qz t).map V.str)):=Qc;have B:(upd L st (.lst ((Qz t).map V.str))) c=some (.lst (left.map V.str)):=by rw[Qa (Qb o b)];exact o
    have s:Xq (upd L st (.lst ((Qz t).map V.str))) v lt:=⟨by rw[Qa (Qb y.1 b)];exact y.1,λp d=>by rw[Qa (Qb (y.2 p d) b)];exact y.2 p d⟩;have Z:st≠v:=λz=>by rw[z,y.1] at b;cases b
    have stl:st≠c:=λz=>by rw[z,o] at b;cases b
    generalize upd L st (.lst ((Qz t).map V.str))=G5 at I M B s⊢;refine⟨v,_,_,U,U,s.1,(by rw[qh];exact QD (by omega)),?_⟩;have el:(lt.map λp=>V.ref p.1)++[V.ref st]=(lt++[((st,Qz t):qc×qe)]).map λp=>V.ref p.1:=by rw[qI];rfl
    rw[el];refine⟨left.length,by rw[qV];omega,c,left,lt++[((st,Qz t):qc×qe)],_,_,_,U,U,I.z6 nf,nla,by rw[Qa R];exact B,⟨Qc,λp d=>?_⟩,R,λp d=>?_,by rw[qI];exact C⟩
    .rcases qr.mp d with q|q
     .rw[Qa (lp p q).2];exact s.2 p q
     .rw[qk.mp q,Qa Z];exact M
    .rcases qr.mp d with q|q
     .exact lp p q
     .rw[qk.mp q];exact⟨stl,Z⟩
def gL(c:Nat):Nat:=if decide (c∈aZ.cps.toList)=true then c else 32
def iD:∀c:Nat,c<128->gL (lo1 c)=gS c:=by decide +kernel
inductive Ia(vs:qa V)(H:Hp)(Q:VK)(E:XK):Prop
 |mk:∀x:qb,vs=[.str x]->ud x->x.length<=900->(∀(l:qc)(H':Hp),H l=none->Qj H H'->H' l=some (.lst ((tf x).map V.str))->Q (.ref l) H')->Ia vs H Q E
def tbD:Dd->qb
 |.put _ p=>(p.t++" ")++p.b
 |_=>""
inductive EE(vs:qa V)(H:Hp)(Q:VK)(E:XK):Prop
 |mk:∀(LL:qc)(xs:qa Rw)(ls:qa LE)(t:qb),vs=[.ref LL,.str t]->H LL=some (.dK (wL xs))->(xs.map λr=>r.d.nm).Nodup->(∀r∈xs,∃l∈ls,r.d=.put l.nm l.p)->(∀r∈xs,XT H r)->(∀l∈ls,Kx l.p.s l.p.t l.p.b l.p.d l.p.an)->xs.length<=40 ->
   (∀l H',H l=none->Qj H H'->H' l=some (.lst ((Qz ((xs.filter λr=>decide (t∈tf (tbD r.d))).map λr=>r.d.nm)).map V.str))->Q (.ref l) H')->EE vs H Q E
def Px(F:zX K Jc Jc XZ a.iS fd)(T:Txt P w K mg base a):T.fq j6 1 a.iS fd [JH] Ia:=by
 refine F.ok CT (λn A outer s H vs Q E B h=>?_)
 .obtain⟨x,rfl,g,C,k⟩:=h;refine⟨_,(Qd (Qr (i:=1) CT.nd Qq)
   (Qf (Qw (Vs plainAttrs_str PySem.F.slot_str_split PySem.F.type_str_split P4 (Vs plainAttrs_str slot_str_join type_str_join Hs Qq (zg (VO (sc:=Qg XZ) (N:=E2) (fr:=[(1,Z5)]) (cs_ rfl rfl) rfl rfl rfl (MG (C8 plainAttrs_str PySem.F.slot_str_lower PySem.F.type_str_lower Lm (pv 0))) (λ_ _ _ _=>Ae) (λ_ _ _ _=>(Qv (LF K) (Yf (Qh Qq (Qh (pv 0) Qu))) (Uc K1 rfl T.QaF boot_int (zg (UB KQ (pv 0) (pv 1) (by with_unfolding_all rfl)) Qe))))) Qe)) (zg Qq Qe))))),?_⟩
  have o:(⟨x.cps.map lo1⟩:qb).cps.toList=x.cps.toList.map lo1:=by simp
  have t:(⟨x.cps.map lo1⟩:qb).cps.size=x.length:=by show(x.cps.map _).size=x.cps.size;simp
  refine⟨U,_,U,U,x,U,U,g,(by omega),_,U,RC (λc=>.str ⟨#[gL c]⟩) (by rw[t];exact Q6 ((by omega))) ?_ ?_⟩
  .intro c j Q' hc s3 q;refine⟨_,U,Vr,λp b np s4 e=>?_⟩;refine⟨_,U,_,U,_,_,U,U,.inr ⟨_,U,?_⟩⟩;rw[sL];refine⟨p,_,_,_,U,U,zQ.of e,?_,q b s4⟩;have f:gL c=if decide (c∈aZ.cps.toList)=true then c else 32:=rfl
   rw[f]
   cases hd:decide (c∈aZ.cps.toList) with
   |true=>rfl
   |false=>rfl
  .intro D G I s2 f;rw[o] at f;generalize b:x.cps.toList.map (λc=>(⟨#[gL (lo1 c)]⟩:qb))=ys;have u:(x.cps.toList.map lo1).map (λc=>V.str ⟨#[gL c]⟩)=ys.map V.str:=by rw[<-b,qT,qT];rfl
   have e:∀y∈ys,y.length=1:=λy j=>by
    rw[<-b] at j;obtain⟨c,_,rfl⟩:=qj.mp j;rfl
   have v:ys.length=x.length:=by rw[<-b,qh,VU]
   have z:(Txt.join "" ys).cps.toList=x.cps.toList.map gS:=by
    rw[OI,<-b,qT];have:∀l:qa Nat,(∀c∈l,c<128)->(l.map ((λy:qb=>y.cps.toList)∘λc=>(⟨#[gL (lo1 c)]⟩:qb))).flatten=l.map gS:=λl=>by
     induction l with
     |nil=>intro _;rfl
     |cons c r m=>
      intro h;rw[qU,j9,qU,m λd hd=>h d (qF _ hd),<-iD c (h c (qz ..))];rfl
    exact this _ λc hc=>g c hc
   rw[u] at f;refine⟨"",D,ys,U,U,zQ.of f,DD e (by omega),U,_,_,U,U,by decide +kernel,(by rw[Bp e];omega),λl J nl s5 m=>?_⟩;rw[S1 z] at m;exact k l _ (s2.free nl) (s2.trans s5) m
def MM(F:zX K Z1 Z1 W9 a.uu fd)(T:Txt P w K mg base a)(X:Yz K a):T.fq j6 2 a.uu fd [Zc,ZF] EE:=by
 obtain⟨Y,lb,Qb0⟩:=X.lb;have Qb7:=Px lb T;refine F.ok IC (λZ A outer s H vs Q E v h=>?_)
 .obtain⟨b,xs,ls,t,rfl,x,B,x1,hx,hg,h40,k⟩:=h;have L:=Q5 v;have C:QG 1 _:=v;refine⟨_,(Qf (KI (Qw (QC VZ rfl T.jR boot_sorted (zg (VO (sc:=Qg W9) (N:=Dl) (fr:=[(1,ZF),(0,Zc)]) (cs_ rfl rfl) rfl rfl rfl (Kf (pv 0)) (λ_ _ _ _=>We (Qt (MH K) (pv 1) (Qk Qb7 C rfl T.QbP lb.kp Qb0 .nil Ql (zg (QM Up (QM Up (Qv (Uj K) (QA L (pv 2) (pv 0)) Qi) Qq) (Qv (Uj K) (QA L (pv 2) (pv 0)) Qi)) Qe)) (by with_unfolding_all rfl))) (λ_ _ _ _=>(pv 0))) Qe))))),?_⟩;refine⟨b,_,x,λn=>?_⟩;have kt:∀c ys,H c=some (.tup ys)->(upd H b (.jG n (.dK (wL xs)))) c=some (.tup ys):=λc ys e=>by rw[Qa (λz=>by rw[z,x] at e;cases e)];exact e
  have p:(upd H b (.jG n (.dK (wL xs)))) b=some (.jG n (.dK (wL xs))):=Qc;have d:∀G,Qj (upd H b (.jG n (.dK (wL xs)))) G->Qj H (upd G b (.dK (wL xs))):=λG s=>Gp x s;have u:∀r∈xs,XT _ r:=λr v=>(hx r v).tups kt;generalize upd H b (.jG n (.dK (wL xs)))=H1 at p d u⊢;refine⟨_,U,b,_,U,.inl ⟨n,p,BQ (xs:=xs) (λr=>V.str r.d.nm) (λr=>decide (t∈tf (tbD r.d))) (λr=>V.str r.d.nm) (Q6 ((by omega))) p (by rw[As,qT];rfl) ?_ ?_ ?_⟩⟩
  .intro r I Q' i s3 J;obtain⟨l,hl,hd⟩:=x1 r i;have en:r.d.nm=l.nm:=by rw[hd];rfl
   have g:=hg l hl;have e60:=g.tl;have M:=g.bl;have hv:Qx (wL xs) (Sum.inr r.d.nm)=some (V.ref r.u):=QZ (f:=λr:Rw=>r.d.nm) (g:=λr=>V.ref r.u) B i;have O:=s3 _ _ ((u r i).du.p _ _ hd);have R:Q3 I b (V.str r.d.nm) (some (V.ref r.u)):=.inl ⟨_,Sum.inr r.d.nm,.inr ⟨n,s3 _ _ p⟩,U,hv.symm⟩;have S:(l.p.t++" ").length=l.p.t.length+1:=by rw[WT];rfl
   refine⟨_,U,_,U,_,U,b,_,U,R,r.u,_,_,_,U,U,jX.of O,QB (j:=1) rfl,_,_,U,U,(by show l.p.t.length+1<=sizeLine;exact Q6 ((by omega))),?_⟩;refine⟨_,U,_,U,b,_,U,R,r.u,_,_,_,U,U,jX.of O,QB (j:=2) rfl,_,_,U,U,(by rw[S];exact Q6 ((by omega))),?_⟩;refine⟨_,U,(g.t_.app (y:=" ") (λc hc=>by have z:c=32:=(qk.mp hc);omega)).app g.b_,(by rw[WT,S];omega),λm H4 nm s4 e4=>?_⟩;refine⟨m,_,U,.inl (zQ.of e4),U,KZ,_,U,?_⟩;rw[qC qH,Ao];have:=J H4 s4;rw[hd] at this;exact this
  .intro r I Q' i s3 _ J;exact⟨_,U,J I (Qj.refl _)⟩
  .intro D i R s2 I;have em:((xs.filter λr=>decide (t∈tf (tbD r.d))).map λr=>V.str r.d.nm)=((xs.filter λr=>decide (t∈tf (tbD r.d))).map λr=>r.d.nm).map V.str:=by rw[qT];rfl
   rw[em] at I;have O:=qW (λr:Rw=>decide (t∈tf (tbD r.d))) xs;refine⟨D,_,U,zQ.of I,(by rw[qh];omega),λl nl=>?_⟩;generalize ((xs.filter λr=>decide (t∈tf (tbD r.d))).map λr=>r.d.nm)=ns at k⊢;have J:Qj H1 (upd i l (.lst ((Qz ns).map V.str))):=s2.trans (Qj.zi nl);have M:l≠b:=(Qb (s2 _ _ p) nl).symm;refine⟨J _ _ p,k l _ ?_ (d _ J) (by rw[Qa M];exact Qc)⟩
   cases q:H l with
   |none=>rfl
   |some o=>
    have:=d i s2 _ _ q;rw[Qa M,nl] at this;cases this
def nF(a:Rw->qb)(ys:qa Rw)(f:qb):Int:=((ys.filter λr=>decide (a r=f)).length:Nat)
def uF(a:Rw->qb)(sF:Rw->Bool)(ys:qa Rw)(f:qb):Int:=((ys.filter λr=>decide (a r=f)&&sF r).length:Nat)
def sF(be:qa Ent)(r:Rw):Bool:=!decide (JP∈Qz (Vy be r.d.nm))
def cm(a:Rw->qb)(ys:qa Rw)(r:Rw)(f:qb):nF a (ys++[r]) f=nF a ys f+if a r=f then 1 else 0:=by
 unfold nF;rw[q9,qx,qM];by_cases h:a r=f
 .rw[qG (qt h),qG h];simp
 .rw[qC (by rw[qE h];exact qH),qC h];simp
def bj(a:Rw->qb)(s:Rw->Bool)(ys:qa Rw)(r:Rw)(f:qb):uF a s (ys++[r]) f=uF a s ys f+if a r=f then (if s r=true then 1 else 0) else 0:=by
 unfold uF;rw[q9,qx,qM];by_cases h:a r=f
 .rw[qt h,qG h,uP]
  cases s r with
  |true=>rw[qG rfl,qG rfl];simp
  |false=>rw[qC qH,qC qH];simp
 .rw[qE h,qC h,Qae,qC qH];simp
structure FdI(G:Hp)(fo:qc)(fF:Rw->qb)(s:Rw->Bool)(ys:qa Rw)(fs:qe)(kvs:qa (Key×V)):Prop where
 e:G fo=some (.dK kvs)
 k:kvs.map (λkv=>kV kv.1)=fs.map V.str
 k2:kvs.map (·.1)=fs.map Sum.inr
 nd:fs.Nodup
 len:fs.length<=ys.length
 m:∀f,f∈fs↔∃r∈ys,fF r=f
 v:∀f∈fs,∃c,Qx kvs (Sum.inr f)=some (.ref c)/\G c=some (.tup [.int (nF fF ys f),.int (uF fF s ys f)])
def FdI.none{fo:qc}{b:Rw->qb}{s:Rw->Bool}{ys:qa Rw}{fs:qe}(h:FdI G fo b s ys fs kvs){f:qb}(hf:f∉fs):Qx kvs (Sum.inr f)=none/\nF b ys f=0/\uF b s ys f=0:=by
 have c:∀r∈ys,¬b r=f:=λr a z=>hf ((h.m f).mpr ⟨r,a,z⟩);refine⟨?_,?_,?_⟩
 .cases q:Qx kvs (Sum.inr f) with
  |none=>rfl
  |some v=>
   have:=Nv q;rw[h.k2] at this;obtain⟨g,hg,e⟩:=qj.mp this;exact absurd (jJ e▸hg) hf
 .unfold nF;rw[List.filter_eq_nil_iff.mpr λr a=>by rw[qE (c r a)];exact qH];rfl
 .unfold uF;rw[List.filter_eq_nil_iff.mpr λr a=>by rw[qE (c r a)];exact qH];rfl
def FdI.keep{G':Hp}{fo:qc}{a:Rw->qb}{s:Rw->Bool}{ys:qa Rw}{fs:qe}(h:FdI G fo a s ys fs kvs)(e:G' fo=some (.dK kvs))(t:∀c xs,G c=some (.tup xs)->G' c=some (.tup xs)):FdI G' fo a s ys fs kvs:=
 ⟨e,h.k,h.k2,h.nd,h.len,h.m,λf hf=>by obtain⟨c,b,d⟩:=h.v f hf;exact⟨c,b,t _ _ d⟩⟩
def FdI.put{fo:qc}{d:Rw->qb}{s:Rw->Bool}{ys:qa Rw}{fs:qe}(h:FdI G fo d s ys fs kvs)(m:G c=some (.tup [.int (nF d ys (d r)+1),.int (uF d s ys (d r)+if s r=true then 1 else 0)])):FdI (upd G fo (.dK (Yc kvs (Sum.inr (d r)) (.ref c)))) fo d s (ys++[r]) (if d r∈fs then fs else fs++[d r]) (Yc kvs (Sum.inr (d r)) (.ref c)):=by
 have k:(Yc kvs (Sum.inr (d r)) (.ref c)).map (·.1)=(if d r∈fs then fs else fs++[d r]).map Sum.inr:=by
  by_cases hf:d r∈fs
  .rw[qG hf,Fe.1 (by rw[h.k2];exact zI hf),h.k2]
  .rw[qC hf,Fe.2 (λz=>by rw[h.k2] at z;obtain⟨g,hg,e⟩:=qj.mp z;exact hf (jJ e▸hg)),h.k2,qI];rfl
 refine⟨Qc,?_,k,?_,?_,λf=>?_,λf hf=>?_⟩
 .have:=zV (List.map kV) k;rw[qT,qT] at this;exact this
 .by_cases hf:d r∈fs
  .rw[qG hf];exact h.nd
  .rw[qC hf];refine jf.mpr ⟨h.nd,by simp,λa i b j z=>?_⟩;rw[qk.mp j] at z;exact hf (z▸i)
 .have:=h.len;rw[qx];split
  .omega
  .rw[qx];simp;omega
 .have j:f∈(if d r∈fs then fs else fs++[d r])↔f∈fs\/f=d r:=by
   by_cases hf:d r∈fs
   .rw[qG hf];exact⟨.inl,λz=>z.elim id λe=>e▸hf⟩
   .rw[qC hf,qr,qk]
  rw[j,h.m];constructor
  .rintro(⟨x,i,e⟩|e)
   .exact⟨x,qy _ i,e⟩
   .exact⟨r,qv _ (qk.mpr rfl),e.symm⟩
  .rintro⟨x,i,e⟩;rcases qr.mp i with q|q
   .exact .inl ⟨x,q,e⟩
   .rw[qk.mp q] at e;exact .inr e.symm
 .rw[Cu,cm,bj];have l:∀{x:qc}{xs:qa V},G x=some (.tup xs)->(upd G fo (.dK (Yc kvs (Sum.inr (d r)) (.ref c)))) x=some (.tup xs):=λ{x xs} e=>by rw[Qa (λz=>by rw[z,h.e] at e;cases e)];exact e
  by_cases e:f=d r
  .rw[e,qG rfl,qG rfl,qG rfl];exact⟨c,U,l m⟩
  .rw[qC (λz=>e (jJ z)),qC (λz=>e z.symm),qC (λz=>e z.symm),Int.add_zero,Int.add_zero];have j:f∈fs:=by
    by_cases i:d r∈fs
    .rw[qG i] at hf;exact hf
    .rw[qC i] at hf;exact(qr.mp hf).resolve_right λz=>e (qk.mp z)
   obtain⟨x,i,n⟩:=h.v f j;exact⟨x,i,l n⟩
inductive CH(vs:qa V)(H:Hp)(Q:VK)(E:XK):Prop
 |mk:∀(LL B:qc)(kvs:qa (qa Key×V))(be:qa Ent)(xs:qa Rw)(fF:Rw->qb),vs=[.ref LL,.ref B]->H LL=some (.dK (wL xs))->H B=some (.dT kvs)->QS H kvs be->BOk be->be.length<64->xs.length<=40->(∀r∈xs,Ap be r.d.nm=.str (fF r)) ->
   (∀l H' (qs:qa Mi) fs,Qj H H'->fs.Nodup->(∀f,f∈fs↔∃r∈xs,fF r=f)->qs.map (·.2)=Qz fs->H' l=some (.lst (qs.map λq=>V.ref q.1))->(∀q∈qs,H' q.1=some (.tup [.str q.2,.int (nF fF xs q.2),.int (uF fF (sF be) xs q.2)]))->Q (.ref l) H')->CH vs H Q E
def Lb(F:zX K ZR ZR Wq a.wg fd)(T:Txt P w K mg base a)(FF:Yz K a):T.fq j6 2 a.wg fd [Zc,Zj] CH:=by
 obtain⟨fd1,jM,vX⟩:=FF.jM;have vY:=Gv jM T;obtain⟨fd2,xI,nI⟩:=FF.xI;have og:=EV xI T;refine F.ok Vf (λcdv A outer s H vs Q E hr h=>?_)
 .obtain⟨d,B,kvs,be,xs,m,rfl,Y,eB,hE,bo,n64,h40,hf,k⟩:=h;have hu:=Q5 hr;have Z:QG 1 _:=hr;refine⟨_,(Qd (Qr (i:=2) Vf.nd Q8)
   (Qd (KI (Ud zx rfl (Kf (pv 0)) (Ye (i:=3) Vf.nd) (Qd (Qr (i:=4) Vf.nd (Qk vY Z rfl T.lS jM.kp vX .nil Ql (zg (pv 1) (zg (pv 3) Qe))))
   (Qd (Qr (i:=5) Vf.nd (Vo hu (pv 2) (pv 4) (Yq (Qh Qi (Qh Qi Qu))) ⟨U,U,U,U⟩))
   (Qf (Yp hu (pv 2) (pv 4) (Yq (Qh (QM Ue (Qv QR (pv 5) Qi) Qi) (Qh (QM Ue (Qv QR (pv 5) Qi) (Uc K1 rfl T.QaF boot_int (zg (UB XB Qq (Qk og Z rfl T.sO xI.kp nI .nil Ql (zg (pv 1) (zg (pv 3) Qe))) (by with_unfolding_all rfl)) Qe))) Qu))) rfl))))))
   (Qf (Qw (VO (sc:=Qg Wq) (N:=BF) (fr:=[(2,Z6)]) (cs_ rfl rfl) rfl rfl rfl (YD (QC (Yd rfl) rfl T.jR boot_sorted (zg (pv 2) Qe))) (λ_ _ _ _=>Ae) (λ_ _ _ _=>(Yq (Qh (pv 0) (Qh (Qv (Uj K) (QA hu (pv 1) (pv 0)) Qi) (Qh (Qv (Uj K) (QA hu (pv 1) (pv 0)) Qi) Qu)))))))))),?_⟩
  intro fo u;have S:d≠fo:=Qb Y u;have fB:B≠fo:=Qb eB u;refine⟨d,_,(by rw[Qa S];exact Y),λC=>?_⟩;have kt:∀c ys,H c=some (.tup ys)->(upd (upd H fo (.dK [])) d (.jG C (.dK (wL xs)))) c=some (.tup ys):=λc ys e=>by rw[Qa (λz=>by rw[z,Y] at e;cases e),Qa (Qb e u)];exact e
  have L:(upd (upd H fo (.dK [])) d (.jG C (.dK (wL xs)))) B=some (.dT kvs):=by rw[Qa (λz=>by rw[z,Y] at eB;cases eB),Qa fB];exact eB
  have eF:(upd (upd H fo (.dK [])) d (.jG C (.dK (wL xs)))) d=some (.jG C (.dK (wL xs))):=Qc;have ef:(upd (upd H fo (.dK [])) d (.jG C (.dK (wL xs)))) fo=some (.dK []):=by rw[Qa S.symm];exact Qc
  have I:∀G,SX fo (upd (upd H fo (.dK [])) d (.jG C (.dK (wL xs)))) G->Qj H (upd G d (.dK (wL xs))):=λG s c o h=>by
   by_cases z:c=d
   .rw[z,Y] at h;rw[z,Qc];exact h
   .have b:c≠fo:=Qb h u;rw[Qa z];exact s c o b (by rw[Qa z,Qa b];exact h)
  have M:=hE.mono kt;generalize upd (upd H fo (.dK [])) d (.jG C (.dK (wL xs)))=H1 at L eF ef I M⊢;have fd0:FdI H1 fo m (sF be) [] [] []:=⟨ef,U,U,zB,qB _,λf=>⟨nofun,λ⟨_,z,_⟩=>nomatch z⟩,λ_ z=>nomatch z⟩;refine⟨_,U,d,_,U,.inl ⟨C,eF,LM (λi σ G=>∃(o3 o4 o5:Option V)(fs:qe)(g:qa (Key×V)),σ=[some (.ref d),some (.ref B),some (.ref fo),o3,o4,o5]/\SX fo H1 G/\FdI G fo m (sF be) (xs.take i) fs g) ⟨none,none,none,[],[],U,SX.of (Qj.refl _),fd0⟩ ?_ ?_ ?_⟩⟩
  .rintro i σ G _ ⟨o3,o4,o5,fs,g,rfl,s,_⟩;exact s _ _ S eF
  .rintro i kv σ G t ⟨o3,o4,o5,fs,g,rfl,s2,O⟩;obtain⟨r,hri,rfl⟩:∃r,xs[i]?=some r/\kv=(Sum.inr r.d.nm,V.ref r.u):=by
    unfold wL dG at t;rw[qQ] at t
    cases e:xs[i]? with
    |none=>rw[e] at t;cases t
    |some r=>rw[e] at t;exact⟨r,U,(qN t).symm⟩
   have et:xs.take (i+1)=xs.take i++[r]:=by rw[zo,hri];rfl
   have hrx:=qL hri;rw[et];show YY _ _ _ _ _;rw[show kV (Sum.inr r.d.nm:Key)=V.str r.d.nm from rfl];have tk:∀{c ys},H1 c=some (.tup ys)->G c=some (.tup ys):=λ{c ys} e=>s2 _ _ (λz=>by rw[z,ef] at e;cases e) e;refine⟨_,U,_,U,B,kvs,be,r.d.nm,U,s2 _ _ fB L,M.mono λc ys e=>tk e,λX t2=>?_⟩;rw[hf r hrx];refine⟨_,U,fo,U,.inl ⟨_,.inl (t2 _ _ O.e)⟩,_,U,Vr,λd0 G3 nd0 t3 ed0=>?_⟩;have x:=t2.trans t3;have b:=O.keep (x _ _ O.e) λc ys e=>x _ _ e;have s3:SX fo H1 G3:=s2.trans (SX.of x);obtain⟨ov,c0,hg,hov,ec0⟩:∃(ov:Option V)(c0:qc),Q3 G3 fo (V.str (m r)) ov/\ov.getD (.ref d0)=.ref c0/\G3 c0=some (.tup [.int (nF m (xs.take i) (m r)),.int (uF m (sF be) (xs.take i) (m r))]):=by
    by_cases hm:m r∈fs
    .obtain⟨c,c1,c2⟩:=b.v _ hm;exact⟨_,c,Q3.k (k:=Sum.inr (m r)) b.e,by rw[c1];rfl,c2⟩
    .obtain⟨y,J,R⟩:=b.none hm;exact⟨_,d0,Q3.k (k:=Sum.inr (m r)) b.e,by rw[y];rfl,by rw[J,R];exact ed0⟩
   refine⟨ov,hg,?_⟩;rw[hov];refine⟨_,U,c0,_,_,_,U,U,jX.of ec0,QB (j:=0) rfl,_,_,U,U,?_⟩;refine⟨_,U,c0,_,_,_,U,U,jX.of ec0,QB (j:=1) rfl,?_⟩;refine⟨_,U,_,U,B,kvs,be,r.d.nm,U,s3 _ _ fB L,M.mono λc ys e=>x _ _ (tk e),bo,n64,λm4 G4 nm4 t4 e4=>?_⟩;refine⟨m4,_,U,.inl (zQ.of e4),U,KZ,.inr ⟨_,U,_,_,U,U,Vr,λc5 G5 nc5 t5 e5=>?_⟩⟩;rw[qG rfl,Ao] at e5;have R:=t4.trans t5;have y:=b.keep (R _ _ b.e) λc ys e=>R _ _ e;have kl:g.length<sizeLine:=by
    have h1:=zV List.length y.k2;rw[qh,qh] at h1;have J:=y.len;rw[zb] at J;rw[h1];exact QD (by omega)
   refine⟨_,U,_,U,fo,_,U,UJ.k (k:=Sum.inr (m r)) y.e kl,?_⟩;exact⟨_,_,_,_,_,U,(s3.trans (SX.of R)).trans λc o n e=>by rw[Qa n];exact e,y.put e5⟩
  .rintro σ G ⟨o3,o4,o5,fs,g,rfl,s2,O⟩;rw[GD,jw] at O;refine⟨s2 _ _ S eF,?_⟩;have y:=I G s2;have t:FdI (upd G d (.dK (wL xs))) fo m (sF be) xs fs g:=O.keep (by rw[Qa S.symm];exact O.e) λc ys e=>by rw[Qa (λz=>by rw[z,s2 _ _ S eF] at e;cases e)];exact e
   show YY _ _ _ _ _;generalize upd G d (.dK (wL xs))=X at y t⊢;have fl:=t.len;refine⟨_,U,fo,g,fs,U,t.e,t.k,(by omega),λl nl=>?_⟩;have s3:Qj H (upd X l (.lst ((Qz fs).map V.str))):=y.z6 (y.free nl);have R:(upd X l (.lst ((Qz fs).map V.str))) l=some (.lst ((Qz fs).map V.str)):=Qc;have t3:Qj X (upd X l (.lst ((Qz fs).map V.str))):=Qj.zi nl;have b:=t.keep (t3 _ _ t.e) λc ys e=>t3 _ _ e;generalize upd X l (.lst ((Qz fs).map V.str))=G3 at s3 R b⊢;have sl:(Qz fs).length<=40:=by rw[Uu];omega
   refine⟨l,U,⟨_,zQ.of R⟩,Nk (K:=K) (xs:=(Qz fs).map V.str) (λD i ys G=>∃qs:qa Mi,ys=(qs.map λq=>V.ref q.1)/\qs.map (·.2)=(Qz fs).take i/\i<=(Qz fs).length/\∀q∈qs,q.1≠D/\G q.1=some (.tup [.str q.2,.int (nF m xs q.2),.int (uF m (sF be) xs q.2)])) (by rw[qh];exact Q6 ((by omega))) (zQ.of R) (λD nD=>⟨[],U,by rw[vp];rfl,q0 _,λ_ z=>nomatch z⟩) ?_ ?_ ?_⟩
   .rintro D i ys G ⟨qs,rfl,J,h3,_⟩;have:=zV List.length J;rw[qh,zb] at this;rw[qh];omega
   .rintro D i v ys G4 Q' hv nD ⟨qs,rfl,J,h3,h4⟩ eD s4 q';obtain⟨f,rfl,x⟩:=Mq hv;have hfm:f∈fs:=Yl.mp (qL x);obtain⟨c,c1,c2⟩:=b.v f hfm;have dg:Q3 G4 fo (V.str f) (some (V.ref c)):=by have:=Q3.k (k:=Sum.inr f) (s4 _ _ b.e);rw[c1] at this;exact this
    have c4:=s4 _ _ c2;refine⟨_,U,_,U,_,U,fo,_,U,dg,c,_,_,_,U,U,jX.of c4,QB (j:=0) rfl,_,U,_,U,fo,_,U,dg,c,_,_,_,U,U,jX.of c4,QB (j:=1) rfl,Mj,λp G5 np t5 e5=>q' _ G5 t5 ⟨qs++[((p,f):Mi)],by rw[qI];rfl,?_,?_,λq hq=>?_⟩⟩
    .rw[qI,J,zo,x];rfl
    .have:=(qY.mp x).1;omega
    .have pD:p≠D:=(Qb eD np).symm;rcases qr.mp hq with z|z
     .obtain⟨z1,z2⟩:=h4 q z;exact⟨z1,by rw[Qa z1];exact t5 _ _ z2⟩
     .rw[qk.mp z];exact⟨pD,by rw[Qa pD];exact e5⟩
   .rintro D ys G4 nD ⟨qs,rfl,J,h3,h4⟩ s4 eD;rw[qh,jw] at J;exact k D G4 qs fs (s3.trans s4) b.nd b.m J eD λq hq=>(h4 q hq).2
def Cj(a:xs.Nodup)(b:ys.Nodup)(h:∀m,m∈xs↔m∈ys):xs.Perm ys:=(yF a b).mpr h
def OD{α:Type}:∀(l:qa α)(p:α->Bool),l.length=(l.filter p).length+(l.filter λx=>!p x).length
 |[],_=>rfl
 |x::l,p=>by
  have a:=OD l p;rw[qM,qM];cases p x<;>simp<;>omega
def tZ(bx:Rows)(r:Rw):qb:=(L2.up bx r.d.nm).getD ""
section
variable {ws:qe}{ls:qa LE}{bx:Rows}{mk:qb->qe}{xs:qa Rw}{be:qa Ent}
def pf.nms(c:pf ws ls bx mk xs be)(m:qb):m∈(xs.map λr=>r.d.nm)↔m∈ls.map LE.nm:=by
 constructor
 .intro h;obtain⟨r,a,rfl⟩:=qj.mp h;obtain⟨l,b,e⟩:=c.x1 r a;rw[e];exact qj.mpr ⟨l,b,U⟩
 .intro h;obtain⟨l,b,rfl⟩:=qj.mp h;obtain⟨r,a,e⟩:=c.x2 l b;exact qj.mpr ⟨r,a,by rw[e];rfl⟩
def pf.names(b:pf ws ls bx mk xs be)(a:(ls.map LE.nm).Nodup):Qz (xs.map λr=>r.d.nm)=Qz (ls.map LE.nm):=YJ (Cj b.nd a b.nms)
def pf.at(a:pf ws ls bx mk xs be)(d:r∈xs):∃l∈ls,r.d.nm=l.nm/\L2.up bx l.nm=some (tZ bx r)/\Ap be l.nm=.str (tZ bx r)/\tZ bx r∈Zp::ws/\r.d=.put l.nm l.p:=by
 obtain⟨l,b,e⟩:=a.x1 r d;have c:r.d.nm=l.nm:=by rw[e];rfl
 obtain⟨fo,f1,f2,f⟩:=a.fo l b;have g:tZ bx r=fo:=by unfold tZ;rw[c,f1];rfl
 rw[g];exact⟨l,b,c,f1,f2,f,e⟩
def pf.fold(a:pf ws ls bx mk xs be)(b:r∈xs):Ap be r.d.nm=.str (tZ bx r):=by
 obtain⟨l,_,c,_,e,_⟩:=a.at b;rw[c];exact e
def pf.some(c:pf ws ls bx mk xs be)(a:(bx.map (·.1)).Nodup)(p:Rw->Bool)(q:qb->Bool)(g:∀r∈xs,p r=q r.d.nm)(f:qb):((xs.filter λr=>decide (tZ bx r=f)&&p r).map λr=>r.d.nm).Perm ((QP bx f).filter q):=by
 refine Cj (jI (zH.map _) c.nd) ((jI (zH.map _) a).filter _) λm=>?_;rw[qo,Xl a];constructor
 .intro h;obtain⟨r,d,rfl⟩:=qj.mp h;obtain⟨b,e⟩:=qo.mp d;obtain⟨i,j⟩:=zZ.mp e;obtain⟨l,o,k,n,_⟩:=c.at b;exact⟨by rw[k,n,ql i],by rw[<-g r b];exact j⟩
 .rintro⟨b,e⟩;have i:m∈bx.map (·.1):=qj.mpr ⟨(m,f),WV b,U⟩;obtain⟨r,d,rfl⟩:=qj.mp ((c.nms m).mpr ((c.bm m).mp i));refine qj.mpr ⟨r,qo.mpr ⟨d,zZ.mpr ⟨qt ?_,by rw[g r d];exact e⟩⟩,U⟩;unfold tZ;rw[b];rfl
def pf.ins(b:pf ws ls bx mk xs be)(a:(bx.map (·.1)).Nodup)(f:qb):((xs.filter λr=>decide (tZ bx r=f)).map λr=>r.d.nm).Perm (QP bx f):=by
 have:=b.some a (λ_=>true) (λ_=>true) (λ_ _=>rfl) f;rw[show(QP bx f).filter (λ_=>true)=QP bx f from jV.mpr λ_ _=>rfl] at this;have e:(λr:Rw=>decide (tZ bx r=f)&&true)=λr=>decide (tZ bx r=f):=by funext r;rw[Bool.and_true]
 rw[e] at this;exact this
def pf.cn(b:pf ws ls bx mk xs be)(a:(bx.map (·.1)).Nodup)(f:qb):nF (tZ bx) xs f=cN bx f:=by
 unfold nF cN;rw[<-(b.ins a f).length_eq,qh]
def cq{a b c:Nat}(h:c=a+b):((b:Nat):Int)=(c:Int)-(a:Int):=by omega
def pf.cu(a:pf ws ls bx mk xs be)(b:(bx.map (·.1)).Nodup)(f:qb):uF (tZ bx) (sF be) xs f=cU bx mk f:=by
 have h:=a.some b (sF be) (λn=>!decide (JP∈mk n)) (λr d=>by
  obtain⟨l,c,e,_⟩:=a.at d;unfold sF;rw[e,a.mk_ l c];congr 1;exact decide_eq_decide.mpr Yl) f
 have c:=h.length_eq;rw[qh] at c;unfold uF cU nMk;rw[c];exact cq (OD (QP bx f) λn=>decide (JP∈mk n))
def pf.fs(c:pf ws ls bx mk xs be)(a:(bx.map (·.1)).Nodup)(f:qb):QP bx f≠[]↔∃r∈xs,tZ bx r=f:=by
 have p:=c.ins a f;constructor
 .intro h;obtain⟨m,hm⟩:=List.exists_mem_of_ne_nil _ h;obtain⟨r,b,_⟩:=qj.mp (p.mem_iff.mpr hm);obtain⟨d,g⟩:=qo.mp b;exact⟨r,d,ql g⟩
 .rintro⟨r,b,e⟩ z;have:r.d.nm∈QP bx f:=p.mem_iff.mp (qj.mpr ⟨r,qo.mpr ⟨b,qt e⟩,U⟩);rw[z] at this;cases this
def pf.have(b:pf ws ls bx mk xs be)(c:(ls.map LE.nm).Nodup)(i:t≠Str.empty):Qz ((xs.filter λr=>decide (t∈tf (tbD r.d))).map λr=>r.d.nm)=Qz (Y4 (ls.map λl=>(l.nm,lwd l.p)) t):=by
 have hm:∀{l:LE},t∈lwd l.p↔t∈tf (tbD (.put l.nm l.p)):=λ{l}=>by
  show _↔t∈tf ((l.p.t++" ")++l.p.b);rw[fD i];unfold lwd;rw[Ht];exact⟨I0,Lr⟩
 refine YJ (Cj (jI (zH.map _) b.nd) ?_ λm=>?_)
 .unfold Y4;refine jI (zH.map _) ?_;rw[qT];exact c
 .unfold Y4;constructor
  .intro h;obtain⟨r,d,rfl⟩:=qj.mp h;obtain⟨f,a⟩:=qo.mp d;obtain⟨l,g,e⟩:=b.x1 r f;rw[e] at a⊢;exact qj.mpr ⟨(l.nm,lwd l.p),qo.mpr ⟨qj.mpr ⟨l,g,U⟩,qt (hm.mpr (ql a))⟩,U⟩
  .intro h;obtain⟨q,j,rfl⟩:=qj.mp h;obtain⟨f,a⟩:=qo.mp j;obtain⟨l,g,rfl⟩:=qj.mp f;obtain⟨r,d,e⟩:=b.x2 l g;exact qj.mpr ⟨r,qo.mpr ⟨d,by rw[e];exact qt (hm.mp (ql a))⟩,by rw[e];rfl⟩
end
def Fc:∀{ts:qa (qe)},(∀t∈ts,∀x∈t,ud x)->PyData.canLayAll0 (ts.map λt=>PyData.list (t.map PyData.str))=true/\PyData.depthAll (ts.map λt=>PyData.list (t.map PyData.str))<=1
 |[],_=>⟨U,q0 _⟩
 |t::ts,h=>by
  obtain⟨a1,a2⟩:=Fc (ts:=ts) λz hz=>h z (qF _ hz);obtain⟨a,b⟩:=DC (xs:=t) (h t qz);rw[qU];refine⟨?_,?_⟩
  .show(PyData.canLayAll0 (t.map PyData.str)&&PyData.canLayAll0 (ts.map λt=>PyData.list (t.map PyData.str)))=true;rw[a,a1];rfl
  .show max (PyData.depthAll (t.map PyData.str)+1) (PyData.depthAll (ts.map λt=>PyData.list (t.map PyData.str)))<=1;omega
def AU{K:Frag}{H:Hp}:∀{ls:qa (qc×qe)},(∀p∈ls,H p.1=some (.lst (p.2.map V.str)))->RDs K H (ls.map λp=>V.ref p.1) ((ls.map (·.2)).map λt=>PyData.list (t.map PyData.str))
 |[],_=>.nil
 |p::ls,h=>.cons (Uz (zQ.of (h p qz))) (AU λq a=>h q (qF _ a))
def T3{ts:qa (qe)}(h:∀t∈ts,∀x∈t,ud x):SeqAt.shaped (.list (ts.map λt=>PyData.list (t.map PyData.str)))=true:=by
 have q:=Fc h;have a:=q.2;simp[SeqAt.shaped,PyData.canLay0,PyData.depth,q.1];omega
def LP(n u:qb->Int)(f:qb):PyData:=.tuple [.str f,.int (n f),.int (u f)]
def FW{K:Frag}{H:Hp}{n u:qb->Int}:∀{fs:qa Mi},(∀q∈fs,H q.1=some (.tup [.str q.2,.int (n q.2),.int (u q.2)]))->RDs K H (fs.map λq=>V.ref q.1) ((fs.map (·.2)).map (LP n u))
 |[],_=>.nil
 |p::fs,h=>.cons (.tup (jX.of (h p qz)) (.cons (.str _) (.cons (.int _) (.cons (.int _) .nil)))) (FW λq a=>h q (qF _ a))
def OE{n u:qb->Int}:∀{fs:qe},(∀f∈fs,ud f)->PyData.canLayAll0 (fs.map (LP n u))=true/\PyData.depthAll (fs.map (LP n u))<=1
 |[],_=>⟨U,q0 _⟩
 |f::fs,h=>by
  obtain⟨a1,a2⟩:=OE (n:=n) (u:=u) (fs:=fs) λz hz=>h z (qF _ hz);have a:=(h f qz).ok;rw[qU];refine⟨?_,?_⟩
  .simp[LP,PyData.canLayAll0,PyData.canLay0,a,a1]
  .simp[LP,PyData.depthAll,PyData.depth];omega
def gn{n u:qb->Int}{fs:qe}(h:∀f∈fs,ud f):SeqAt.shaped (.list (fs.map (LP n u)))=true:=by
 have q:=OE (n:=n) (u:=u) h;have a:=q.2;simp[SeqAt.shaped,PyData.canLay0,PyData.depth,q.1];omega
def aq{c tB:TT}{ts:TS}{D:Wl}(b:Bool)(e:∀Q:Bool->Hp->Prop,Q b G->c σ G Q)(f:b=true->∀Q:Bool->Hp->Prop,(∀a,Qj G a->Q false a)->tB σ G Q)(d:∀a,Qj G a->D.nx σ a):bw (bA c tB) ts RZ D σ G:=by
 refine e _ ?_
 cases b with
 |false=>exact QU (QU (d G (Qj.refl _)))
 |true=>exact Ya (f rfl _ λa s=>QU (d a s))
inductive Ik(K:Frag)(a:yD)(vs:qa V)(H:Hp)(Q:VK)(E:XK):Prop
 |mk:∀(A:WA)(ns:qa Int)(D:WD)(nw:Nat)(own:qc->Nat)(b db xr L xt xi xf:qc)(es:qa Ent)(ls:qa LE)(bx:Rows)(mk:qb->qe)(n:Nat)(R:qc)(rs:qa Rw),
   vs=[.ref A.st,.ref A.s,.ref b,.ref R]->kJ K H A ns D->rF nw D->ns.length<=63->vS a H own b db xr L xt xi xf es ls bx mk D.words (Zp::D.words) D.words n->BI rs ls bx mk->own A.st=7->H R=some (.lst (rs.map λr=>V.ref r.x))->(∀r∈rs,XT H r)->(∀r∈rs,XS D.words r)->rs.length<=63->(putN rs).Nodup->(putN rs).length<=40->(∀m∈putN rs,UE m) ->
   (∀H',SX A.st H H'->kJ K H' A ns D->Q (.bl true) H')->Ik K a vs H Q E
def vS.sx(h:vS a H own b db xr L xt xi xf es ls bx mk WI W M n){xs:qa V}(e:H st=some (.lst xs))(o:own st=7)(x:SX st H H'):vS a H' (grow own 7 H) b db xr L xt xi xf es ls bx mk WI W M n:=
 h.law ((show KX [st] H H' from λc o n e=>x c o (λz=>n (qk.mpr z)) e).kpo λc hc=>by rw[qk.mp hc];exact⟨⟨_,e,U⟩,o⟩)
def DH{c tB:TT}{ts rest:TS}{D:Wl}(b:Bool)(d:∀Q:Bool->Hp->Prop,Q b G->c σ G Q)(e:b=true->∀Q:Bool->Hp->Prop,(∀a,Qj G a->Q false a)->tB σ G Q)(f:∀a,Qj G a->rest D σ a):YY (bw (bA c tB) ts RZ) rest D σ G:=aq b d e f
def gx:∀c∈Zp.cps.toList,c<128:=by decide +kernel
def Fy(h:UE m):m≠("":qb):=λz=>by have:=h.lo;rw[z] at this;exact absurd this (by decide +kernel)
def PD(F:zX K Z2 Z2 W8 a.ur fd)(T:Txt P w K mg base a)(o:Yz K a):T.fq j6 12 a.ur fd [Za,Zn,Zy,Z3] (Ik K a):=by
 obtain⟨fd1,lg,Qb1⟩:=o.lg;have Qb8:=Tf lg T;obtain⟨fd2,z5,yq⟩:=o.z5;have yr:=KS z5 T o;obtain⟨fd3,vP,tJ⟩:=o.vP;have tQ:=Tb vP T o;obtain⟨fd4,kM,pP⟩:=o.kM;have rf:=Hl kM T o;obtain⟨fd5,lj,Qb3⟩:=o.lj;have Qca:=Tu lj T o;obtain⟨fd6,F6,mO⟩:=o.nv;have mY:=MI F6 T o;obtain⟨fd7,wx,QaB⟩:=o.wx;have QaL:=I9 wx T o;obtain⟨fd8,F8,pT⟩:=o.rA;have rk:=PJ F8 T;obtain⟨fd9,uD,Qbi⟩:=o.uD;have Qbp:=MM uD T o;obtain⟨fdA,FA,mP⟩:=o.nz;have mZ:=Lc FA T o;obtain⟨fdB,wC,QaE⟩:=o.wC;have QaO:=Lb wC T o;obtain⟨fdC,jM,vX⟩:=o.jM;have vY:=Gv jM T;obtain⟨fdD,FD,oY⟩:=o.pw;have pj:=PM FD T;refine F.ok U7 (λcdv A0 outer s H vs Q E M h=>?_)
 .obtain⟨A,ns,D,nw,own,b,db,xr,L,xt,xi,xf,es,ls,bx,mk,n,R,rs,rfl,hw,ok,hns,bd,bi,ost,eR,ra,ro,h63,pnd,h40,pws,k⟩:=h;have hu:=Q5 M;have O:=M.units;have S:QG 11 _:=M;have hr3:QG 3 _:=S.mono;have Z:QG 2 _:=S.mono;have hr1:QG 1 _:=S.mono;refine⟨_,(Qd (Gs (Qk Qb8 hr1 rfl T.QbQ lg.kp Qb1 .nil Ql (zg (pv 3) Qe)) (SR rfl (Xf (Ye (i:=4) U7.nd) (Xf (Ye (i:=5) U7.nd) Ot))))
   (Qd (Qr (i:=6) U7.nd (Qk yr Z rfl T.vq z5.kp yq .nil Ql (zg (pv 0) (zg (pv 1) Qe))))
   (Qd (Ud zx rfl (YD (Qk tQ Z rfl T.tr vP.kp tJ .nil Ql (zg (pv 0) (zg (Yf (Qh Qi (Qh Qi (Qh Qi (Qh Qi (Qh Qi (Qh Qi Qu))))))) Qe)))) (Ye (i:=7) U7.nd) (Qd (QV (PW.pt (Vx (Qt YQ (pv 7) Qi) (U0 (U3 (UH (Qk rf hr3 rfl T.pG kM.kp pP .nil Ql (zg (pv 2) (zg (QC (Yd rfl) rfl T.jR boot_sorted (zg (pv 4) Qe)) Qe)))))))) (Qf (Qw YW)) QE)
   (Qd (QV (PW.pt (Vx (Qt YQ (pv 7) Qi) (U0 (U3 (UH (Qk Qca S rfl T.QbS lj.kp Qb3 .nil Ql (zg (pv 2) (zg (pv 4) (zg (pv 5) Qe))))))))) (Qf (Qw YW)) QE)
   (Qd (QV (PW.pt (Vx (Qt YQ (pv 7) Qi) (U0 (Qt (WY O) (Y9 (Qm (pv 2) U) T.zW T.mS mY hr3 mO .nil Ql) (Qk QaL Z rfl T.Qao wx.kp QaB .nil Ql (zg (pv 4) Qe)))))) (Qf (Qw YW)) QE)
   (Qd (QV (PW.pt (Vx (Qt YQ (pv 7) Qi) (U0 (Qt (WY O) (QN (Qm (pv 2) U) T.j0 T.pZ rk hr1 pT .nil Ql (zg (pv 6) Qe)) (Qk Qbp Z rfl T.Qa8 uD.kp Qbi .nil Ql (zg (pv 4) (zg (pv 6) Qe))))))) (Qf (Qw YW)) QE)
   (Qd (QV (PW.pt (Vx (Qt YQ (pv 7) Qi) (U0 (Qt (WY O) (Y9 (Qm (pv 2) U) T.q8 T.mU mZ hr3 mP .nil Ql) (Qk QaO Z rfl T.Qar wC.kp QaE .nil Ql (zg (pv 4) (zg (pv 5) Qe))))))) (Qf (Qw YW)) QE)
   (Qd (KI (XA (sc:=Qg W8) (N:=Dk) (i:=8) (fr:=[(6,ZF),(5,Zj)]) (cs_ rfl rfl) rfl rfl rfl U7.nd U rfl (Kf (pv 4)) (λ_ _ _ _=>We (Qt YQ (Qk vY hr1 rfl T.lS jM.kp vX .nil Ql (zg (pv 2) (zg (pv 0) Qe))) (pv 1))) (λ_ _ _ _=>(pv 0))))
   (Qf (QV (PW.pt (Vx (Qt YQ (pv 7) Qi) (U0 (Qt (WY O) (QN (Qm (pv 2) U) T.q8 T.pe pj hr1 oY .nil Ql (zg (pv 6) Qe)) (QC VZ rfl T.jR boot_sorted (zg (pv 8) Qe)))))) (Qf (Qw YW)) QE)))))))))
   (Qf (Qw YW))))),?_⟩
  refine⟨_,U,R,rs,U,eR,ra,h63,pnd,λt j B kvs H1 s1 nL nB et eL eB hE=>⟨t,_,U,jX.of et,U,_,_,U,_,_,U,U,?_⟩⟩;dsimp only[BM];have wwd:∀w∈D.words,UE w:=λw hw=>(ok.ws w hw).1;have wasc:∀w∈Zp::D.words,ud w:=λw hw=>(qJ.mp hw).elim (λz=>by rw[z];exact λc hc=>gx c hc) λz=>(wwd w z).asc;obtain⟨Ff0,ff0,_,_⟩:=bd.f;obtain⟨_,_,_,_,_,_,_,fi0,_⟩:=id ff0;have bnd:(bx.map (·.1)).Nodup:=fi0.nd;have lnd:(ls.map LE.nm).Nodup:=bd.l.nd;have g:pf D.words ls bx mk (K9 (Yw rs) rs) (Q0 rs):=ig (λw hw=>Fy (wwd w hw)) wasc ro bi pnd h63 h40 λm hm=>ff0.Qdm hm;have lgd:∀l∈ls,Kx l.p.s l.p.t l.p.b l.p.d l.p.an:=λl hl=>(bd.l.at_ l hl).2;have lws:∀m∈ls.map LE.nm,UE m:=λm hm=>pws m (bi.Qa2 hm).1;have hx1:∀r∈K9 (Yw rs) rs,XT H1 r:=λr M=>(ra r (qo.mp M).1).tups λc ys e=>s1 _ _ e;have lL:=bd.quiet s1;have w1:=hw.same s1;have o71:grow own 7 H j=7:=by unfold grow;rw[nL]
  obtain⟨sx0,C⟩:=hw.sa.lst;have QdM:grow own 7 H A.st=7:=by rw[Qo C];exact ost
  have Lst:j≠A.st:=λz=>by rw[z,C] at nL;cases nL
  have Bst:B≠A.st:=λz=>by rw[z,C] at nB;cases nB
  have eL:H1 j=some (.dK (wL (K9 (Yw rs) rs))):=eL;generalize hLL:K9 (Yw rs) rs=xs at g hx1 eL;generalize hbe:Q0 rs=be at g hE;generalize grow own 7 H=own1 at lL o71 QdM;refine⟨_,U,_,U,A,ns,D,nw,U,w1,ok,hns,λwd H2 hwd x2 w2=>?_⟩;have kt2:∀{c ys},H1 c=some (.tup ys)->H2 c=some (.tup ys):=λ{c ys} e=>x2 _ _ (λz=>by rw[z,s1 _ _ C] at e;cases e) e;have uy:=lL.sx (s1 _ _ C) QdM x2;have o72:grow own1 7 H1 j=7:=by rw[Qo eL];exact o71
  have ost2:grow own1 7 H1 A.st=7:=by rw[Qo (s1 _ _ C)];exact QdM
  have eL2:=x2 _ _ Lst eL;have eB2:=x2 _ _ Bst eB;generalize grow own1 7 H1=own2 at uy o72 ost2;refine⟨_,U,zl_6,λp3 H3 np3 s3 e3=>?_⟩;have w3:=w2.same s3;obtain⟨sx2,X⟩:=w2.sa.lst;have pst:p3≠A.st:=(Qb X np3).symm;refine⟨A.st,A.sc,p3,ns,_,U,w3.sa,hns,pst,e3,(by show 6<=100;decide),λl4 ys H4 nl4 pm x4 sa4 e4=>?_⟩;have bd4:=(uy.quiet s3).sx (s3 _ _ X) (by rw[Qo X];exact ost2) x4;have u:=x4 _ _ Lst (s3 _ _ eL2);have eB4:=x4 _ _ Bst (s3 _ _ eB2);have o74:grow (grow own2 7 H2) 7 H3 j=7:=by rw[Qo (s3 _ _ eL2),Qo eL2];exact o72
  have kt4:∀c ys,H1 c=some (.tup ys)->H4 c=some (.tup ys):=λc ys e=>x4 _ _ (λz=>by have:=s3 _ _ (kt2 e);rw[z,s3 _ _ X] at this;cases this) (s3 _ _ (kt2 e));have hE4:=hE.mono kt4;have hx4:∀r∈xs,XT H4 r:=λr M=>(hx1 r M).tups kt4;have w4:=w3.sx x4 sa4;have xall:SX A.st H H4:=(((SX.of s1).trans x2).trans (SX.of s3)).trans x4;generalize grow (grow own2 7 H2) 7 H3=own4 at bd4 o74;have noe:NoE (Vd ls):=λm hm=>Fy (lws m (by rw[qT] at hm;exact hm));have J:∀m∈ls.map LE.nm,ud m:=λm hm=>(lws m hm).asc;have lnl:ls.length<=40:=by
   have:=YM lnd (l:=xs.map λr=>r.d.nm) λm hm=>(g.nms m).mpr hm;rw[qh,qh] at this;have:=g.len;omega
  have xlen:=g.len;refine⟨l4,U,⟨_,zQ.of e4⟩,YN (K:=K) (xs:=ys) (λi σ G=>∃(o7 o8:Option V),σ=[some (.ref A.st),some (.ref A.s),some (.ref b),some (.ref R),some (.ref j),some (.ref B),some (.str wd),o7,o8]/\Qj H4 G) ⟨none,none,U,Qj.refl _⟩ ?_ ?_ ?_⟩
  .rintro i σ G _ ⟨o7,o8,rfl,s⟩;exact zQ.of (s _ _ e4)
  .rintro i v σ G hv ⟨o7,o8,rfl,d⟩;obtain⟨z,rfl⟩:∃z,v=V.int z:=by
    have:=pm.mem_iff.mp (qL hv);simp only[qJ,je,wQ] at this;rcases this with h|h|h|h|h|h<;>exact⟨_,h⟩
   show YY _ _ _ _ _;have bq:∀{G},Qj H4 G->vS a G (grow own4 7 H4) b db xr L xt xi xf es ls bx mk D.words (Zp::D.words) D.words n:=λs=>bd4.quiet s;have hxq:∀{G},Qj H4 G->∀r∈xs,XT G r:=λs r M=>(hx4 r M).tups λc ys e=>s _ _ e;have Y:∀(k:Int)(G:Hp)(Q:Bool->Hp->Prop),Q (decide (z=k)) G->Fz Q (.bl (decide (V.int z=V.int k))) G:=λk G Q q=>⟨_,U,by rw[gf];exact q⟩;refine DH (decide (z=0)) (λQ q=>⟨_,U,U,Y 0 _ _ q⟩) (λ_ Q q=>?_) (λG1 t1=>?_)
   .refine⟨_,U,_,U,j,_,xs.map (λr=>r.d.nm),U,d _ _ u,As _ _ _,(by rw[qh];omega),λI y=>?_⟩;rw[g.names lnd];have sd:Qj G (upd G I (.lst ((Qz (ls.map LE.nm)).map V.str))):=Qj.zi y;refine⟨_,b,db,xr,L,xt,xi,xf,es,ls,bx,mk,_,_,_,n,I,U,bq (d.trans sd),J,(by omega),Qc,λH' s'=>⟨_,U,q H' (sd.trans s')⟩⟩
   .replace d:=d.trans t1;refine DH (decide (z=1)) (λQ q=>⟨_,U,U,Y 1 _ _ q⟩) (λ_ Q q=>?_) (λG2 t2=>?_)
    .exact⟨_,U,_,U,_,U,_,b,db,xr,L,xt,xi,xf,es,ls,bx,mk,_,_,_,n,D.words,j,B,kvs,be,xs,U,bq d,(by rw[Qo u];exact o74),g,hxq d,d _ _ u,d _ _ eB4,hE4.mono (λc ys e=>d _ _ e),λH' s'=>⟨_,U,q H' s'⟩⟩
    .replace d:=d.trans t2;refine DH (decide (z=2)) (λQ q=>⟨_,U,U,Y 2 _ _ q⟩) (λ_ Q q=>?_) (λG3 t3=>?_)
     .have bG:=bq d;obtain⟨dxt,L2',R2',krT,thT,q1,q2,oxt,_⟩:=id bG.t;refine⟨_,U,b,_,db,_,_,U,bG.e,T.zp,T.xY,U,xt,dxt,_,U,thT.obj,U,xt,_,n,U,⟨dxt,L2',R2',krT,thT,q1,q2⟩,noe,λl H' lt nl s' hp e1 th=>?_⟩;have sH:=d.trans s';refine⟨_,U,j,xs,ls,U,sH _ _ u,g.nd,g.x1,g.x2,hxq sH,lnd,noe,J,g.len,λl2 I lt2 y e2 th2=>?_⟩;have r1:RD K I (.ref l) (.list ((lt.map (·.2)).map λt=>PyData.list (t.map PyData.str))):=.lst (zQ.of (y _ _ th.1)) (AU λp hp=>y _ _ (th.2 p hp));have r2:RD K I (.ref l2) (.list ((lt2.map (·.2)).map λt=>PyData.list (t.map PyData.str))):=.lst (zQ.of th2.1) (AU th2.2);rw[e1] at r1;rw[e2] at r2;refine Wg r1 r2 (T3 λt ht x hx=>?_) ⟨_,U,q I (s'.trans y)⟩;obtain⟨m,_,rfl⟩:=Gn _ ht;have:=(XE.mp hx).1;rw[qT] at this;exact J x this
     .replace d:=d.trans t3;refine DH (decide (z=3)) (λQ q=>⟨_,U,U,Y 3 _ _ q⟩) (λ_ Q q=>?_) (λG4 t4=>?_)
      .have bG:=bq d;obtain⟨Fi,ix,oxi,_⟩:=id bG.i;obtain⟨dxi,E1,B1,exi⟩:=ix.obj;refine⟨_,U,b,_,db,_,_,U,bG.e,T.zp,T.xW,U,xi,dxi,_,U,exi,U,_,U,xi,_,_,n,Fi,wd,U,ix,λl H' nl s' e'=>?_⟩;have sH:=d.trans s';refine⟨_,U,_,U,j,xs,ls,wd,U,sH _ _ u,g.nd,g.x1,hxq sH,lgd,g.len,λl2 I nl2 y e2=>?_⟩;rw[g.have lnd (Fy (wwd wd hwd))] at e2;refine Wg (Uz (zQ.of (y _ _ e'))) (Uz (zQ.of e2)) (YV λm hm=>?_) ⟨_,U,q I (s'.trans y)⟩;obtain⟨qq,hq,rfl⟩:=qj.mp (Yl.mp hm);obtain⟨l,hl,rfl⟩:=qj.mp (qo.mp hq).1;exact J _ (zI hl)
      .replace d:=d.trans t4;refine DH (decide (z=4)) (λQ q=>⟨_,U,U,Y 4 _ _ q⟩) (λ_ Q q=>?_) (λG5 t5=>?_)
       .have bG:=bq d;obtain⟨Ff,ff,oxf,oFf⟩:=id bG.f;obtain⟨dxf,X1,T1,N1,exf⟩:=ff.obj;refine⟨_,U,b,_,db,_,_,U,bG.e,T.zp,T.ji,U,xf,dxf,_,U,exf,U,xf,bx,mk,_,_,n,Ff,U,ff,λl H' fs ks knd kl km efs nl s' fol=>?_⟩;have sH:=d.trans s';refine⟨_,U,_,U,j,B,kvs,be,xs,tZ bx,U,sH _ _ u,sH _ _ eB4,hE4.mono (λc ys e=>sH _ _ e),g.bo,g.n64,g.len,(λr M=>g.fold M),λl2 I qs fs2 y fnd fm eqs el2 et2=>?_⟩;have ek:Qz ks=Qz fs2:=YJ (Cj knd fnd λf=>by rw[km,fm];exact g.fs bnd f);have r1:RD K I (.ref l) (.list ((fs.map (·.2)).map (LP (cN bx) (cU bx mk)))):=.lst (zQ.of (y _ _ fol.1)) (FW λp hp=>y _ _ (fol.2 p hp));have r2:RD K I (.ref l2) (.list ((qs.map (·.2)).map (LP (cN bx) (cU bx mk)))):=.lst (zQ.of el2) (FW λp hp=>by rw[et2 p hp,g.cn bnd,g.cu bnd]);rw[efs,ek] at r1;rw[eqs] at r2;refine Wg r1 r2 (gn λf hf=>?_) ⟨_,U,q I (s'.trans y)⟩;obtain⟨r,M,rfl⟩:=(fm f).mp (Yl.mp hf);obtain⟨_,_,_,_,_,f3,_⟩:=g.at M;exact wasc _ f3
       .replace d:=d.trans t5;refine⟨j,_,d _ _ u,λI=>?_⟩;have eF:(upd G5 j (.jG I (.dK (wL xs)))) j=some (.jG I (.dK (wL xs))):=Qc;have y:∀G,Qj (upd G5 j (.jG I (.dK (wL xs)))) G->Qj G5 (upd G j (.dK (wL xs))):=λG s=>Gp (d _ _ u) s;have kt5:∀c ys,H4 c=some (.tup ys)->(upd G5 j (.jG I (.dK (wL xs)))) c=some (.tup ys):=λc ys e=>by rw[Qa (λz=>by rw[z,u] at e;cases e)];exact d _ _ e
        have eB5:(upd G5 j (.jG I (.dK (wL xs)))) B=some (.dT kvs):=by rw[Qa (λz=>by rw[z,u] at eB4;cases eB4)];exact d _ _ eB4
        have hE5:=hE4.mono kt5;generalize upd G5 j (.jG I (.dK (wL xs)))=G6 at eF y hE5 eB5⊢;refine⟨_,U,j,_,U,.inl ⟨I,eF,BQ (xs:=xs) (λr=>V.str r.d.nm) (λr=>decide (tZ bx r=wd)) (λr=>V.str r.d.nm) (Q6 ((by omega))) eF (by rw[As,qT];rfl) ?_ ?_ ?_⟩⟩
        .intro r H3 Q' hrx s3 q';refine⟨_,U,_,U,B,kvs,be,r.d.nm,U,s3 _ _ eB5,hE5.mono (λc ys e=>s3 _ _ e),λH' s'=>?_⟩;rw[g.fold hrx];refine⟨_,U,U,_,U,?_⟩;rw[Um];exact q' H' s'
        .intro r H3 Q' hrx s3 _ q';exact⟨_,U,q' H3 (Qj.refl _)⟩
        .intro Di G7 nD s7 eD;refine⟨s7 _ _ eF,?_⟩;have sG7:=y G7 s7;have DL:Di≠j:=λz=>by rw[z,eF] at nD;cases nD
         have eD7:(upd G7 j (.dK (wL xs))) Di=some (.lst (((xs.filter λr=>decide (tZ bx r=wd)).map λr=>r.d.nm).map V.str)):=by rw[Qa DL,eD,qT];rfl
         generalize upd G7 j (.dK (wL xs))=G8 at sG7 eD7⊢;replace d:=d.trans sG7;dsimp only;refine aq (decide (z=5)) (λQ q=>⟨_,U,U,Y 5 _ _ q⟩) (λ_ Q q=>?_) (λG9 t9=>?last)
         case last=>exact⟨_,_,U,d.trans t9⟩
         have bG:=bq d;obtain⟨Ff,ff,oxf,oFf⟩:=id bG.f;obtain⟨dxf,X1,T1,N1,exf⟩:=ff.obj;refine⟨_,U,b,_,db,_,_,U,bG.e,T.zp,T.ji,U,xf,dxf,_,U,exf,U,_,U,xf,bx,mk,_,_,n,Ff,wd,U,ff,λl H' nl s' e'=>?_⟩;have pr:=g.ins bnd wd;have fl:=qW (λr:Rw=>decide (tZ bx r=wd)) xs;refine⟨_,U,Di,_,U,zQ.of (s' _ _ eD7),(by rw[qh];omega),λl2 nl2=>?_⟩;rw[YJ pr];have s9:Qj H' (upd H' l2 (.lst ((Qz (QP bx wd)).map V.str))):=Qj.zi nl2;refine Wg (Uz (zQ.of (s9 _ _ e'))) (Uz (zQ.of Qc)) (YV λm hm=>?_) ⟨_,U,q _ (s'.trans s9)⟩;have:=(pr.mem_iff.mpr (Yl.mp hm));obtain⟨r,M,rfl⟩:=qj.mp this;exact J _ ((g.nms _).mp (qj.mpr ⟨r,(qo.mp M).1,U⟩))
  .rintro σ G ⟨o7,o8,rfl,d⟩;exact k G (xall.trans (SX.of d)) (w4.same d)
def PU(ok:rF n D)(b:D.names.Nodup):D.names.length<=40:=by
 have h:=YM b (l:=D.hands.flatMap λh=>(List.range 9).map λn=>h++dig ((n:Nat):Int)) λx c=>by
  obtain⟨k,h,p,m,a,d,f,g,e⟩:=ok.nm x c;have i:=ok.pb p (qL d);exact List.mem_flatMap.mpr ⟨h,qL a,qj.mpr ⟨m,xk.mpr (by omega),e.symm⟩⟩
 have d:∀a:qe,(a.flatMap λh=>(List.range 9).map λn=>h++dig ((n:Nat):Int)).length=9*a.length:=λa=>by
  induction a with
  |nil=>rfl
  |cons x xs e=>rw[List.flatMap_cons,qx,e,qh,jP,qV];omega
 rw[d] at h;have:=ok.hs.n1;omega
def ES{ps:qa Rw}(p:ps.Perm rs):(putN ps).Perm (putN rs):=(p.filter _).map _
structure BX where
 own:qc->Nat
 b:qc
 db:qc
 xr:qc
 L:qc
 xt:qc
 xi:qc
 xf:qc
 rs:qa Rw
 ls:qa LE
 bx:Rows
 mf:qb->qe
 n:Nat
structure BXk(a:yD)(ws:qe)(G:Hp)(X:BX):Prop where
 bd:vS a G X.own X.b X.db X.xr X.L X.xt X.xi X.xf (Yh X.rs) X.ls X.bx X.mf ws (Zp::ws) ws X.n
 bi:BI X.rs X.ls X.bx X.mf
 hn:X.n<=(putN X.rs).length
def BX.gr(X:BX)(G:Hp):BX:={X with own:=grow X.own 7 G}
def BX.put(X:BX)(own:qc->Nat)(r:Rw)(ls:qa LE)(bx:Rows)(mk:qb->qe)(n:Nat):BX:={X with own:=own,rs:=X.rs++[r],ls:=ls,bx:=bx,mf:=mk,n:=n}
structure TB(a:yD)(ws:qe)(Z:qa qc)(G:Hp)(X:Bool->BX):Prop where
 bk:∀k,BXk a ws G (X k)
 z:∀k,∀c∈Z,En G (X k).own c
 ap:∀k c o,G c=some o->(X k).own c≠0->(X k).own c<7->(X !k).own c=7
section
variable {a:yD}{ws:qe}{Z:qa qc}{G G':Hp}{X:Bool->BX}
def TB.law(h:TB a ws Z G X)(f:∀k,lC (X k).own 7 G G')(hz:∀c∈Z,∃o,G' c=some o/\AF o=false):TB a ws Z G' λk=>(X k).gr G:=by
 refine⟨λk=>⟨(h.bk k).bd.law (f k),(h.bk k).bi,(h.bk k).hn⟩,λk c hc=>(h.z k c hc).grow (hz c hc),λk c o e h0 b=>?_⟩
 change grow (X k).own 7 G c≠0 at h0
 change grow (X k).own 7 G c<7 at b
 show grow (X !k).own 7 G c=7
 cases d:G c with
 |none=>exact UM d
 |some g=>
  rw[Qo d] at h0 b⊢;exact h.ap k c g d h0 b
def TB.kx{S:qa qc}(h:TB a ws Z G X)(kx:KX S G G')(b:∀c∈S,c∈Z)(hz:∀c∈S,∃o,G' c=some o/\AF o=false):TB a ws Z G' λk=>(X k).gr G:=
 h.law (λk=>kx.kpo λc hc=>h.z k c (b c hc)) λc hc=>by
  by_cases q:c∈S
  .exact hz c q
  .obtain⟨⟨o,e,t⟩,_⟩:=h.z false c hc;exact⟨o,kx _ _ q e,t⟩
def TB.kept{b:qc->Nat}(h:TB a ws Z G X)(k:Bool)(d:KB (X k).own b G G')(hc:c∈Z)(e:G c=some o):G' c=some o:=d.k c o e (.inr (.inl (by rw[(h.z k c hc).2];exact qB _)))
def TB.show{b:qc->Nat}{f:qa LE}(h:TB a ws Z G X)(k:Bool)(i:KB (X k).own b G G')
 (bd:vS a G' b (X k).b (X k).db (X k).xr (X k).L (X k).xt (X k).xi (X k).xf (Yh ((X k).rs++[r])) f bx' mk' ws (Zp::ws) ws n') (d:n'<=(putN ((X k).rs++[r])).length) (bi:BI ((X k).rs++[r]) f bx' mk') :
 TB a ws Z G' λj=>if j=k then (X k).put b r f bx' mk' n' else (X j).gr G:=by
 have n:lC (X !k).own 7 G G':=λc o e q=>i.k c o e (by
  rcases q with q|q
  .by_cases z:(X k).own c=0
   .exact .inl z
   .exact .inr (.inl (Nat.le_of_not_lt λy=>q (h.ap k c o e z y)))
  .exact .inr (.inr q))
 have hz:∀c∈Z,∃o,G' c=some o/\AF o=false:=λc hc=>by
  obtain⟨⟨o,e,t⟩,q⟩:=h.z k c hc;exact⟨o,h.kept k i hc e,t⟩
 have on:∀j,j≠k->j = !k:=λj q=>by cases j<;>cases k<;>first|rfl|exact absurd rfl q
 refine⟨λj=>?_,λj c hc=>?_,λj c o e h0 g=>?_⟩
 .by_cases q:j=k
  .rw[qG q];exact⟨bd,bi,d⟩
  .rw[qC q,on j q];exact⟨(h.bk _).bd.law n,(h.bk _).bi,(h.bk _).hn⟩
 .by_cases q:j=k
  .rw[qG q];exact(h.z k c hc).kept i
  .rw[qC q];exact(h.z j c hc).grow (hz c hc)
 .by_cases q:j=k
  .subst q;rw[qG rfl] at h0 g;rw[qC (by cases j<;>decide)]
   change b c≠0 at h0
   change b c<7 at g
   show grow (X !j).own 7 G c=7
   cases d:G c with
   |none=>exact UM d
   |some l=>
    rw[Qo d];by_cases z:(X j).own c=0\/7<=(X j).own c
    .have:=i.g c l d (z.imp id .inl);omega
    .exact h.ap j c l d (by omega) (by omega)
  .have m:(!j)=k:=by rw[on j q,Bool.not_not]
   rw[qC q] at h0 g;rw[qG m]
   change grow (X j).own 7 G c≠0 at h0
   change grow (X j).own 7 G c<7 at g
   show b c=7
   cases d:G c with
   |none=>rw[UM d] at g;omega
   |some l=>
    rw[Qo d] at h0 g;have:=h.ap j c l d h0 g;rw[m] at this;rw[i.g c l d (.inr (.inl (by omega)))];exact this
end
def D7(own:qc->Nat)(H:Hp):qc->Nat:=λc=>match H c with
 |some o=>if An o=true then 0 else if own c=0 then 7 else own c
 |none=>own c
def KP(e:H c=some o):D7 own H c=if An o=true then 0 else if own c=0 then 7 else own c:=by unfold D7;rw[e]
def A7(e:H c=some o)(t:An o=false)(h:own c=0\/own c=7):D7 own H c=7:=by
 rw[KP e,t,qC (by decide)];split<;>omega
def IV(e:H c=some o)(h0:D7 own H c≠0)(a:D7 own H c<7):An o=false/\own c≠0/\own c<7:=by
 rw[KP e] at h0 a
 cases t:An o with
 |true=>rw[t,qG rfl] at h0;exact absurd rfl h0
 |false=>
  rw[t,qC (by decide)] at h0 a;by_cases z:own c=0
  .rw[qG z] at a;omega
  .rw[qC z] at h0 a;exact⟨U,h0,a⟩
def vS.start(h:vS a H own b db xr L xt xi xf es [] bx mk WI W M n):vS a H (D7 own H) b db xr L xt xi xf es [] bx mk WI W M n:=by
 have j:∀{c C d:qc}{f:qa (qb×V)},H c=some (.ins C d f)->D7 own H c=0:=λe=>by rw[KP e];rfl
 have ne:∀{c:qc}{o:HO}{i:Nat},H c=some o->An o=false->own c=i+1->D7 own H c=i+1:=λe t z=>by rw[KP e,t,z];rfl
 refine⟨h.e,j h.e,?_,⟨h.l.e,ne h.l.e rfl h.l.o,h.l.nd,h.l.na,λl s=>nomatch s⟩,?_,?_,?_⟩
 .obtain⟨dx,D,kd,r,k,g⟩:=h.r;exact⟨dx,D,kd,r,j r.obj,λc hc=>let ⟨kvs,e⟩:=r.fp hc;ne e rfl (g c hc)⟩
 .obtain⟨dx,m,p,kr,q,u,v,k,g⟩:=h.t;exact⟨dx,m,p,kr,q,u,v,j q.obj,λc hc=>let ⟨kvs,e⟩:=q.kind hc;ne e rfl (g c hc)⟩
 .obtain⟨F,m,k,g⟩:=h.i;obtain⟨d,p,q,e⟩:=m.obj;exact⟨F,m,j e,λc hc=>(m.kind hc).elim (λ⟨kvs,e⟩=>ne e rfl (g c hc)) λ⟨xs,e⟩=>ne e rfl (g c hc)⟩
 .obtain⟨F,fo,k,g⟩:=h.f;obtain⟨d,m,T1,p,e⟩:=fo.obj;exact⟨F,fo,j e,λc hc=>let ⟨kvs,e⟩:=fo.kind hc;ne e rfl (g c hc)⟩
def VA{α:Type}:∀{l:qa α}{k:Nat}{y:α},l[k]?=some y->(l.eraseIdx k++[y]).Perm l
 |[],_,_,h=>by simp at h
 |x::l,0,y,h=>by cases h;exact sX
 |x::l,k+1,y,h=>(VA (l:=l) (k:=k) h).cons x
def Fn{α β:Type}(f:α->β):∀(l:qa α)(k:Nat),(l.map f).eraseIdx k=(l.eraseIdx k).map f
 |[],_=>rfl
 |_::_,0=>rfl
 |x::l,k+1=>zV (f x::·) (Fn f l k)
abbrev rws(rs:qa Rw):qa V:=rs.map λr=>V.ref r.x
def Wh(X:Bool->BX)(W N:qa Rw):qa Rw:=(X false).rs++((X true).rs++(W++N))
structure SF(K:Frag)(ns:qa Int)(A:WA)(Z:qa qc)(BL RL WL sl:qc)(R:Bool->qc):Prop where
 zA:∀c∈A.all,c∈Z
 zY:∀c∈[BL,R false,R true,RL,WL,sl],c∈Z/\c∉A.all/\((∀G:Hp,zQ K G A.sc (ns.map V.int))\/A.sc≠c)
 yd:[BL,R false,R true,RL,WL,sl].Nodup
 sc:(∀G:Hp,zQ K G A.sc (ns.map V.int))\/A.sc∈Z
structure TL(K:Frag)(a:yD)(ns:qa Int)(A:WA)(Z:qa qc)(BL RL WL sl:qc)(R:Bool->qc)(ws:qe)(i:Nat)(G:Hp)(D:WD)(X:Bool->BX)(W N:qa Rw):Prop where
 sf:SF K ns A Z BL RL WL sl R
 tb:TB a ws Z G X
 w:kJ K G A ns D
 ok:rF i D
 wq:D.words=ws
 nd:D.names.Nodup
 pn:(putN (Wh X W N)).Perm D.names
 ln:(Wh X W N).length=i
 ra:∀r∈Wh X W N,XT G r
 ro:∀r∈Wh X W N,XS ws r
 eB:G BL=some (.lst [.ref (X false).b,.ref (X true).b])
 eL:G RL=some (.lst [.ref (R false),.ref (R true)])
 eW:G WL=some (.lst (rws W))
 eR:∀k,G (R k)=some (.lst (rws (X k).rs))
 eS:G sl=some (.lst ((ns.take 30).map V.int))
section
variable {K:Frag}{a:yD}{ns:qa Int}{A:WA}{Z:qa qc}{BL RL WL sl:qc}{R:Bool->qc}{ws:qe}{i:Nat}{G G':Hp}{D D':WD}{X:Bool->BX}{W N:qa Rw}
def SF.y(h:SF K ns A Z BL RL WL sl R)(n:Nat)(e:[BL,R false,R true,RL,WL,sl][n]?=some c):c∈Z/\c∉A.all/\((∀G:Hp,zQ K G A.sc (ns.map V.int))\/A.sc≠c):=h.zY c (qL e)
def SF.ne(h:SF K ns A Z BL RL WL sl R){d:qc}(n m:Nat)(e:[BL,R false,R true,RL,WL,sl][n]?=some c)(a:[BL,R false,R true,RL,WL,sl][m]?=some d)(z:n≠m):c≠d:=λq=>by
 subst q;exact z (List.getElem?_inj (qY.mp e).1 h.yd |>.mp (e.trans a.symm))
def SF.yR(h:SF K ns A Z BL RL WL sl R)(k:Bool):R k∈Z/\R k∉A.all/\((∀G:Hp,zQ K G A.sc (ns.map V.int))\/A.sc≠R k):=by
 cases k
 .exact h.y 1 rfl
 .exact h.y 2 rfl
def SF.nR(h:SF K ns A Z BL RL WL sl R)(k:Bool)(n:Nat)(e:[BL,R false,R true,RL,WL,sl][n]?=some c)(a:n≠1/\n≠2:=by decide):c≠R k:=by
 cases k
 .exact h.ne n 1 e rfl a.1
 .exact h.ne n 2 e rfl a.2
def SF.rr(h:SF K ns A Z BL RL WL sl R){j k:Bool}(n:j≠k):R j≠R k:=by
 cases j<;>cases k
 .exact absurd rfl n
 .exact h.ne 1 2 rfl rfl (by decide)
 .exact h.ne 2 1 rfl rfl (by decide)
 .exact absurd rfl n
def TL.go{S:qa qc}(h:TL K a ns A Z BL RL WL sl R ws i G D X W N)(b:KX S G G')(g:∀c∈S,c∈A.all)(u:kJ K G' A ns D')(j:Nat)(l:rF j D')(eq:D'.words=D.words)(N':qa Rw)(m:D'.names.Nodup)(p:(putN (Wh X W N')).Perm D'.names)(s:(Wh X W N').length=j)(t:∀r∈N',r∈N\/XT G' r/\XS ws r) :
 TL K a ns A Z BL RL WL sl R ws j G' D' (λk=>(X k).gr G) W N':=by
 have f:∀{c:qc},c∉A.all->c∉S:=λn z=>n (g _ z);have kt:∀{c:qc}{xs:qa V},G c=some (.tup xs)->G' c=some (.tup xs):=λ{c xs} e=>b _ _ (λz=>by obtain⟨o,v,w⟩:=h.w.there c (g _ z);rw[e] at v;cases v;cases w) e;have hm:∀r∈Wh X W N',r∈Wh X W N\/XT G' r/\XS ws r:=λr d=>by
  unfold Wh at d⊢;simp only[qr] at d⊢;rcases d with q|q|q|q
  .exact .inl (.inl q)
  .exact .inl (.inr (.inl q))
  .exact .inl (.inr (.inr (.inl q)))
  .exact(t r q).imp (λz=>.inr (.inr (.inr z))) id
 exact⟨h.sf,h.tb.kx b (λc hc=>h.sf.zA c (g c hc)) λc hc=>u.there c (g c hc),u,l,eq.trans h.wq,m,p,s,λr d=>(hm r d).elim (λq=>(h.ra r q).tups λc xs e=>kt e) (·.1),λr d=>(hm r d).elim (h.ro r) (·.2),b _ _ (f (h.sf.y 0 rfl).2.1) h.eB,b _ _ (f (h.sf.y 3 rfl).2.1) h.eL,b _ _ (f (h.sf.y 4 rfl).2.1) h.eW,λk=>b _ _ (f (h.sf.yR k).2.1) (h.eR k),b _ _ (f (h.sf.y 5 rfl).2.1) h.eS⟩
def TL.sx(h:TL K a ns A Z BL RL WL sl R ws i G D X W N)(x:SX A.st G G')(b:kJ K G' A ns D):TL K a ns A Z BL RL WL sl R ws i G' D (λk=>(X k).gr G) W N:=
 h.go (KX.sx (qk.mpr rfl) x) (λc hc=>by rw[qk.mp hc];simp[WA.all]) b i h.ok rfl N h.nd h.pn h.ln λr d=>.inl d
def TL.wait{W' N':qa Rw}(h:TL K a ns A Z BL RL WL sl R ws i G D X W N)(p:(W'++N').Perm (W++N)):TL K a ns A Z BL RL WL sl R ws i (upd G WL (.lst (rws W'))) D (λk=>(X k).gr G) W' N':=by
 obtain⟨d,f,g⟩:=h.sf.y 4 rfl;have pc:(Wh X W' N').Perm (Wh X W N):=(p.append_left _).append_left _;have kt:∀{c:qc}{xs:qa V},G c=some (.tup xs)->(upd G WL (.lst (rws W'))) c=some (.tup xs):=λ{c xs} e=>by rw[Qa (λz=>by rw[z,h.eW] at e;cases e)];exact e
 exact⟨h.sf,h.tb.kx (S:=[WL]) (KX.upd (qk.mpr rfl)) (λc hc=>by rw[qk.mp hc];exact d) (λc hc=>by rw[qk.mp hc];exact⟨_,Qc,U⟩),h.w.off f g,h.ok,h.wq,h.nd,(ES pc).trans h.pn,pc.length_eq.trans h.ln,λr b=>(h.ra r (pc.mem_iff.mp b)).tups λc xs e=>kt e,λr b=>h.ro r (pc.mem_iff.mp b),by rw[Qa (h.sf.ne 0 4 rfl rfl (by decide))];exact h.eB,by rw[Qa (h.sf.ne 3 4 rfl rfl (by decide))];exact h.eL,Qc,λk=>by rw[Qa (h.sf.nR k 4 rfl).symm];exact h.eR k,by rw[Qa (h.sf.ne 5 4 rfl rfl (by decide))];exact h.eS⟩
def TL.draw{k:Nat}{f:qc}{c num:Int}{hd:qb}(h:TL K a ns A Z BL RL WL sl R ws i G D X W [])(n:KX A.ch G G')(o:kJ K G' A ns D')(j:rF (i+1) D')(st:Stp D k c hd d D')(ex:G' x=some (.tup [.int c,.str hd,.int num,.ref f]))(q:DU G' f u d) :
 TL K a ns A Z BL RL WL sl R ws (i+1) G' D' (λk=>(X k).gr G) W [⟨x,c,hd,num,f,u,d⟩]:=by
 have l:Wh X W [⟨x,c,hd,num,f,u,d⟩]=Wh X W []++[⟨x,c,hd,num,f,u,d⟩]:=by unfold Wh;simp only[jk,zr]
 have m:D'.names.Nodup/\(putN (Wh X W [⟨x,c,hd,num,f,u,d⟩])).Perm D'.names:=by
  rw[l,KH];show D'.names.Nodup/\(if YT d=true then putN (Wh X W [])++[d.nm] else putN (Wh X W [])).Perm _
  cases g:YT d with
  |false=>rw[(st.np g).1];exact⟨h.nd,h.pn⟩
  |true=>
   cases d with
   |put nm p=>
    obtain⟨s,t,_⟩:=st.pt nm p rfl;rw[t,jf];exact⟨⟨h.nd,by simp,λa v b w e=>s (by rw[qk.mp w] at e;rw[<-e];exact v)⟩,h.pn.append_right _⟩
   |place a b=>cases g
   |mark a b c=>cases g
   |drop a=>cases g
 refine h.go n (λc hc=>gv hc) o _ j st.words _ m.1 m.2 (by rw[l,qx,h.ln];rfl) λr g=>.inr ?_;rw[qk.mp g];exact⟨⟨ex,q⟩,⟨λnm p e=>by rw[<-h.wq];exact(st.pt nm p e).2.2,λe=>by rw[<-h.wq];exact(st.np e).2⟩⟩
def TL.put{b:qc->Nat}{d:qa LE}(h:TL K a ns A Z BL RL WL sl R ws i G D X W [r])(k:Bool)(g:KB (X k).own b G G')
 (bd:vS a G' b (X k).b (X k).db (X k).xr (X k).L (X k).xt (X k).xi (X k).xf (Yh ((X k).rs++[r])) d bx' mk' ws (Zp::ws) ws n') (s:n'<=(putN ((X k).rs++[r])).length) (bi:BI ((X k).rs++[r]) d bx' mk') :
 ∃f,TL K a ns A Z BL RL WL sl R ws i (upd G' (R k) (.lst (rws ((X k).rs++[r])))) D f W []:=by
 have f:∀{c:qc}{o:HO},c∈Z->G c=some o->G' c=some o:=λhc e=>h.tb.kept k g hc e;have t:ScZ K G (X k).own A.sc ns:=h.sf.sc.imp id λq=>h.tb.z k _ q;have u:kJ K G' A ns D:=h.w.board (λc hc=>h.tb.z k c (h.sf.zA c hc)) t g;obtain⟨p,v,w⟩:=h.sf.yR k;have l:=f p (h.eR k);have m:=(h.tb.show k g bd s bi).kx (S:=[R k]) (G':=upd G' (R k) (.lst (rws ((X k).rs++[r])))) (KX.upd (qk.mpr rfl)) (λc hc=>by rw[qk.mp hc];exact p) (λc hc=>by rw[qk.mp hc];exact⟨_,Qc,U⟩);have kt:∀{c:qc}{xs:qa V},G c=some (.tup xs)->(upd G' (R k) (.lst (rws ((X k).rs++[r])))) c=some (.tup xs):=λ{c xs} e=>by
  have n:=g.k _ _ e (.inr (.inr rfl));rw[Qa (λz=>by rw[z,l] at n;cases n)];exact n
 have pc:(Wh (λj=>(if j=k then (X k).put b r d bx' mk' n' else (X j).gr G).gr G') W []).Perm (Wh X W [r]):=by
  unfold Wh;cases k
  .show((((X false).rs++[r])++((X true).rs++(W++[]))):qa Rw).Perm _;rw[zr,jk];refine sY _ ?_;rw[<-jk (X true).rs W [r]];exact sX
  .show(((X false).rs++(((X true).rs++[r])++(W++[]))):qa Rw).Perm _;rw[zr,jk];exact sY _ (sY _ sX)
 refine⟨_,h.sf,m,u.off v w,h.ok,h.wq,h.nd,(ES pc).trans h.pn,pc.length_eq.trans h.ln,λr n=>(h.ra r (pc.mem_iff.mp n)).tups λc xs e=>kt e,λr n=>h.ro r (pc.mem_iff.mp n),?_,?_,?_,λj=>?_,?_⟩
 .rw[Qa (h.sf.nR k 0 rfl),f (h.sf.y 0 rfl).1 h.eB];cases k<;>rfl
 .rw[Qa (h.sf.nR k 3 rfl)];exact f (h.sf.y 3 rfl).1 h.eL
 .rw[Qa (h.sf.nR k 4 rfl)];exact f (h.sf.y 4 rfl).1 h.eW
 .by_cases q:j=k
  .subst q;rw[Qc];show _=some (HO.lst (rws (if j=j then (X j).put b r d bx' mk' n' else (X j).gr G).rs));rw[qG rfl];rfl
  .rw[Qa (h.sf.rr q),f (h.sf.yR j).1 (h.eR j)];show _=some (HO.lst (rws (if j=k then (X k).put b r d bx' mk' n' else (X j).gr G).rs));rw[qC q];rfl
 .rw[Qa (h.sf.nR k 5 rfl)];exact f (h.sf.y 5 rfl).1 h.eS
def HG(X:Bool->BX)(W N:qa Rw)(k:Bool):((X k).rs++N).Sublist (Wh X W N):=by
 cases k
 .exact(List.Sublist.refl _).append ((vI W N).trans (vI _ _))
 .exact((List.Sublist.refl _).append (vI W N)).trans (vI _ _)
def TL.few(h:TL K a ns A Z BL RL WL sl R ws i G D X W N)(s:rs.Sublist (Wh X W N)):(putN rs).Nodup/\(putN rs).length<=40/\(∀m∈putN rs,UE m)/\rs.length<=i:=by
 have s2:(putN rs).Sublist (putN (Wh X W N)):=(s.filter _).map _;refine⟨s2.nodup (h.pn.nodup_iff.mpr h.nd),?_,λm hm=>(h.ok.nms m (h.pn.mem_iff.mp (s2.subset hm))).word h.ok.hs,by rw[<-h.ln];exact s.length_le⟩;have:=s2.length_le;rw[h.pn.length_eq] at this;exact zm this (PU h.ok h.nd)
def Ba{l:qa qc}(h:l.Nodup/\∀e∈l,∃o,H e=some o)(n:H c=none)(s:Qj H H')(e:H' c=some o):(c::l).Nodup/\∀e∈c::l,∃o,H' e=some o:=
 ⟨zN.mpr ⟨λz=>(by obtain⟨o,q⟩:=h.2 c z;rw[n] at q;cases q),h.1⟩,λd hd=>by
   rcases qJ.mp hd with rfl|q
   .exact⟨_,e⟩
   .obtain⟨o,q⟩:=h.2 d q;exact⟨o,s _ _ q⟩⟩
end
def iJ(ns:qa Int):Ca (ns.map V.int) none (some 30)=(ns.take 30).map V.int:=by
 unfold Ca;rw[show(30:Int)=((30:Nat):Int) from rfl,HT.Qal,HT.sZ,Qag,Nat.sub_zero,qh,<-List.map_take];by_cases h:30<=ns.length
 .rw[v5 h]
 .rw[Nat.min_eq_right (by omega),zh (qB _),zh (by omega)]
def kJ.noins{ls:qa Int}(w:kJ K H A ls D):∀c∈A.all,∃o,H c=some o/\An o=false:=λc hc=>by
 simp only[WA.all,qJ,je,wQ] at hc;rcases hc with h|h|h|h|h|h|h|h
 .obtain⟨xs,e⟩:=w.sa.lst;rw[h];exact⟨_,e,U⟩
 .rw[h];exact⟨_,w.e,U⟩
 .rw[h];exact⟨_,w.eh,U⟩
 .rw[h];exact⟨_,w.ew,U⟩
 .rw[h];exact⟨_,w.en,U⟩
 .rw[h];exact⟨_,w.ep,U⟩
 .rw[h];exact⟨_,w.ec,U⟩
 .rw[h];exact⟨_,w.em,U⟩
def fE{a tB tC:TT}{Q:Bool->Hp->Prop}{R:Hp->Prop}(b:Bool)(d:∀Q:Bool->Hp->Prop,Q b G->a σ G Q)(e:∀Q:Bool->Hp->Prop,(∀b G',R G'->Q b G')->tB σ G Q)(c:∀G',R G'->tC σ G' Q)(f:∀G',R G'->Q false G')(h0:R G):bA (tOr a tB) tC σ G Q:=by
 refine d _ ?_
 cases b with
 |true=>exact Ya (Ya (c _ h0))
 |false=>exact QU (e _ λb G' h=>by
   cases b with
   |true=>exact Ya (c _ h)
   |false=>exact QU (f _ h))
def fM(F:zX K ZZk ZZk bC a.QcH fd)(T:Txt P w K mg base a)(FF:Yz K a):T.fq j6 60 a.QcH fd [ZE] (Qby K):=by
 obtain⟨fdB,lu,Qb4⟩:=FF.lu;have Qcb:=Tw lu T;obtain⟨fdN,zc,zF⟩:=FF.zc;have zG:=Wf zc T;obtain⟨fdW,la,QbZ⟩:=FF.la;have Qb6:=S9 la T FF;obtain⟨fdI,F_bi,mR⟩:=FF.tW;have nj:=Tv F_bi T FF;obtain⟨fdS,wz,QaD⟩:=FF.wz;have QaN:=MJ wz T FF;obtain⟨fdH,F_sh,tL⟩:=FF.tV;have tS:=bX F_sh T FF;obtain⟨fdL,uC,Qbh⟩:=FF.uC;have Qbo:=PD uC T FF;refine F.ok WW (λcdv A0 outer s H vs Q E p h=>?_)
 .obtain⟨q,ns,rfl,hS,hlen,kq⟩:=h;have B:QG 1 _:=p.mono;have hr4:QG 4 _:=p.mono;have hr5:QG 5 _:=p.mono;have hr9:QG 9 _:=p.mono;have hr12:QG 12 _:=p.mono;have hu:=Q5 p;have hu64:=p.units;refine⟨_,(Qd (Qr (i:=1) WW.nd (Qk Qcb B rfl T.QbT lu.kp Qb4 .nil Ql (zg (pv 0) Qe)))
   (Qd (Qr (i:=2) WW.nd (Qk Qb6 hr4 rfl T.QbO la.kp QbZ .nil Ql (zg (pv 1) (zg (QM Ue Qi (QM Yo (Qk zG B rfl T.ja zc.kp zF .nil Ql (zg (pv 1) Qe)) Qi)) Qe))))
   (Qd (Qr (i:=3) WW.nd (Yf (Qh (Xh T.QbE nj hr4 rfl T.Qam mR .nil Ql) (Qh (Xh T.QbE nj hr4 rfl T.Qam mR .nil Ql) Qu))))
   (Qd (Qr (i:=4) WW.nd (Yf (Qh (Yf Qu) (Qh (Yf Qu) Qu))))
   (Qd (Qr (i:=5) WW.nd (Yf Qu))
   (Qd (Ud zx rfl (YD (Xg Sl (pv 0) KL (KJ Qi))) (Ye (i:=6) WW.nd) (Qd (Qy (Vs plainAttrs_list zR zS YS (pv 5) (zg (Qk QaN hr5 rfl T.Qaq wz.kp QaD .nil Ql (zg (pv 1) (zg (pv 2) (zg (QM Yo (Qk zG B rfl T.ja zc.kp zF .nil Ql (zg (pv 1) Qe)) (QC Yb rfl T.vt zT (zg (QA hu (pv 2) Qq) Qe))) Qe)))) Qe)))
   (Qd (QV (Qt YQ (QM Yo (Qk zG B rfl T.ja zc.kp zF .nil Ql (zg (pv 1) Qe)) Qi) Qi) (Qf IU) QE)
   (Qd (Qr (i:=7) WW.nd (Vs plainAttrs_list slot_list_pop type_list_pop Dv (pv 5) (zg (QM Yo (Qk zG B rfl T.ja zc.kp zF .nil Ql (zg (pv 1) Qe)) (QC Yb rfl T.vt zT (zg (pv 5) Qe))) Qe)))
   (Qd (Qr (i:=8) WW.nd (QM Yo (Qk zG B rfl T.ja zc.kp zF .nil Ql (zg (pv 1) Qe)) Qi))
   (Qd (Qy (QN (Qv QT (pv 3) (pv 8)) T.zp T.tO tS hr9 tL .nil Ql (zg (pv 7) Qe)))
   (Qd (Qy (Vs plainAttrs_list zR zS YS (Qv QT (pv 4) (pv 8)) (zg (pv 7) Qe)))
   (Qf (Ud zx rfl (YD (Yf (Qh (pv 8) (Qh (QM S3 Qi (pv 8)) Qu)))) (Ye (i:=9) WW.nd) (Qf (QV (PW.pt (Vx (PW.pt (XN (Qt YQ (pv 9) (pv 8)) (V1 (Qt YQ (QM Yo (Qk zG B rfl T.ja zc.kp zF .nil Ql (zg (pv 1) Qe)) Qi) Qi)))) (U0 (U3 (UH (Qk Qbo hr12 rfl T.Qa7 uC.kp Qbh .nil Ql (zg (pv 1) (zg (pv 2) (zg (Qv QT (pv 3) (pv 9)) (zg (Qv QT (pv 4) (pv 9)) Qe)))))))))) (Qf (Qw YW)) QE)))))))))))
   (Qf (Qw YW)))))))),?_⟩
  refine⟨_,U,q,ns,U,hS,hlen,λst hst H1 s1 sa1=>?_⟩;refine⟨_,U,_,U,st,q,ns,U,sa1,hlen,λr2 H2 r20 r21 x2 sa2=>⟨_,_,U,U,RO,_,_,U,U,?_⟩⟩;have z0:=zt r2 (b:=3) (by decide);have z1:=zl r2 (b:=3) (by decide);obtain⟨m,hm⟩:∃m:Nat,1+r2%3=(m:Int):=⟨(1+r2%3).toNat,by omega⟩;rw[hm];refine⟨st,q,ns,m,U,sa2,hlen,by omega,by omega,λA D H3 eA1 eA2 fr x3 w3 C hl3 nm3 ck3=>?_⟩;subst eA1 eA2;intro b0 d0 nb0 nd0 ne0;refine⟨b0,d0,λ_=>[],D.words,Zp::D.words,D.words,U,zm C.w5 (by decide),(by rw[qV];have:=C.w5;omega),zm C.w5 (by decide),Qc,λH4 Ki xr0 L0 xt0 xi0 xf0 k4 oz0 bd0=>⟨U,?_⟩⟩;intro b1 d1 nb1 nd1 ne1;refine⟨b1,d1,λ_=>[],D.words,Zp::D.words,D.words,U,zm C.w5 (by decide),(by rw[qV];have:=C.w5;omega),zm C.w5 (by decide),Qc,λH5 own1 xr1 L1 xt1 xi1 xf1 k5 oz1 lL=>⟨U,?_⟩⟩;have s4:Qj H3 H4:=Xm nb0 nd0 k4;have s5:Qj H4 H5:=Xm nb1 nd1 k5;have old0:∀{c:qc}{o:HO},H3 c=some o->Ki c=0:=λ{c o} e=>oz0 c o (Qb e nb0) (by rw[Qa (Qb e nb0),Qa (Qb e nd0)];exact e);have N:∀{c:qc}{o:HO},H4 c=some o->own1 c=0:=λ{c o} e=>oz1 c o (Qb e nb1) (by rw[Qa (Qb e nb1),Qa (Qb e nd1)];exact e);refine⟨Vr,λI H6 nBL s6 eBL=>?_⟩;refine⟨q0 _,λR0 H7 nR0 s7 eR0=>⟨q0 _,λR1 H8 nR1 s8 eR1=>⟨Vr,λJ H9 nRL s9 eRL=>?_⟩⟩⟩;refine⟨q0 _,λy HA nWL sA eWL=>?_⟩;have s3A:=((((((s4.trans s5).trans s6).trans s7).trans s8).trans s9).trans sA);have wA:=w3.same s3A;refine⟨_,U,_,U,A.sc,_,U,wA.sa.sq,λO HB nsl sB esl=>?_⟩;rw[iJ] at esl;have wB:=wA.same sB;obtain⟨zs,zs1,zs2⟩:∃zs:qa qc,((∀G:Hp,zQ K G A.sc (ns.map V.int))\/A.sc∈zs)/\∀c∈zs,∃o,H3 c=some o/\AF o=false/\An o=false:=by
   obtain⟨_,f⟩:=w3.sa;rcases f with(h|⟨g,h⟩)|h
   .exact⟨[A.sc],.inr (qk.mpr rfl),λc hc=>by rw[qk.mp hc];exact⟨_,h,U,U⟩⟩
   .exact⟨[A.sc],.inr (qk.mpr rfl),λc hc=>by rw[qk.mp hc];exact⟨_,h,U,U⟩⟩
   .exact⟨[],.inl λ_=>.inr h,λc hc=>nomatch hc⟩
  have hAz:∀c∈A.all++zs,∃o,H3 c=some o/\AF o=false/\An o=false:=λc hc=>(qr.mp hc).elim (λq=>by
   obtain⟨o,e,t⟩:=w3.there c q;obtain⟨g,f,t'⟩:=w3.noins c q;rw[e] at f;cases f;exact⟨o,e,t,t'⟩) (zs2 c)
  have nd6:=Ba (Ba (Ba (Ba (Ba (Ba (l:=[]) ⟨zB,λe he=>nomatch he⟩ nBL s6 eBL) nR0 s7 eR0) nR1 s8 eR1) nRL s9 eRL) nWL sA eWL) nsl sB esl;have nw:∀c∈[I,R0,R1,J,y,O],H5 c=none/\∃xs,HB c=some (.lst xs):=λc hc=>by
   simp only[qJ,je,wQ] at hc;rcases hc with h|h|h|h|h|h<;>rw[h]
   .exact⟨nBL,_,sB _ _ (sA _ _ (s9 _ _ (s8 _ _ (s7 _ _ eBL))))⟩
   .exact⟨s6.free nR0,_,sB _ _ (sA _ _ (s9 _ _ (s8 _ _ eR0)))⟩
   .exact⟨s6.free (s7.free nR1),_,sB _ _ (sA _ _ (s9 _ _ eR1))⟩
   .exact⟨s6.free (s7.free (s8.free nRL)),_,sB _ _ (sA _ _ eRL)⟩
   .exact⟨s6.free (s7.free (s8.free (s9.free nWL))),_,sB _ _ eWL⟩
   .exact⟨s6.free (s7.free (s8.free (s9.free (sA.free nsl)))),_,esl⟩
  have s5B:Qj H5 HB:=((((s6.trans s7).trans s8).trans s9).trans sA).trans sB;have s3B:=s3A.trans sB;have nwo:∀c∈[I,R0,R1,J,y,O],∀d∈A.all++zs,d≠c:=λc hc d hd z=>by
   obtain⟨o,e,_⟩:=hAz d hd;have:=s5 _ _ (s4 _ _ e);rw[z,(nw c hc).1] at this;cases this
  let X:Bool->BX:=λk=>cond k ⟨D7 (grow own1 7 H5) HB,b1,d1,xr1,L1,xt1,xi1,xf1,[],[],[],λ_=>[],0⟩ ⟨D7 (grow Ki 7 H4) HB,b0,d0,xr0,L0,xt0,xi0,xf0,[],[],[],λ_=>[],0⟩
  have sf:SF K ns A (A.all++zs++[I,R0,R1,J,y,O]) I J y O (λk=>cond k R1 R0):=⟨λc hc=>qy _ (qy _ hc),λc hc=>⟨qv _ hc,λz=>nwo c hc c (qy _ z) rfl,zs1.imp id λq=>nwo c hc _ (qv _ q)⟩,(List.reverse_perm [I,R0,R1,J,y,O]).nodup_iff.mp nd6.1,zs1.imp id λq=>qy _ (qv _ q)⟩;have bi0:BI [] [] [] λ_=>[]:=⟨λl hl=>(nomatch hl),λr p=>(nomatch p),λm=>Iff.rfl,λm hm=>(nomatch hm),λm hm=>(nomatch hm)⟩;have zk:∀k,∀c∈A.all++zs++[I,R0,R1,J,y,O],En HB (X k).own c:=λk c hc=>by
   rcases qr.mp hc with q|q
   .obtain⟨o,e,t,t'⟩:=hAz c q;refine⟨⟨o,s3B _ _ e,t⟩,?_⟩;cases k
    .exact A7 (s3B _ _ e) t' (.inl (by rw[Qo (s4 _ _ e)];exact old0 e))
    .exact A7 (s3B _ _ e) t' (.inl (by rw[Qo (s5 _ _ (s4 _ _ e))];exact N (s4 _ _ e)))
   .obtain⟨n,xs,e⟩:=nw c q;refine⟨⟨_,e,U⟩,?_⟩;cases k
    .exact A7 e rfl (.inr (UM (s5.free n)))
    .exact A7 e rfl (.inr (UM n))
  have tb:TB a D.words (A.all++zs++[I,R0,R1,J,y,O]) HB X:=by
   refine⟨λk=>?_,zk,λk c o e h0 M=>?_⟩
   .cases k
    .exact⟨(bd0.quiet (s5.trans s5B)).start,bi0,qB _⟩
    .exact⟨(lL.quiet s5B).start,bi0,qB _⟩
   .cases k
    .obtain⟨t,g,L⟩:=IV e h0 M
     cases f:H4 c with
     |none=>rw[UM f] at L;omega
     |some Y=>exact A7 e t (.inl (by rw[Qo (s5 _ _ f)];exact N f))
    .obtain⟨t,g,L⟩:=IV e h0 M
     cases S:H5 c with
     |none=>rw[UM S] at L;omega
     |some o5=>
      rw[Qo S] at g
      cases f:H4 c with
      |none=>exact A7 e t (.inr (UM f))
      |some Y=>exact absurd (N f) g
  generalize hws:D.words=ws at tb;obtain⟨Z,R,X0,TL0⟩:∃Z R X0,TL K a ns A Z I J y O R ws 0 HB D X0 [] []:=⟨_,_,X,sf,tb,wB,C,hws,by rw[nm3];exact zB,by rw[nm3];exact .refl _,U,λr p=>(nomatch p),λr p=>(nomatch p),sB _ _ (sA _ _ (s9 _ _ (s8 _ _ (s7 _ _ eBL)))),sB _ _ (sA _ _ eRL),sB _ _ eWL,λk=>by
   cases k
   .exact sB _ _ (sA _ _ (s9 _ _ (s8 _ _ eR0)))
   .exact sB _ _ (sA _ _ (s9 _ _ eR1)),esl⟩
  clear sf tb zk X nwo nw nd6 hAz zs1 zs2 wB wA bd0 lL old0 N oz0 oz1 k4 k5;refine⟨O,U,⟨_,zQ.of esl⟩,YN (K:=K) (a:=O) (xs:=(ns.take 30).map V.int) (λi σ G=>∃(o6 o7 o8 o9:Option V)(D:WD)(X:Bool->BX)(W:qa Rw),σ=[some (.ref A.sc),some (.ref A.st),some (.ref A.s),some (.ref I),some (.ref J),some (.ref y),o6,o7,o8,o9]/\TL K a ns A Z I J y O R ws i G D X W [])
   ⟨none,none,none,none,D,X0,[],U,TL0⟩ ?_ ?_ ?_⟩
  .rintro i σ G _ ⟨o6,o7,o8,o9,D,X,W,rfl,g⟩;exact zQ.of g.eS
  .rintro i cv σ G hcv ⟨o6,o7,o8,o9,D,X,W,rfl,g⟩;have hi:i<30:=by
    have:=(qY.mp hcv).1;rw[qh,zb] at this;omega
   have stc:A.st∈A.ch:=by simp[WA.ch]
   refine⟨_,U,.inl ⟨U,_,zQ.of g.eW⟩,_,U,_,U,_,U,A.st,A.sc,ns,U,g.w.sa,hlen,λr1 G1 r10 r11 x1 sa1=>?_⟩;have wG1:=g.w.sx x1 sa1;have h0:(0:Int)<((D.hands.map V.str).length:Nat):=by rw[qh];have:=g.ok.hs.n0;omega
   refine⟨_,U,A.s,_,U,.inl ⟨_,Sum.inr ZN,.inl wG1.e,U,XU⟩,A.hl,_,U,.inl (zQ.of wG1.eh),_,_,U,U,h0,?_⟩;have y0:=zt r1 (b:=((D.hands.map V.str).length:Nat)) (by omega);have y1:=zl r1 (b:=((D.hands.map V.str).length:Nat)) h0;rw[qh] at y0 y1⊢;generalize r1%((D.hands.length:Nat):Int)=kz at y0 y1⊢;obtain⟨S,rfl⟩:=jq y0;refine⟨A,ns,D,i,S,U,wG1,g.ok,by omega,by omega,hlen,λx qq u c num hd d D' G2 ex du kx w2 ok2 st=>?_⟩;have tl2:=g.draw ((KX.sx stc x1).trans kx) w2 ok2 st ex du;have lW:W.length<=i:=by rw[<-g.ln];unfold Wh;simp only[qx];omega
   refine⟨y,_,_,U,U,tl2.eW,(by rw[qh];exact QD (by omega)),?_⟩;have L:=tl2.wait (W':=W++[⟨x,c,hd,num,qq,u,d⟩]) (N':=[]) (by rw[zr]);have em:rws W++[V.ref x]=rws (W++[⟨x,c,hd,num,qq,u,d⟩]):=by rw[rws,rws,qI];rfl
   rw[em];have l3:0<(W++[(⟨x,c,hd,num,qq,u,d⟩:Rw)]).length:=by rw[qx];exact Nat.succ_pos _
   have l3':(W++[(⟨x,c,hd,num,qq,u,d⟩:Rw)]).length<=30:=by rw[qx,qO];omega
   show YY _ _ _ _ (upd G2 y (.lst (rws (W++[⟨x,c,hd,num,qq,u,d⟩]))));generalize upd G2 y (.lst (rws (W++[⟨x,c,hd,num,qq,u,d⟩])))=G3 at L⊢;generalize W++[⟨x,c,hd,num,qq,u,d⟩]=Y at L l3 l3';generalize (λk=>BX.gr _ _)=X3 at L;clear tl2 em g wG1 ex du kx w2 st;refine⟨_,U,A.st,A.sc,ns,U,L.w.sa,hlen,λr4 G4 r40 r41 x4 sa4=>⟨_,_,U,U,RO,?_⟩⟩;have tl4:=L.sx x4 (L.w.sx x4 sa4);refine⟨U,_,U,?_⟩;generalize decide (V.int (r4%3)=V.int 0)=bq
   cases bq with
   |true=>exact Ya ⟨_,_,_,_,D',_,Y,U,tl4⟩
   |false=>
    refine QU ?_;show YY _ _ _ _ _;refine⟨_,U,.inl ⟨U,_,zQ.of tl4.eW⟩,_,U,A.st,A.sc,ns,U,tl4.w.sa,hlen,λr5 G5 r50 r51 x5 sa5=>?_⟩;have tl5:=tl4.sx x5 (tl4.w.sx x5 sa5);have hl:(0:Int)<(((rws Y).length:Nat):Int):=by rw[qh];omega
    have y0:=zt r5 (b:=((rws Y).length:Nat)) (by omega);have y1:=zl r5 (b:=((rws Y).length:Nat)) hl;obtain⟨S,ek⟩:=jq y0;rw[ek] at y1;rw[qh] at y1;obtain⟨r,p⟩:∃r,Y[S]?=some r:=⟨_,qA (by omega)⟩;have ix:seqIndex? (r5%(((rws Y).length:Nat):Int)) (rws Y).length=some S:=by
     rw[ek,qh];unfold seqIndex?;have f:¬((S:Int)<0):=by omega
     simp only[qC f];rw[qt (show 0<=(S:Int) by omega),qt (show(S:Int)<(Y.length:Int) by omega)];simp
    refine⟨_,U,y,_,U,.inl (zQ.of tl5.eW),_,_,U,U,hl,y,_,_,S,_,U,U,tl5.eW,(by rw[ek];omega),(by rw[ek];omega),ix,(show(rws Y)[S]?=some (V.ref r.x) by rw[rws,qQ,p];rfl),?_⟩;rw[Fn];have M:=tl5.wait (W':=Y.eraseIdx S) (N':=[r]) (by rw[zr];exact VA p);show YY _ _ _ _ (upd G5 y (.lst (rws (Y.eraseIdx S))));generalize upd G5 y (.lst (rws (Y.eraseIdx S)))=G6 at M⊢;generalize Y.eraseIdx S=W6 at M;generalize (λk=>BX.gr _ _)=X6 at M;clear tl5 tl4 L p ix x4 x5 sa4 sa5;dsimp only[BM];refine⟨_,U,A.st,A.sc,ns,U,M.w.sa,hlen,λr7 G7 r70 r71 x7 sa7=>⟨_,_,U,U,gN,?_⟩⟩;have f:=M.sx x7 (M.w.sx x7 sa7);obtain⟨k,hk⟩:∃k:Bool,r7%2=cond k 1 0:=by
     rcases Int.emod_two_eq r7 with q|q
     .exact⟨false,q⟩
     .exact⟨true,q⟩
    rw[hk];dsimp only[BM];generalize (λk=>BX.gr _ _)=X7 at f;have bk:=f.tb.bk k;have fw:=f.few (HG X7 W6 [r] k);have sub:=HG X7 W6 [r] k;have w5:ws.length<=5:=by rw[<-f.wq];exact f.ok.w5
    have lk:(X7 k).rs.length<=30:=by have:=fw.2.2.2;rw[qx] at this;omega
    refine⟨_,U,_,U,I,_,_,_,U,U,zQ.of f.eB,(by cases k<;>rfl),(X7 k).b,(X7 k).db,_,U,bk.bd.e,U,_,U,bE (E:=E0) bk.bd bk.bi (f.ra r (sub.subset (qv _ (qk.mpr rfl)))) (λx hx=>f.ro x (sub.subset hx)) fw.1 w5 (by omega) bk.hn fw.2.1 λG8 own' ls' bx' mk' n' uy hn2 bi2 kB=>?_⟩;obtain⟨X9,tl9⟩:=f.put k kB uy hn2 bi2;have eR8:=f.tb.kept k kB (f.sf.yR k).1 (f.eR k);have eL8:=f.tb.kept k kB (f.sf.y 3 rfl).1 f.eL;refine⟨_,U,_,U,J,_,_,_,U,U,zQ.of eL8,(show mv _ _=some (V.ref (R k)) by cases k<;>rfl),.inl ⟨U,_,zQ.of eR8⟩,_,U,R k,_,_,U,U,eR8,(by rw[qh];exact QD (by omega)),?_⟩;have em:rws (X7 k).rs++[V.ref r.x]=rws ((X7 k).rs++[r]):=by rw[rws,rws,qI];rfl
    rw[em];show Wl.nx _ _ (upd G8 (R k) (.lst (rws ((X7 k).rs++[r]))));generalize upd G8 (R k) (.lst (rws ((X7 k).rs++[r])))=G9 at tl9⊢;clear f M bk fw sub kB uy hn2 bi2 eR8 eL8 x7 sa7;obtain⟨sx9,est9⟩:=tl9.w.sa.lst;refine⟨_,U,_,U,_,_,U,U,Vr,λJL GA nJ sA' eJ=>?_⟩;have JLst:JL≠A.st:=(Qb est9 nJ).symm;have tlA:=tl9.sx (SX.of sA') (tl9.w.same sA');have kb:∀v∈[V.int (cond k 1 0),V.int (1-cond k 1 0)],∃j:Bool,v=V.int (cond j 1 0):=λv hv=>by
     simp only[qJ,je,wQ] at hv;rcases hv with h|h
     .exact⟨k,h⟩
     .exact⟨!k,by rw[h];cases k<;>rfl⟩
    refine⟨JL,U,⟨_,zQ.of eJ⟩,YN (K:=K) (a:=JL) (xs:=[V.int (cond k 1 0),V.int (1-cond k 1 0)]) (λ_ σ G=>∃(o9:Option V),σ=[some (.ref A.sc),some (.ref A.st),some (.ref A.s),some (.ref I),some (.ref J),some (.ref y),some cv,some (.ref r.x),some (.int (cond k 1 0)),o9]/\∃X,TL K a ns A Z I J y O R ws (i+1) G D' X W6 []/\G JL=some (.lst [V.int (cond k 1 0),V.int (1-cond k 1 0)]))
     ⟨_,U,_,tlA,eJ⟩ ?_ ?_ ?_⟩
    .rintro _ σ G _ ⟨o9,rfl,X,_,e⟩;exact zQ.of e
    .rintro _ v σ G hv ⟨o9,rfl,X,g,eJ⟩;obtain⟨j,rfl⟩:=kb v (qL hv);refine fE (R:=λG=>∃X,TL K a ns A Z I J y O R ws (i+1) G D' X W6 []/\G JL=some (.lst [V.int (cond k 1 0),V.int (1-cond k 1 0)])) (decide (V.int (cond j 1 0)=V.int (cond k 1 0))) (λQ h=>⟨_,U,_,U,U,_,U,h⟩) (λQ h=>⟨_,U,A.st,A.sc,ns,U,g.w.sa,hlen,λr1 G1 r10 r11 x1 sa1=>⟨_,_,U,U,bc,U,_,U,h _ _ ⟨_,g.sx x1 (g.w.sx x1 sa1),x1 _ _ JLst eJ⟩⟩⟩) ?_ (λG1 h=>QU ⟨_,U,h⟩) ⟨X,g,eJ⟩;rintro G ⟨X,g,eJ⟩;have bk:=g.tb.bk j;have bd:=bk.bd;have sub:=HG X W6 [] j;rw[zr] at sub;have fw:=g.few sub;have ro:∀r∈(X j).rs,XS ws r:=λr p=>g.ro r (sub.subset p);rw[<-g.wq] at bd ro;refine⟨_,U,_,U,_,U,_,U,I,_,_,_,U,U,zQ.of g.eB,(show mv _ _=some (V.ref (X j).b) by cases j<;>rfl),_,U,_,U,J,_,_,_,U,U,zQ.of g.eL,(show mv _ _=some (V.ref (R j)) by cases j<;>rfl),A,ns,D',_,_,(X j).b,_,_,_,_,_,_,_,_,_,_,_,R j,_,U,g.w,g.ok,hlen,bd,bk.bi,(g.tb.z j A.st (g.sf.zA _ (by simp[WA.all]))).2,g.eR j,(λr p=>g.ra r (sub.subset p)),ro,(by have:=fw.2.2.2;omega),fw.1,fw.2.1,fw.2.2.1,λG2 x2 w2=>⟨_,U,QU ⟨_,U,_,g.sx x2 w2,x2 _ _ JLst eJ⟩⟩⟩
    .rintro σ G ⟨o9,rfl,X,g,eJ⟩;exact⟨_,_,_,_,D',_,W6,U,g⟩
  .rintro σ G ⟨o6,o7,o8,o9,D,X,W,rfl,g⟩;exact kq _
def tab:qa Tab:=[tF Jl Wu,
 tF JE GU,
 tF Ju W5,
 tF JF GV,
 tF Jv KG,
 tF ZV V5,
 tF ZW V7,
 tF Jm Xv,
 tF Jw KA,
 tF ZX V6,
 tF Jn Xx,
 tF JI Cg,
 tF Z8 GS,
 tF Jo Ce,
 tF Jp GO,
 tF Z9 GQ,
 tF ZK WJ,
 tF ZP Xw,
 tF Jq Cd,
 tF JZ GP,
 tF ZY KC,
 tF ZI Vw,
 tF JJ GN,
 tF Ja X2,
 tF Z0 KD,
 tF Jb X4,
 tF Jr Cf,
 tF ZQ Vv,
 tF ZR Wq,
 tF Jc XZ,
 tF Z1 W9,
 tF Jd GR,
 tF ZC VE,
 tF Z2 W8,
 tF ZZk bC,
 tD (some Je) Zf "Card.__init__" Xz [Hd.bv (.str Zp),Hd.bv (.non)],
 tD (some Zm) Zf "Letter.__init__" Wa [Hd.bv (.str "")],
 tM Zm ZZl "Letter.twin" V9,
 tM Zm ZZp "Letter.parts" VH,
 tM Zm ZZq "Letter.known" VI,
 tM Zm Zr "Letter.words" VG,
 tM Zb Zf "Folders.__init__" VM,
 tD (some Zb) JB "Folders.add" Wb [Hd.bv (.str Zp),Hd.bv (.non)],
 tM Zb Zo "Folders.take_out" Ui,
 tM Zb ZZd "Folders.put_in" UW,
 tM Zb J1 "Folders.put_out" Uw,
 tM Zb Zh "Folders.place" Vl,
 tM Zb Zd "Folders.mark" VL,
 tM Zb ZZe "Folders.unmark" UU,
 tM Zb Ze "Folders.folder" UX,
 tM Zb ZM "Folders.marks" Vn,
 tM Zb JX "Folders.counts" UY,
 tM Zb ZZf "Folders.marked" Y8,
 tM Zb Zl "Folders.names" Vm,
 tM Zb J2 "Folders.folders" Ux,
 tM Zw Zf "Index.__init__" WN,
 tM Zw JB "Index.add" Xy,
 tM Zw Zo "Index.take_out" UT,
 tM Zw ZZg "Index.having" VJ,
 tM Zk Zf "Registers.__init__" US,
 tM Zk "keep" "Registers.keep" UR,
 tD (some Zk) "get" "Registers.get" Vk [Hd.bv (.non)],
 tM Zk J3 "Registers.keys_of" Y2,
 tM Zg Zf "Threads.__init__" VF,
 tD (some Zg) JB "Threads.add" V8 [Hd.bv (.str "")],
 tM Zg Zo "Threads.take_out" Uh,
 tM Zg Zl "Threads.names" Vj,
 tM Zg ZZh "Threads.beside" UQ,
 tM Zg ZZi "Threads.thread" Y7,
 tM Zg ZZZ "Threads.threads" Uv,
 tM Zi Zf "Board.__init__" WQ,
 tM Zi "show" "Board.show" WO,
 tM Zi JV "Board.bring_in" YI,
 tM Zi JQ "Board.marks_told" YL,
 tM Zi Zo "Board.take_out" UZ,
 tM Zi ZZj "Board.change" VN,
 tM Zi Zl "Board.names" Wc,
 tM Zi JS "Board.letter_at" Uy,
 tM Zi "card" "Board.card" WR]
def obs(K:Frag):qa (Option (FuncData×Option (qg))×Bool)×Bool:=(tab.map λt=>Hd.see K (match t.1 with|none=>Hd.gl K t.2.1|some c=>findIn K (.ref (Hd.cl K c)) t.2.1) t.2.2.1,
 [decide ((Hd.gl K ZZm).map (Option.map Hd.uX)=some (some (Hd.bv (.str JA)))),
  decide ((Hd.gl K ZZr).map (Option.map Hd.uX)=some (some (Hd.bv (.str ZG)))),
  decide ((Hd.gl K ZZs).map (Option.map Hd.uX)=some (some (Hd.bv (.int 20)))),
  decide ((Hd.gl K ZZn).map (Option.map Hd.uX)=some (some (Hd.bv (.int 60)))),
  decide ((Hd.gl K ZZt).map (Option.map Hd.uX)=some (some (Hd.bv (.int 400)))),
  decide ((Hd.gl K "LAST_DAY").map (Option.map Hd.uX)=some (some (Hd.bv (.int 9999)))),
  decide ((Hd.gl K "SEEN").map (Option.map Hd.uX)=some (some (Hd.bv (.str JP)))),
  decide (Hd.gl K "len"=some none),
  decide (Hd.gl K "range"=some none),
  decide (Hd.gl K "isinstance"=some none),
  decide (Hd.gl K "str"=some none),
  decide (Hd.gl K "int"=some none),
  decide (Hd.gl K "bool"=some none),
  decide (Hd.gl K "list"=some none),
  decide (Hd.gl K "tuple"=some none),
  decide (Hd.gl K "set"=some none),
  decide (Hd.gl K "all"=some none),
  decide (Hd.gl K "sorted"=some none),
  decide (Hd.gl K Je=some (some (.ref (Hd.cl K Je)))),
  plainGet K (Hd.cl K Je) Str.empty,
  hasDictIn K (Hd.cl K Je),
  plainOver K (Hd.cl K Je),
  decide (findIn K (.ref (Hd.cl K Je)) Jg=some (some (.builtin "object.__setattr__"))),
  makesIn K (Hd.cl K Je),
  keepIn K (.ref (Hd.cl K Je)),
  decide (findIn K (.ref (Hd.cl K Je)) Z7=some none),
  decide (findIn K (.ref (Hd.cl K Je)) "box"=some none),
  decide (findIn K (.ref (Hd.cl K Je)) Jy=some none),
  decide (Hd.gl K Zm=some (some (.ref (Hd.cl K Zm)))),
  plainGet K (Hd.cl K Zm) Str.empty,
  hasDictIn K (Hd.cl K Zm),
  plainOver K (Hd.cl K Zm),
  decide (findIn K (.ref (Hd.cl K Zm)) Jg=some (some (.builtin "object.__setattr__"))),
  makesIn K (Hd.cl K Zm),
  keepIn K (.ref (Hd.cl K Zm)),
  decide (findIn K (.ref (Hd.cl K Zm)) Z4=some none),
  decide (findIn K (.ref (Hd.cl K Zm)) Js=some none),
  decide (findIn K (.ref (Hd.cl K Zm)) JC=some none),
  decide (findIn K (.ref (Hd.cl K Zm)) JM=some none),
  decide (findIn K (.ref (Hd.cl K Zm)) Zq=some none),
  decide (findIn K (.ref (Hd.cl K Zm)) "found"=some none),
  decide (Hd.gl K Zb=some (some (.ref (Hd.cl K Zb)))),
  plainGet K (Hd.cl K Zb) Str.empty,
  hasDictIn K (Hd.cl K Zb),
  plainOver K (Hd.cl K Zb),
  decide (findIn K (.ref (Hd.cl K Zb)) Jg=some (some (.builtin "object.__setattr__"))),
  makesIn K (Hd.cl K Zb),
  keepIn K (.ref (Hd.cl K Zb)),
  decide (findIn K (.ref (Hd.cl K Zb)) Zv=some none),
  decide (findIn K (.ref (Hd.cl K Zb)) Jh=some none),
  decide (findIn K (.ref (Hd.cl K Zb)) JG=some none),
  decide (Hd.gl K Zw=some (some (.ref (Hd.cl K Zw)))),
  plainGet K (Hd.cl K Zw) Str.empty,
  hasDictIn K (Hd.cl K Zw),
  plainOver K (Hd.cl K Zw),
  decide (findIn K (.ref (Hd.cl K Zw)) Jg=some (some (.builtin "object.__setattr__"))),
  makesIn K (Hd.cl K Zw),
  keepIn K (.ref (Hd.cl K Zw)),
  decide (findIn K (.ref (Hd.cl K Zw)) Zz=some none),
  decide (findIn K (.ref (Hd.cl K Zw)) ZO=some none),
  decide (Hd.gl K Zk=some (some (.ref (Hd.cl K Zk)))),
  plainGet K (Hd.cl K Zk) Str.empty,
  hasDictIn K (Hd.cl K Zk),
  plainOver K (Hd.cl K Zk),
  decide (findIn K (.ref (Hd.cl K Zk)) Jg=some (some (.builtin "object.__setattr__"))),
  makesIn K (Hd.cl K Zk),
  keepIn K (.ref (Hd.cl K Zk)),
  decide (findIn K (.ref (Hd.cl K Zk)) JK=some none),
  decide (Hd.gl K Zg=some (some (.ref (Hd.cl K Zg)))),
  plainGet K (Hd.cl K Zg) Str.empty,
  hasDictIn K (Hd.cl K Zg),
  plainOver K (Hd.cl K Zg),
  decide (findIn K (.ref (Hd.cl K Zg)) Jg=some (some (.builtin "object.__setattr__"))),
  makesIn K (Hd.cl K Zg),
  keepIn K (.ref (Hd.cl K Zg)),
  decide (findIn K (.ref (Hd.cl K Zg)) ZT=some none),
  decide (findIn K (.ref (Hd.cl K Zg)) ZS=some none),
  decide (Hd.gl K Zi=some (some (.ref (Hd.cl K Zi)))),
  plainGet K (Hd.cl K Zi) Str.empty,
  hasDictIn K (Hd.cl K Zi),
  plainOver K (Hd.cl K Zi),
  decide (findIn K (.ref (Hd.cl K Zi)) Jg=some (some (.builtin "object.__setattr__"))),
  makesIn K (Hd.cl K Zi),
  keepIn K (.ref (Hd.cl K Zi)),
  decide (findIn K (.ref (Hd.cl K Zi)) Zu=some none),
  decide (findIn K (.ref (Hd.cl K Zi)) Zs=some none),
  decide (findIn K (.ref (Hd.cl K Zi)) Jt=some none),
  decide (findIn K (.ref (Hd.cl K Zi)) Jx=some none),
  decide (findIn K (.ref (Hd.cl K Zi)) ZZa=some none)].all id)
def good:qa (Option (FuncData×Option (qg))×Bool)×Bool:=(tab.map λt=>(some (Hd.tH t.2.1 t.2.2.1 t.2.2.2.1,t.2.2.2.2),true),true)
def all_mk{l:PySem.W.OpenLaw}{h:Heap}{fa:qc}(X:K.In h)(E:obs K=good)(G:h.Ns mainGlobals mg)(hfa:mg ZZk=some (.ref fa)) :
 ∃fd:FuncData,(∀(s:Shared)(v:qd),BindsTo s fd ⟨[v],[]⟩ [(ZE,v)])/\∀base:Heap,K.In base->base.Ns mainGlobals mg->AB l.prog w K mg base j6 60 fa fd [ZE] (Qby K):=by
 have b:=zV Prod.fst E;have a:=zV Prod.snd E;obtain⟨a1,k1,i1,_,F1⟩:=Hd.qX (Hd.zw b 0 rfl rfl);obtain⟨a2,k2,i2,_,F2⟩:=Hd.qX (Hd.zw b 1 rfl rfl);obtain⟨a3,k3,i3,_,F3⟩:=Hd.qX (Hd.zw b 2 rfl rfl);obtain⟨a4,k4,i4,_,F4⟩:=Hd.qX (Hd.zw b 3 rfl rfl);obtain⟨a5,k5,i5,_,F5⟩:=Hd.qX (Hd.zw b 4 rfl rfl);obtain⟨a6,k6,i6,_,F6⟩:=Hd.qX (Hd.zw b 5 rfl rfl);obtain⟨a7,k7,i7,_,F7⟩:=Hd.qX (Hd.zw b 6 rfl rfl);obtain⟨a8,k8,i8,_,F8⟩:=Hd.qX (Hd.zw b 7 rfl rfl);obtain⟨a9,k9,i9,_,F9⟩:=Hd.qX (Hd.zw b 8 rfl rfl);obtain⟨a10,k10,i10,_,n⟩:=Hd.qX (Hd.zw b 9 rfl rfl);obtain⟨a11,k11,i11,_,o⟩:=Hd.qX (Hd.zw b 10 rfl rfl);obtain⟨a12,k12,i12,_,p⟩:=Hd.qX (Hd.zw b 11 rfl rfl);obtain⟨a13,k13,i13,_,q⟩:=Hd.qX (Hd.zw b 12 rfl rfl);obtain⟨a14,k14,i14,_,r⟩:=Hd.qX (Hd.zw b 13 rfl rfl);obtain⟨a15,k15,i15,_,t⟩:=Hd.qX (Hd.zw b 14 rfl rfl);obtain⟨a16,k16,i16,_,u⟩:=Hd.qX (Hd.zw b 15 rfl rfl);obtain⟨a17,k17,i17,_,x⟩:=Hd.qX (Hd.zw b 16 rfl rfl);obtain⟨a18,k18,i18,_,y⟩:=Hd.qX (Hd.zw b 17 rfl rfl);obtain⟨a19,k19,i19,_,z⟩:=Hd.qX (Hd.zw b 18 rfl rfl);obtain⟨a20,k20,i20,_,B⟩:=Hd.qX (Hd.zw b 19 rfl rfl);obtain⟨a21,k21,i21,_,C⟩:=Hd.qX (Hd.zw b 20 rfl rfl);obtain⟨a22,k22,i22,_,D⟩:=Hd.qX (Hd.zw b 21 rfl rfl);obtain⟨a23,k23,i23,_,F⟩:=Hd.qX (Hd.zw b 22 rfl rfl);obtain⟨a24,k24,i24,_,H⟩:=Hd.qX (Hd.zw b 23 rfl rfl);obtain⟨a25,k25,i25,_,I⟩:=Hd.qX (Hd.zw b 24 rfl rfl);obtain⟨a26,k26,i26,_,J⟩:=Hd.qX (Hd.zw b 25 rfl rfl);obtain⟨a27,k27,i27,_,L⟩:=Hd.qX (Hd.zw b 26 rfl rfl);obtain⟨a28,k28,i28,_,M⟩:=Hd.qX (Hd.zw b 27 rfl rfl);obtain⟨a29,k29,i29,_,N⟩:=Hd.qX (Hd.zw b 28 rfl rfl);obtain⟨a30,k30,i30,_,O⟩:=Hd.qX (Hd.zw b 29 rfl rfl);obtain⟨a31,k31,i31,_,Q⟩:=Hd.qX (Hd.zw b 30 rfl rfl);obtain⟨a32,k32,i32,_,R⟩:=Hd.qX (Hd.zw b 31 rfl rfl);obtain⟨a33,k33,i33,_,S⟩:=Hd.qX (Hd.zw b 32 rfl rfl);obtain⟨a34,k34,i34,_,V⟩:=Hd.qX (Hd.zw b 33 rfl rfl);obtain⟨a35,k35,i35,_,g⟩:=Hd.qX (Hd.zw b 34 rfl rfl);obtain⟨a36,k36,i36,D36,kV36,dc36,pm36,an36,cd36,ct36,o36,it36,Dn36,F36,i,j,m36⟩:=Hd.uU (Hd.zw b 35 rfl rfl);obtain⟨dv36_0,dv36_1,rfl,QdK,Qcx⟩:=Hd.map2 m36;obtain⟨a37,k37,i37,D37,kV37,dc37,pm37,an37,cd37,ct37,o37,it37,Dn37,F37,Y,Z,m37⟩:=Hd.uU (Hd.zw b 36 rfl rfl);obtain⟨dv37_0,rfl,QdJ⟩:=Hd.QdQ m37;obtain⟨a38,k38,i38,_,F38⟩:=Hd.qX (Hd.zw b 37 rfl rfl);obtain⟨a39,k39,i39,_,F39⟩:=Hd.qX (Hd.zw b 38 rfl rfl);obtain⟨a40,k40,i40,_,F40⟩:=Hd.qX (Hd.zw b 39 rfl rfl);obtain⟨a41,k41,i41,_,F41⟩:=Hd.qX (Hd.zw b 40 rfl rfl);obtain⟨a42,k42,i42,_,F42⟩:=Hd.qX (Hd.zw b 41 rfl rfl);obtain⟨a43,k43,i43,D43,kV43,dc43,pm43,an43,cd43,ct43,o43,it43,Dn43,F43,k,m,m43⟩:=Hd.uU (Hd.zw b 42 rfl rfl);obtain⟨dv43_0,dv43_1,rfl,QdI,Qcw⟩:=Hd.map2 m43;obtain⟨a44,k44,i44,_,F44⟩:=Hd.qX (Hd.zw b 43 rfl rfl);obtain⟨a45,k45,i45,_,F45⟩:=Hd.qX (Hd.zw b 44 rfl rfl);obtain⟨a46,k46,i46,_,F46⟩:=Hd.qX (Hd.zw b 45 rfl rfl);obtain⟨a47,k47,i47,_,F47⟩:=Hd.qX (Hd.zw b 46 rfl rfl);obtain⟨a48,k48,i48,_,F48⟩:=Hd.qX (Hd.zw b 47 rfl rfl);obtain⟨a49,k49,i49,_,F49⟩:=Hd.qX (Hd.zw b 48 rfl rfl);obtain⟨a50,k50,i50,_,F50⟩:=Hd.qX (Hd.zw b 49 rfl rfl);obtain⟨a51,k51,i51,_,F51⟩:=Hd.qX (Hd.zw b 50 rfl rfl);obtain⟨a52,k52,i52,_,F52⟩:=Hd.qX (Hd.zw b 51 rfl rfl);obtain⟨a53,k53,i53,_,F53⟩:=Hd.qX (Hd.zw b 52 rfl rfl);obtain⟨a54,k54,i54,_,F54⟩:=Hd.qX (Hd.zw b 53 rfl rfl);obtain⟨a55,k55,i55,_,F55⟩:=Hd.qX (Hd.zw b 54 rfl rfl);obtain⟨a56,k56,i56,_,F56⟩:=Hd.qX (Hd.zw b 55 rfl rfl);obtain⟨a57,k57,i57,_,F57⟩:=Hd.qX (Hd.zw b 56 rfl rfl);obtain⟨a58,k58,i58,_,F58⟩:=Hd.qX (Hd.zw b 57 rfl rfl);obtain⟨a59,k59,i59,_,F59⟩:=Hd.qX (Hd.zw b 58 rfl rfl);obtain⟨a60,k60,i60,_,F60⟩:=Hd.qX (Hd.zw b 59 rfl rfl);obtain⟨a61,k61,i61,_,F61⟩:=Hd.qX (Hd.zw b 60 rfl rfl);obtain⟨a62,k62,i62,D62,kV62,dc62,pm62,an62,cd62,ct62,o62,it62,Dn62,F62,t62,s62,m62⟩:=Hd.uU (Hd.zw b 61 rfl rfl);obtain⟨dv62_0,rfl,QdH⟩:=Hd.QdQ m62;obtain⟨a63,k63,i63,_,F63⟩:=Hd.qX (Hd.zw b 62 rfl rfl);obtain⟨a64,k64,i64,_,F64⟩:=Hd.qX (Hd.zw b 63 rfl rfl);obtain⟨a65,k65,i65,D65,kV65,dc65,pm65,an65,cd65,ct65,o65,it65,Dn65,F65,t65,s65,m65⟩:=Hd.uU (Hd.zw b 64 rfl rfl);obtain⟨dv65_0,rfl,QdG⟩:=Hd.QdQ m65;obtain⟨a66,k66,i66,_,F66⟩:=Hd.qX (Hd.zw b 65 rfl rfl);obtain⟨a67,k67,i67,_,F67⟩:=Hd.qX (Hd.zw b 66 rfl rfl);obtain⟨a68,k68,i68,_,F68⟩:=Hd.qX (Hd.zw b 67 rfl rfl);obtain⟨a69,k69,i69,_,F69⟩:=Hd.qX (Hd.zw b 68 rfl rfl);obtain⟨a70,k70,i70,_,F70⟩:=Hd.qX (Hd.zw b 69 rfl rfl);obtain⟨a71,k71,i71,_,F71⟩:=Hd.qX (Hd.zw b 70 rfl rfl);obtain⟨a72,k72,i72,_,F72⟩:=Hd.qX (Hd.zw b 71 rfl rfl);obtain⟨a73,k73,i73,_,F73⟩:=Hd.qX (Hd.zw b 72 rfl rfl);obtain⟨a74,k74,i74,_,F74⟩:=Hd.qX (Hd.zw b 73 rfl rfl);obtain⟨a75,k75,i75,_,F75⟩:=Hd.qX (Hd.zw b 74 rfl rfl);obtain⟨a76,k76,i76,_,F76⟩:=Hd.qX (Hd.zw b 75 rfl rfl);obtain⟨a77,k77,i77,_,F77⟩:=Hd.qX (Hd.zw b 76 rfl rfl);obtain⟨a78,k78,i78,_,F78⟩:=Hd.qX (Hd.zw b 77 rfl rfl);obtain⟨a79,k79,i79,_,F79⟩:=Hd.qX (Hd.zw b 78 rfl rfl);have e:Value.ref fa=.ref (Hd.zP (Hd.gl K ZZk)):=qN (hfa.symm.trans (mg_of X G a35))
 injection e with e
 subst e
 let A:yD:=⟨Hd.zP (Hd.gl K Jl),Hd.zP (Hd.gl K JE),Hd.zP (Hd.gl K Ju),Hd.zP (Hd.gl K JF),Hd.zP (Hd.gl K Jv),Hd.zP (Hd.gl K ZV),Hd.zP (Hd.gl K ZW),Hd.zP (Hd.gl K Jm),Hd.zP (Hd.gl K Jw),Hd.zP (Hd.gl K ZX),Hd.zP (Hd.gl K Jn),Hd.zP (Hd.gl K JI),Hd.zP (Hd.gl K Z8),Hd.zP (Hd.gl K Jo),Hd.zP (Hd.gl K Jp),Hd.zP (Hd.gl K Z9),Hd.zP (Hd.gl K ZK),Hd.zP (Hd.gl K ZP),Hd.zP (Hd.gl K Jq),Hd.zP (Hd.gl K JZ),Hd.zP (Hd.gl K ZY),Hd.zP (Hd.gl K ZI),Hd.zP (Hd.gl K JJ),Hd.zP (Hd.gl K Ja),Hd.zP (Hd.gl K Z0),Hd.zP (Hd.gl K Jb),Hd.zP (Hd.gl K Jr),Hd.zP (Hd.gl K ZQ),Hd.zP (Hd.gl K ZR),Hd.zP (Hd.gl K Jc),Hd.zP (Hd.gl K Z1),Hd.zP (Hd.gl K Jd),Hd.zP (Hd.gl K ZC),Hd.zP (Hd.gl K Z2),Hd.zP (Hd.gl K ZZk),Hd.zP (findIn K (.ref (Hd.cl K Je)) Zf),Hd.zP (findIn K (.ref (Hd.cl K Zm)) Zf),Hd.zP (findIn K (.ref (Hd.cl K Zm)) ZZl),Hd.zP (findIn K (.ref (Hd.cl K Zm)) ZZp),Hd.zP (findIn K (.ref (Hd.cl K Zm)) ZZq),Hd.zP (findIn K (.ref (Hd.cl K Zm)) Zr),Hd.zP (findIn K (.ref (Hd.cl K Zb)) Zf),Hd.zP (findIn K (.ref (Hd.cl K Zb)) JB),Hd.zP (findIn K (.ref (Hd.cl K Zb)) Zo),Hd.zP (findIn K (.ref (Hd.cl K Zb)) ZZd),Hd.zP (findIn K (.ref (Hd.cl K Zb)) J1),Hd.zP (findIn K (.ref (Hd.cl K Zb)) Zh),Hd.zP (findIn K (.ref (Hd.cl K Zb)) Zd),Hd.zP (findIn K (.ref (Hd.cl K Zb)) ZZe),Hd.zP (findIn K (.ref (Hd.cl K Zb)) Ze),Hd.zP (findIn K (.ref (Hd.cl K Zb)) ZM),Hd.zP (findIn K (.ref (Hd.cl K Zb)) JX),Hd.zP (findIn K (.ref (Hd.cl K Zb)) ZZf),Hd.zP (findIn K (.ref (Hd.cl K Zb)) Zl),Hd.zP (findIn K (.ref (Hd.cl K Zb)) J2),Hd.zP (findIn K (.ref (Hd.cl K Zw)) Zf),Hd.zP (findIn K (.ref (Hd.cl K Zw)) JB),Hd.zP (findIn K (.ref (Hd.cl K Zw)) Zo),Hd.zP (findIn K (.ref (Hd.cl K Zw)) ZZg),Hd.zP (findIn K (.ref (Hd.cl K Zk)) Zf),Hd.zP (findIn K (.ref (Hd.cl K Zk)) "keep"),Hd.zP (findIn K (.ref (Hd.cl K Zk)) "get"),Hd.zP (findIn K (.ref (Hd.cl K Zk)) J3),Hd.zP (findIn K (.ref (Hd.cl K Zg)) Zf),Hd.zP (findIn K (.ref (Hd.cl K Zg)) JB),Hd.zP (findIn K (.ref (Hd.cl K Zg)) Zo),Hd.zP (findIn K (.ref (Hd.cl K Zg)) Zl),Hd.zP (findIn K (.ref (Hd.cl K Zg)) ZZh),Hd.zP (findIn K (.ref (Hd.cl K Zg)) ZZi),Hd.zP (findIn K (.ref (Hd.cl K Zg)) ZZZ),Hd.zP (findIn K (.ref (Hd.cl K Zi)) Zf),Hd.zP (findIn K (.ref (Hd.cl K Zi)) "show"),Hd.zP (findIn K (.ref (Hd.cl K Zi)) JV),Hd.zP (findIn K (.ref (Hd.cl K Zi)) JQ),Hd.zP (findIn K (.ref (Hd.cl K Zi)) Zo),Hd.zP (findIn K (.ref (Hd.cl K Zi)) ZZj),Hd.zP (findIn K (.ref (Hd.cl K Zi)) Zl),Hd.zP (findIn K (.ref (Hd.cl K Zi)) JS),Hd.zP (findIn K (.ref (Hd.cl K Zi)) "card"),Hd.cl K Je,Hd.cl K Zm,Hd.cl K Zb,Hd.cl K Zw,Hd.cl K Zk,Hd.cl K Zg,Hd.cl K Zi⟩
 have T:∀{P w base},Txt P w K mg base A:=⟨mg_of X G a1,
  mg_of X G a2,
  mg_of X G a3,
  mg_of X G a4,
  mg_of X G a5,
  mg_of X G a6,
  mg_of X G a7,
  mg_of X G a8,
  mg_of X G a9,
  mg_of X G a10,
  mg_of X G a11,
  mg_of X G a12,
  mg_of X G a13,
  mg_of X G a14,
  mg_of X G a15,
  mg_of X G a16,
  mg_of X G a17,
  mg_of X G a18,
  mg_of X G a19,
  mg_of X G a20,
  mg_of X G a21,
  mg_of X G a22,
  mg_of X G a23,
  mg_of X G a24,
  mg_of X G a25,
  mg_of X G a26,
  mg_of X G a27,
  mg_of X G a28,
  mg_of X G a29,
  mg_of X G a30,
  mg_of X G a31,
  mg_of X G a32,
  mg_of X G a33,
  mg_of X G a34,
  Hd.vW X G (ql (Hd.qZ a 0 rfl)),
  Hd.vW X G (ql (Hd.qZ a 1 rfl)),
  Hd.vW X G (ql (Hd.qZ a 2 rfl)),
  Hd.vW X G (ql (Hd.qZ a 3 rfl)),
  Hd.vW X G (ql (Hd.qZ a 4 rfl)),
  Hd.vW X G (ql (Hd.qZ a 5 rfl)),
  Hd.vW X G (ql (Hd.qZ a 6 rfl)),
  mg_none_of X G (ql (Hd.qZ a 7 rfl)),
  mg_none_of X G (ql (Hd.qZ a 8 rfl)),
  mg_none_of X G (ql (Hd.qZ a 9 rfl)),
  mg_none_of X G (ql (Hd.qZ a 10 rfl)),
  mg_none_of X G (ql (Hd.qZ a 11 rfl)),
  mg_none_of X G (ql (Hd.qZ a 12 rfl)),
  mg_none_of X G (ql (Hd.qZ a 13 rfl)),
  mg_none_of X G (ql (Hd.qZ a 14 rfl)),
  mg_none_of X G (ql (Hd.qZ a 15 rfl)),
  mg_none_of X G (ql (Hd.qZ a 16 rfl)),
  mg_none_of X G (ql (Hd.qZ a 17 rfl)),
  mg_of X G (ql (Hd.qZ a 18 rfl)),
  ⟨(Hd.qZ a 19 rfl),(Hd.qZ a 20 rfl),(Hd.qZ a 21 rfl),(ql (Hd.qZ a 22 rfl))⟩,
  ⟨(Hd.qZ a 23 rfl),a36,i36,(Hd.qZ a 24 rfl)⟩,
  (Hd.xj (Hd.qZ a 25 rfl)),
  (Hd.xj (Hd.qZ a 26 rfl)),
  (Hd.xj (Hd.qZ a 27 rfl)),
  mg_of X G (ql (Hd.qZ a 28 rfl)),
  ⟨(Hd.qZ a 29 rfl),(Hd.qZ a 30 rfl),(Hd.qZ a 31 rfl),(ql (Hd.qZ a 32 rfl))⟩,
  ⟨(Hd.qZ a 33 rfl),a37,i37,(Hd.qZ a 34 rfl)⟩,
  ⟨a38,i38,k38⟩,
  ⟨a39,i39,k39⟩,
  ⟨a40,i40,k40⟩,
  ⟨a41,i41,k41⟩,
  (Hd.xj (Hd.qZ a 35 rfl)),
  (Hd.xj (Hd.qZ a 36 rfl)),
  (Hd.xj (Hd.qZ a 37 rfl)),
  (Hd.xj (Hd.qZ a 38 rfl)),
  (Hd.xj (Hd.qZ a 39 rfl)),
  (Hd.xj (Hd.qZ a 40 rfl)),
  mg_of X G (ql (Hd.qZ a 41 rfl)),
  ⟨(Hd.qZ a 42 rfl),(Hd.qZ a 43 rfl),(Hd.qZ a 44 rfl),(ql (Hd.qZ a 45 rfl))⟩,
  ⟨(Hd.qZ a 46 rfl),a42,i42,(Hd.qZ a 47 rfl)⟩,
  ⟨a43,i43,k43⟩,
  ⟨a44,i44,k44⟩,
  ⟨a45,i45,k45⟩,
  ⟨a46,i46,k46⟩,
  ⟨a47,i47,k47⟩,
  ⟨a48,i48,k48⟩,
  ⟨a49,i49,k49⟩,
  ⟨a50,i50,k50⟩,
  ⟨a51,i51,k51⟩,
  ⟨a52,i52,k52⟩,
  ⟨a53,i53,k53⟩,
  ⟨a54,i54,k54⟩,
  ⟨a55,i55,k55⟩,
  (Hd.xj (Hd.qZ a 48 rfl)),
  (Hd.xj (Hd.qZ a 49 rfl)),
  (Hd.xj (Hd.qZ a 50 rfl)),
  mg_of X G (ql (Hd.qZ a 51 rfl)),
  ⟨(Hd.qZ a 52 rfl),(Hd.qZ a 53 rfl),(Hd.qZ a 54 rfl),(ql (Hd.qZ a 55 rfl))⟩,
  ⟨(Hd.qZ a 56 rfl),a56,i56,(Hd.qZ a 57 rfl)⟩,
  ⟨a57,i57,k57⟩,
  ⟨a58,i58,k58⟩,
  ⟨a59,i59,k59⟩,
  (Hd.xj (Hd.qZ a 58 rfl)),
  (Hd.xj (Hd.qZ a 59 rfl)),
  mg_of X G (ql (Hd.qZ a 60 rfl)),
  ⟨(Hd.qZ a 61 rfl),(Hd.qZ a 62 rfl),(Hd.qZ a 63 rfl),(ql (Hd.qZ a 64 rfl))⟩,
  ⟨(Hd.qZ a 65 rfl),a60,i60,(Hd.qZ a 66 rfl)⟩,
  ⟨a61,i61,k61⟩,
  ⟨a62,i62,k62⟩,
  ⟨a63,i63,k63⟩,
  (Hd.xj (Hd.qZ a 67 rfl)),
  mg_of X G (ql (Hd.qZ a 68 rfl)),
  ⟨(Hd.qZ a 69 rfl),(Hd.qZ a 70 rfl),(Hd.qZ a 71 rfl),(ql (Hd.qZ a 72 rfl))⟩,
  ⟨(Hd.qZ a 73 rfl),a64,i64,(Hd.qZ a 74 rfl)⟩,
  ⟨a65,i65,k65⟩,
  ⟨a66,i66,k66⟩,
  ⟨a67,i67,k67⟩,
  ⟨a68,i68,k68⟩,
  ⟨a69,i69,k69⟩,
  ⟨a70,i70,k70⟩,
  (Hd.xj (Hd.qZ a 75 rfl)),
  (Hd.xj (Hd.qZ a 76 rfl)),
  mg_of X G (ql (Hd.qZ a 77 rfl)),
  ⟨(Hd.qZ a 78 rfl),(Hd.qZ a 79 rfl),(Hd.qZ a 80 rfl),(ql (Hd.qZ a 81 rfl))⟩,
  ⟨(Hd.qZ a 82 rfl),a71,i71,(Hd.qZ a 83 rfl)⟩,
  ⟨a72,i72,k72⟩,
  ⟨a73,i73,k73⟩,
  ⟨a74,i74,k74⟩,
  ⟨a75,i75,k75⟩,
  ⟨a76,i76,k76⟩,
  ⟨a77,i77,k77⟩,
  ⟨a78,i78,k78⟩,
  ⟨a79,i79,k79⟩,
  (Hd.xj (Hd.qZ a 84 rfl)),
  (Hd.xj (Hd.qZ a 85 rfl)),
  (Hd.xj (Hd.qZ a 86 rfl)),
  (Hd.xj (Hd.qZ a 87 rfl)),
  (Hd.xj (Hd.qZ a 88 rfl))⟩
 have FF:Yz K A:=⟨⟨_,F1,F1.uy⟩,⟨_,F2,F2.lL⟩,⟨_,F3,F3.lL⟩,⟨_,F4,F4.uy⟩,⟨_,F5,F5.lL⟩,⟨_,F6,F6.lL⟩,⟨_,F7,F7.bd5⟩,⟨_,F8,F8.lL⟩,⟨_,F9,F9.lL⟩,⟨_,n,n.uy⟩,⟨_,o,o.uy⟩,⟨_,p,p.lL⟩,⟨_,q,q.lL⟩,⟨_,r,r.lL⟩,⟨_,t,t.bd3⟩,⟨_,u,u.uy⟩,⟨_,x,x.uy⟩,⟨_,y,y.uy⟩,⟨_,z,z.uy⟩,⟨_,B,B.bd3⟩,⟨_,C,C.bd3⟩,⟨_,D,D.bd3⟩,⟨_,F,F.uy⟩,⟨_,H,H.lL⟩,⟨_,I,I.uy⟩,⟨_,J,J.uy⟩,⟨_,L,L.bd3⟩,⟨_,M,M.lL⟩,⟨_,N,N.uy⟩,⟨_,O,O.lL⟩,⟨_,Q,Q.uy⟩,⟨_,R,R.bd3⟩,⟨_,S,S.uy⟩,⟨_,V,V.bd4⟩,⟨_,g,g.lL⟩,⟨_,F36,(λs us f d=>have c:us.length=4:=(by simpa using d);(by clear d;revert c;revert us;refine bh ?_;intros;exact binds_K f rfl i j rfl rfl)),⟨_,(.cons (Hd.xq QdK) (.cons (Hd.xq Qcx) .nil)),(λs us f d=>have c:us.length=2:=(by simpa using d);(by clear d;revert c;revert us;refine Pe ?_;intros;exact binds_K f rfl i j rfl rfl))⟩,⟨_,(.cons (Hd.xq Qcx) .nil),(λs us f d=>have c:us.length=3:=(by simpa using d);(by clear d;revert c;revert us;refine Pd ?_;intros;exact binds_K f rfl i j rfl rfl))⟩⟩,⟨_,F37,(λs us f d=>have c:us.length=6:=(by simpa using d);(by clear d;revert c;revert us;refine us_6 ?_;intros;exact binds_K f rfl Y Z rfl rfl)),⟨_,(.cons (Hd.xq QdJ) .nil),(λs us f d=>have c:us.length=5:=(by simpa using d);(by clear d;revert c;revert us;refine dU ?_;intros;exact binds_K f rfl Y Z rfl rfl))⟩⟩,⟨_,F38,F38.lL⟩,⟨_,F39,F39.lL⟩,⟨_,F40,F40.lL⟩,⟨_,F41,F41.lL⟩,⟨_,F42,F42.lL⟩,⟨_,F43,(λs us f d=>have c:us.length=4:=(by simpa using d);(by clear d;revert c;revert us;refine bh ?_;intros;exact binds_K f rfl k m rfl rfl)),⟨_,(.cons (Hd.xq QdI) (.cons (Hd.xq Qcw) .nil)),(λs us f d=>have c:us.length=2:=(by simpa using d);(by clear d;revert c;revert us;refine Pe ?_;intros;exact binds_K f rfl k m rfl rfl))⟩,⟨_,(.cons (Hd.xq Qcw) .nil),(λs us f d=>have c:us.length=3:=(by simpa using d);(by clear d;revert c;revert us;refine Pd ?_;intros;exact binds_K f rfl k m rfl rfl))⟩⟩,⟨_,F44,F44.uy⟩,⟨_,F45,F45.bd3⟩,⟨_,F46,F46.uy⟩,⟨_,F47,F47.bd3⟩,⟨_,F48,F48.bd3⟩,⟨_,F49,F49.bd3⟩,⟨_,F50,F50.uy⟩,⟨_,F51,F51.uy⟩,⟨_,F52,F52.uy⟩,⟨_,F53,F53.bd3⟩,⟨_,F54,F54.uy⟩,⟨_,F55,F55.lL⟩,⟨_,F56,F56.lL⟩,⟨_,F57,F57.bd3⟩,⟨_,F58,F58.uy⟩,⟨_,F59,F59.uy⟩,⟨_,F60,F60.lL⟩,⟨_,F61,F61.bd4⟩,⟨_,F62,(λs us f d=>have c:us.length=3:=(by simpa using d);(by clear d;revert c;revert us;refine Pd ?_;intros;exact binds_K f rfl t62 s62 rfl rfl)),⟨_,(.cons (Hd.xq QdH) .nil),(λs us f d=>have c:us.length=2:=(by simpa using d);(by clear d;revert c;revert us;refine Pe ?_;intros;exact binds_K f rfl t62 s62 rfl rfl))⟩⟩,⟨_,F63,F63.uy⟩,⟨_,F64,F64.lL⟩,⟨_,F65,(λs us f d=>have c:us.length=3:=(by simpa using d);(by clear d;revert c;revert us;refine Pd ?_;intros;exact binds_K f rfl t65 s65 rfl rfl)),⟨_,(.cons (Hd.xq QdG) .nil),(λs us f d=>have c:us.length=2:=(by simpa using d);(by clear d;revert c;revert us;refine Pe ?_;intros;exact binds_K f rfl t65 s65 rfl rfl))⟩⟩,⟨_,F66,F66.uy⟩,⟨_,F67,F67.lL⟩,⟨_,F68,F68.uy⟩,⟨_,F69,F69.uy⟩,⟨_,F70,F70.lL⟩,⟨_,F71,F71.lL⟩,⟨_,F72,F72.uy⟩,⟨_,F73,F73.uy⟩,⟨_,F74,F74.uy⟩,⟨_,F75,F75.uy⟩,⟨_,F76,F76.uy⟩,⟨_,F77,F77.lL⟩,⟨_,F78,F78.uy⟩,⟨_,F79,F79.uy⟩⟩;obtain⟨_,_,kV,doc,pm,an,cdv,ct,_,rfl,_,_⟩:=g.ex;exact⟨_,λs v=>.of_eq rfl,λbase _ _=>fM g T FF⟩
abbrev PP:Program:=PySem.Challenge.pw_mailroom_k51_boards_looked_at
def loose:qe:=(["_wall","Card","MailError","NoLetter","NoName","WORD_SIGNS","RUN_SIGNS","MOST_WORD","all_among","is_word","words_of","MOST_TITLE","MOST_BODY","LAST_DAY","is_text","is_whole","is_answered","check_parts","Letter","letter_of","stamp_of","check_there","check_new","SEEN","Folders","Index","Registers","Threads","key_of","Board","_law_begin","_law_next","_law_word","_law_hands","_law_shuffled","_law_by_stamp","_law_word_by","_law_text","_law_named","_law_put_by","_law_stamped","_law_world","_law_plain","_law_folder","_law_marks","_law_hang","_law_threads","_law_folders","_law_words","_law_having","_law_cards","_law_names_told","_law_looked"]:qa String).map Str.ofString
def seen(w:World)(os:OsState):(Hd.pC (Hd.Qbx Hd.Qda PP w) (Hd.okQ 11 (some (.ref 6))) 20000 (Hd.S0 w os) (PySem.W.topStub PP)).map (λs=>(Hd.chk PP w.params s.abs,Hd.seenQ (view PP [65]) loose (PySem.importedModules PP.main.body) (λs=>PySem.W.recOk [] s) true s.abs,obs (Hd.Qaz s)))=some (true,PySem.W.openGood (view PP [65]) loose,good):=by kernel_rfl
def look:PySem.W.Fast.tw9446332074065402090 PySem.Challenge.rw_mailroom_k51_boards_looked_at=true:=by kernel_rfl
def opens:PySem.W.opening PP=PySem.W.plainProg PP.main.scope.names:=by kernel_rfl
def fence(s:Shared):fenceModules? PP s=some s:=by kernel_rfl
end K52
open PySem PySem.W PyProof.Rows
set_option maxRecDepth 100000 in
set_option maxHeartbeats 0 in
theorem PySem.Challenge.cw_mailroom_k51_boards_looked_at_holds : PySem.Challenge.rw_mailroom_k51_boards_looked_at.Holds := by
 refine Hd.close (q:=view K52.PP [65]) (loose:=K52.loose) (N:=20000) (obs:=K52.obs) (good:=K52.good) K52.look K52.opens rfl K52.fence K52.seen rfl rfl rfl rfl (by decide +kernel) ⟨rfl,rfl,rfl,rfl,rfl,by decide +kernel⟩ ?hw ?hc
 case hw=>w_witness2
 case hc=>exact Hd.walk (n:=63) (k:=60) (x:="_law_script") (sp:=K52.Qby) rfl (by decide) rfl ⟨rfl,by decide,by decide,rfl⟩ (fun w K mg fa h KX y G hmg=>K52.all_mk KX y G hmg) (fun _ _ a ns hl _ hS=>⟨a,ns,rfl,hS,hl,fun _=>rfl⟩)
#print axioms PySem.Challenge.cw_mailroom_k51_boards_looked_at_holds
