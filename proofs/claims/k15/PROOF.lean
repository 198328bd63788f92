import PyProof.Rows.All
import Wide.All
import OpenK.AllK
import Wide.FinOn
import Lean
import PyProof.EqAt
import PyProof.EqKinds
import PyProof.TupleCall
import PyProof.P3In
import KE.KDictLaws
import PyProof.Rows.SetFrom
import KE.KRevSl
import KE.KIntText
import KE.KLcPair
import KE.KIsAll
import PyProof.ExcArgsOwn
import PyProof.ExcAttrAll.ValueError
import PyProof.NsDelKeeps
import PyProof.Rows.CountFlat
import KE.RegKIsAll
import PyProof.WalksMore
import PyProof.FString5
import KE.KListMore
import PyProof.ZipIter
import PyProof.FString
import PyProof.StrLawsReplace
import PyProof.MinMaxWalk
import PyProof.WalkInts
import PyProof.Rows.MinMaxN
import PyProof.Rows.CallKwBuiltin
import KE.KMinKey
import PyProof.InstStoreFacts
import PyProof.ReprStr
import PyProof.StrLawsRepr
import KE.IntTextLaws
import PySem.Challenge.RW_mailroom_k15_conditions_refused
noncomputable section
set_option Elab.async false
set_option linter.all false
set_option maxRecDepth 100000
namespace L2
open PySem PySem.Spec PyProof.Rows
abbrev Key:=Sum Int Str
def keyIs:Key→Value→Bool
 | .inl k,v=>Value.isInt k v
 | .inr x,v=>Value.isStrOf x v
def keyH (w:World):Key→Int
 | .inl k=>hashInt k
 | .inr x=>hashStr w x
theorem keyIs_shape:∀{k:Key} {v:Value},keyIs k v=true→(∃i t,k=Sum.inl i∧v=Value.int i t)∨(∃x t,k=Sum.inr x∧v=Value.str x t)
 | .inl i,v,h=>by
   obtain ⟨t,e⟩:=Value.isInt_shape (k:=i) (v:=v) h
   exact .inl ⟨i,t,rfl,e⟩
 | .inr x,v,h=>by
   obtain ⟨t,e⟩:=Value.isStrOf_shape (x:=x) (v:=v) h
   exact .inr ⟨x,t,rfl,e⟩
theorem key_ll (a b:Int):decide ((Sum.inl a:Key)=Sum.inl b)=(a == b):=by
 by_cases e:a=b
 ·subst e;simp
 ·have h:¬(Sum.inl a:Key)=Sum.inl b:=fun q=>e (Sum.inl.inj q)
  rw [decide_eq_false h]
  exact (beq_eq_false_iff_ne.mpr e).symm
theorem key_rr (a b:Str):decide ((Sum.inr a:Key)=Sum.inr b)=decide (a=b):=by
 by_cases e:a=b
 ·subst e;simp
 ·have h:¬(Sum.inr a:Key)=Sum.inr b:=fun q=>e (Sum.inr.inj q)
  rw [decide_eq_false h,decide_eq_false e]
theorem key_lr (a:Int) (b:Str):decide ((Sum.inl a:Key)=Sum.inr b)=false:=decide_eq_false (fun q=>nomatch q)
theorem key_rl (a:Str) (b:Int):decide ((Sum.inr a:Key)=Sum.inl b)=false:=decide_eq_false (fun q=>nomatch q)
def mixKind (prog:Program) (w:World):PySem.KeyKind prog w Key where
 is:=keyIs
 hash:=keyH w
 inj:=fun v a b ha hb=>by
  rcases keyIs_shape ha with ⟨i,t,rfl,rfl⟩ | ⟨x,t,rfl,rfl⟩
  ·rcases keyIs_shape hb with ⟨j,u,rfl,e⟩ | ⟨y,u,rfl,e⟩
   ·injection e with e1 _;rw [e1]
   ·exact nomatch e
  ·rcases keyIs_shape hb with ⟨j,u,rfl,e⟩ | ⟨y,u,rfl,e⟩
   ·exact nomatch e
   ·injection e with e1 _;rw [e1]
 byValue:=fun k v h=>by
  rcases keyIs_shape h with ⟨i,t,rfl,rfl⟩ | ⟨x,t,rfl,rfl⟩ <;> rfl
 pyHash:=fun hv h=>by
  rcases keyIs_shape hv with ⟨i,t,rfl,rfl⟩ | ⟨x,t,rfl,rfl⟩
  ·exact wpAny_pyHash_int h
  ·exact wpAny_pyHash_str h
 eqBool:=fun hu hv h=>by
  rcases keyIs_shape hu with ⟨i,t,rfl,rfl⟩ | ⟨x,t,rfl,rfl⟩
  ·rcases keyIs_shape hv with ⟨j,u,rfl,rfl⟩ | ⟨y,u,rfl,rfl⟩
   ·rw [key_ll] at h;exact wpAny_eqBool_int h
   ·rw [key_lr] at h;exact SeqAt.EqAt.int_str i t y u _ _ _ _ h
  ·rcases keyIs_shape hv with ⟨j,u,rfl,rfl⟩ | ⟨y,u,rfl,rfl⟩
   ·rw [key_rl] at h;exact SeqAt.EqAt.str_int x t j u _ _ _ _ h
   ·rw [key_rr] at h;exact wpAny_eqBool_str h
 «strs»:=fun k x t v h=>by
  rcases keyIs_shape h with ⟨i,u,rfl,e⟩ | ⟨y,u,rfl,e⟩
  ·exact nomatch e
  ·injection e with e1 _
   subst e1
   cases v <;> rfl
end L2
namespace L2
open PySem PySem.Spec PyProof.Rows
inductive V where
 | non | bl (b:Bool) | int (i:Int) | str (x:Str) | byt (b:Array UInt8) | flt (b:UInt64) | ref (a:Addr) | ty (n:String) | rstr (x:Str) (t:Nat)
 deriving DecidableEq
def RelV:V→Value→Prop
 | .non,u=>u=Value.none
 | .bl b,u=>u=Value.bool b
 | .int i,u=>∃t,u=Value.int i t
 | .str x,u=>∃t,u=Value.str x t
 | .byt b,u=>∃t,u=Value.bytes b t
 | .flt b,u=>∃t,u=Value.float b t
 | .ref a,u=>u=Value.ref a
 | .ty n,u=>u=Value.type n
 | .rstr x t,u=>u=Value.str x t
abbrev Vals:List V→List Value→Prop:=Paired RelV
theorem Vals.length {xs:List V} {us:List Value} (r:Vals xs us):xs.length=us.length:=Paired.length r
theorem Vals.get:∀{xs:List V} {us:List Value} {i:Nat} {x:V},Vals xs us→xs[i]?=some x→∃u,us[i]?=some u∧RelV x u
 | _,_,_,_,.nil,e=>by simp at e
 | _,_,0,_,.cons r _,e=>by simp at e;subst e;exact ⟨_,rfl,r⟩
 | _,_,i+1,x,.cons _ t,e=>by
   obtain ⟨u,h1,h2⟩:=Vals.get (i:=i) (x:=x) t (by simpa using e)
   exact ⟨u,by simpa using h1,h2⟩
theorem Vals.append:∀{xs ys:List V} {us ws:List Value},Vals xs us→Vals ys ws→Vals (xs++ys) (us++ws)
 | _,_,_,_,.nil,s=>s
 | _,_,_,_,.cons r t,s=>.cons r (Vals.append t s)
theorem Vals.take:∀{xs:List V} {us:List Value} (n:Nat),Vals xs us→Vals (xs.take n) (us.take n)
 | _,_,0,_=>.nil
 | _,_,_+1,.nil=>.nil
 | _,_,n+1,.cons r t=>.cons r (Vals.take n t)
theorem Vals.drop:∀{xs:List V} {us:List Value} (n:Nat),Vals xs us→Vals (xs.drop n) (us.drop n)
 | _,_,0,r=>r
 | _,_,_+1,.nil=>.nil
 | _,_,n+1,.cons _ t=>Vals.drop n t
def RelO:Option V→Option Value→Prop
 | some v,some u=>RelV v u
 | none,none=>True
 | _,_=>False
def KV {κ:Type}:List (κ×V)→List (κ×Value)→Prop:=Paired fun (p:κ×V) (q:κ×Value)=>p.1=q.1∧RelV p.2 q.2
def kV:Key→V
 | .inl i=>.int i
 | .inr x=>.str x
inductive HO where
 | lst (xs:List V)
 | tup (xs:List V)
 | dK (kvs:List (Key×V)) | dT (kvs:List (List Key×V))
 | set (S:Int→Bool) (n:Nat)
 | ins (C dx:Addr) (fs:List (Str×V))
 | own (x:Addr)
 | xd (fs:List (Str×V))
 | met (f x:Addr)
 | rng (lo hi:Int)
 | frz (o:Obj) (u:HO)
 | tbl (ps:Array Value)
 | ext (φ:Heap→Prop)
abbrev Hp:=Addr→Option HO
def upd (H:Hp) (a:Addr) (o:HO):Hp:=fun b=>if b=a then some o else H b
theorem upd_same {H:Hp} {a:Addr} {o:HO}:upd H a o a=some o:=by unfold upd;rw [if_pos rfl]
theorem upd_ne {H:Hp} {a b:Addr} {o:HO} (h:b≠a):upd H a o b=H b:=by unfold upd;rw [if_neg h]
theorem upd_upd {H:Hp} {a:Addr} {o u:HO}:upd (upd H a o) a u=upd H a u:=by
 funext b;unfold upd;split <;> rfl
theorem ne_of {H:Hp} {a b:Addr} {o u:HO} (h:H a=some o) (h':H b=some u) (d:o≠u):a≠b:=by
 intro e;subst e;rw [h] at h';exact d (Option.some.inj h')
theorem ne_of_none {H:Hp} {a b:Addr} {o:HO} (h:H a=some o) (h':H b=none):a≠b:=by
 intro e;subst e;rw [h] at h';cases h'
section
variable (P : Program) (w : World)
def ObjOk (H:Hp) (h:Heap) (a:Addr):HO→Prop
 | .lst xs=>xs.length≤sizeLine∧∃(its:List Value) (n:Nat),Vals xs its∧h.get? a=some { cls:=.type "list",data:=.seq its.toArray n }
 | .tup xs=>xs.length≤sizeLine∧∃its:List Value,Vals xs its∧IsTup h a its.toArray
 | .dK kvs=>kvs.length≤sizeLine∧(a == sysModules)=false∧∃vs,KV kvs vs∧h.DictOf (mixKind P w) a vs
 | .dT kvs=>kvs.length≤sizeLine∧(a == sysModules)=false∧∃xs:List (List Key×Addr×Value),
    Paired (fun (p:List Key×V) (q:List Key×Addr×Value)=>p.1=q.1∧H q.2.1=some (.tup (p.1.map kV))∧RelV p.2 q.2.2) kvs xs ∧
    ∃o es ep,h.get? a=some o∧o.ExactDict∧o.data=.dict es ep∧es.toList=xs.map (entryOfKey (tupleKind (mixKind P w)))∧(xs.map (·.1)).Nodup
 | .set S n=>h.SetOf (intKind P w) a S n
 | .ins C dx fs=>H dx=some (.own a)∧fs.length≤1000∧dx≠a∧h.get? a=some (PySem.W.instObj C dx) ∧
    ∃mA,h.Ns1 dx mA∧(∀f,RelO (fs.lookup f) (mA f))∧PySem.Within mA (fs.map (·.1))
 | .own _=>∃o,h.get? a=some o
 | .xd fs=>∃mA,h.Ns1 a mA∧∀f,RelO (fs.lookup f) (mA f)
 | .rng lo hi=>∃t u v,h.get? a=some { cls:=.type "range",data:=.fields #[.int lo t,.int hi u,.int 1 v] }
 | .frz o u=>h.get? a=some o∧ObjOk H h a u
 | .tbl ps=>h.get? a=some { cls:=.none,data:=.fields ps }
 | .met f x=>h.get? a=some (PySem.W.methodObj (.ref f) (.ref x))
 | .ext φ=>φ h∧(∃o,h.get? a=some o)∧∀h1 h2:Heap,φ h1→(∀o,h1.get? a=some o→h2.get? a=some o)→φ h2
def HOk (H:Hp) (h:Heap):Prop:=∀a o,H a=some o→ObjOk P w H h a o
end
section
variable {P : Program} {w : World} {H H' : Hp} {h h' : Heap} {a : Addr} {o : HO}
theorem ObjOk.lt (x:ObjOk P w H h a o):a<h.objs.size:=by
 cases o with
 | lst xs=>obtain ⟨_,_,_,_,e⟩:=x;exact Heap.lt_size e
 | tup xs=>obtain ⟨_,_,_,p⟩:=x;exact p.lt
 | dK kvs=>obtain ⟨_,_,_,_,o,_,_,e,_⟩:=x;exact Heap.lt_size e
 | dT kvs=>obtain ⟨_,_,_,_,o,_,_,e,_⟩:=x;exact Heap.lt_size e
 | set S n=>obtain ⟨o,_,_,_,e,_⟩:=x;exact Heap.lt_size e
 | ins C dx fs=>obtain ⟨_,_,_,e,_⟩:=x;exact Heap.lt_size e
 | own y=>obtain ⟨_,e⟩:=x;exact Heap.lt_size e
 | xd fs=>obtain ⟨_,⟨_,_,_,e,_⟩,_⟩:=x;exact Heap.lt_size e
 | rng lo hi=>obtain ⟨_,_,_,e⟩:=x;exact Heap.lt_size e
 | frz ob u=>obtain ⟨e,_⟩:=x;exact Heap.lt_size e
 | tbl ps=>exact Heap.lt_size (show h.get? a=some _ from x)
 | met f y=>exact Heap.lt_size (show h.get? a=some _ from x)
 | ext φ=>obtain ⟨_,⟨_,e⟩,_⟩:=x;exact Heap.lt_size e
theorem Paired.mapP {α β:Type} {F G:α→β→Prop}:∀{l₁:List α} {l₂:List β},Paired F l₁ l₂→(∀a b,F a b→G a b)→Paired G l₁ l₂
 | _,_,.nil,_=>.nil
 | _,_,.cons r t,f=>.cons (f _ _ r) (Paired.mapP t f)
theorem ObjOk.stay (x:ObjOk P w H h a o) (k:∀b u,(b=a∨H b=some (.own a))→h.get? b=some u→h'.get? b=some u)
 (ho:∀b,H b=some (.own a)→H' b=some (.own a)) (ht:∀b xs,H b=some (.tup xs)→H' b=some (.tup xs)):ObjOk P w H' h' a o:=by
 induction o with
 | lst xs=>obtain ⟨z,its,n,r,e⟩:=x;exact ⟨z,its,n,r,k _ _ (.inl rfl) e⟩
 | tup xs=>obtain ⟨z,its,r,ob,e,c⟩:=x;exact ⟨z,its,r,ob,k _ _ (.inl rfl) e,c⟩
 | dK kvs=>obtain ⟨z,y,vs,r,ob,es,ep,e,c⟩:=x;exact ⟨z,y,vs,r,ob,es,ep,k _ _ (.inl rfl) e,c⟩
 | dT kvs =>
   obtain ⟨z,y,xs,r,ob,es,ep,e,c⟩:=x
   exact ⟨z,y,xs,Paired.mapP r fun p q z=>⟨z.1,ht _ _ z.2.1,z.2.2⟩,ob,es,ep,k _ _ (.inl rfl) e,c⟩
 | set S n=>obtain ⟨ob,es,ep,t,e,c⟩:=x;exact ⟨ob,es,ep,t,k _ _ (.inl rfl) e,c⟩
 | ins C dx fs =>
   obtain ⟨d,z,ne,e,mA,⟨od,es,ep,e2,c⟩,r⟩:=x
   exact ⟨ho _ d,z,ne,k _ _ (.inl rfl) e,mA,⟨od,es,ep,k _ _ (.inr d) e2,c⟩,r⟩
 | own y=>obtain ⟨ob,e⟩:=x;exact ⟨ob,k _ _ (.inl rfl) e⟩
 | xd fs=>obtain ⟨mA,⟨od,es,ep,e,c⟩,r⟩:=x;exact ⟨mA,⟨od,es,ep,k _ _ (.inl rfl) e,c⟩,r⟩
 | rng lo hi=>obtain ⟨t,u,v,e⟩:=x;exact ⟨t,u,v,k _ _ (.inl rfl) e⟩
 | frz ob u ih=>obtain ⟨e,q⟩:=x;exact ⟨k _ _ (.inl rfl) e,ih q⟩
 | tbl ps =>
   have e:h.get? a=some { cls:=.none,data:=.fields ps }:=x
   show h'.get? a=some { cls:=.none,data:=.fields ps }
   exact k a _ (.inl rfl) e
 | met f y =>
   have e:h.get? a=some (PySem.W.methodObj (.ref f) (.ref y)):=x
   show h'.get? a=some (PySem.W.methodObj (.ref f) (.ref y))
   exact k a _ (.inl rfl) e
 | ext φ=>obtain ⟨p,⟨o,e⟩,st⟩:=x;exact ⟨st _ _ p fun o q=>k _ _ (.inl rfl) q,⟨o,k _ _ (.inl rfl) e⟩,st⟩
theorem HOk.lt (x:HOk P w H h) (e:H a=some o):a<h.objs.size:=(x a o e).lt
theorem HOk.fresh (x:HOk P w H h) (e:h.objs.size≤a):H a=none:=by
 cases q:H a with
 | none=>rfl
 | some u=>exact absurd (Nat.lt_of_lt_of_le (x.lt q) e) (Nat.lt_irrefl _)
theorem HOk.kept (x:HOk P w H h) (k:∀b u,h.get? b=some u→h'.get? b=some u):HOk P w H h':=fun a o e =>
 (x a o e).stay (fun b u _ q=>k b u q) (fun _ q=>q) fun _ _ q=>q
theorem HOk.laid (x:HOk P w H h) (k:∀b u,h.get? b=some u→h'.get? b=some u) (hp:h.objs.size≤a) (new:ObjOk P w (upd H a o) h' a o):HOk P w (upd H a o) h':=fun b u e=>by
 have hn:=x.fresh hp
 by_cases hb:b=a
 ·subst hb;rw [upd_same] at e;cases e;exact new
 ·rw [upd_ne hb] at e
  exact (x b u e).stay (fun c v _ q=>k c v q) (fun c q=>by rw [upd_ne (ne_of_none q hn)];exact q) fun c xs q=>by rw [upd_ne (ne_of_none q hn)];exact q
end
def Rd (H:Hp) (a:Addr) (u:HO):Prop:=H a=some u∨∃o,H a=some (.frz o u)
theorem Rd.ok {P:Program} {w:World} {H:Hp} {h:Heap} {a:Addr} {u:HO} (r:Rd H a u) (x:HOk P w H h):ObjOk P w H h a u:=by
 rcases r with r | ⟨o,r⟩
 ·exact x a u r
 ·obtain ⟨_,q⟩:=x a _ r
  exact q
def Mut:Option HO→Prop
 | some (.lst _)=>True
 | some (.dK _)=>True
 | some (.dT _)=>True
 | some (.set _ _)=>True
 | some (.ins _ _ _)=>True
 | some (.ext _)=>True
 | _=>False
section
variable {P : Program} {w : World} {H : Hp} {h h' : Heap} {x e : Addr} {o' : HO}
theorem HOk.write (ok:HOk P w H h) (mu:Mut (H x)) (he:e=x∨H e=some (.own x)) (k:∀b u,b≠e→h.get? b=some u→h'.get? b=some u) (heo:∃u,h'.get? e=some u)
 (new:ObjOk P w (upd H x o') h' x o'):HOk P w (upd H x o') h':=fun b u q=>by
 have nown:∀c y,H c=some (.own y)→c≠x:=fun c y r z=>by subst z;rw [r] at mu;exact mu
 have ntup:∀c xs,H c=some (.tup xs)→c≠x:=fun c xs r z=>by subst z;rw [r] at mu;exact mu
 by_cases hb:b=x
 ·subst hb;rw [upd_same] at q;cases q;exact new
 ·rw [upd_ne hb] at q
  by_cases hbe:b=e
  ·have q':H b=some (.own x):=by
    rcases he with z | z
    ·exact absurd (hbe.trans z) hb
    ·rw [hbe];exact z
   rw [q] at q';cases q'
   obtain ⟨v,hv⟩:=heo
   exact ⟨v,by rw [hbe];exact hv⟩
  ·refine (ok b u q).stay (fun c v hc r=>k c v ?_ r) (fun c r=>by rw [upd_ne (nown c b r)];exact r) fun c xs r=>by rw [upd_ne (ntup c xs r)];exact r
   rcases hc with rfl | hc
   ·exact hbe
   ·rintro rfl
    rcases he with z | z
    ·exact nown c b hc z
    ·rw [hc] at z;cases z;exact hb rfl
end
structure Un (fs ex:List Addr) (H H':Hp) (h h':Heap):Prop where
 keep:∀b o,h.get? b=some o→H b=none→b∉fs→b∉ex→h'.get? b=some o
 slot:∀b o,h.get? b=some o→H b=none→b∈fs→b∉ex→∃sl,h'.get? b=some { o with slots:=sl }
 free:∀b o,h.get? b=some o→H b=none→b∉ex→H' b=none
 there:∀b o,h.get? b=some o→b∉ex→∃o',h'.get? b=some o'
 tups:∀b xs,H b=some (.tup xs)→H' b=some (.tup xs)
 frzs:∀b o u,H b=some (.frz o u)→H' b=some (.frz o u)
 tbls:∀b ps,H b=some (.tbl ps)→∃more,H' b=some (.tbl (ps++more))
section
variable {fs fs' ex ex' : List Addr} {H H1 H2 : Hp} {h h1 h2 h' : Heap} {a x e : Addr} {o : HO}
theorem Un.any (u:Un fs ex H H1 h h1) {b:Addr} {ob:Obj} (q:h.get? b=some ob) (n:H b=none) (hx:b∉ex):∃sl,h1.get? b=some { ob with slots:=sl }:=by
 by_cases hb:b∈fs
 ·exact u.slot b ob q n hb hx
 ·exact ⟨ob.slots,u.keep b ob q n hb hx⟩
theorem Un.kept (k:∀b u,h.get? b=some u→h'.get? b=some u):Un fs ex H H h h' :=
 ⟨fun b ob q _ _ _=>k b ob q,fun b ob q _ _ _=>⟨ob.slots,k b ob q⟩,fun _ _ _ n _=>n,fun b ob q _=>⟨ob,k b ob q⟩,fun _ _ q=>q,fun _ _ _ q=>q,fun _ ps q=>⟨#[],by rw [q];simp⟩⟩
theorem Un.refl:Un fs ex H H h h:=Un.kept fun _ _ q=>q
theorem Un.laid (k:∀b u,h.get? b=some u→h'.get? b=some u) (hp:h.objs.size≤a) (hn:H a=none):Un fs ex H (upd H a o) h h' where
 keep:=fun b u q _ _ _=>k b u q
 slot:=fun b u q _ _ _=>⟨u.slots,k b u q⟩
 free:=fun b u q n _=>by rw [upd_ne (Nat.ne_of_lt (Nat.lt_of_lt_of_le (Heap.lt_size q) hp))];exact n
 there:=fun b u q _=>⟨u,k b u q⟩
 tups:=fun b xs q=>by rw [upd_ne (ne_of_none q hn)];exact q
 frzs:=fun b u xs q=>by rw [upd_ne (ne_of_none q hn)];exact q
 tbls:=fun b ps q=>⟨#[],by rw [upd_ne (ne_of_none q hn),q];simp⟩
theorem Un.write (mu:Mut (H x)) (he:e=x∨H e=some (.own x)) (k:∀b u,b≠e→h.get? b=some u→h'.get? b=some u) (heo:∃u,h'.get? e=some u):Un fs ex H (upd H x o) h h':=by
 have hx:∀b,H b=none→b≠x:=fun b n z=>by subst z;rw [n] at mu;exact mu
 have hb:∀b,H b=none→b≠e:=fun b n z=>by
  subst z
  rcases he with r | r
  ·exact hx b n r
  ·rw [n] at r;cases r
 have hm:∀b u,H b=some u→¬Mut (some u)→b≠x:=fun b u q nm z=>by subst z;rw [q] at mu;exact nm mu
 refine ⟨fun b u q n _ _=>k b u (hb b n) q,fun b u q n _ _=>⟨u.slots,k b u (hb b n) q⟩,fun b u q n _=>by rw [upd_ne (hx b n)];exact n,fun b u q _=>?_,
  fun b xs q=>by rw [upd_ne (hm b _ q fun z=>z)];exact q,fun b u xs q=>by rw [upd_ne (hm b _ q fun z=>z)];exact q,fun b ps q=>⟨#[],by rw [upd_ne (hm b _ q fun z=>z),q];simp⟩⟩
 by_cases hbe:b=e
 ·subst hbe;exact heo
 ·exact ⟨u,k b u hbe q⟩
end
def trk (h:Heap) (H:Hp):List Addr:=(List.range h.objs.size).filter fun a=>(H a).isSome
def hidT (h:Heap) (H:Hp):Heap:=PySem.W.hideAll h (trk h H)
theorem hidT_size (h:Heap) (H:Hp):(hidT h H).objs.size=h.objs.size:=PySem.W.hideAll_size _ _
theorem hidT_get {h:Heap} {H:Hp} {b:Addr} {o:Obj} (e:h.get? b=some o) (n:H b=none):(hidT h H).get? b=some o :=
 PySem.W.hideAll_get _ e fun hm=>by
  have q:(H b).isSome=true:=(List.mem_filter.mp hm).2
  rw [n] at q;simp at q
theorem of_hidT {h:Heap} {H:Hp} {b:Addr} {o:Obj} (e:(hidT h H).get? b=some o):h.get? b=some o∧H b=none:=by
 have e':h.get? b=some o:=PySem.W.of_hideAll (trk h H) e
 refine ⟨e',?_⟩
 cases q:H b with
 | none=>rfl
 | some x =>
   have hm:b∈trk h H:=List.mem_filter.mpr ⟨List.mem_range.mpr (Heap.lt_size e'),by simp [q]⟩
   have z:(hidT h H).get? b=none:=PySem.W.hideAll_none (trk h H) hm
   rw [z] at e;cases e
end L2
namespace L2
open PySem PySem.Spec PyProof.Rows
structure Mod (K:PySem.W.Frag) (mg:Str→Option Value) (base:Heap):Prop where
 kin:K.In base
 glob:base.Ns mainGlobals mg
 blt:∃mb,base.Ns builtinsNs mb∧∀x:Str,x≠"__name__"→mb x=bootBuiltins x
 nolimit:base.NoLimit
structure Cx where
 prog:Program
 w:World
 K:PySem.W.Frag
 mg:Str→Option Value
 base:Heap
 A:Around
 N:List Str
 s₀:Shared
 H₀:Hp
 env:Env
 outer:List Env
 stack:List Env
 ex:List Addr
 fn:Str→Bool
 calm:Bool
 pn:List (Addr×Obj)
 xe:Value→Shared→Prop
def frs (l:List Env):List Addr:=l.filterMap (·.frame)
abbrev Cx.fs (X:Cx):List Addr:=frs X.outer
def Vis (sc:Scope) (x:Str):Prop:=sc.names.lookup x=some .local∨sc.names.lookup x=some .cell∨sc.names.lookup x=some .free
def Loc (sc:Scope) (x:Str):Prop:=sc.names.lookup x=some .local∨sc.names.lookup x=some .cell
def Look (env:Env) (h:Heap) (m:Str→Option Value) (x:Str) (u:Value):Prop :=
 (env.kindOf x=some .local∧m x=some u)∨((env.kindOf x=some .cell∨env.kindOf x=some .free)∧∃c,env.cells.lookup x=some c∧h.IsCell c (some u))
structure Cx.Ok (X:Cx):Prop where
 mod:Mod X.K X.mg X.base
 kind:X.env.scope.kind=.function
 glob:X.env.globals=mainGlobals
 blt:X.env.builtins=builtinsNs
 above:X.s₀.heap.objs.size≤X.env.locals
 inj:∀x y c,X.env.cells.lookup x=some c→X.env.cells.lookup y=some c→x=y
 has:∀x,(X.env.kindOf x=some .cell∨X.env.kindOf x=some .free)→∃c,X.env.cells.lookup x=some c
 cab:∀x c,X.fn x=true→X.env.cells.lookup x=some c→X.s₀.heap.objs.size≤c
 hd:X.calm=true→X.A.handled=none
 frames:X.A.frames=some X.stack
 stk:X.stack=X.outer∨(X.stack=X.env :: X.outer∧X.env.frame=some X.env.locals)
 exf:∀b∈X.ex,b≠X.env.locals∧∀x c,X.env.cells.lookup x=some c→c≠b
 bs:∀b o,X.base.get? b=some o→X.s₀.heap.get? b=some o∧X.H₀ b=none
 bsz:X.base.objs.size≤X.s₀.heap.objs.size
 noex:∀b o,X.base.get? b=some o→b∉X.ex
 exfs:∀b∈X.ex,b∉X.fs
 funs:X.s₀.heap.FunFrames X.base X.outer
 frf:∀b∈X.fs,X.H₀ b=none
structure Inv (X:Cx) (pins:List (Addr×Obj)) (σ:List (Option V)) (H:Hp) (s:Shared):Prop where
 ok:X.Ok
 os:s.os=X.s₀.os
 bare:AllBare s.gens
 base:Un X.fs X.ex X.H₀ H X.s₀.heap s.heap
 loc:∃m,s.heap.Ns X.env.locals m∧∀(i:Nat) (x:Str) (v:V),X.N[i]?=some x→σ[i]?=some (some v)→Vis X.env.scope x→∃u,RelV v u∧Look X.env s.heap m x u
 cell:∀x c,X.env.cells.lookup x=some c→∃v,s.heap.IsCell c v
 free:H X.env.locals=none
 freeC:∀x c,X.env.cells.lookup x=some c→H c=none
 pin:∀p∈X.pn++pins,s.heap.get? p.1=some p.2∧H p.1=none∧p.1≠X.env.locals∧p.1∉X.fs∧∀v,p.2.data≠.cell v
 hok:HOk X.prog X.w H s.heap
 len:σ.length=X.N.length
section
variable {X : Cx} {pins : List (Addr × Obj)} {σ : List (Option V)} {H H' : Hp} {s : Shared} {h' : Heap}
theorem Cx.Ok.nofr (ok:X.Ok) {b:Addr} {o:Obj} (e:X.base.get? b=some o):b∉X.fs:=fun hb=>by
 have:=(ok.funs.mem hb).1
 rw [e] at this;cases this
theorem Inv.bs (I:Inv X pins σ H s):∀b o,X.base.get? b=some o→s.heap.get? b=some o∧H b=none:=fun b o e =>
 ⟨I.base.keep b o (I.ok.bs b o e).1 (I.ok.bs b o e).2 (I.ok.nofr e) (I.ok.noex b o e),I.base.free b o (I.ok.bs b o e).1 (I.ok.bs b o e).2 (I.ok.noex b o e)⟩
theorem Inv.bk (I:Inv X pins σ H s):∀b o,X.base.get? b=some o→s.heap.get? b=some o:=fun b o e=>(I.bs b o e).1
theorem Inv.mod (I:Inv X pins σ H s):Mod X.K X.mg X.base:=I.ok.mod
theorem Inv.kIn (I:Inv X pins σ H s):X.K.In s.heap:=I.ok.mod.kin.keeps I.bk
theorem Inv.lt (I:Inv X pins σ H s):X.env.locals<s.heap.objs.size:=let ⟨_,hn,_⟩:=I.loc;hn.lt
theorem Inv.sz (I:Inv X pins σ H s):X.s₀.heap.objs.size≤s.heap.objs.size:=Nat.le_trans I.ok.above (Nat.le_of_lt I.lt)
theorem Inv.nofs (I:Inv X pins σ H s) {a:Addr} (h:s.heap.objs.size≤a):a∉X.fs:=fun hb=>by
 obtain ⟨_,o,ho,_⟩:=I.ok.funs.mem hb
 exact absurd (Nat.lt_of_lt_of_le (Heap.lt_size ho) (Nat.le_trans I.sz h)) (Nat.lt_irrefl _)
theorem Inv.cne (I:Inv X pins σ H s):∀x c,X.env.cells.lookup x=some c→c≠X.env.locals:=fun x c e z=>by
 obtain ⟨v,o,ho,hd⟩:=I.cell x c e
 obtain ⟨m,⟨o',es,ep,ho',hd',_⟩,_⟩:=I.loc
 rw [z,ho'] at ho;cases ho;rw [hd'] at hd;cases hd
theorem Inv.funs (I:Inv X pins σ H s):s.heap.FunFrames X.base X.outer:=by
 have all:∀(l:List Env),(∀b∈frs l,b∈X.fs)→X.s₀.heap.FunFrames X.base l→s.heap.FunFrames X.base l:=by
  intro l
  induction l with
  | nil=>intro _ _;trivial
  | cons env r ih =>
    intro hs hl
    obtain ⟨hk,⟨L,o,hf,hn,ho,hd⟩,hr⟩:=hl
    have hL:L∈X.fs:=hs L (by unfold frs;rw [List.filterMap_cons,hf];exact List.mem_cons_self)
    obtain ⟨sl,e⟩:=I.base.slot L o ho (I.ok.frf L hL) hL fun z=>I.ok.exfs L z hL
    exact ⟨hk,⟨L,_,hf,hn,e,hd⟩,ih (fun b hb=>hs b (by unfold frs;rw [List.filterMap_cons,hf];exact List.mem_cons_of_mem _ hb)) hr⟩
 exact all X.outer (fun _ hb=>hb) I.ok.funs
theorem Inv.stack (I:Inv X pins σ H s):s.heap.FunFrames X.base X.stack:=by
 rcases I.ok.stk with e | ⟨e,hf⟩
 ·rw [e];exact I.funs
 ·rw [e]
  obtain ⟨m,hn,_⟩:=I.loc
  refine .cons (by rw [I.ok.kind];decide) hf hn ?_ I.funs
  exact Heap.get?_none_of_le (Nat.le_trans I.ok.bsz I.ok.above)
theorem Inv.stkSub (I:Inv X pins σ H s):∀b∈frs X.stack,b∈X.env.locals :: X.fs:=fun b hb=>by
 rcases I.ok.stk with e | ⟨e,hf⟩
 ·rw [e] at hb;exact List.mem_cons_of_mem _ hb
 ·rw [e] at hb
  unfold frs at hb
  rw [List.filterMap_cons,hf] at hb
  exact hb
theorem Inv.stkFree (I:Inv X pins σ H s):∀b∈frs X.stack,H b=none:=fun b hb=>by
 rcases List.mem_cons.mp (I.stkSub b hb) with e | hb
 ·rw [e];exact I.free
 ·obtain ⟨_,o,ho,_⟩:=I.ok.funs.mem hb
  exact I.base.free b o ho (I.ok.frf b hb) fun z=>I.ok.exfs b z hb
theorem Inv.step {g':Array GenState} {t':Nat} {d':Drawn} {ch:List Addr} (I:Inv X pins σ H s)
 (hch:∀b∈ch,(b∈X.ex∨X.s₀.heap.objs.size≤b)∧b≠X.env.locals∧(∀x c,X.env.cells.lookup x=some c→c≠b)∧∀p∈X.pn++pins,p.1≠b)
 (keep:∀b o,b≠X.env.locals→b∉X.fs→b∉ch→s.heap.get? b=some o→H b=none→h'.get? b=some o)
 (slot:∀b o,b≠X.env.locals→b∈X.fs→b∉ch→s.heap.get? b=some o→H b=none→∃sl,h'.get? b=some { o with slots:=sl }) (free:∀b o,b∉ch→s.heap.get? b=some o→H b=none→H' b=none)
 (there:∀b o,b∉ch→s.heap.get? b=some o→∃o',h'.get? b=some o')
 (tups:∀b xs,H b=some (.tup xs)→H' b=some (.tup xs)) (frzs:∀b o u,H b=some (.frz o u)→H' b=some (.frz o u)) (tbls:∀b ps,H b=some (.tbl ps)→∃more,H' b=some (.tbl (ps++more)))
 (ns:∀m,s.heap.Ns X.env.locals m→h'.Ns X.env.locals m) (hok:HOk X.prog X.w H' h') (hg:AllBare g') :
 Inv X pins σ H' { s with heap:=h',gens:=g',drawn:=d',toks:=t' }:=by
 have neL:∀b o,X.s₀.heap.get? b=some o→b≠X.env.locals:=fun b o e=>Nat.ne_of_lt (Nat.lt_of_lt_of_le (Heap.lt_size e) I.ok.above)
 have neC:∀b o,X.s₀.heap.get? b=some o→b∉X.ex→b∉ch:=fun b o e hx hb=>by
  rcases (hch b hb).1 with z | z
  ·exact hx z
  ·exact absurd (Nat.lt_of_lt_of_le (Heap.lt_size e) z) (Nat.lt_irrefl _)
 have cellK:∀x c,X.env.cells.lookup x=some c→∀v,s.heap.IsCell c v→h'.IsCell c v:=fun x c e v ⟨o,ho,hd⟩=>by
  have nch:c∉ch:=fun z=>(hch c z).2.2.1 x c e rfl
  by_cases hc:c∈X.fs
  ·obtain ⟨sl,q⟩:=slot c o (I.cne x c e) hc nch ho (I.freeC x c e)
   exact ⟨_,q,hd⟩
  ·exact ⟨o,keep c o (I.cne x c e) hc nch ho (I.freeC x c e),hd⟩
 refine ⟨I.ok,I.os,hg,⟨fun b o e n hb hx=>?_,fun b o e n hb hx=>?_,fun b o e n hx=>?_,fun b o e hx=>?_,fun b xs e=>tups b xs (I.base.tups b xs e),fun b o xs e=>frzs b o xs (I.base.frzs b o xs e),fun b ps e=>?_⟩,?_,fun x c e=>?_,?_,fun x c e=>?_,fun p hp=>?_,hok,I.len⟩
 ·exact keep b o (neL b o e) hb (neC b o e hx) (I.base.keep b o e n hb hx) (I.base.free b o e n hx)
 ·obtain ⟨sl,e1⟩:=I.base.slot b o e n hb hx
  obtain ⟨sl',e2⟩:=slot b _ (neL b o e) hb (neC b o e hx) e1 (I.base.free b o e n hx)
  exact ⟨sl',e2⟩
 ·obtain ⟨o',e1⟩:=I.base.there b o e hx
  exact free b o' (neC b o e hx) e1 (I.base.free b o e n hx)
 ·obtain ⟨o',e1⟩:=I.base.there b o e hx
  exact there b o' (neC b o e hx) e1
 ·obtain ⟨m1,e1⟩:=I.base.tbls b ps e
  obtain ⟨m2,e2⟩:=tbls b _ e1
  exact ⟨m1++m2,by rw [e2,Array.append_assoc]⟩
 ·obtain ⟨m,hn,hl⟩:=I.loc
  refine ⟨m,ns m hn,fun i x v e1 e2 e3=>?_⟩
  obtain ⟨u,r,l⟩:=hl i x v e1 e2 e3
  refine ⟨u,r,?_⟩
  rcases l with l | ⟨k,c,e,z⟩
  ·exact .inl l
  ·exact .inr ⟨k,c,e,cellK x c e _ z⟩
 ·obtain ⟨v,z⟩:=I.cell x c e
  exact ⟨v,cellK x c e v z⟩
 ·obtain ⟨m,⟨o,_,_,ho,_⟩,_⟩:=I.loc
  exact free _ o (fun z=>(hch _ z).2.1 rfl) ho I.free
 ·obtain ⟨v,o,ho,hd⟩:=I.cell x c e
  exact free c o (fun z=>(hch c z).2.2.1 x c e rfl) ho (I.freeC x c e)
 ·obtain ⟨e,n,ne,nf,d⟩:=I.pin p hp
  have nch:p.1∉ch:=fun z=>(hch p.1 z).2.2.2 p hp rfl
  exact ⟨keep p.1 p.2 ne nf nch e n,free p.1 p.2 nch e n,ne,nf,d⟩
theorem Inv.un {t':Nat} (I:Inv X pins σ H s) (u:Un X.fs [] H H' s.heap h') (hok:HOk X.prog X.w H' h'):Inv X pins σ H' { s with heap:=h',toks:=t' }:=by
 obtain ⟨m,⟨o,es,ep,ho,r⟩,_⟩:=id I.loc
 obtain ⟨sl,hL⟩:=u.any ho I.free (by simp)
 exact I.step (g':=s.gens) (d':=s.drawn) (ch:=[]) (fun _ z=>nomatch z) (fun b o _ hb _ e n=>u.keep b o e n hb (by simp)) (fun b o _ hb _ e n=>u.slot b o e n hb (by simp)) (fun b o _ e n=>u.free b o e n (by simp)) (fun b o _ e=>u.there b o e (by simp)) u.tups u.frzs u.tbls (fun m' hm=>by
  obtain ⟨o',es',ep',ho',r'⟩:=hm
  rw [ho] at ho';cases ho'
  exact ⟨_,es',ep',hL,r'⟩) hok I.bare
theorem Inv.call {g':Array GenState} {t':Nat} {d':Drawn} {ch:List Addr} (I:Inv X pins σ H s) (u:Un (frs X.stack) ch H H' s.heap h') (hok:HOk X.prog X.w H' h') (hg:AllBare g')
 (hch:∀b∈ch,(b∈X.ex∨X.s₀.heap.objs.size≤b)∧b≠X.env.locals∧(∀x c,X.env.cells.lookup x=some c→c≠b)∧∀p∈X.pn++pins,p.1≠b) :
 Inv X pins σ H' { s with heap:=h',gens:=g',drawn:=d',toks:=t' }:=by
 obtain ⟨m,⟨o,es,ep,ho,r⟩,_⟩:=id I.loc
 obtain ⟨sl,hL⟩:=u.any ho I.free fun z=>(hch _ z).2.1 rfl
 exact I.step (ch:=ch) hch (fun b o hL hb hc e n=>u.keep b o e n (fun z=>(List.mem_cons.mp (I.stkSub b z)).elim hL hb) hc) (fun b o _ _ hc e n=>u.any e n hc) (fun b o hc e n=>u.free b o e n hc) (fun b o hc e=>u.there b o e hc) u.tups u.frzs u.tbls (fun m' hm=>by
  obtain ⟨o',es',ep',ho',r'⟩:=hm
  rw [ho] at ho';cases ho'
  exact ⟨_,es',ep',hL,r'⟩) hok hg
theorem Inv.turned {t':Nat} {it:Addr} (I:Inv X pins σ H s) (k:∀b o,b≠it→s.heap.get? b=some o→h'.get? b=some o) (hn:H it=none) (hL:it≠X.env.locals)
 (h1:it∈X.ex∨X.s₀.heap.objs.size≤it) (h2:∀x c,X.env.cells.lookup x=some c→c≠it) (h3:∀p∈X.pn++pins,p.1≠it):Inv X pins σ H { s with heap:=h',toks:=t' }:=by
 have nit:∀b u,H b=some u→b≠it:=fun b u e z=>by rw [z,hn] at e;cases e
 refine I.step (g':=s.gens) (d':=s.drawn) (ch:=[it]) (fun b hb=>?_) (fun b o _ _ hc e _=>k b o (fun z=>hc (by simp [z])) e) (fun b o _ _ hc e _=>⟨o.slots,k b o (fun z=>hc (by simp [z])) e⟩) (fun _ _ _ _ n=>n)
  (fun b o hc e=>⟨o,k b o (fun z=>hc (by simp [z])) e⟩) (fun _ _ e=>e) (fun _ _ _ e=>e) (fun b ps e=>⟨#[],by rw [e];simp⟩) (fun m hm=>?_) (fun b u e=>?_) I.bare
 ·have e:b=it:=by simpa using hb
  subst e
  exact ⟨h1,hL,h2,h3⟩
 ·obtain ⟨o,es,ep,ho,r⟩:=hm
  exact ⟨o,es,ep,k _ o (Ne.symm hL) ho,r⟩
 ·refine (I.hok b u e).stay (fun c v hc q=>k c v ?_ q) (fun _ q=>q) fun _ _ q=>q
  rcases hc with z | z
  ·rw [z];exact nit b u e
  ·exact nit c _ z
theorem Inv.tok (I:Inv X pins σ H s) (t:Nat):Inv X pins σ H { s with toks:=t }:=I.un (h':=s.heap) (t':=t) Un.refl I.hok
theorem Inv.kept {t':Nat} (I:Inv X pins σ H s) (k:∀b u,s.heap.get? b=some u→h'.get? b=some u):Inv X pins σ H { s with heap:=h',toks:=t' }:=I.un (Un.kept k) (I.hok.kept k)
theorem Inv.laid {a:Addr} {o:HO} {t':Nat} (I:Inv X pins σ H s) (k:∀b u,s.heap.get? b=some u→h'.get? b=some u) (hp:s.heap.objs.size≤a) (new:ObjOk X.prog X.w (upd H a o) h' a o) :
 Inv X pins σ (upd H a o) { s with heap:=h',toks:=t' }:=I.un (Un.laid k hp (I.hok.fresh hp)) (I.hok.laid k hp new)
theorem Inv.write {x e:Addr} {o:HO} {t':Nat} (I:Inv X pins σ H s) (mu:Mut (H x)) (he:e=x∨H e=some (.own x)) (k:∀b u,b≠e→s.heap.get? b=some u→h'.get? b=some u) (heo:∃u,h'.get? e=some u)
 (new:ObjOk X.prog X.w (upd H x o) h' x o):Inv X pins σ (upd H x o) { s with heap:=h',toks:=t' }:=I.un (Un.write mu he k heo) (I.hok.write mu he k heo new)
theorem Inv.pins_of {pins':List (Addr×Obj)} (I:Inv X pins σ H s) (h:∀p∈pins',s.heap.get? p.1=some p.2∧H p.1=none∧p.1≠X.env.locals∧p.1∉X.fs∧∀v,p.2.data≠.cell v):Inv X pins' σ H s :=
 ⟨I.ok,I.os,I.bare,I.base,I.loc,I.cell,I.free,I.freeC,fun p hp=>(List.mem_append.mp hp).elim (fun z=>I.pin p (List.mem_append_left _ z)) (h p),I.hok,I.len⟩
theorem nodup_ix {N:List Str} (hN:N.Nodup) {i j:Nat} {x:Str} (a:N[i]?=some x) (b:N[j]?=some x):i=j:=by
 obtain ⟨h1,e1⟩:=List.getElem?_eq_some_iff.mp a
 obtain ⟨h2,e2⟩:=List.getElem?_eq_some_iff.mp b
 exact (List.getElem_inj hN).mp (e1.trans e2.symm)
theorem store_ok2 {M:Model} {A:Around} {E:Value→Shared→Prop} {i:Nat} {x:Str} {v:V} {u:Value} {Q:Unit→Shared→Prop} (I:Inv X pins σ H s) (hN:X.N.Nodup) (hi:X.N[i]?=some x) (hx:Loc X.env.scope x) (r:RelV v u)
 (h:∀s',Inv X pins (σ.set i (some v)) H s'→(∃a,Heap.SameBut a s.heap s'.heap∧(a=X.env.locals∨X.env.cells.lookup x=some a))→Q () s') (hf:X.fn x=true∨X.env.scope.names.lookup x=some .local:=by first | exact .inl rfl | exact .inr rfl | assumption):wpAny M A (storeName X.env x u) Q E s:=by
 obtain ⟨m,hn,hl⟩:=id I.loc
 have hcls:(X.env.scope.kind == .class || (X.env.scope.kind == .module && X.env.locals != X.env.globals))=false:=by rw [I.ok.kind];rfl
 have hiσ:i<σ.length:=by rw [I.len];exact (List.getElem?_eq_some_iff.mp hi).1
 have cne:=I.cne
 have tracked:∀{a:Addr} {h':Heap},(∃o,s.heap.get? a=some o∧H a=none)→Heap.SameBut a s.heap h'→HOk X.prog X.w H h':=fun {a h'} ha hs b ob e=>by
  obtain ⟨_,_,hfree⟩:=ha
  refine (I.hok b ob e).stay (fun c w' hc q=>(hs.2 c ?_).trans q) (fun _ q=>q) fun _ _ q=>q
  rintro rfl
  rcases hc with rfl | hc
  ·rw [hfree] at e;cases e
  ·rw [hfree] at hc;cases hc
 rcases hx with hk | hk
 ·refine wpAny_storeName_local hk hn (fun h' hn' hs=>?_) hcls
  obtain ⟨oL,_,_,hoL,_⟩:=id hn
  refine h _ ⟨I.ok,I.os,I.bare,⟨fun b o e n hb hx=>?_,fun b o e n hb hx=>?_,I.base.free,fun b o e hx=>?_,I.base.tups,I.base.frzs,I.base.tbls⟩,⟨_,hn',fun j y v' e1 e2 e3=>?_⟩,fun y c e=>?_,I.free,I.freeC,fun p hp=>?_,tracked ⟨oL,hoL,I.free⟩ hs,by simpa using I.len⟩ ⟨_,hs,.inl rfl⟩
  ·exact (hs.2 b (Nat.ne_of_lt (Nat.lt_of_lt_of_le (Heap.lt_size e) I.ok.above))).trans (I.base.keep b o e n hb hx)
  ·obtain ⟨sl,e1⟩:=I.base.slot b o e n hb hx
   exact ⟨sl,(hs.2 b (Nat.ne_of_lt (Nat.lt_of_lt_of_le (Heap.lt_size e) I.ok.above))).trans e1⟩
  ·obtain ⟨o',e1⟩:=I.base.there b o e hx
   exact ⟨o',(hs.2 b (Nat.ne_of_lt (Nat.lt_of_lt_of_le (Heap.lt_size e) I.ok.above))).trans e1⟩
  ·by_cases hj:j=i
   ·subst hj
    rw [hi] at e1;cases e1
    rw [List.getElem?_set_self hiσ] at e2
    cases e2
    exact ⟨u,r,.inl ⟨hk,by simp⟩⟩
   ·rw [List.getElem?_set_ne (Ne.symm hj)] at e2
    obtain ⟨u',r',q⟩:=hl j y v' e1 e2 e3
    refine ⟨u',r',?_⟩
    rcases q with ⟨k,e⟩ | ⟨k,c,e,z⟩
    ·refine .inl ⟨k,?_⟩
     have:y≠x:=fun e=>hj (nodup_ix hN e1 (e▸hi))
     simp [this,e]
    ·exact .inr ⟨k,c,e,z.sameBut hs (cne y c e)⟩
  ·obtain ⟨w',z⟩:=I.cell y c e
   exact ⟨w',z.sameBut hs (cne y c e)⟩
  ·obtain ⟨e,n,ne,nf,d⟩:=I.pin p hp
   exact ⟨(hs.2 p.1 ne).trans e,n,ne,nf,d⟩
 ·have hfn:X.fn x=true:=by
   rcases hf with z | z
   ·exact z
   ·rw [z] at hk;cases hk
  obtain ⟨c,hc⟩:=I.ok.has x (.inl hk)
  obtain ⟨w',z⟩:=I.cell x c hc
  refine wpAny_storeName_cell I.ok.kind hk hc z (fun h' hc' hs=>?_)
  obtain ⟨oc,hoc,hocd⟩:=id z
  refine h { s with heap:=h' } ⟨I.ok,I.os,I.bare,⟨fun b o e n hb hx=>?_,fun b o e n hb hx=>?_,I.base.free,fun b o e hx=>?_,I.base.tups,I.base.frzs,I.base.tbls⟩,⟨m,hn.sameBut hs (Ne.symm (cne x c hc)),fun j y v' e1 e2 e3=>?_⟩,fun y c' e=>?_,I.free,I.freeC,fun p hp=>?_,tracked ⟨oc,hoc,I.freeC x c hc⟩ hs,by simpa using I.len⟩ ⟨c,hs,.inr hc⟩
  ·exact (hs.2 b (Nat.ne_of_lt (Nat.lt_of_lt_of_le (Heap.lt_size e) (I.ok.cab x c hfn hc)))).trans (I.base.keep b o e n hb hx)
  ·obtain ⟨sl,e1⟩:=I.base.slot b o e n hb hx
   exact ⟨sl,(hs.2 b (Nat.ne_of_lt (Nat.lt_of_lt_of_le (Heap.lt_size e) (I.ok.cab x c hfn hc)))).trans e1⟩
  ·obtain ⟨o',e1⟩:=I.base.there b o e hx
   exact ⟨o',(hs.2 b (Nat.ne_of_lt (Nat.lt_of_lt_of_le (Heap.lt_size e) (I.ok.cab x c hfn hc)))).trans e1⟩
  ·by_cases hj:j=i
   ·subst hj
    rw [hi] at e1;cases e1
    rw [List.getElem?_set_self hiσ] at e2
    cases e2
    exact ⟨u,r,.inr ⟨.inl hk,c,hc,hc'⟩⟩
   ·rw [List.getElem?_set_ne (Ne.symm hj)] at e2
    obtain ⟨u',r',q⟩:=hl j y v' e1 e2 e3
    refine ⟨u',r',?_⟩
    rcases q with q | ⟨k,c',e,z'⟩
    ·exact .inl q
    ·refine .inr ⟨k,c',e,z'.sameBut hs ?_⟩
     rintro rfl
     exact hj (nodup_ix hN e1 (I.ok.inj _ _ _ e hc▸hi))
  ·by_cases hcc:c'=c
   ·subst hcc;exact ⟨_,hc'⟩
   ·obtain ⟨w2,z2⟩:=I.cell y c' e
    exact ⟨w2,z2.sameBut hs hcc⟩
  ·obtain ⟨e,n,ne,nf,d⟩:=I.pin p hp
   refine ⟨(hs.2 p.1 ?_).trans e,n,ne,nf,d⟩
   intro q
   rw [q,hoc] at e
   have q':oc=p.2:=Option.some.inj e
   exact d w' (by rw [←q'];exact hocd)
theorem store_ok {M:Model} {A:Around} {E:Value→Shared→Prop} {i:Nat} {x:Str} {v:V} {u:Value} {Q:Unit→Shared→Prop} (I:Inv X pins σ H s) (hN:X.N.Nodup) (hi:X.N[i]?=some x) (hx:Loc X.env.scope x) (r:RelV v u)
 (h:∀s',Inv X pins (σ.set i (some v)) H s'→Q () s') (hf:X.fn x=true∨X.env.scope.names.lookup x=some .local:=by first | exact .inl rfl | exact .inr rfl | assumption):wpAny M A (storeName X.env x u) Q E s :=
 store_ok2 I hN hi hx r (fun s' I' _=>h s' I') hf
theorem Inv.call' {s':Shared} {ch:List Addr} (I:Inv X pins σ H s) (ho:s'.os=s.os) (u:Un (frs X.stack) ch H H' s.heap s'.heap) (hok:HOk X.prog X.w H' s'.heap) (hg:AllBare s'.gens)
 (hch:∀b∈ch,(b∈X.ex∨X.s₀.heap.objs.size≤b)∧b≠X.env.locals∧(∀x c,X.env.cells.lookup x=some c→c≠b)∧∀p∈X.pn++pins,p.1≠b):Inv X pins σ H' s':=by
 obtain ⟨h',g',d',t',o'⟩:=s'
 have e:o'=s.os:=ho
 subst e
 exact I.call (g':=g') (t':=t') (d':=d') u hok hg hch
end
abbrev XK:=Value→Option Addr→Hp→Prop
abbrev St:=List (Option V)
abbrev VK:=V→Hp→Prop
abbrev TE:=St→Hp→VK→Prop
abbrev TT:=St→Hp→(Bool→Hp→Prop)→Prop
abbrev TA:=St→Hp→(List V→Hp→Prop)→Prop
structure Ends where
 nx:St→Hp→Prop
 rt:VK
 bk:St→Hp→Prop:=fun _ _=>False
 ct:St→Hp→Prop:=fun _ _=>False
abbrev TS:=Ends→St→Hp→Prop
inductive EP (X:Cx) (pins:List (Addr×Obj)) (σ:St) (Q:VK) (u:Value) (s':Shared):Prop
 | mk:∀v H',Inv X pins σ H' s'→RelV v u→Q v H'→EP X pins σ Q u s'
inductive TP (X:Cx) (pins:List (Addr×Obj)) (σ:St) (Q:Bool→Hp→Prop) (b:Bool) (s':Shared):Prop
 | mk:∀H',Inv X pins σ H' s'→Q b H'→TP X pins σ Q b s'
inductive AP (X:Cx) (pins:List (Addr×Obj)) (σ:St) (Q:List V→Hp→Prop) (us:List Value) (s':Shared):Prop
 | mk:∀vs H',Inv X pins σ H' s'→Vals vs us→Q vs H'→AP X pins σ Q us s'
inductive SPn (X:Cx) (pins:List (Addr×Obj)) (N:St→Hp→Prop) (s':Shared):Prop
 | mk:∀σ' H',Inv X pins σ' H' s'→N σ' H'→SPn X pins N s'
inductive SPr (X:Cx) (pins:List (Addr×Obj)) (N:VK) (u:Value) (s':Shared):Prop
 | mk:∀v σ' H',Inv X pins σ' H' s'→RelV v u→N v H'→SPr X pins N u s'
def SP (X:Cx) (pins:List (Addr×Obj)) (D:Ends) (f:Flow) (s':Shared):Prop :=
 match f with
 | .next=>SPn X pins D.nx s'
 | .brk=>SPn X pins D.bk s'
 | .cont=>SPn X pins D.ct s'
 | .ret u=>SPr X pins D.rt u s'
def PE (X:Cx) (e:Expr) (t:TE):Prop :=
 ∀(pins:List (Addr×Obj)) (s:Shared) (σ:St) (H:Hp) (Q:VK),Inv X pins σ H s→t σ H Q→wpAny (model X.prog X.w) X.A (eval e X.env) (EP X pins σ Q) X.xe s
def PT (X:Cx) (e:Expr) (t:TT):Prop :=
 ∀(pins:List (Addr×Obj)) (s:Shared) (σ:St) (H:Hp) (Q:Bool→Hp→Prop),Inv X pins σ H s→t σ H Q→wpAny (model X.prog X.w) X.A (isTrue e X.env (eval e X.env)) (TP X pins σ Q) X.xe s
def PW (X:Cx) (e:Expr) (t:TT):Prop :=
 ∀(whole:Sem Value) (pins:List (Addr×Obj)) (s:Shared) (σ:St) (H:Hp) (Q:Bool→Hp→Prop),Inv X pins σ H s→t σ H Q→wpAny (model X.prog X.w) X.A (isTrue e X.env whole) (TP X pins σ Q) X.xe s
theorem PW.pt {X:Cx} {e:Expr} {t:TT} (h:PW X e t):PT X e t:=h _
def PA (X:Cx) (es:List Expr) (t:TA):Prop :=
 ∀(pos:Pos) (pins:List (Addr×Obj)) (s:Shared) (σ:St) (H:Hp) (Q:List V→Hp→Prop),Inv X pins σ H s→t σ H Q→wpAny (model X.prog X.w) X.A (spliced (backTo pos (starEach es X.env))) (AP X pins σ Q) X.xe s
def PS (X:Cx) (st:Stmt) (t:TS):Prop :=
 ∀(pins:List (Addr×Obj)) (s:Shared) (σ:St) (H:Hp) (D:Ends),Inv X pins σ H s→t D σ H→wpAny (model X.prog X.w) X.A (exec st X.env) (SP X pins D) X.xe s
def PSs (X:Cx) (st:List Stmt) (t:TS):Prop :=
 ∀(pins:List (Addr×Obj)) (s:Shared) (σ:St) (H:Hp) (D:Ends),Inv X pins σ H s→t D σ H→wpAny (model X.prog X.w) X.A (execs st X.env) (SP X pins D) X.xe s
theorem thn {α:Type} {t:Sem α} {Q Q':α→Shared→Prop} {M:Model} {A:Around} {E:Value→Shared→Prop} {s:Shared} (h:wpAny M A t Q E s) (hQ:∀a s,Q a s→Q' a s):wpAny M A t Q' E s:=wpAny_mono h hQ fun _ _ x=>x
end L2
namespace L2
open PySem PySem.Spec PyProof.Rows
section
variable {X : Cx}
inductive tVar_I (i:Nat) (σ:St) (H:Hp) (Q:VK):Prop
 | mk:∀v,σ[i]?=some (some v)→Q v H→tVar_I i σ H Q
def tVar (i:Nat):TE:=fun σ H Q=>tVar_I i σ H Q
def tC (v:V):TE:=fun _ H Q=>Q v H
theorem pe_var {i:Nat} {x:Str} {pos:Pos} (hN:X.N[i]?=some x) (hv:Vis X.env.scope x) (hd:(x == ("__debug__":Str))=false:=by decide) (hcd:(x == ("__classdict__":Str))=false:=by decide):PE X (.Name x pos) (tVar i):=by
 intro pins s σ H Q I h
 obtain ⟨v,e,h⟩:=h
 obtain ⟨m,hn,hl⟩:=I.loc
 obtain ⟨u,r,l⟩:=hl i x v hN e hv
 have fin:EP X pins σ Q u s:=⟨v,H,I,r,h⟩
 rcases l with ⟨hk,hm⟩ | ⟨hk,c,hc,hcell⟩
 ·exact wpAny_Name (wpAny_loadName_local I.ok.kind hk hn hm fin) hd
 ·rcases hk with hk | hk
  ·exact wpAny_Name (wpAny_loadName_cell I.ok.kind hk hc hcell fin) hd
  ·exact wpAny_Name (wpAny_loadName_free I.ok.kind hk hc hcell fin hcd) hd
theorem pe_int {i j pos}:PE X (.Constant (.int i) j pos) (tC (.int i)):=fun _ _ _ H _ I h=>wpAny_Constant_int ⟨.int i,H,I.tok _,⟨_,rfl⟩,h⟩
theorem pe_bl {b j pos}:PE X (.Constant (.bool b) j pos) (tC (.bl b)):=fun _ _ _ H _ I h=>Constant_bool ⟨.bl b,H,I,rfl,h⟩
theorem pe_str {x j pos}:PE X (.Constant (.str x) j pos) (tC (.str x)):=fun _ _ _ H _ I h=>Calls.Constant_str ⟨.str x,H,I.tok _,⟨_,rfl⟩,h⟩
def Gl (X:Cx) (x:Str):Prop:=X.env.kindOf x=some .globalImplicit
theorem ld_glob {E:Value→Shared→Prop} {pins:List (Addr×Obj)} {s:Shared} {σ:St} {H:Hp} {x:Str} {u:Value} {pos:Pos} {Q:Value→Shared→Prop} (I:Inv X pins σ H s) (hg:Gl X x) (hm:X.mg x=some u) (h:Q u s)
 (hd:(x == ("__debug__":Str))=false:=by decide):wpAny (model X.prog X.w) X.A (eval (.Name x pos) X.env) Q E s :=
 Calls.Name_function_global I.ok.kind hg (Calls.loadGlobal_global (by rw [I.ok.glob];exact I.mod.glob.keeps I.bk) hm h) hd
theorem ld_blt {E:Value→Shared→Prop} {pins:List (Addr×Obj)} {s:Shared} {σ:St} {H:Hp} {x:Str} {u:Value} {pos:Pos} {Q:Value→Shared→Prop} (I:Inv X pins σ H s) (hg:Gl X x) (hm:X.mg x=none) (hv:bootBuiltins x=some u) (h:Q u s)
 (hn:x≠"__name__":=by decide) (hd:(x == ("__debug__":Str))=false:=by decide):wpAny (model X.prog X.w) X.A (eval (.Name x pos) X.env) Q E s:=by
 obtain ⟨mb,h1,h2⟩:=I.mod.blt
 exact Calls.Name_function_global I.ok.kind hg (Calls.loadGlobal_builtin (by rw [I.ok.glob];exact I.mod.glob.keeps I.bk) hm (by rw [I.ok.blt];exact h1.keeps I.bk) ((h2 x hn).trans hv) h) hd
theorem pe_glob {x:Str} {v:V} {u:Value} {pos:Pos} (hg:Gl X x) (hm:X.mg x=some u) (r:RelV v u) (hd:(x == ("__debug__":Str))=false:=by decide):PE X (.Name x pos) (tC v) :=
 fun _ _ _ H _ I h=>ld_glob I hg hm ⟨v,H,I,r,h⟩ hd
theorem pe_bltn {x:Str} {v:V} {u:Value} {pos:Pos} (hg:Gl X x) (hm:X.mg x=none) (hv:bootBuiltins x=some u) (r:RelV v u) (hn:x≠"__name__":=by decide) (hd:(x == ("__debug__":Str))=false:=by decide):PE X (.Name x pos) (tC v) :=
 fun _ _ _ H _ I h=>ld_blt I hg hm hv ⟨v,H,I,r,h⟩ hn hd
variable {a b : Expr} {ta tb : TE} {pos : Pos}
inductive tB_I (Q:(Bool→Hp→Prop)) (x:V) (H1:Hp):Prop
 | mk:∀c,x=.bl c→Q c H1→tB_I Q x H1
def tB (t:TE):TT:=fun σ H Q=>t σ H fun x H1=>tB_I Q x H1
theorem pt_val {e:Expr} {t:TE} (h:PE X e t) (he:∀whole,isTrue e X.env whole=(do let v ←whole;standAt e.pos;holding [v] (truthy v)):=by intro _;rfl):PT X e (tB t):=by
 intro pins s σ H Q I hw
 refine isTrue_plain (thn (h pins s σ H _ I hw) fun v s1 ⟨x,H1,I1,r1,q1⟩=>?_) (he _)
 obtain ⟨d,rfl,q⟩:=q1
 cases r1
 exact wpAny_truthy_bool ⟨H1,I1,q⟩
variable {tA tB' : TT} {rest : List Expr}
def tAnd (t u:TT):TT:=fun σ H Q=>t σ H fun c H1=>if c=true then u σ H1 Q else Q false H1
def tOr (t u:TT):TT:=fun σ H Q=>t σ H fun c H1=>if c=true then Q true H1 else u σ H1 Q
def tNot (t:TT):TT:=fun σ H Q=>t σ H fun c H1=>Q (!c) H1
theorem pw_and1 (ha:PT X a tA):PW X (.BoolOp .And [a] pos) tA:=by
 intro wh pins s σ H Q I h
 refine isTrue_and (thn (ha pins s σ H Q I h) fun c s1 e=>?_)
 cases c with
 | true=>exact isTrue_and_nil e
 | false=>exact e
theorem pw_or1 (ha:PT X a tA):PW X (.BoolOp .Or [a] pos) tA:=by
 intro wh pins s σ H Q I h
 refine isTrue_or (thn (ha pins s σ H Q I h) fun c s1 e=>?_)
 cases c with
 | false=>exact isTrue_or_nil e
 | true=>exact e
theorem pw_and (ha:PT X a tA) (hb:PW X (.BoolOp .And (b :: rest) pos) tB'):PW X (.BoolOp .And (a :: b :: rest) pos) (tAnd tA tB'):=by
 intro wh pins s σ H Q I h
 refine isTrue_and (thn (ha pins s σ H _ I h) fun c s1 ⟨H1,I1,q1⟩=>?_)
 cases c with
 | true=>exact hb wh pins s1 σ H1 Q I1 q1
 | false=>exact ⟨H1,I1,q1⟩
theorem pw_or (ha:PT X a tA) (hb:PW X (.BoolOp .Or (b :: rest) pos) tB'):PW X (.BoolOp .Or (a :: b :: rest) pos) (tOr tA tB'):=by
 intro wh pins s σ H Q I h
 refine isTrue_or (thn (ha pins s σ H _ I h) fun c s1 ⟨H1,I1,q1⟩=>?_)
 cases c with
 | true=>exact ⟨H1,I1,q1⟩
 | false=>exact hb wh pins s1 σ H1 Q I1 q1
theorem pt_not (ha:PT X a tA):PT X (.UnaryOp .Not a pos) (tNot tA):=by
 intro pins s σ H Q I h
 exact isTrue_not (thn (ha pins s σ H (fun c H1=>Q (!c) H1) I h) fun c s1 ⟨H1,I1,q1⟩=>⟨H1,I1,q1⟩)
inductive tAndV_I (tb:TE) (σ:St) (Q:VK) (x:V) (H1:Hp):Prop
 | mk:∀c,x=.bl c→(if c=true then tb σ H1 Q else Q (.bl false) H1)→tAndV_I tb σ Q x H1
def tAndV (ta tb:TE):TE:=fun σ H Q=>ta σ H fun x H1=>tAndV_I tb σ Q x H1
inductive tNotV_I (Q:VK) (x:V) (H1:Hp):Prop
 | mk:∀c,x=.bl c→Q (.bl (!c)) H1→tNotV_I Q x H1
def tNotV (ta:TE):TE:=fun σ H Q=>ta σ H fun x H1=>tNotV_I Q x H1
theorem pe_one {op} {t:TE} (h:PE X a t):PE X (.BoolOp op [a] pos) t:=fun pins s σ H Q I hw=>BoolOp_one (h pins s σ H Q I hw)
theorem pe_and (ha:PE X a ta) (hb:PE X (.BoolOp .And (b :: rest) pos) tb):PE X (.BoolOp .And (a :: b :: rest) pos) (tAndV ta tb):=by
 intro pins s σ H Q I h
 refine BoolOp_and (thn (ha pins s σ H _ I h) fun v s1 ⟨x,H1,I1,r1,q1⟩=>?_)
 obtain ⟨c,rfl,q1⟩:=q1
 cases r1
 refine wpAny_truthy_bool ?_
 cases c with
 | true=>exact hb pins s1 σ H1 Q I1 q1
 | false=>exact ⟨.bl false,H1,I1,rfl,q1⟩
theorem pe_not (ha:PE X a ta):PE X (.UnaryOp .Not a pos) (tNotV ta):=by
 intro pins s σ H Q I h
 refine UnaryOp_ (thn (ha pins s σ H _ I h) fun v s1 ⟨x,H1,I1,r1,q1⟩=>?_)
 obtain ⟨c,rfl,q1⟩:=q1
 cases r1
 exact not_of (wpAny_truthy_bool ⟨.bl (!c),H1,I1,rfl,q1⟩)
def tIf (t:TT) (ta tb:TE):TE:=fun σ H Q=>t σ H fun c H1=>if c=true then ta σ H1 Q else tb σ H1 Q
theorem pe_ifExp {c:Expr} (hc:PT X c tA) (ha:PE X a ta) (hb:PE X b tb):PE X (.IfExp c a b pos) (tIf tA ta tb):=by
 intro pins s σ H Q I h
 refine wpAny_IfExp (thn (hc pins s σ H _ I h) fun d s1 ⟨H1,I1,q1⟩=>?_)
 cases d with
 | true=>exact ha pins s1 σ H1 Q I1 q1
 | false=>exact hb pins s1 σ H1 Q I1 q1
end
end L2
namespace L2
open PySem PySem.Spec PyProof.Rows
def absV:Value→Option V
 | .none=>some .non
 | .bool b=>some (.bl b)
 | .int i _=>some (.int i)
 | .str x _=>some (.str x)
 | .bytes b _=>some (.byt b)
 | .float b _=>some (.flt b)
 | .ref a=>some (.ref a)
 | .type n=>some (.ty n)
 | _=>none
def SqL (K:PySem.W.Frag) (H:Hp) (a:Addr) (xs:List V):Prop :=
 Rd H a (.lst xs) ∨
  ∃(o:Obj) (its:Array Value) (n:Nat),K.lookup a=some o∧o.cls=.type "list"∧o.dict=none∧o.data=.seq its n∧its.size≤sizeLine∧its.toList.map absV=xs.map some
def SqT (K:PySem.W.Frag) (H:Hp) (a:Addr) (xs:List V):Prop :=
 Rd H a (.tup xs) ∨
  ∃(o:Obj) (its:Array Value) (n:Nat),K.lookup a=some o∧o.cls=.type "tuple"∧o.data=.seq its n∧its.size≤sizeLine∧its.toList.map absV=xs.map some
theorem absV_rel:∀{u:Value} {x:V},absV u=some x→RelV x u:=by
 intro u x h
 unfold absV at h
 split at h <;> first | (cases h;exact rfl) | (cases h;exact ⟨_,rfl⟩) | cases h
theorem rel_abs {x:V} {u:Value} (r:RelV x u) (n:∀y t,x≠.rstr y t):absV u=some x:=by
 cases x with
 | non=>cases r;rfl
 | bl _=>cases r;rfl
 | int _=>obtain ⟨t,rfl⟩:=r;rfl
 | str _=>obtain ⟨t,rfl⟩:=r;rfl
 | byt _=>obtain ⟨t,rfl⟩:=r;rfl
 | flt _=>obtain ⟨t,rfl⟩:=r;rfl
 | ref _=>cases r;rfl
 | ty _=>cases r;rfl
 | rstr y t=>exact absurd rfl (n y t)
theorem vals_abs:∀{xs:List V} {us:List Value},Vals xs us→(∀x∈xs,∀y t,x≠.rstr y t)→us.map absV=xs.map some
 | _,_,.nil,_=>rfl
 | _,_,.cons r t,h=>by
   rw [List.map_cons,List.map_cons,rel_abs r (h _ List.mem_cons_self),vals_abs t fun x hx=>h x (List.mem_cons_of_mem _ hx)]
theorem absV_vals:∀{xs:List V} {us:List Value},us.map absV=xs.map some→Vals xs us
 | [],[],_=>.nil
 | [],_ :: _,h=>by cases h
 | _ :: _,[],h=>by cases h
 | x :: xs,u :: us,h=>by
   injection h with h1 h2
   exact .cons (absV_rel h1) (absV_vals h2)
section
variable {X : Cx} {pins : List (Addr × Obj)} {σ : St} {H : Hp} {s : Shared} {a : Addr} {xs ys : List V}
theorem SqL.of {K:PySem.W.Frag} (h:H a=some (.lst xs)):SqL K H a xs:=.inl (.inl h)
theorem SqT.of {K:PySem.W.Frag} (h:H a=some (.tup xs)):SqT K H a xs:=.inl (.inl h)
theorem Inv.list (I:Inv X pins σ H s) (h:SqL X.K H a xs):∃its:List Value,Vals xs its∧PlainL s.heap a its.toArray∧xs.length≤sizeLine:=by
 rcases h with h | ⟨o,its,n,hk,hc,hd,hs,hz,r⟩
 ·obtain ⟨z,its,n,r,e⟩:=h.ok I.hok
  exact ⟨its,r,⟨_,n,e,rfl,rfl,rfl⟩,z⟩
 ·have r:=absV_vals r
  refine ⟨its.toList,r,⟨o,n,I.kIn a o hk,hc,hd,by simpa using hs⟩,?_⟩
  have e:=r.length
  simp only [Array.length_toList] at e
  omega
theorem Inv.tuple (I:Inv X pins σ H s) (h:SqT X.K H a xs):∃its:List Value,Vals xs its∧IsTup s.heap a its.toArray∧xs.length≤sizeLine:=by
 rcases h with h | ⟨o,its,n,hk,hc,hs,hz,r⟩
 ·obtain ⟨z,its,r,p⟩:=h.ok I.hok
  exact ⟨its,r,p,z⟩
 ·have r:=absV_vals r
  refine ⟨its.toList,r,⟨o,I.kIn a o hk,hc,n,by simpa using hs⟩,?_⟩
  have e:=r.length
  simp only [Array.length_toList] at e
  omega
theorem Inv.kfree {o:Obj} (I:Inv X pins σ H s) (h:X.K.lookup a=some o):H a=none:=(I.bs a o (I.ok.mod.kin a o h)).2
theorem Rd.some {o:HO} (h:Rd H a o):H a≠none:=by
 rcases h with h | ⟨_,h⟩ <;> (rw [h];exact fun z=>nomatch z)
theorem map_some_inj {α:Type}:∀{xs ys:List α},xs.map Option.some=ys.map Option.some→xs=ys
 | [],[],_=>rfl
 | [],_ :: _,h=>by cases h
 | _ :: _,[],h=>by cases h
 | x :: xs,y :: ys,h=>by injection h with h1 h2;rw [Option.some.inj h1,map_some_inj h2]
theorem Inv.list_inj (I:Inv X pins σ H s) (h:SqL X.K H a xs) (h':SqL X.K H a ys):xs=ys:=by
 rcases h with h | ⟨o,its,n,hk,hc,hd,hs,hz,r⟩
 ·rcases h' with h' | ⟨o',its',n',hk',hc',hd',hs',hz',r'⟩
  ·rcases h with h | ⟨_,h⟩ <;> rcases h' with h' | ⟨_,h'⟩ <;> (rw [h] at h';cases h' <;> rfl)
  ·exact absurd (I.kfree hk') h.some
 ·rcases h' with h' | ⟨o',its',n',hk',hc',hd',hs',hz',r'⟩
  ·exact absurd (I.kfree hk) h'.some
  ·rw [hk] at hk';cases hk'
   rw [hs] at hs'
   injection hs' with d1 _
   subst d1
   exact map_some_inj (r.symm.trans r')
theorem Inv.tuple_inj (I:Inv X pins σ H s) (h:SqT X.K H a xs) (h':SqT X.K H a ys):xs=ys:=by
 rcases h with h | ⟨o,its,n,hk,hc,hs,hz,r⟩
 ·rcases h' with h' | ⟨o',its',n',hk',hc',hs',hz',r'⟩
  ·rcases h with h | ⟨_,h⟩ <;> rcases h' with h' | ⟨_,h'⟩ <;> (rw [h] at h';cases h' <;> rfl)
  ·exact absurd (I.kfree hk') h.some
 ·rcases h' with h' | ⟨o',its',n',hk',hc',hs',hz',r'⟩
  ·exact absurd (I.kfree hk) h'.some
  ·rw [hk] at hk';cases hk'
   rw [hs] at hs'
   injection hs' with d1 _
   subst d1
   exact map_some_inj (r.symm.trans r')
end
abbrev Cx.wish (X:Cx) (E:Value→Shared→Prop):Cx:={ X with xe:=E }
abbrev Cx.nox (X:Cx):Cx:=X.wish fun _ _=>False
theorem Cx.Ok.wish {X:Cx} (ok:X.Ok) (E:Value→Shared→Prop):(X.wish E).Ok :=
 ⟨ok.mod,ok.kind,ok.glob,ok.blt,ok.above,ok.inj,ok.has,ok.cab,ok.hd,ok.frames,ok.stk,ok.exf,ok.bs,ok.bsz,ok.noex,ok.exfs,ok.funs,ok.frf⟩
theorem Cx.Ok.unwish {X:Cx} {E:Value→Shared→Prop} (ok:(X.wish E).Ok):X.Ok :=
 ⟨ok.mod,ok.kind,ok.glob,ok.blt,ok.above,ok.inj,ok.has,ok.cab,ok.hd,ok.frames,ok.stk,ok.exf,ok.bs,ok.bsz,ok.noex,ok.exfs,ok.funs,ok.frf⟩
section
variable {X : Cx} {pins : List (Addr × Obj)} {σ : St} {H : Hp} {s : Shared} {E : Value → Shared → Prop}
theorem Inv.wish (I:Inv X pins σ H s) (E:Value→Shared→Prop):Inv (X.wish E) pins σ H s:=⟨I.ok.wish E,I.os,I.bare,I.base,I.loc,I.cell,I.free,I.freeC,I.pin,I.hok,I.len⟩
theorem Inv.unwish (I:Inv (X.wish E) pins σ H s):Inv X pins σ H s:=⟨I.ok.unwish,I.os,I.bare,I.base,I.loc,I.cell,I.free,I.freeC,I.pin,I.hok,I.len⟩
theorem SP.unwish {D:Ends} {f:Flow} {s':Shared} (h:SP (X.wish E) pins D f s'):SP X pins D f s':=by
 cases f with
 | next=>obtain ⟨σ',H',I,q⟩:=h;exact ⟨σ',H',I.unwish,q⟩
 | brk=>obtain ⟨σ',H',I,q⟩:=h;exact ⟨σ',H',I.unwish,q⟩
 | cont=>obtain ⟨σ',H',I,q⟩:=h;exact ⟨σ',H',I.unwish,q⟩
 | ret u=>obtain ⟨v,σ',H',I,r,q⟩:=h;exact ⟨v,σ',H',I.unwish,r,q⟩
theorem PSs.nox {st:List Stmt} {t:TS} (h:PSs X.nox st t):PSs X st t:=fun pins s σ H D I hw =>
 wpAny_mono (h pins s σ H D (I.wish _) hw) (fun _ _ q=>q.unwish) fun _ _ z=>False.elim z
end
section
variable {X : Cx} {st : Stmt} {rest : List Stmt} {t u : TS} {e : Expr} {te : TE} {pos : Pos}
def tNext:TS:=fun D σ H=>D.nx σ H
def tSeq (t u:TS):TS:=fun D σ H=>t { D with nx:=u D } σ H
theorem pss_nil:PSs X [] tNext:=fun _ _ σ H _ I h=>wpAny_execs_nil ⟨σ,H,I,h⟩
theorem pss_cons (h1:PS X st t) (h2:PSs X rest u):PSs X (st :: rest) (tSeq t u):=by
 intro pins s σ H D I h
 refine wpAny_execs_cons (thn (h1 pins s σ H { D with nx:=u D } I h) fun f s1 q=>?_)
 cases f with
 | next =>
   obtain ⟨σ',H',I',q⟩:=q
   exact h2 pins s1 σ' H' D I' q
 | ret v=>exact q
 | brk=>exact q
 | cont=>exact q
theorem pss_one (h1:PS X st t):PSs X [st] t:=by
 intro pins s σ H D I h
 refine wpAny_execs_cons (thn (h1 pins s σ H D I h) fun f s1 q=>?_)
 cases f with
 | next=>exact wpAny_execs_nil q
 | ret v=>exact q
 | brk=>exact q
 | cont=>exact q
theorem Inv.quiet {pins:List (Addr×Obj)} {σ:St} {H:Hp} {s:Shared} (I:Inv X pins σ H s):interactive X.env=false:=by simp [interactive,I.ok.kind]
def tDrop (te:TE):TS:=fun D σ H=>te σ H fun _ H1=>D.nx σ H1
theorem ps_expr (he:PE X e te) (hs:swapsWith e none pos.line X.env=pure false:=by rfl):PS X (.Expr e pos) (tDrop te):=by
 intro pins s σ H D I h
 exact wpAny_Expr_any (thn (he pins s σ H _ I h) fun v s1 ⟨x,H1,I1,r1,q1⟩=>⟨σ,H1,I1,q1⟩) I.quiet hs
def tRet (te:TE):TS:=fun D σ H=>te σ H D.rt
theorem ps_ret (he:PE X e te):PS X (.Return (some e) pos) (tRet te):=by
 intro pins s σ H D I h
 exact wpAny_Return_some (thn (he pins s σ H _ I h) fun v s1 ⟨x,H1,I1,r1,q1⟩=>⟨x,σ,H1,I1,r1,q1⟩)
def tIfS (c:TT) (t u:TS):TS:=fun D σ H=>c σ H fun b H1=>if b=true then t D σ H1 else u D σ H1
theorem ps_if {c:Expr} {a b:List Stmt} {tc:TT} (hc:PT X c tc) (ha:PSs X a t) (hb:PSs X b u):PS X (.If c a b pos) (tIfS tc t u):=by
 intro pins s σ H D I h
 refine wpAny_If (thn (hc pins s σ H _ I h) fun d s1 ⟨H1,I1,q1⟩=>?_)
 cases d with
 | true=>exact ha pins s1 σ H1 D I1 q1
 | false=>exact hb pins s1 σ H1 D I1 q1
end
abbrev TG:=V→St→Hp→(St→Hp→Prop)→Prop
def PG (X:Cx) (target:Expr) (t:TG):Prop :=
 ∀(pins:List (Addr×Obj)) (s:Shared) (σ:St) (H:Hp) (v:V) (u:Value) (Q:St→Hp→Prop),Inv X pins σ H s→RelV v u→t v σ H Q →
  wpAny (model X.prog X.w) X.A (assign target X.env u) (fun _ s'=>∃σ' H',Inv X pins σ' H' s'∧Q σ' H') X.xe s
abbrev TIp:=V→V→Hp→VK→Prop
def PIp (X:Cx) (op:Operator) (t:TIp):Prop :=
 ∀(pins:List (Addr×Obj)) (s:Shared) (σ:St) (H:Hp) (x y:V) (v u:Value) (Q:VK),Inv X pins σ H s→RelV x v→RelV y u→t x y H Q →
  wpAny (model X.prog X.w) X.A (inplaceOp op v u) (EP X pins σ Q) X.xe s
section
variable {X : Cx} {pos : Pos}
def gName (i:Nat):TG:=fun v σ H Q=>Q (σ.set i (some v)) H
theorem pg_name {i:Nat} {x:Str} (hN:X.N.Nodup) (hi:X.N[i]?=some x) (hx:Loc X.env.scope x) (hf:X.fn x=true∨X.env.scope.names.lookup x=some .local:=by first | exact .inl rfl | exact .inr rfl | assumption):PG X (.Name x pos) (gName i):=by
 intro pins s σ H v u Q I r h
 exact wpAny_assign_Name (store_ok I hN hi hx r (fun s' I'=>⟨_,H,I',h⟩) hf)
def tAsg (te:TE) (g:TG):TS:=fun D σ H=>te σ H fun x H1=>g x σ H1 D.nx
theorem ps_set {i:Nat} {x:Str} {e:Expr} {te:TE} {pos':Pos} (hN:X.N.Nodup) (hi:X.N[i]?=some x) (hx:Loc X.env.scope x) (he:PE X e te) (hs:swapsWith e (some (.Name x pos')) pos.line X.env=pure false:=by rfl) (hf:X.fn x=true∨X.env.scope.names.lookup x=some .local:=by first | exact .inl rfl | exact .inr rfl | assumption) :
 PS X (.Assign [.Name x pos'] e pos) (tAsg te (gName i)):=by
 intro pins s σ H D I h
 refine wpAny_Assign_Name (thn (he pins s σ H _ I h) fun v s1 ⟨y,H1,I1,r1,q1⟩=>?_) hs
 exact store_ok I1 hN hi hx r1 (fun s2 I2=>⟨_,H1,I2,q1⟩) hf
inductive tAug_I (i:Nat) (te:TE) (ti:TIp) (D:Ends) (σ:St) (H:Hp):Prop
 | mk:∀x,σ[i]?=some (some x)→(te σ H fun y H1=>ti x y H1 fun z H2=>D.nx (σ.set i (some z)) H2)→tAug_I i te ti D σ H
def tAug (i:Nat) (te:TE) (ti:TIp):TS:=fun D σ H=>tAug_I i te ti D σ H
theorem ps_aug {i:Nat} {x:Str} {e:Expr} {te:TE} {op:Operator} {ti:TIp} {pos':Pos} (hN:X.N.Nodup) (hi:X.N[i]?=some x) (hx:Loc X.env.scope x) (he:PE X e te) (ho:PIp X op ti) (hf:X.fn x=true∨X.env.scope.names.lookup x=some .local:=by first | exact .inl rfl | exact .inr rfl | assumption) :
 PS X (.AugAssign (.Name x pos') op e pos) (tAug i te ti):=by
 intro pins s σ H D I h
 obtain ⟨v,e1,h⟩:=h
 obtain ⟨m,hn,hl⟩:=I.loc
 have vis:Vis X.env.scope x:=by rcases hx with k | k;exact .inl k;exact .inr (.inl k)
 obtain ⟨u,r,l⟩:=hl i x v hi e1 vis
 refine wpAny_AugAssign_Name ?_
 have go:wpAny (model X.prog X.w) X.A (eval e X.env) (fun w s₂=>wpAny (model X.prog X.w) X.A (inplaceOp op u w) (fun r s₃=>wpAny (model X.prog X.w) X.A (storeName X.env x r) (fun _=>SP X pins D .next) X.xe s₃) X.xe s₂) X.xe s:=by
  refine thn (he pins s σ H _ I h) fun w s1 ⟨y,H1,I1,r1,q1⟩=>?_
  refine thn (ho pins s1 σ H1 v y u w _ I1 r r1 q1) fun z s2 ⟨zv,H2,I2,r2,q2⟩=>?_
  exact store_ok I2 hN hi hx r2 (fun s3 I3=>⟨_,H2,I3,q2⟩) hf
 rcases l with ⟨hk,hm⟩ | ⟨hk,c,hc,hcell⟩
 ·exact wpAny_loadName_local I.ok.kind hk hn hm go
 ·rcases hk with hk | hk
  ·exact wpAny_loadName_cell I.ok.kind hk hc hcell go
  ·rcases hx with k | k
   ·have:X.env.scope.names.lookup x=some .free:=hk
    rw [k] at this;cases this
   ·have:X.env.scope.names.lookup x=some .free:=hk
    rw [k] at this;cases this
def ipI (f:Int→Int→Int):TIp:=fun x y H Q=>∃i j,x=.int i∧y=.int j∧Q (.int (f i j)) H
theorem ip_add:PIp X .Add (ipI fun i j=>i+j):=by
 intro pins s σ H x y v u Q I r1 r2 h
 obtain ⟨i,j,e1,e2,q⟩:=h
 subst e1;subst e2
 obtain ⟨t,rfl⟩:=r1
 obtain ⟨t',rfl⟩:=r2
 exact iadd_int ⟨.int _,H,I.tok _,⟨_,rfl⟩,q⟩
end
section
variable {X : Cx} {pos : Pos}
inductive tWhile_I (c:TT) (tb:TS) (D:Ends) (σ:St) (H:Hp):Prop
 | mk:∀W:Nat→St→Hp→Prop,(∃m,W m σ H)→(∀m σ H,W m σ H→c σ H fun b H1=>if b=true then ∃N:St→Hp→Prop,(∀σ' H',N σ' H'→∃m',m'<m∧W m' σ' H')∧tb { D with nx:=N,ct:=N,bk:=D.nx } σ H1 else D.nx σ H1)→tWhile_I c tb D σ H
def tWhile (c:TT) (tb:TS):TS:=fun D σ H=>tWhile_I c tb D σ H
theorem ps_while {c:Expr} {body:List Stmt} {tc:TT} {tb:TS} (hp:PassesOwn (model X.prog X.w) X.A X.env X.xe) (hc:PT X c tc) (hb:PSs X body tb):PS X (.While c body [] pos) (tWhile tc tb):=by
 intro pins s σ H D I h
 obtain ⟨W,⟨m0,w0⟩,turn⟩:=h
 refine wpAny_While (codeAny_whileLoop (fun n s'=>∃σ' H',Inv X pins σ' H' s'∧W n σ' H') ?_ m0 ⟨σ,H,I,w0⟩)
 rintro n s1 ⟨σ1,H1,I1,w1⟩
 refine wpAny_passesOwn hp (thn (hc pins s1 σ1 H1 _ I1 (turn n σ1 H1 w1)) fun b s2 ⟨H2,I2,q2⟩=>?_)
 cases b with
 | true =>
   obtain ⟨N,hN,q2⟩:=q2
   rw [if_pos rfl]
   refine wpAny_passesOwn hp (thn (hb pins s2 σ1 H2 _ I2 q2) fun f s3 q3=>?_)
   cases f with
   | next =>
     obtain ⟨σ3,H3,I3,n3⟩:=q3
     obtain ⟨m',hm,w3⟩:=hN σ3 H3 n3
     exact ⟨m',hm,σ3,H3,I3,w3⟩
   | cont =>
     obtain ⟨σ3,H3,I3,n3⟩:=q3
     obtain ⟨m',hm,w3⟩:=hN σ3 H3 n3
     exact ⟨m',hm,σ3,H3,I3,w3⟩
   | brk=>exact q3
   | ret v=>exact q3
 | false =>
   rw [if_neg Bool.false_ne_true]
   exact wpAny_execs_nil ⟨σ1,H2,I2,q2⟩
end
structure It where
 go:Nat→Hp→Prop
 yld:Nat→Hp→V→Hp→Prop
 stop:Nat→Hp→Prop
def FpOk (X:Cx) (pins:List (Addr×Obj)) (H:Hp) (b:Addr):Prop :=
 H b=none∧b≠X.env.locals∧b∉X.fs∧(b∈X.ex∨X.s₀.heap.objs.size≤b)∧(∀x c,X.env.cells.lookup x=some c→c≠b)∧∀p∈X.pn++pins,p.1≠b
theorem Inv.fpOk {X:Cx} {pins:List (Addr×Obj)} {σ:St} {H H':Hp} {s:Shared} {b:Addr} (I:Inv X pins σ H s) (hb:s.heap.objs.size≤b) (hn:H' b=none):FpOk X pins H' b:=by
 refine ⟨hn,Nat.ne_of_gt (Nat.lt_of_lt_of_le I.lt hb),I.nofs hb,.inr (Nat.le_trans I.sz hb),fun x c e z=>?_,fun p hp z=>?_⟩
 ·obtain ⟨v,q⟩:=I.cell x c e
  exact absurd (Nat.lt_of_lt_of_le q.lt (by rw [z];exact hb)) (Nat.lt_irrefl _)
 ·exact absurd (Nat.lt_of_lt_of_le (Heap.lt_size (I.pin p hp).1) (by rw [z];exact hb)) (Nat.lt_irrefl _)
structure Turn (P:Program) (w:World) (K:PySem.W.Frag) (tg:Expr) (J:It) (fp:List Addr) (it:Addr) (tn:Nat→Heap→Prop):Prop where
 mem:it∈fp
 obj:∀i h,tn i h→∀b∈fp,∃o,h.get? b=some o∧∀v,o.data≠.cell v
 keep:∀i h h',tn i h→(∀b∈fp,∀o,h.get? b=some o→h'.get? b=some o)→tn i h'
 item:∀(X:Cx),X.prog=P→X.w=w→X.K=K→X.calm=true→∀(i:Nat) (pins:List (Addr×Obj)) (s:Shared) (σ:St) (H:Hp) (E:Value→Shared→Prop),Inv X pins σ H s→(∀b∈fp,FpOk X pins H b)→tn i s.heap→J.go i H →
  wpAny (model P w) X.A (pyNext (.ref it)) (fun r s1=>∃u,r=some u ∧
   wpAny (model P w) X.A (letOwnedTupleGo tg (.ref it) u) (fun _ s2=>∃x H',Inv X pins σ H' s2∧RelV x u∧J.yld i H x H'∧tn (i+1) s2.heap∧∀b∈fp,H' b=none) E s1) E s
 done:∀(X:Cx),X.prog=P→X.w=w→X.K=K→X.calm=true→∀(i:Nat) (pins:List (Addr×Obj)) (s:Shared) (σ:St) (H:Hp) (E:Value→Shared→Prop),Inv X pins σ H s→(∀b∈fp,FpOk X pins H b)→tn i s.heap→J.stop i H →
  wpAny (model P w) X.A (pyNext (.ref it)) (fun r s1=>r=none∧Inv X pins σ H s1) E s
 self:∀(A:Around) (i:Nat) (s:Shared) (Q:Value→Shared→Prop) (E:Value→Shared→Prop),tn i s.heap→Q (.ref it) s→wpAny (model P w) A (pyIter (.ref it)) Q E s
abbrev TI:=St→Hp→(It→Hp→Prop)→Prop
def PIE (X:Cx) (pins:List (Addr×Obj)) (σ:St) (tg:Expr) (R:It→Hp→Prop) (itv:Value) (s2:Shared):Prop :=
 ∃(it:Addr) (fp:List Addr) (tn:Nat→Heap→Prop) (J:It) (H':Hp),itv=.ref it∧Inv X pins σ H' s2∧Turn X.prog X.w X.K tg J fp it tn∧tn 0 s2.heap∧(∀b∈fp,FpOk X pins H' b)∧R J H'
def PI (X:Cx) (tg iter:Expr) (wi:TI):Prop :=
 ∀(pins:List (Addr×Obj)) (s:Shared) (σ:St) (H:Hp) (R:It→Hp→Prop),Inv X pins σ H s→wi σ H R →
  wpAny (model X.prog X.w) X.A (eval iter X.env) (fun v s1=>wpAny (model X.prog X.w) X.A (pyIter v) (PIE X pins σ tg R) X.xe s1) X.xe s
theorem go_of {M:Model} {A:Around} {E:Value→Shared→Prop} {s:Shared} {tg:Expr} {it:Addr} {u:Value} {o:Obj} {n:String} {vs:Array Value} {Q:Unit→Shared→Prop} (ho:s.heap.get? it=some o) (hc:o.cls=.type n) (hd:o.data=.fields vs)
 (hn:["enumerate","zip","dict_itemiterator","dict_reverseitemiterator","odict_iterator","itertools.zip_longest","itertools.pairwise"].contains n=false) (hQ:Q () s):wpAny M A (letOwnedTupleGo tg (.ref it) u) Q E s:=by
 unfold letOwnedTupleGo
 cases tg <;> first
  | exact wpAny_pure hQ
  | (cases u <;> first
      | exact wpAny_pure hQ
      | (refine wpAny_bind (wpAny_load ho ?_)
         rw [hc,hd]
         show wpAny M A (if (["enumerate","zip","dict_itemiterator","dict_reverseitemiterator","odict_iterator","itertools.zip_longest","itertools.pairwise"].contains n && vs[0]? == some (rawInt _))=true then _ else _) Q E s
         rw [if_neg (by intro h;rw [hn,Bool.false_and] at h;cases h)]
         exact wpAny_pure hQ))
def Itl (K:PySem.W.Frag) (a:Addr):It :=
 ⟨fun i H=>∃xs x,SqL K H a xs∧xs[i]?=some x,fun i H x H'=>H'=H∧∀xs,SqL K H a xs→xs[i]?=some x,fun i H=>∃xs,SqL K H a xs∧xs.length≤i⟩
def Itt (K:PySem.W.Frag) (a:Addr):It :=
 ⟨fun i H=>∃xs x,SqT K H a xs∧xs[i]?=some x,fun i H x H'=>H'=H∧∀xs,SqT K H a xs→xs[i]?=some x,fun i H=>∃xs,SqT K H a xs∧xs.length≤i⟩
def Itr (lo:Int) (n:Nat):It:=⟨fun i _=>i<n,fun i H x H'=>H'=H∧x=.int (lo+i),fun i _=>n≤i⟩
theorem turn_list {P:Program} {w:World} {K:PySem.W.Frag} {tg:Expr} (a it:Addr):Turn P w K tg (Itl K a) [it] it (fun i h=>h.IsListIter it a i) where
 mem:=by simp
 obj:=fun i h st b hb=>by
  have e:b=it:=by simpa using hb
  subst e
  obtain ⟨o,e,c,d⟩:=st
  exact ⟨o,e,fun v z=>by rw [d] at z;cases z⟩
 keep:=fun i h h' st k=>st.at fun o e=>k it (by simp) o e
 item:=by
  intro X hP hw hK hc i pins s σ H E I hf st hg
  subst hP hw hK
  obtain ⟨xs,x,hq,hx⟩:=hg
  obtain ⟨its,rv,p,hz⟩:=I.list hq
  obtain ⟨u,hu,ru⟩:=rv.get hx
  obtain ⟨f0,f1,f2,f3,f4,f5⟩:=hf it (by simp)
  refine wpAny_pyNext_list_item st p.isList (x:=u) (by simpa using hu) fun h' st' sb=>?_
  have I1:Inv X pins σ H { s with heap:=h' }:=I.turned (t':=s.toks) (fun b o hb e=>(sb.2 b hb).trans e) f0 f1 f3 f4 f5
  obtain ⟨o,e,c,d⟩:=id st'
  exact ⟨u,rfl,go_of (s:={ s with heap:=h' }) e c d (by decide) ⟨x,H,I1,ru,⟨rfl,fun ys hy=>by rw [I.list_inj hy hq];exact hx⟩,st',fun b hb=>(hf b hb).1⟩⟩
 done:=by
  intro X hP hw hK hc i pins s σ H E I hf st hg
  subst hP hw hK
  obtain ⟨xs,hq,hx⟩:=hg
  obtain ⟨its,rv,p,hz⟩:=I.list hq
  obtain ⟨f0,f1,f2,f3,f4,f5⟩:=hf it (by simp)
  have hl:=rv.length
  exact wpAny_pyNext_list_end (I.ok.hd hc) st p.isList (by simp;omega) fun h' eb=>⟨rfl,I.turned (t':=s.toks) (fun b o hb e=>eb b o hb e) f0 f1 f3 f4 f5⟩
 self:=fun _ _ _ _ _ st h=>wpAny_pyIter_listiter st h
theorem turn_tuple {P:Program} {w:World} {K:PySem.W.Frag} {tg:Expr} (a it:Addr):Turn P w K tg (Itt K a) [it] it (fun i h=>h.IsTupleIter it a i) where
 mem:=by simp
 obj:=fun i h st b hb=>by
  have e:b=it:=by simpa using hb
  subst e
  obtain ⟨o,e,c,d⟩:=st
  exact ⟨o,e,fun v z=>by rw [d] at z;cases z⟩
 keep:=fun i h h' st k=>st.at fun o e=>k it (by simp) o e
 item:=by
  intro X hP hw hK hc i pins s σ H E I hf st hg
  subst hP hw hK
  obtain ⟨xs,x,hq,hx⟩:=hg
  obtain ⟨its,rv,p,hz⟩:=I.tuple hq
  obtain ⟨u,hu,ru⟩:=rv.get hx
  obtain ⟨f0,f1,f2,f3,f4,f5⟩:=hf it (by simp)
  refine wpAny_pyNext_tuple_item st (show s.heap.IsTuple a its.toArray from p) (x:=u) (by simpa using hu) fun h' st' sb=>?_
  have I1:Inv X pins σ H { s with heap:=h' }:=I.turned (t':=s.toks) (fun b o hb e=>(sb.2 b hb).trans e) f0 f1 f3 f4 f5
  obtain ⟨o,e,c,d⟩:=id st'
  exact ⟨u,rfl,go_of (s:={ s with heap:=h' }) e c d (by decide) ⟨x,H,I1,ru,⟨rfl,fun ys hy=>by rw [I.tuple_inj hy hq];exact hx⟩,st',fun b hb=>(hf b hb).1⟩⟩
 done:=by
  intro X hP hw hK hc i pins s σ H E I hf st hg
  subst hP hw hK
  obtain ⟨xs,hq,hx⟩:=hg
  obtain ⟨its,rv,p,hz⟩:=I.tuple hq
  obtain ⟨f0,f1,f2,f3,f4,f5⟩:=hf it (by simp)
  have hl:=rv.length
  exact wpAny_pyNext_tuple_end (I.ok.hd hc) st (show s.heap.IsTuple a its.toArray from p) (by simp;omega) fun h' eb=>⟨rfl,I.turned (t':=s.toks) (fun b o hb e=>eb b o hb e) f0 f1 f3 f4 f5⟩
 self:=fun _ _ _ _ _ st h=>wpAny_pyIter_tupleiter st h
theorem turn_range {P:Program} {w:World} {K:PySem.W.Frag} {tg:Expr} (it:Addr) (lo:Int) (n:Nat):Turn P w K tg (Itr lo n) [it] it (fun i h=>IsRangeIter h it (lo+(i:Nat)*1) ((n:Int) - (i:Nat)) 1) where
 mem:=by simp
 obj:=fun i h st b hb=>by
  have e:b=it:=by simpa using hb
  subst e
  exact ⟨_,st,fun v z=>by
   have z':Data.fields _=Data.cell v:=z
   cases z'⟩
 keep:=fun i h h' st k=>k it (by simp) _ st
 item:=by
  intro X hP hw hK hc i pins s σ H E I hf st hg
  subst hP hw hK
  obtain ⟨f0,f1,f2,f3,f4,f5⟩:=hf it (by simp)
  have W:=Walks.range (prog:=X.prog) (w:=X.w) (I.ok.hd hc) it lo 1 n
  refine W.item i s _ _ hg st fun v h' tk hv st' kk=>?_
  obtain ⟨t,rfl⟩:=hv
  have I1:Inv X pins σ H { s with heap:=h',toks:=tk }:=I.turned (fun b o hb e=>kk b o (by simpa using hb) e) f0 f1 f3 f4 f5
  refine ⟨_,rfl,go_of (s:={ s with heap:=h',toks:=tk }) (n:="range_iterator") st' rfl rfl (by decide) ⟨.int (lo+i),H,I1,⟨t,?_⟩,⟨rfl,rfl⟩,st',fun b hb=>(hf b hb).1⟩⟩
  rw [Int.mul_one]
 done:=by
  intro X hP hw hK hc i pins s σ H E I hf st hg
  subst hP hw hK
  obtain ⟨f0,f1,f2,f3,f4,f5⟩:=hf it (by simp)
  exact wpAny_pyNext_range_end (I.ok.hd hc) st (by have:n≤i:=hg;omega) fun h' eb=>⟨rfl,I.turned (t':=s.toks) (fun b o hb e=>eb b o hb e) f0 f1 f3 f4 f5⟩
 self:=fun _ _ _ _ _ st h=>wpAny_pyIter_rangeiter st h
end L2
namespace L2
open PySem PySem.Spec PyProof.Rows
section
variable {X : Cx} {tg : Expr}
inductive iList_I (K:PySem.W.Frag) (R:(It→Hp→Prop)) (x:V) (H1:Hp):Prop
 | mk:∀a,x=.ref a→(∃xs,SqL K H1 a xs)→R (Itl K a) H1→iList_I K R x H1
def iList (K:PySem.W.Frag) (tl:TE):TI:=fun σ H R=>tl σ H fun x H1=>iList_I K R x H1
inductive iTup_I (K:PySem.W.Frag) (R:(It→Hp→Prop)) (x:V) (H1:Hp):Prop
 | mk:∀a,x=.ref a→(∃xs,SqT K H1 a xs)→R (Itt K a) H1→iTup_I K R x H1
def iTup (K:PySem.W.Frag) (tl:TE):TI:=fun σ H R=>tl σ H fun x H1=>iTup_I K R x H1
theorem pi_list {l:Expr} {tl:TE} (hl:PE X l tl):PI X tg l (iList X.K tl):=by
 intro pins s σ H R I h
 refine thn (hl pins s σ H _ I h) fun v s1 ⟨x,H1,I1,r1,q1⟩=>?_
 obtain ⟨a,e,⟨xs,hq⟩,q⟩:=q1
 subst e
 cases r1
 obtain ⟨its,rv,p,hz⟩:=I1.list hq
 refine wpAny_pyIter_list p.isList ?_
 refine ⟨s1.heap.objs.size,[s1.heap.objs.size],_,_,H1,rfl,I1.kept (t':=s1.toks) fun b o e=>Heap.get?_push_of_some _ e,turn_list a _,⟨_,Heap.get?_push_size _ rfl,rfl,rfl⟩,fun b hb=>?_,q⟩
 have e:b=s1.heap.objs.size:=by simpa using hb
 subst e
 exact I1.fpOk (Nat.le_refl _) (I1.hok.fresh (Nat.le_refl _))
theorem pi_tup {l:Expr} {tl:TE} (hl:PE X l tl):PI X tg l (iTup X.K tl):=by
 intro pins s σ H R I h
 refine thn (hl pins s σ H _ I h) fun v s1 ⟨x,H1,I1,r1,q1⟩=>?_
 obtain ⟨a,e,⟨xs,hq⟩,q⟩:=q1
 subst e
 cases r1
 obtain ⟨its,rv,p,hz⟩:=I1.tuple hq
 refine wpAny_pyIter_tuple (show s1.heap.IsTuple a its.toArray from p) ?_
 refine ⟨s1.heap.objs.size,[s1.heap.objs.size],_,_,H1,rfl,I1.kept (t':=s1.toks) fun b o e=>Heap.get?_push_of_some _ e,turn_tuple a _,⟨_,Heap.get?_push_size _ rfl,rfl,rfl⟩,fun b hb=>?_,q⟩
 have e:b=s1.heap.objs.size:=by simpa using hb
 subst e
 exact I1.fpOk (Nat.le_refl _) (I1.hok.fresh (Nat.le_refl _))
theorem range_it {pins:List (Addr×Obj)} {σ:St} {H:Hp} {s:Shared} {R:It→Hp→Prop} {E:Value→Shared→Prop} {lo hi:Int} {t u v:Tok} {tk:Nat} (I:Inv X pins σ H s) (h1 : -(2 ^ 62)≤lo) (h2:lo<2 ^ 62) (h3 : -(2 ^ 62)≤hi) (h4:hi<2 ^ 62)
 (q:R (Itr lo (hi - lo).toNat) H):wpAny (model X.prog X.w) X.A (pyIter (.ref s.heap.objs.size)) (PIE X pins σ tg R) E { s with heap:=s.heap.push { cls:=.type "range",data:=.fields #[.int lo t,.int hi u,.int 1 v] },toks:=tk }:=by
 refine wpAny_pyIter_range (IsRange.new ..) (small_one h1 h2 h3 h4) ?_
 have I1:Inv X pins σ H { s with heap:=s.heap.push { cls:=.type "range",data:=.fields #[.int lo t,.int hi u,.int 1 v] },toks:=tk }:=I.kept fun b o e=>Heap.get?_push_of_some _ e
 refine ⟨(s.heap.push { cls:=.type "range",data:=.fields #[.int lo t,.int hi u,.int 1 v] }).objs.size,[(s.heap.push { cls:=.type "range",data:=.fields #[.int lo t,.int hi u,.int 1 v] }).objs.size],_,_,H,rfl,
  I1.kept (t':=tk) fun b o e=>Heap.get?_push_of_some _ e,turn_range _ lo (hi - lo).toNat,?_,fun b hb=>?_,q⟩
 ·have e1:lo+((0:Nat):Int)*1=lo:=by simp
  have e2:(((hi - lo).toNat:Nat):Int) - ((0:Nat):Int)=Builtin.Range.rangeSize lo hi 1:=by rw [rangeSize_one];split <;> omega
  show IsRangeIter _ _ (lo+((0:Nat):Int)*1) ((((hi - lo).toNat:Nat):Int) - ((0:Nat):Int)) 1
  rw [e1,e2]
  exact Heap.get?_push_size _ rfl
 ·have e:b=(s.heap.push { cls:=.type "range",data:=.fields #[.int lo t,.int hi u,.int 1 v] }).objs.size:=by simpa using hb
  subst e
  exact I1.fpOk (Nat.le_refl _) (I1.hok.fresh (Nat.le_refl _))
inductive iRng1_I (R:(It→Hp→Prop)) (vs:List V) (H1:Hp):Prop
 | mk:∀j:Int,vs=[.int j]→-(2 ^ 62)≤j→j<2 ^ 62→R (Itr 0 j.toNat) H1→iRng1_I R vs H1
def iRng1 (ta:TA):TI:=fun σ H R=>ta σ H fun vs H1=>iRng1_I R vs H1
theorem pi_range1 {a:Expr} {ta:TA} {p pos:Pos} (hg:Gl X "range") (hm:X.mg "range"=none) (ha:PA X [a] ta) (hs:starEach [a] X.env=[(false,eval a X.env)]:=by rfl):PI X tg (.Call (.Name "range" p) [a] [] pos) (iRng1 ta):=by
 intro pins s σ H R I h
 refine Call_ (ld_blt I hg hm boot_range (PyProof.Rows.callWith_type1 (thn (ha pos pins s σ H _ I h) fun us s1 ⟨vs,H1,I1,r1,q1⟩=>?_) hs rfl))
 obtain ⟨j,e,q1,q2,q⟩:=q1
 subst e
 cases r1 with
 | cons r rr =>
   cases rr
   obtain ⟨t,rfl⟩:=r
   exact call_range_1 (range_it I1 (by omega) (by omega) q1 q2 (by simpa using q))
inductive tFor_I (g:TG) (tb:TS) (D:Ends) (σ:St) (J:It) (H1:Hp):Prop
 | mk:∀W:Nat→Nat→St→Hp→Prop,(∃m,W 0 m σ H1)→(∀i m σ H,W i m σ H→(J.stop i H∧D.nx σ H)∨(J.go i H∧∃N:St→Hp→Prop,(∀σ' H',N σ' H'→∃m',m'<m∧W (i+1) m' σ' H')∧∀x H',J.yld i H x H'→g x σ H' fun σ2 H2=>tb { D with nx:=N,ct:=N,bk:=D.nx } σ2 H2))→tFor_I g tb D σ J H1
def tFor (wi:TI) (g:TG) (tb:TS):TS:=fun D σ H=>wi σ H fun J H1=>tFor_I g tb D σ J H1
def pinsAt (fp:List Addr) (h:Heap):List (Addr×Obj):=fp.filterMap fun b=>(h.get? b).map fun o=>(b,o)
theorem mem_pinsAt {fp:List Addr} {h:Heap} {b:Addr} {o:Obj} (hb:b∈fp) (e:h.get? b=some o):(b,o)∈pinsAt fp h:=List.mem_filterMap.mpr ⟨b,hb,by rw [e];rfl⟩
theorem of_pinsAt {fp:List Addr} {h:Heap} {p:Addr×Obj} (hp:p∈pinsAt fp h):p.1∈fp∧h.get? p.1=some p.2:=by
 obtain ⟨b,hb,e⟩:=List.mem_filterMap.mp hp
 cases q:h.get? b with
 | none=>rw [q] at e;cases e
 | some o =>
   rw [q] at e
   have e':(b,o)=p:=Option.some.inj e
   subst e'
   exact ⟨hb,q⟩
theorem Inv.pinned {pins:List (Addr×Obj)} {σ:St} {H:Hp} {s:Shared} {fp:List Addr} (I:Inv X pins σ H s) (hf:∀b∈fp,FpOk X pins H b) (ho:∀b∈fp,∃o,s.heap.get? b=some o∧∀v,o.data≠.cell v):Inv X (pins++pinsAt fp s.heap) σ H s :=
 I.pins_of fun p hp=>(List.mem_append.mp hp).elim (fun z=>I.pin p (List.mem_append_right _ z)) fun z=>by
  obtain ⟨hb,e⟩:=of_pinsAt z
  obtain ⟨f0,f1,f2,_⟩:=hf p.1 hb
  obtain ⟨o,e',d⟩:=ho p.1 hb
  rw [e] at e';cases e'
  exact ⟨e,f0,f1,f2,d⟩
theorem Inv.unpinned {pins pl:List (Addr×Obj)} {σ:St} {H:Hp} {s:Shared} (I:Inv X (pins++pl) σ H s):Inv X pins σ H s:=I.pins_of fun p hp=>I.pin p (List.mem_append_right _ (List.mem_append_left _ hp))
theorem ps_for {iter:Expr} {body:List Stmt} {wi:TI} {g:TG} {tb:TS} {pos:Pos} (hp:PassesOwn (model X.prog X.w) X.A X.env X.xe) (hc:X.calm=true) (hi:PI X tg iter wi) (hg:PG X tg g) (hb:PSs X body tb)
 (hs:∀x,foldedSetIterable iter X.env x=pure x:=by intro _;rfl):PS X (.For tg iter body [] pos) (tFor wi g tb):=by
 intro pins s σ H D I h
 refine wpAny_For (thn (hi pins s σ H _ I h) fun v s1 h1=>thn h1 fun itv s2 h2=>?_) hs
 obtain ⟨it,fp,tn,J,H2,e,I2,T,st2,f2,W,⟨m0,w0⟩,turn⟩:=h2
 subst e
 have stat:∀{H':Hp},(∀b∈fp,H' b=none)→∀b∈fp,FpOk X pins H' b:=fun hn b hb=>⟨hn b hb,(f2 b hb).2⟩
 refine codeAny_forLoop_any (fun n s'=>∃i σ' H',Inv X pins σ' H' s'∧tn i s'.heap∧(∀b∈fp,H' b=none)∧W i n σ' H') ?_ m0 ⟨0,σ,H2,I2,st2,fun b hb=>(f2 b hb).1,w0⟩
 rintro n s3 ⟨i,σ3,H3,I3,st3,fr3,w3⟩
 rcases turn i n σ3 H3 w3 with ⟨stop,qn⟩ | ⟨go,N,hN,step⟩
 ·refine wpAny_passesOwn hp (thn (T.done X rfl rfl rfl hc i pins s3 σ3 H3 X.xe I3 (stat fr3) st3 stop) fun r s4 ⟨hr,I4⟩=>?_)
  subst hr
  exact wpAny_execs_nil ⟨σ3,H3,I4,qn⟩
 ·refine wpAny_passesOwn hp (thn (T.item X rfl rfl rfl hc i pins s3 σ3 H3 X.xe I3 (stat fr3) st3 go) fun r s4 ⟨u,hr,h4⟩=>?_)
  subst hr
  refine wpAny_passesOwn hp (thn h4 fun _ s5 ⟨x,H5,I5,r5,y5,st5,fr5⟩=>?_)
  have I5':=I5.pinned (stat fr5) (T.obj _ _ st5)
  refine wpAny_passesOwn hp (thn (hg _ s5 σ3 H5 x u _ I5' r5 (step x H5 y5)) fun _ s6 ⟨σ6,H6,I6,q6⟩=>?_)
  refine wpAny_passesOwn hp (thn (hb _ s6 σ6 H6 _ I6 q6) fun f s7 q7=>?_)
  have again:∀{σ7:St} {H7:Hp},Inv X (pins++pinsAt fp s5.heap) σ7 H7 s7→N σ7 H7→∃m,m<n∧∃i σ' H',Inv X pins σ' H' s7∧tn i s7.heap∧(∀b∈fp,H' b=none)∧W i m σ' H':=fun {σ7 H7} I7 n7=>by
   obtain ⟨m',hm,w7⟩:=hN σ7 H7 n7
   refine ⟨m',hm,i+1,σ7,H7,I7.unpinned,T.keep _ _ _ st5 fun b hb o e=>(I7.pin (b,o) (List.mem_append_right _ (List.mem_append_right _ (mem_pinsAt hb e)))).1,fun b hb=>?_,w7⟩
   obtain ⟨o,e,d⟩:=T.obj _ _ st5 b hb
   exact (I7.pin (b,o) (List.mem_append_right _ (List.mem_append_right _ (mem_pinsAt hb e)))).2.1
  cases f with
  | next=>obtain ⟨σ7,H7,I7,n7⟩:=q7;exact again I7 n7
  | cont=>obtain ⟨σ7,H7,I7,n7⟩:=q7;exact again I7 n7
  | brk=>obtain ⟨σ7,H7,I7,q7⟩:=q7;exact ⟨σ7,H7,I7.unpinned,q7⟩
  | ret v=>obtain ⟨x7,σ7,H7,I7,r7,q7⟩:=q7;exact ⟨x7,σ7,H7,I7.unpinned,r7,q7⟩
end
theorem for_list {K:PySem.W.Frag} {a:Addr} {xs:List V} {g:TG} {tb:TS} {D:Ends} {σ:St} {H:Hp} (Pv:Nat→St→Hp→Prop) (h0:Pv 0 σ H) (hl:∀i σ H,i≤xs.length→Pv i σ H→SqL K H a xs)
 (hs:∀i x σ H,xs[i]?=some x→Pv i σ H→g x σ H fun σ2 H2=>tb { D with nx:=Pv (i+1),ct:=Pv (i+1),bk:=D.nx } σ2 H2) (hd:∀σ H,Pv xs.length σ H→D.nx σ H) :
 tFor_I g tb D σ (Itl K a) H:=by
 refine ⟨fun i m σ H=>m=xs.length - i∧i≤xs.length∧Pv i σ H,⟨xs.length,by simp,Nat.zero_le _,h0⟩,?_⟩
 rintro i m σ H ⟨rfl,hi,p⟩
 have q:=hl i σ H hi p
 by_cases hlt:i<xs.length
 ·refine .inr ⟨⟨xs,xs[i],q,by simp [hlt]⟩,Pv (i+1),fun σ' H' p'=>⟨xs.length - (i+1),by omega,rfl,hlt,p'⟩,fun x H' y=>?_⟩
  obtain ⟨e,y⟩:=y
  subst e
  exact hs i x σ _ (y xs q) p
 ·have e:i=xs.length:=by omega
  subst e
  exact .inl ⟨⟨xs,q,Nat.le_refl _⟩,hd σ H p⟩
theorem for_tup {K:PySem.W.Frag} {a:Addr} {xs:List V} {g:TG} {tb:TS} {D:Ends} {σ:St} {H:Hp} (Pv:Nat→St→Hp→Prop) (h0:Pv 0 σ H) (hl:∀i σ H,i≤xs.length→Pv i σ H→SqT K H a xs)
 (hs:∀i x σ H,xs[i]?=some x→Pv i σ H→g x σ H fun σ2 H2=>tb { D with nx:=Pv (i+1),ct:=Pv (i+1),bk:=D.nx } σ2 H2) (hd:∀σ H,Pv xs.length σ H→D.nx σ H) :
 tFor_I g tb D σ (Itt K a) H:=by
 refine ⟨fun i m σ H=>m=xs.length - i∧i≤xs.length∧Pv i σ H,⟨xs.length,by simp,Nat.zero_le _,h0⟩,?_⟩
 rintro i m σ H ⟨rfl,hi,p⟩
 have q:=hl i σ H hi p
 by_cases hlt:i<xs.length
 ·refine .inr ⟨⟨xs,xs[i],q,by simp [hlt]⟩,Pv (i+1),fun σ' H' p'=>⟨xs.length - (i+1),by omega,rfl,hlt,p'⟩,fun x H' y=>?_⟩
  obtain ⟨e,y⟩:=y
  subst e
  exact hs i x σ _ (y xs q) p
 ·have e:i=xs.length:=by omega
  subst e
  exact .inl ⟨⟨xs,q,Nat.le_refl _⟩,hd σ H p⟩
theorem for_range {lo:Int} {n:Nat} {g:TG} {tb:TS} {D:Ends} {σ:St} {H:Hp} (Pv:Nat→St→Hp→Prop) (h0:Pv 0 σ H)
 (hs:∀i σ H,i<n→Pv i σ H→g (.int (lo+i)) σ H fun σ2 H2=>tb { D with nx:=Pv (i+1),ct:=Pv (i+1),bk:=D.nx } σ2 H2) (hd:∀σ H,Pv n σ H→D.nx σ H) :
 tFor_I g tb D σ (Itr lo n) H:=by
 refine ⟨fun i m σ H=>m=n - i∧i≤n∧Pv i σ H,⟨n,by simp,Nat.zero_le _,h0⟩,?_⟩
 rintro i m σ H ⟨rfl,hi,p⟩
 by_cases hlt:i<n
 ·refine .inr ⟨hlt,Pv (i+1),fun σ' H' p'=>⟨n - (i+1),by omega,rfl,hlt,p'⟩,fun x H' y=>?_⟩
  obtain ⟨e,y⟩:=y
  subst e y
  exact hs i σ _ hlt p
 ·have e:i=n:=by omega
  subst e
  exact .inl ⟨Nat.le_refl _,hd σ H p⟩
theorem while_by {c:TT} {tb:TS} {D:Ends} {σ:St} {H:Hp} (Pv:St→Hp→Prop) (μ:St→Hp→Nat) (h0:Pv σ H)
 (hs:∀σ H,Pv σ H→c σ H fun b H1=>if b=true then tb { D with nx:=fun σ' H'=>Pv σ' H'∧μ σ' H'<μ σ H,ct:=fun σ' H'=>Pv σ' H'∧μ σ' H'<μ σ H,bk:=D.nx } σ H1 else D.nx σ H1)
 (mono:∀σ H Q Q',(∀b H1,Q b H1→Q' b H1)→c σ H Q→c σ H Q'):tWhile c tb D σ H:=by
 refine ⟨fun m σ H=>m=μ σ H∧Pv σ H,⟨_,rfl,h0⟩,?_⟩
 rintro m σ H ⟨rfl,p⟩
 refine mono σ H _ _ (fun b H1 q=>?_) (hs σ H p)
 cases b with
 | true=>exact ⟨_,fun σ' H' ⟨p',l⟩=>⟨_,l,rfl,p'⟩,q⟩
 | false=>exact q
end L2
namespace L2
open PySem PySem.Spec PyProof.Rows
abbrev R2:=V→V→Hp→VK→Prop
def OpR (X:Cx) (f:Value→Value→Sem Value) (r:R2):Prop :=
 ∀(pins:List (Addr×Obj)) (s:Shared) (σ:St) (H:Hp) (x y:V) (v u:Value) (Q:VK),Inv X pins σ H s→RelV x v→RelV y u→r x y H Q →
  wpAny (model X.prog X.w) X.A (f v u) (EP X pins σ Q) X.xe s
def UnR (X:Cx) (f:Value→Sem Value) (r:V→Hp→VK→Prop):Prop :=
 ∀(pins:List (Addr×Obj)) (s:Shared) (σ:St) (H:Hp) (x:V) (v:Value) (Q:VK),Inv X pins σ H s→RelV x v→r x H Q →
  wpAny (model X.prog X.w) X.A (f v) (EP X pins σ Q) X.xe s
def CallR (X:Cx) (f:Value) (r:List V→Hp→VK→Prop):Prop :=
 ∀(pins:List (Addr×Obj)) (s:Shared) (σ:St) (H:Hp) (xs:List V) (us:List Value) (Q:VK),Inv X pins σ H s→Vals xs us→r xs H Q →
  wpAny (model X.prog X.w) X.A (call f us) (EP X pins σ Q) X.xe s
def tOp (r:R2) (ta tb:TE):TE:=fun σ H Q=>ta σ H fun x H1=>tb σ H1 fun y H2=>r x y H2 Q
def tUn (r:V→Hp→VK→Prop) (ta:TE):TE:=fun σ H Q=>ta σ H fun x H1=>r x H1 Q
inductive rI_I (C:Int→Int→Prop) (g:Int→Int→V) (x:V) (y:V) (H:Hp) (Q:VK):Prop
 | mk:∀i j,x=.int i→y=.int j→C i j→Q (g i j) H→rI_I C g x y H Q
def rI (C:Int→Int→Prop) (g:Int→Int→V):R2:=fun x y H Q=>rI_I C g x y H Q
inductive rI0_I (g:Int→Int→V) (x:V) (y:V) (H:Hp) (Q:VK):Prop
 | mk:∀i j,x=.int i→y=.int j→Q (g i j) H→rI0_I g x y H Q
def rI0 (g:Int→Int→V):R2:=fun x y H Q=>rI0_I g x y H Q
inductive rU_I (g:Int→V) (x:V) (H:Hp) (Q:VK):Prop
 | mk:∀i,x=.int i→Q (g i) H→rU_I g x H Q
def rU (g:Int→V):V→Hp→VK→Prop:=fun x H Q=>rU_I g x H Q
section
variable {X : Cx} {a b c : Expr} {ta tb tc : TE} {pos : Pos}
theorem binT (ha:PE X a ta) (hb:PE X b tb) {pins:List (Addr×Obj)} {s:Shared} {σ:St} {H:Hp} {R:V→V→Hp→Prop} (I:Inv X pins σ H s)
 (h:ta σ H fun x H1=>tb σ H1 fun y H2=>R x y H2) {Q:Value→Shared→Prop} {f:Value→Value→Sem Value}
 (hf:∀v u s2 x y H2,Inv X pins σ H2 s2→RelV x v→RelV y u→R x y H2→wpAny (model X.prog X.w) X.A (f v u) Q X.xe s2) :
 wpAny (model X.prog X.w) X.A (eval a X.env) (fun v s₁=>wpAny (model X.prog X.w) X.A (eval b X.env) (fun u s₂=>wpAny (model X.prog X.w) X.A (f v u) Q X.xe s₂) X.xe s₁) X.xe s:=by
 refine thn (ha pins s σ H _ I h) fun v s1 ⟨x,H1,I1,r1,q1⟩=>?_
 refine thn (hb pins s1 σ H1 _ I1 q1) fun u s2 ⟨y,H2,I2,r2,q2⟩=>?_
 exact hf v u s2 x y H2 I2 r1 r2 q2
theorem pe_op {op:Operator} {r:R2} (ho:OpR X (binaryOp op) r) (ha:PE X a ta) (hb:PE X b tb):PE X (.BinOp a op b pos) (tOp r ta tb):=by
 intro pins s σ H Q I h
 exact wpAny_BinOp (binT ha hb I h fun v u s2 x y H2 I2 rx ry q=>ho pins s2 σ H2 x y v u Q I2 rx ry q)
theorem pe_un {op:UnaryOp} {r:V→Hp→VK→Prop} (ho:UnR X (unaryOp op) r) (ha:PE X a ta):PE X (.UnaryOp op a pos) (tUn r ta):=by
 intro pins s σ H Q I h
 exact UnaryOp_ (thn (ha pins s σ H _ I h) fun v s1 ⟨x,H1,I1,r1,q1⟩=>ho pins s1 σ H1 x v Q I1 r1 q1)
theorem opI {f:Value→Value→Sem Value} {C:Int→Int→Prop} {g:Int→Int→Int}
 (rule:∀(i j:Int) (t u:Tok) (s:Shared) (Q:Value→Shared→Prop) (E:Value→Shared→Prop),C i j→Q (.int (g i j) s.toks) { s with toks:=s.toks+1 }→wpAny (model X.prog X.w) X.A (f (.int i t) (.int j u)) Q E s) :
 OpR X f (rI C fun i j=>.int (g i j)):=by
 intro pins s σ H x y v u Q I rx ry h
 obtain ⟨i,j,rfl,rfl,hc,q⟩:=h
 obtain ⟨t,rfl⟩:=rx
 obtain ⟨t',rfl⟩:=ry
 exact rule i j t t' s _ _ hc ⟨.int (g i j),H,I.tok _,⟨_,rfl⟩,q⟩
theorem opI0 {f:Value→Value→Sem Value} {g:Int→Int→Int}
 (rule:∀(i j:Int) (t u:Tok) (s:Shared) (Q:Value→Shared→Prop) (E:Value→Shared→Prop),Q (.int (g i j) s.toks) { s with toks:=s.toks+1 }→wpAny (model X.prog X.w) X.A (f (.int i t) (.int j u)) Q E s) :
 OpR X f (rI0 fun i j=>.int (g i j)):=by
 intro pins s σ H x y v u Q I rx ry h
 obtain ⟨i,j,rfl,rfl,q⟩:=h
 obtain ⟨t,rfl⟩:=rx
 obtain ⟨t',rfl⟩:=ry
 exact rule i j t t' s _ _ ⟨.int (g i j),H,I.tok _,⟨_,rfl⟩,q⟩
theorem opB0 {f:Value→Value→Sem Value} {g:Int→Int→Bool}
 (rule:∀(i j:Int) (t u:Tok) (s:Shared) (Q:Value→Shared→Prop) (E:Value→Shared→Prop),Q (.bool (g i j)) s→wpAny (model X.prog X.w) X.A (f (.int i t) (.int j u)) Q E s) :
 OpR X f (rI0 fun i j=>.bl (g i j)):=by
 intro pins s σ H x y v u Q I rx ry h
 obtain ⟨i,j,rfl,rfl,q⟩:=h
 obtain ⟨t,rfl⟩:=rx
 obtain ⟨t',rfl⟩:=ry
 exact rule i j t t' s _ _ ⟨.bl (g i j),H,I,rfl,q⟩
def CDiv (i j:Int):Prop:=0<j∧j<1073741824
def CMul (i j:Int):Prop:=(-(2 ^ 64)<i∧i<2 ^ 64)∨(-(2 ^ 64)<j∧j<2 ^ 64)
theorem CMul.ok {i j:Int} (h:CMul i j):IntMulOk i j:=by
 rcases h with ⟨h1,h2⟩ | ⟨h1,h2⟩
 ·exact .of_left (intBits_le_64 h1 h2)
 ·exact .of_right (intBits_le_64 h1 h2)
theorem op_add:OpR X (binaryOp .Add) (rI0 fun i j=>.int (i+j)):=opI0 fun _ _ _ _ _ _ _ q=>add_int q
theorem op_sub:OpR X (binaryOp .Sub) (rI0 fun i j=>.int (i - j)):=opI0 fun _ _ _ _ _ _ _ q=>sub_int q
theorem op_mul:OpR X (binaryOp .Mult) (rI CMul fun i j=>.int (i*j)):=opI fun _ _ _ _ _ _ _ hc q=>mul_int q hc.ok
theorem op_fdiv:OpR X (binaryOp .FloorDiv) (rI CDiv fun i j=>.int (i / j)):=opI fun i j _ _ _ _ _ hc q=>by
 have h1:(0:Int)<j:=hc.1
 have h2:j<1073741824:=hc.2
 exact floordiv_int (by omega) (by rw [Int.fdiv_eq_ediv_of_nonneg i (by omega)];exact q) (.inl (PyProof.noPylong_small (by omega)))
theorem op_mod:OpR X (binaryOp .Mod) (rI (fun _ j=>0<j) fun i j=>.int (i % j)):=opI fun i j _ _ _ _ _ hc q=>by
 have h1:(0:Int)<j:=hc
 exact mod_int' (by omega) (by rw [Int.fmod_eq_emod_of_nonneg i (by omega)];exact q)
theorem unI {f:Value→Sem Value} {g:Int→Int}
 (rule:∀(i:Int) (t:Tok) (s:Shared) (Q:Value→Shared→Prop) (E:Value→Shared→Prop),Q (.int (g i) s.toks) { s with toks:=s.toks+1 }→wpAny (model X.prog X.w) X.A (f (.int i t)) Q E s) :
 UnR X f (rU fun i=>.int (g i)):=by
 intro pins s σ H x v Q I rx h
 obtain ⟨i,rfl,q⟩:=h
 obtain ⟨t,rfl⟩:=rx
 exact rule i t s _ _ ⟨.int (g i),H,I.tok _,⟨_,rfl⟩,q⟩
theorem un_neg:UnR X (unaryOp .USub) (rU fun i=>.int (-i)):=unI fun _ _ _ _ _ q=>neg_int q
end
def scal:V→V→Bool
 | .non,.non=>true | .non,.int _=>true | .int _,.non=>true | .non,.bl _=>true | .bl _,.non=>true | .non,.str _=>true | .str _,.non=>true
 | .int _,.int _=>true | .bl _,.bl _=>true | .str _,.str _=>true | .byt _,.byt _=>true
 | .int _,.str _=>true | .str _,.int _=>true | .bl _,.str _=>true | .str _,.bl _=>true
 | _,_=>false
def rEq:R2:=fun x y H Q=>scal x y=true∧Q (.bl (decide (x=y))) H
def rNe:R2:=fun x y H Q=>scal x y=true∧Q (.bl (!decide (x=y))) H
theorem dec_int {i j:Int}:decide (V.int i=V.int j)=(i == j):=by
 rw [Bool.eq_iff_iff]
 simp
theorem dec_bl {i j:Bool}:decide (V.bl i=V.bl j)=(i == j):=by
 rw [Bool.eq_iff_iff]
 simp
theorem dec_str {i j:Str}:decide (V.str i=V.str j)=(i == j):=by
 rw [Bool.eq_iff_iff]
 simp
theorem dec_byt {i j:Array UInt8}:decide (V.byt i=V.byt j)=(i.toList == j.toList):=by
 rw [Bool.eq_iff_iff]
 cases i
 cases j
 simp
section
variable {X : Cx} {a b c : Expr} {ta tb tc : TE} {pos : Pos}
theorem fin_bl {pins:List (Addr×Obj)} {σ:St} {H:Hp} {s:Shared} {Q:VK} {k k':Bool} (I:Inv X pins σ H s) (q:Q (.bl k) H) (e:k=k'):EP X pins σ Q (.bool k') s:=by
 subst e
 exact ⟨.bl k,H,I,rfl,q⟩
theorem op_eq:OpR X (compareOp .Eq) rEq:=by
 intro pins s σ H x y v u Q I rx ry h
 obtain ⟨hs,q⟩:=h
 cases x with
 | non =>
   cases rx
   cases y with
   | non=>cases ry;exact PySem.EqNone.eq_none_none (fin_bl I q (by simp))
   | bl j=>cases ry;exact PySem.EqNone.eq_none_bool (fin_bl I q (by simp))
   | int j=>obtain ⟨t',rfl⟩:=ry;exact PySem.EqNone.eq_none_int (fin_bl I q (by simp))
   | str j=>obtain ⟨t',rfl⟩:=ry;exact PySem.EqNone.eq_none_str (fin_bl I q (by simp))
   | _=>exact absurd (show false=true from hs) Bool.false_ne_true
 | bl i =>
   cases rx
   cases y with
   | non=>cases ry;exact PySem.EqNone.eq_bool_none (fin_bl I q (by simp))
   | bl j=>cases ry;exact eq_bool (fin_bl I q dec_bl)
   | str j=>obtain ⟨t',rfl⟩:=ry;exact PySem.EqMixed.eq_bool_str (fin_bl I q (by simp))
   | _=>exact absurd (show false=true from hs) Bool.false_ne_true
 | int i =>
   obtain ⟨t,rfl⟩:=rx
   cases y with
   | non=>cases ry;exact PySem.EqNone.eq_int_none (fin_bl I q (by simp))
   | int j=>obtain ⟨t',rfl⟩:=ry;exact eq_int (fin_bl I q dec_int)
   | str j=>obtain ⟨t',rfl⟩:=ry;exact PySem.EqMixed.eq_int_str (fin_bl I q (by simp))
   | _=>exact absurd (show false=true from hs) Bool.false_ne_true
 | str i =>
   obtain ⟨t,rfl⟩:=rx
   cases y with
   | non=>cases ry;exact PySem.EqNone.eq_str_none (fin_bl I q (by simp))
   | bl j=>cases ry;exact PySem.EqMixed.eq_str_bool (fin_bl I q (by simp))
   | int j=>obtain ⟨t',rfl⟩:=ry;exact PySem.EqMixed.eq_str_int (fin_bl I q (by simp))
   | str j=>obtain ⟨t',rfl⟩:=ry;exact eq_str (fin_bl I q dec_str)
   | _=>exact absurd (show false=true from hs) Bool.false_ne_true
 | byt i =>
   obtain ⟨t,rfl⟩:=rx
   cases y with
   | byt j=>obtain ⟨t',rfl⟩:=ry;exact PySem.W.eq_bytes (fin_bl I q dec_byt)
   | _=>exact absurd (show false=true from hs) Bool.false_ne_true
 | _=>cases y <;> exact absurd (show false=true from hs) Bool.false_ne_true
theorem op_ne:OpR X (compareOp .NotEq) rNe:=by
 intro pins s σ H x y v u Q I rx ry h
 obtain ⟨hs,q⟩:=h
 cases x with
 | non =>
   cases rx
   cases y with
   | non=>cases ry;exact PySem.EqNone.ne_none_none (fin_bl I q (by simp))
   | bl j=>cases ry;exact PySem.EqNone.ne_none_bool (fin_bl I q (by simp))
   | int j=>obtain ⟨t',rfl⟩:=ry;exact PySem.EqNone.ne_none_int (fin_bl I q (by simp))
   | str j=>obtain ⟨t',rfl⟩:=ry;exact PySem.EqNone.ne_none_str (fin_bl I q (by simp))
   | _=>exact absurd (show false=true from hs) Bool.false_ne_true
 | bl i =>
   cases rx
   cases y with
   | non=>cases ry;exact PySem.EqNone.ne_bool_none (fin_bl I q (by simp))
   | bl j=>cases ry;exact ne_bool (fin_bl I q (congrArg not dec_bl))
   | str j=>obtain ⟨t',rfl⟩:=ry;exact PySem.EqMixed.ne_bool_str (fin_bl I q (by simp))
   | _=>exact absurd (show false=true from hs) Bool.false_ne_true
 | int i =>
   obtain ⟨t,rfl⟩:=rx
   cases y with
   | non=>cases ry;exact PySem.EqNone.ne_int_none (fin_bl I q (by simp))
   | int j=>obtain ⟨t',rfl⟩:=ry;exact ne_int (fin_bl I q (congrArg not dec_int))
   | str j=>obtain ⟨t',rfl⟩:=ry;exact PySem.EqMixed.ne_int_str (fin_bl I q (by simp))
   | _=>exact absurd (show false=true from hs) Bool.false_ne_true
 | str i =>
   obtain ⟨t,rfl⟩:=rx
   cases y with
   | non=>cases ry;exact PySem.EqNone.ne_str_none (fin_bl I q (by simp))
   | bl j=>cases ry;exact PySem.EqMixed.ne_str_bool (fin_bl I q (by simp))
   | int j=>obtain ⟨t',rfl⟩:=ry;exact PySem.EqMixed.ne_str_int (fin_bl I q (by simp))
   | str j=>obtain ⟨t',rfl⟩:=ry;exact ne_str (fin_bl I q (congrArg not dec_str))
   | _=>exact absurd (show false=true from hs) Bool.false_ne_true
 | byt i =>
   obtain ⟨t,rfl⟩:=rx
   cases y with
   | byt j=>obtain ⟨t',rfl⟩:=ry;exact PySem.W.ne_bytes (fin_bl I q (congrArg not dec_byt))
   | _=>exact absurd (show false=true from hs) Bool.false_ne_true
 | _=>cases y <;> exact absurd (show false=true from hs) Bool.false_ne_true
theorem op_lt:OpR X (compareOp .Lt) (rI0 fun i j=>.bl (decide (i<j))):=opB0 fun _ _ _ _ _ _ _ q=>lt_int q
theorem op_le:OpR X (compareOp .LtE) (rI0 fun i j=>.bl (decide (i≤j))):=opB0 fun _ _ _ _ _ _ _ q=>le_int q
theorem op_gt:OpR X (compareOp .Gt) (rI0 fun i j=>.bl (decide (j<i))):=opB0 fun _ _ _ _ _ _ _ q=>gt_int q
theorem op_in_str:OpR X (compareOp .In) (fun x y H Q=>∃i j,x=.str i∧y=.str j∧Q (.bl (!(Builtin.Str.occurrences j i 0 j.length 1).isEmpty)) H):=by
 intro pins s σ H x y v u Q I rx ry h
 obtain ⟨i,j,rfl,rfl,q⟩:=h
 obtain ⟨t,rfl⟩:=rx
 obtain ⟨t',rfl⟩:=ry
 exact in_str (fin_bl I q rfl)
theorem nomark (b:Expr) {op:CmpOp} (h:op≠.In:=by decide) (h2:op≠.NotIn:=by decide):behindInMarks op b=false:=by
 have e1:(op == CmpOp.In)=false:=by cases op <;> first | rfl | exact absurd rfl h
 have e2:(op == CmpOp.NotIn)=false:=by cases op <;> first | rfl | exact absurd rfl h2
 cases b <;> simp [behindInMarks,e1,e2]
theorem pe_cmpR {op:CmpOp} {r:R2} (ho:OpR X (compareOp op) r) (ha:PE X a ta) (hb:PE X b tb) (hm:behindInMarks op b=false):PE X (.Compare a [op] [b] pos) (tOp r ta tb):=by
 intro pins s σ H Q I h
 exact wpAny_Compare1 (binT ha hb I h fun v u s2 x y H2 I2 rx ry q=>ho pins s2 σ H2 x y v u Q I2 rx ry q) hm
inductive tTest_I (Q:(Bool→Hp→Prop)) (x:V) (H':Hp):Prop
 | mk:∀k,x=.bl k→Q k H'→tTest_I Q x H'
def tTest (t:TE):TT:=fun σ H Q=>t σ H fun x H'=>tTest_I Q x H'
theorem pt_cmpR {op:CmpOp} {r:R2} (ho:OpR X (compareOp op) r) (ha:PE X a ta) (hb:PE X b tb) (hm:behindInMarks op b=false):PT X (.Compare a [op] [b] pos) (tTest (tOp r ta tb)):=by
 intro pins s σ H Q I h
 refine wpAny_isTrue_Compare1 (thn (ha pins s σ H _ I h) fun v s1 ⟨x,H1,I1,r1,q1⟩=>thn (hb pins s1 σ H1 _ I1 q1) fun u s2 ⟨y,H2,I2,r2,q2⟩ =>
  thn (ho pins s2 σ H2 x y v u _ I2 r1 r2 q2) fun c s3 ⟨z,H3,I3,r3,k,e,q3⟩=>?_) hm
 subst e
 cases r3
 exact wpAny_truthy_bool ⟨H3,I3,q3⟩
def tChain (r r':R2) (ta tb tc:TE):TE:=fun σ H Q=>ta σ H fun x H1=>tb σ H1 fun y H2=>r x y H2 fun z H3=>∃k,z=.bl k ∧
 (if k=true then tc σ H3 fun w' H4=>r' y w' H4 Q else Q (.bl false) H3)
theorem pe_chain {op op':CmpOp} {r r':R2} (ho:OpR X (compareOp op) r) (ho':OpR X (compareOp op') r') (ha:PE X a ta) (hb:PE X b tb) (hc:PE X c tc)
 (hm:lastMarks [op,op'] [b,c]=false:=by with_unfolding_all rfl):PE X (.Compare a [op,op'] [b,c] pos) (tChain r r' ta tb tc):=by
 intro pins s σ H Q I h
 refine Compare_chain (thn (ha pins s σ H _ I h) fun v s1 ⟨x,H1,I1,r1,q1⟩=>chain_link (thn (hb pins s1 σ H1 _ I1 q1) fun u s2 ⟨y,H2,I2,r2,q2⟩ =>
  thn (ho pins s2 σ H2 x y v u _ I2 r1 r2 q2) fun d s3 ⟨z,H3,I3,r3,k,e,q3⟩=>?_)) hm
 subst e
 cases r3
 refine wpAny_truthy_bool ?_
 cases k with
 | false=>exact ite_ff ⟨.bl false,H3,I3,rfl,q3⟩
 | true=>exact ite_tt (chain_last (thn (hc pins s3 σ H3 _ I3 q3) fun w' s4 ⟨z',H4,I4,r4,q4⟩=>ho' pins s4 σ H4 y z' u w' Q I4 r2 r4 q4))
theorem pt_chain {op op':CmpOp} {r r':R2} (ho:OpR X (compareOp op) r) (ho':OpR X (compareOp op') r') (ha:PE X a ta) (hb:PE X b tb) (hc:PE X c tc)
 (hm:lastMarks [op,op'] [b,c]=false:=by with_unfolding_all rfl):PT X (.Compare a [op,op'] [b,c] pos) (tTest (tChain r r' ta tb tc)):=by
 intro pins s σ H Q I h
 refine isTrue_chain (thn (ha pins s σ H _ I h) fun v s1 ⟨x,H1,I1,r1,q1⟩=>test_link (thn (hb pins s1 σ H1 _ I1 q1) fun u s2 ⟨y,H2,I2,r2,q2⟩ =>
  thn (ho pins s2 σ H2 x y v u _ I2 r1 r2 q2) fun d s3 ⟨z,H3,I3,r3,k,e,q3⟩=>?_)) hm
 subst e
 cases r3
 refine wpAny_truthy_bool ?_
 cases k with
 | false =>
   obtain ⟨k',e',q'⟩:=q3
   cases e'
   exact ite_ff ⟨H3,I3,q'⟩
 | true =>
   refine ite_tt (test_last (thn (hc pins s3 σ H3 _ I3 q3) fun w' s4 ⟨z',H4,I4,r4,q4⟩=>thn (ho' pins s4 σ H4 y z' u w' _ I4 r2 r4 q4) fun d' s5 ⟨z2,H5,I5,r5,k2,e2,q5⟩=>?_))
   subst e2
   cases r5
   exact wpAny_truthy_bool ⟨H5,I5,q5⟩
theorem line63:(sizeLine:Nat)<2 ^ 63:=by rw [sizeLine_eq];decide
theorem op_add_str:OpR X (binaryOp .Add) (fun x y H Q=>∃i j,x=.str i∧y=.str j∧i.length+j.length≤sizeLine∧Q (.str (i++j)) H):=by
 intro pins s σ H x y v u Q I rx ry h
 obtain ⟨i,j,rfl,rfl,hz,q⟩:=h
 obtain ⟨t,rfl⟩:=rx
 obtain ⟨t',rfl⟩:=ry
 exact add_str (fun t' tk=>⟨.str (i++j),H,I.tok _,⟨_,rfl⟩,q⟩) hz
theorem vals1 {x:V} {us:List Value} (r:Vals [x] us):∃u,us=[u]∧RelV x u:=by
 cases r with
 | cons r1 r2=>cases r2;exact ⟨_,rfl,r1⟩
theorem vals2 {x y:V} {us:List Value} (r:Vals [x,y] us):∃u w',us=[u,w']∧RelV x u∧RelV y w':=by
 cases r with
 | cons r1 r2 =>
   cases r2 with
   | cons r3 r4=>cases r4;exact ⟨_,_,rfl,r1,r3⟩
theorem call_max2 (hc:X.calm=true):CallR X (.builtin "max") (fun xs H Q=>∃i j,xs=[.int i,.int j]∧Q (.int (if j > i then j else i)) H):=by
 intro pins s σ H xs us Q I r h
 obtain ⟨i,j,rfl,q⟩:=h
 obtain ⟨u,w',rfl,⟨t,rfl⟩,⟨t',rfl⟩⟩:=vals2 r
 refine max_two_ints (I.ok.hd hc) fun h' tk k=>⟨_,H,I.kept k,?_,q⟩
 by_cases hj:j > i
 ·rw [if_pos hj,if_pos hj];exact ⟨_,rfl⟩
 ·rw [if_neg hj,if_neg hj];exact ⟨_,rfl⟩
theorem call_int1:CallR X (.type "int") (fun xs H Q=>(∃i,xs=[.int i]∧Q (.int i) H)∨∃k,xs=[.bl k]∧Q (.int (if k then 1 else 0)) H):=by
 intro pins s σ H xs us Q I r h
 rcases h with ⟨i,rfl,q⟩ | ⟨k,rfl,q⟩
 ·obtain ⟨u,rfl,t,rfl⟩:=vals1 r
  exact call_int_int ⟨.int i,H,I,⟨_,rfl⟩,q⟩
 ·obtain ⟨u,rfl,r1⟩:=vals1 r
  cases r1
  exact call_int_bool ⟨.int (if k then 1 else 0),H,I.tok _,⟨_,rfl⟩,q⟩
theorem call_str_int:CallR X (.type "str") (fun xs H Q=>∃i,xs=[.int i]∧i.natAbs.log2<1920∧Q (.str (toString i)) H):=by
 intro pins s σ H xs us Q I r h
 obtain ⟨i,rfl,hz,q⟩:=h
 obtain ⟨u,rfl,t,rfl⟩:=vals1 r
 exact PySem.P.str_of_int hz ⟨.str _,H,I.tok _,⟨_,rfl⟩,q⟩
end
end L2
namespace L2
open PySem PySem.Spec PyProof.Rows
structure ObjM (h:Heap) (x dx C:Addr) (mA:Str→Option Value):Prop where
 obj:h.get? x=some (PySem.W.instObj C dx)
 ns:h.Ns1 dx mA
 ne:dx≠x
theorem lookIn_ns {h:Heap} {dx:Addr} {mA:Str→Option Value} (n:h.Ns1 dx mA):∃od,h.get? dx=some od∧∀name,PySem.W.lookIn name od=some (mA name):=by
 obtain ⟨o,es,ep,ho,hd,hk,_,hm⟩:=n
 refine ⟨o,ho,fun name=>?_⟩
 have e:=hm name
 unfold nsFind findBy at e
 rw [←Array.find?_toList] at e
 unfold PySem.W.lookIn
 rw [hd]
 dsimp only
 split
 ·rename_i y q
  rw [q] at e
  exact congrArg some e
 ·rename_i q
  rw [q] at e
  have a:es.toList.any (·.refKey)=false:=by
   rw [List.any_eq_false]
   intro y hy
   obtain ⟨z,t,hkey⟩:=hk y (Array.mem_toList_iff.mp hy)
   simp [DictEntry.refKey,hkey]
  have a':¬es.toList.any (·.refKey)=true:=by rw [a];exact Bool.false_ne_true
  rw [if_neg a']
  exact congrArg some e
theorem ObjM.look {h:Heap} {x dx C:Addr} {mA:Str→Option Value} (I:ObjM h x dx C mA):∃od,PySem.W.InstAt h x (PySem.W.instObj C dx) C (some od)∧∀name,PySem.W.lookIn name od=some (mA name) :=
 let ⟨od,ho,hl⟩:=lookIn_ns I.ns
 ⟨od,⟨I.obj,rfl,rfl,ho⟩,hl⟩
section
variable {prog : Program} {w : World} {A : Around} {E : Value → Shared → Prop} {s : Shared} {K : PySem.W.Frag} {x dx C f : Addr} {mA : Str → Option Value} {name : Str} {v : Value}
theorem get_map {expr:Bool} {Q:Value→Shared→Prop} (X:K.In s.heap) (I:ObjM s.heap x dx C mA) (hg:PySem.W.plainGet K C name=true) (hh:PySem.W.hasDictIn K C=true)
 (ha:PySem.W.findIn K (.ref C) name=some none) (hv:mA name=some v) (hv':PySem.W.handedIn v=true) (h:Q v { s with toks:=s.toks+1 }) :
 wpAny (model prog w) A (getAttr (.ref x) name expr) Q E s:=by
 obtain ⟨od,J,hl⟩:=I.look
 exact PySem.W.get_value X J (PySem.W.plainGet_of hg).1 (PySem.W.findObj_own hh ha rfl (by rw [hl,hv])) hv' h
theorem get_meth {pl:Sem Bool} {Q:Value×List Value→Shared→Prop} (X:K.In s.heap) (I:ObjM s.heap x dx C mA) (hg:PySem.W.plainGet K C name=true)
 (hf:PySem.W.findIn K (.ref C) name=some (some (.ref f))) (ht:PySem.W.isFn K (.ref f)=true) (hv:mA name=none) (h:Q (.ref f,[.ref x]) s) :
 wpAny (model prog w) A (getMethod (.ref x) name pl) Q E s:=by
 obtain ⟨od,J,hl⟩:=I.look
 exact PySem.W.method_fn X J (PySem.W.plainGet_of hg).1 (PySem.W.plainGet_of hg).2 hf (beq_iff_eq.mp ht) (by show (PySem.W.lookIn name od).map (·.isSome)=some false;rw [hl,hv];rfl) h
theorem set_map {ns:List Str} {Q:Unit→Shared→Prop} (X:K.In s.heap) (I:ObjM s.heap x dx C mA)
 (hs:PySem.W.findIn K (.ref C) "__setattr__"=some (some (.builtin "object.__setattr__"))) (hp:PySem.W.plainOver K C=true) (ht:PySem.W.takerIn K C name=some none) (hh:PySem.W.hasDictIn K C=true)
 (hw:PySem.Within mA ns) (hsz:ns.length≤sizeLine)
 (h:∀h',ObjM h' x dx C (fun y=>if y=name then some v else mA y)→Heap.SameBut dx s.heap h'→Q () { s with heap:=h',toks:=s.toks+2 }) :
 wpAny (model prog w) A (setAttr (.ref x) name v) Q E s:=by
 obtain ⟨od,J,hl⟩:=I.look
 refine PySem.W.set_plain X J hs (PySem.W.osa_open (s:={ s with toks:=s.toks+1 }) (r:=none) X J hp ht fun b=>?_)
 obtain ⟨cd,hc,hd'⟩:=PySem.W.any_some hh
 have hx:s.heap.get? x=some ⟨.ref C,some dx,.plain,#[]⟩:=I.obj
 refine wpAny_bind (wpAny_pure (wpAny_bind (wpAny_bind (wpAny_loadPart hx (wpAny_bind (PySem.W.Looks.here (s:={ s with toks:=s.toks+1 }) (PySem.W.looks_clsIn X hc) ?_))))))
 rw [hd']
 refine wpAny_pure (a:=some dx) (wpAny_bind (wpAny_pure (wpAny_bind ?_)))
 refine wpAny_nsSet1 (s:={ s with toks:=s.toks+1 }) I.ns fun h' hn2 hs2=>?_
 obtain ⟨oD,esD,epD,hoD,hdD,hcD⟩:=hn2.count (PySem.Within.cons name v hw)
 refine wpAny_bind (wpAny_lookBehind hoD (by rw [hdD];exact pastItsLine_dict (Nat.le_trans hcD (by rw [List.length_cons];omega))) ?_)
 exact wpAny_pure (h _ ⟨(hs2.2 _ (Ne.symm I.ne)).trans I.obj,hn2,I.ne⟩ hs2)
theorem make_map {R:Result→Shared→Prop} {vs:List Value} {kw:List (Str×Value)} (X:K.In s.heap) (hm:PySem.W.makesIn K C=true)
 (hi:PySem.W.findIn K (.ref C) "__init__"=some (some (.ref f))) (hf:PySem.W.typeIn K (.ref f)=some (.type "function"))
 (h:codeAny (model prog w) (A.under (.builtin "type.__call__" ⟨.ref C :: vs,kw⟩)) (.call (.ref f) ⟨.ref (s.heap.objs.size+1) :: vs,kw⟩) (PySem.W.InitBack (s.heap.objs.size+1) R)
   { s with heap:=(s.heap.push PySem.W.emptyDict).push (PySem.W.instObj C s.heap.objs.size) }) :
 codeAny (model prog w) A (.call (.ref C) ⟨vs,kw⟩) R s:=by
 obtain ⟨hh,g,d,t,os⟩:=s
 exact PySem.W.make_core (PySem.W.makes_of X hm) (PySem.W.looks_findIn X hi) (fun self=>PySem.W.bind_fn X self hf) (.inl rfl) h
end
def putF (f:Str) (v:V):List (Str×V)→List (Str×V)
 | []=>[(f,v)]
 | (g,x) :: r=>if g=f then (g,v) :: r else (g,x) :: putF f v r
theorem lookup_putF (f g:Str) (v:V):∀fs:List (Str×V),(putF f v fs).lookup g=if g=f then some v else fs.lookup g
 | []=>by
   show List.lookup g [(f,v)]=_
   by_cases h:g=f
   ·have hb:(g == f)=true:=beq_iff_eq.mpr h
    simp only [List.lookup,hb,if_pos h]
   ·have hb:(g == f)=false:=beq_eq_false_iff_ne.mpr h
    simp only [List.lookup,hb,if_neg h]
 | (k,x) :: r=>by
   have ih:=lookup_putF f g v r
   rw [show putF f v ((k,x) :: r)=(if k=f then (k,v) :: r else (k,x) :: putF f v r) from rfl]
   by_cases hk:k=f
   ·rw [if_pos hk]
    by_cases h:g=k
    ·have hb:(g == k)=true:=beq_iff_eq.mpr h
     simp only [List.lookup,hb,if_pos (h.trans hk)]
    ·have hb:(g == k)=false:=beq_eq_false_iff_ne.mpr h
     simp only [List.lookup,hb,if_neg (fun e:g=f=>h (e.trans hk.symm))]
   ·rw [if_neg hk]
    by_cases h:g=k
    ·have hb:(g == k)=true:=beq_iff_eq.mpr h
     simp only [List.lookup,hb,if_neg (fun e:g=f=>hk (h.symm.trans e))]
    ·have hb:(g == k)=false:=beq_eq_false_iff_ne.mpr h
     simp only [List.lookup,hb]
     exact ih
theorem keys_putF (f:Str) (v:V):∀fs:List (Str×V),f∈(putF f v fs).map (·.1)∧∀g,g∈fs.map (·.1)→g∈(putF f v fs).map (·.1)
 | []=>⟨by simp [putF],fun g h=>by simp at h⟩
 | (k,x) :: r=>by
   obtain ⟨i1,i2⟩:=keys_putF f v r
   rw [show putF f v ((k,x) :: r)=(if k=f then (k,v) :: r else (k,x) :: putF f v r) from rfl]
   by_cases hk:k=f
   ·rw [if_pos hk]
    subst hk
    exact ⟨by simp,fun g h=>by simpa using h⟩
   ·rw [if_neg hk]
    refine ⟨?_,fun g h=>?_⟩
    ·rw [List.map_cons]
     exact List.mem_cons_of_mem _ i1
    ·rw [List.map_cons] at h ⊢
     rcases List.mem_cons.mp h with e | e
     ·exact List.mem_cons.mpr (.inl e)
     ·exact List.mem_cons_of_mem _ (i2 g e)
theorem length_putF (f:Str) (v:V):∀fs:List (Str×V),(putF f v fs).length≤fs.length+1
 | []=>by simp [putF]
 | (k,x) :: r=>by
   have ih:=length_putF f v r
   rw [show putF f v ((k,x) :: r)=(if k=f then (k,v) :: r else (k,x) :: putF f v r) from rfl]
   by_cases hk:k=f
   ·rw [if_pos hk,List.length_cons,List.length_cons];omega
   ·rw [if_neg hk,List.length_cons,List.length_cons];omega
theorem RelO.some_of {v:V} {o:Option Value} (r:RelO (some v) o):∃u,o=some u∧RelV v u:=by
 cases o with
 | none=>exact (show False from r).elim
 | some u=>exact ⟨u,rfl,r⟩
theorem RelO.none_of {o:Option Value} (r:RelO none o):o=none:=by
 cases o with
 | none=>rfl
 | some u=>exact (show False from r).elim
theorem handed_of {v:V} {u:Value} (r:RelV v u):PySem.W.handedIn u=true:=by
 cases v with
 | non=>cases (show u=Value.none from r);rfl
 | bl b=>cases (show u=Value.bool b from r);rfl
 | int i=>obtain ⟨t,e⟩:=(show ∃t,u=Value.int i t from r);cases e;rfl
 | str x=>obtain ⟨t,e⟩:=(show ∃t,u=Value.str x t from r);cases e;rfl
 | byt b=>obtain ⟨t,e⟩:=(show ∃t,u=Value.bytes b t from r);cases e;rfl
 | flt b=>obtain ⟨t,e⟩:=(show ∃t,u=Value.float b t from r);cases e;rfl
 | ref a=>cases (show u=Value.ref a from r);rfl
 | ty n=>cases (show u=Value.type n from r);rfl
 | rstr x t=>cases (show u=Value.str x t from r);rfl
section
variable {P : Program} {w : World} {H H' : Hp} {h h' : Heap} {a C dx : Addr} {fs fs' : List (Str × V)}
theorem ins_get (hok:HOk P w H h) (e:H a=some (.ins C dx fs)):∃mA,ObjM h a dx C mA∧(∀f,RelO (fs.lookup f) (mA f))∧PySem.Within mA (fs.map (·.1))∧fs.length≤1000∧H dx=some (.own a):=by
 obtain ⟨d,z,ne,ob,mA,n,r,q⟩:=(show ObjOk P w H h a (.ins C dx fs) from hok a _ e)
 exact ⟨mA,⟨ob,n,ne⟩,r,q,z,d⟩
end
structure Cls (K:PySem.W.Frag) (C:Addr):Prop where
 pg:PySem.W.plainGet K C Str.empty=true
 hd:PySem.W.hasDictIn K C=true
 po:PySem.W.plainOver K C=true
 sa:PySem.W.findIn K (.ref C) "__setattr__"=some (some (.builtin "object.__setattr__"))
theorem Cls.get {K:PySem.W.Frag} {C:Addr} (c:Cls K C) (f:Str):PySem.W.plainGet K C f=true:=c.pg
def NoAttr (K:PySem.W.Frag) (C:Addr) (f:Str):Prop:=PySem.W.findIn K (.ref C) f=some none
theorem NoAttr.taker {K:PySem.W.Frag} {C:Addr} {f:Str} (n:NoAttr K C f):PySem.W.takerIn K C f=some none:=by
 unfold PySem.W.takerIn
 rw [show PySem.W.findIn K (.ref C) f=some none from n]
 rfl
structure Meth (K:PySem.W.Frag) (C:Addr) (m:Str) (f:Addr):Prop where
 at_:PySem.W.findIn K (.ref C) m=some (some (.ref f))
 fn:PySem.W.isFn K (.ref f)=true
 kp:PySem.W.keepIn K (.ref f)=true
section
variable {X : Cx} {pins : List (Addr × Obj)} {σ : St} {H : Hp} {s : Shared} {a C dx : Addr} {fs : List (Str × V)} {f : Str} {v : V} {A : Around} {E : Value → Shared → Prop}
theorem getattr_ok {b:Bool} {Q:Value→Shared→Prop} (I:Inv X pins σ H s) (e:H a=some (.ins C dx fs)) (c:Cls X.K C) (n:NoAttr X.K C f) (l:fs.lookup f=some v)
 (h:∀u s',Inv X pins σ H s'→RelV v u→Q u s'):wpAny (model X.prog X.w) A (getAttr (.ref a) f b) Q E s:=by
 obtain ⟨mA,O,r,_,_,_⟩:=ins_get I.hok e
 obtain ⟨u,hu,ru⟩:=RelO.some_of (v:=v) (o:=mA f) (by rw [←l];exact r f)
 exact get_map I.kIn O (c.get f) c.hd n hu (handed_of ru) (h u _ (I.tok _) ru)
theorem getmeth_ok {m:Str} {g:Addr} {pl:Sem Bool} {Q:Value×List Value→Shared→Prop} (I:Inv X pins σ H s) (e:H a=some (.ins C dx fs)) (c:Cls X.K C) (k:Meth X.K C m g) (l:fs.lookup m=none)
 (h:Q (.ref g,[.ref a]) s):wpAny (model X.prog X.w) A (getMethod (.ref a) m pl) Q E s:=by
 obtain ⟨mA,O,r,_,_,_⟩:=ins_get I.hok e
 have hn:mA m=none:=RelO.none_of (by rw [←l];exact r m)
 exact get_meth I.kIn O (c.get m) k.at_ k.fn hn h
theorem setattr_ok {y:V} {u:Value} {Q:Unit→Shared→Prop} (I:Inv X pins σ H s) (e:H a=some (.ins C dx fs)) (c:Cls X.K C) (n:NoAttr X.K C f) (hl:fs.length<1000) (ry:RelV y u)
 (h:∀s',Inv X pins σ (upd H a (.ins C dx (putF f y fs))) s'→Q () s'):wpAny (model X.prog X.w) A (setAttr (.ref a) f u) Q E s:=by
 obtain ⟨mA,O,r,wi,_,ho⟩:=ins_get I.hok e
 have hz:(fs.map (·.1)).length≤sizeLine:=by rw [List.length_map,sizeLine_eq];omega
 refine set_map I.kIn O c.sa c.po n.taker c.hd wi hz fun h' O' sb=>h _ ?_
 have hd:∃o,h'.get? dx=some o:=let ⟨o,_,_,e',_⟩:=O'.ns;⟨o,e'⟩
 refine I.write (x:=a) (e:=dx) (by rw [e];exact True.intro) (.inr ho) (fun b q hb z=>(sb.2 b hb).trans z) hd ?_
 refine ⟨by rw [upd_ne O.ne];exact ho,?_,O.ne,O'.obj,_,O'.ns,fun g=>?_,fun g hg=>?_⟩
 ·have:=length_putF f y fs;omega
 ·show RelO ((putF f y fs).lookup g) (if g=f then some u else mA g)
  rw [lookup_putF]
  by_cases q:g=f
  ·rw [if_pos q,if_pos q];exact ry
  ·rw [if_neg q,if_neg q];exact r g
 ·by_cases q:g=f
  ·rw [q];exact (keys_putF f y fs).1
  ·refine (keys_putF f y fs).2 g (wi g fun z=>hg ?_)
   show (if g=f then some u else mA g)=none
   rw [if_neg q];exact z
theorem Inv.made (I:Inv X pins σ H s):Inv X pins σ (upd (upd H s.heap.objs.size (.own (s.heap.objs.size+1))) (s.heap.objs.size+1) (.ins C s.heap.objs.size []))
 { s with heap:=(s.heap.push PySem.W.emptyDict).push (PySem.W.instObj C s.heap.objs.size) }:=by
 have e1:(s.heap.push PySem.W.emptyDict).get? s.heap.objs.size=some PySem.W.emptyDict:=Heap.get?_push_size s.heap rfl
 have e2:((s.heap.push PySem.W.emptyDict).push (PySem.W.instObj C s.heap.objs.size)).get? (s.heap.objs.size+1)=some (PySem.W.instObj C s.heap.objs.size):=by
  have:=Heap.get?_push_size (s.heap.push PySem.W.emptyDict) (o:=PySem.W.instObj C s.heap.objs.size) rfl
  rwa [Heap.size_push] at this
 have e3:(s.heap.push PySem.W.emptyDict).Ns s.heap.objs.size (fun _=>none):=⟨PySem.W.emptyDict,#[],_,e1,rfl,(fun e he=>absurd he (by simp)),fun _=>rfl⟩
 have I1:=I.laid (a:=s.heap.objs.size) (o:=.own (s.heap.objs.size+1)) (h':=s.heap.push PySem.W.emptyDict) (t':=s.toks) (fun b u q=>Heap.get?_push_of_some _ q) (Nat.le_refl _) ⟨_,e1⟩
 refine I1.laid (a:=s.heap.objs.size+1) (o:=.ins C s.heap.objs.size []) (t':=s.toks) (fun b u q=>Heap.get?_push_of_some _ q) (Nat.le_of_eq (Heap.size_push _ _)) ?_
 have ne:s.heap.objs.size≠s.heap.objs.size+1:=Nat.ne_of_lt (Nat.lt_succ_self _)
 refine ⟨by rw [upd_ne ne,upd_same],Nat.zero_le _,ne,e2,fun _=>none,(Heap.Ns1.of_empty e3).at fun o q=>Heap.get?_push_of_some _ q,fun _=>True.intro,fun y hy=>absurd rfl hy⟩
theorem attr_of {prog:Program} {w:World} {env:Env} {e:Expr} {f:Str} {pos:Pos} {s:Shared} {Q:Value→Shared→Prop} (hb:attributeBase e f env (eval e env)=eval e env)
 (h:wpAny (model prog w) A (eval e env) (fun o s₁=>wpAny (model prog w) A (getAttr o f true) Q E s₁) E s):wpAny (model prog w) A (eval (.Attribute e f pos) env) Q E s :=
 Attribute_any_ h (by rw [arm_eval_Attribute,hb])
end
inductive tFld_I (K:PySem.W.Frag) (f:Str) (Q:VK) (x:V) (H1:Hp):Prop
 | mk:∀a C dx fs v,x=.ref a→H1 a=some (.ins C dx fs)→Cls K C→NoAttr K C f→fs.lookup f=some v→Q v H1→tFld_I K f Q x H1
def tFld (K:PySem.W.Frag) (ta:TE) (f:Str):TE:=fun σ H Q=>ta σ H fun x H1=>tFld_I K f Q x H1
inductive sFld_I (K:PySem.W.Frag) (f:Str) (D:Ends) (σ:St) (y:V) (x:V) (H2:Hp):Prop
 | mk:∀a C dx fs,x=.ref a→H2 a=some (.ins C dx fs)→Cls K C→NoAttr K C f→fs.length<1000→D.nx σ (upd H2 a (.ins C dx (putF f y fs)))→sFld_I K f D σ y x H2
def sFld (K:PySem.W.Frag) (ta tv:TE) (f:Str):TS:=fun D σ H=>tv σ H fun y H1=>ta σ H1 fun x H2=>sFld_I K f D σ y x H2
def InOp (X:Cx) (op:Operator) (rd:V→V→Hp→VK→Prop):Prop :=
 ∀(pins:List (Addr×Obj)) (s:Shared) (σ:St) (H:Hp) (x y:V) (u v:Value) (Q:VK),Inv X pins σ H s→RelV x u→RelV y v→rd x y H Q→wpAny (model X.prog X.w) X.A (inplaceOp op u v) (EP X pins σ Q) X.xe s
inductive sFldAug_I (K:PySem.W.Frag) (tv:TE) (rd:V→V→Hp→VK→Prop) (f:Str) (D:Ends) (σ:St) (x:V) (H1:Hp):Prop
 | mk:∀a C dx fs v,x=.ref a→H1 a=some (.ins C dx fs)→Cls K C→NoAttr K C f→fs.lookup f=some v→(tv σ H1 fun y H2=>rd v y H2 fun z H3=>∃dx' fs',H3 a=some (.ins C dx' fs')∧fs'.length<1000∧D.nx σ (upd H3 a (.ins C dx' (putF f z fs'))))→sFldAug_I K tv rd f D σ x H1
def sFldAug (K:PySem.W.Frag) (ta tv:TE) (rd:V→V→Hp→VK→Prop) (f:Str):TS:=fun D σ H=>ta σ H fun x H1=>sFldAug_I K tv rd f D σ x H1
section
variable {X : Cx} {o e value : Expr} {f : Str} {pos pos' tpos : Pos} {ta tv : TE}
theorem pe_fld (he:PE X e ta) (hb:attributeBase e f X.env (eval e X.env)=eval e X.env):PE X (.Attribute e f pos) (tFld X.K ta f):=by
 intro pins s σ H Q I h
 refine attr_of hb (thn (he pins s σ H _ I h) fun u s1 ⟨x,H1,I1,rx,a,C,dx,fs,v,ex,ea,c,n,l,q⟩=>?_)
 subst ex
 obtain rfl:u=Value.ref a:=rx
 exact getattr_ok I1 ea c n l fun u' s2 I2 ru=>⟨v,H1,I2,ru,q⟩
theorem ps_fld (ha:PE X o ta) (hv:PE X value tv) (hs:swapsWith value (some (.Attribute o f pos')) pos.line X.env=pure false):PS X (.Assign [.Attribute o f pos'] value pos) (sFld X.K ta tv f):=by
 intro pins s σ H D I h
 refine plainObj_wpAny_Assign_Attribute (thn (hv pins s σ H _ I h) fun u s1 ⟨y,H1,I1,ry,q⟩=>thn (ha pins s1 σ H1 _ I1 q) fun ov s2 ⟨x,H2,I2,rx,a,C,dx,fs,ex,ea,c,n,l,q2⟩=>?_) hs
 subst ex
 obtain rfl:ov=Value.ref a:=rx
 exact setattr_ok I2 ea c n l ry fun s3 I3=>⟨σ,_,I3,q2⟩
theorem ps_fldaug {op:Operator} {rd:V→V→Hp→VK→Prop} (ha:PE X o ta) (hv:PE X value tv) (hop:InOp X op rd):PS X (.AugAssign (.Attribute o f tpos) op value pos) (sFldAug X.K ta tv rd f):=by
 intro pins s σ H D I h
 refine wpAny_AugAssign_AttributeAny (thn (ha pins s σ H _ I h) fun ov s1 ⟨x,H1,I1,rx,a,C,dx,fs,v,ex,ea,c,n,l,q⟩=>?_)
 subst ex
 obtain rfl:ov=Value.ref a:=rx
 refine getattr_ok I1 ea c n l fun u s2 I2 ru=>thn (hv pins s2 σ H1 _ I2 q) fun w3 s3 ⟨y,H2,I3,ry,q3⟩=>thn (hop pins s3 σ H2 v y u w3 _ I3 ru ry q3) fun w4 s4 ⟨z,H3,I4,rz,dx',fs',ea',l',q4⟩=>?_
 exact setattr_ok I4 ea' c n l' rz fun s5 I5=>⟨σ,_,I5,q4⟩
inductive rAdd_I (x:V) (y:V) (H:Hp) (Q:VK):Prop
 | mk:∀i j,x=.int i→y=.int j→Q (.int (i+j)) H→rAdd_I x y H Q
def rAdd:V→V→Hp→VK→Prop:=fun x y H Q=>rAdd_I x y H Q
theorem in_add:InOp X .Add rAdd:=by
 rintro pins s σ H x y u v Q I rx ry ⟨i,j,rfl,rfl,q⟩
 obtain ⟨t,rfl⟩:=(show ∃t,u=Value.int i t from rx)
 obtain ⟨t',rfl⟩:=(show ∃t',v=Value.int j t' from ry)
 exact PyProof.Rows.iadd_int ⟨.int (i+j),H,I.tok _,⟨_,rfl⟩,q⟩
end
section
variable {X : Cx} {pins : List (Addr × Obj)} {σ : St} {H : Hp} {s : Shared} {A : Around} {E : Value → Shared → Prop} {Q : Value → Shared → Prop} {c : Value} {b : Bool}
inductive TyOf (K:PySem.W.Frag) (H:Hp):V→Value→Prop where
 | non:TyOf K H .non (.type "NoneType")
 | bl (x:Bool):TyOf K H (.bl x) (.type "bool")
 | int (i:Int):TyOf K H (.int i) (.type "int")
 | str (x:Str):TyOf K H (.str x) (.type "str")
 | flt (x:UInt64):TyOf K H (.flt x) (.type "float")
 | lst {a:Addr} {xs:List V} (e:H a=some (.lst xs)):TyOf K H (.ref a) (.type "list")
 | frz {a:Addr} {o:Obj} {xs:List V} (e:H a=some (.frz o (.lst xs))):TyOf K H (.ref a) (.type "list")
 | tup {a:Addr} {xs:List V} (e:H a=some (.tup xs)):TyOf K H (.ref a) (.type "tuple")
 | dK {a:Addr} {kvs:List (Key×V)} (e:H a=some (.dK kvs)):TyOf K H (.ref a) (.type "dict")
 | dT {a:Addr} {kvs:List (List Key×V)} (e:H a=some (.dT kvs)):TyOf K H (.ref a) (.type "dict")
 | ins {a C dx:Addr} {fs:List (Str×V)} (e:H a=some (.ins C dx fs)) (cl:Cls K C) (ha:PySem.W.findIn K (.ref C) "__class__"=some (some (.builtin "object.__class__")))
    (hn:PySem.W.specialIn K (.builtin "object.__class__") "__get__"=some (some (.builtin "getset_descriptor.__get__"))) (htk:PySem.W.takesIn K (.builtin "object.__class__")=some true)
    (hm:PySem.W.mroIn K C (.type "object")=some true):TyOf K H (.ref a) (.ref C)
theorem isinst_ok {x:V} {u t:Value} (I:Inv X pins σ H s) (rx:RelV x u) (ty:TyOf X.K H x t) (e:PySem.W.kitOne X.K t c=some b) (h:∀tk,Q (.bool b) { s with toks:=tk }) :
 wpAny (model X.prog X.w) A (call (.builtin "isinstance") [u,c]) Q E s:=by
 cases ty with
 | non=>cases (show u=Value.none from rx);exact PySem.W.kia_one PySem.W.kitx_none I.kIn True.intro e (fun z=>nomatch z) h
 | bl y=>cases (show u=Value.bool y from rx);exact PySem.W.kia_one PySem.W.kitx_bool I.kIn True.intro e (fun z=>nomatch z) h
 | int i=>obtain ⟨t,q⟩:=(show ∃t,u=Value.int i t from rx);cases q;exact PySem.W.kia_one PySem.W.kitx_int I.kIn True.intro e (fun z=>nomatch z) h
 | str y=>obtain ⟨t,q⟩:=(show ∃t,u=Value.str y t from rx);cases q;exact PySem.W.kia_one PySem.W.kitx_str I.kIn True.intro e (fun z=>nomatch z) h
 | flt y=>obtain ⟨t,q⟩:=(show ∃t,u=Value.float y t from rx);cases q;exact PySem.W.kia_one PySem.W.kitx_float I.kIn True.intro e (fun z=>nomatch z) h
 | @lst a xs ea =>
   cases (show u=Value.ref a from rx)
   obtain ⟨_,_,n,_,h1⟩:=(show ObjOk X.prog X.w H s.heap a (.lst xs) from I.hok a _ ea)
   exact PySem.W.kia_one PySem.W.kitx_list I.kIn ⟨_,h1,rfl⟩ e (fun z=>nomatch z) h
 | @frz a ob xs ea =>
   cases (show u=Value.ref a from rx)
   obtain ⟨_,_,_,n,_,h1⟩:=(show ObjOk X.prog X.w H s.heap a (.frz ob (.lst xs)) from I.hok a _ ea)
   exact PySem.W.kia_one PySem.W.kitx_list I.kIn ⟨_,h1,rfl⟩ e (fun z=>nomatch z) h
 | @tup a xs ea =>
   cases (show u=Value.ref a from rx)
   obtain ⟨_,_,_,p⟩:=(show ObjOk X.prog X.w H s.heap a (.tup xs) from I.hok a _ ea)
   obtain ⟨o,h1,h2,_⟩:=p
   exact PySem.W.kia_one PySem.W.kitx_tuple I.kIn ⟨o,h1,h2⟩ e (fun z=>nomatch z) h
 | @dK a kvs ea =>
   cases (show u=Value.ref a from rx)
   obtain ⟨_,_,vs,_,p⟩:=(show ObjOk X.prog X.w H s.heap a (.dK kvs) from I.hok a _ ea)
   obtain ⟨o,es,ep,h1,h2,_⟩:=p
   exact PySem.W.kia_one PySem.W.kitx_dict I.kIn ⟨o,h1,h2.1⟩ e (fun z=>nomatch z) h
 | @dT a kvs ea =>
   cases (show u=Value.ref a from rx)
   obtain ⟨_,_,xs,_,o,es,ep,h1,h2,_⟩:=(show ObjOk X.prog X.w H s.heap a (.dT kvs) from I.hok a _ ea)
   exact PySem.W.kia_one PySem.W.kitx_dict I.kIn ⟨o,h1,h2.1⟩ e (fun z=>nomatch z) h
 | @ins a C dx fs ea cl ha hn htk hm =>
   cases (show u=Value.ref a from rx)
   obtain ⟨mA,O,_⟩:=ins_get I.hok ea
   obtain ⟨od,J,_⟩:=O.look
   exact PySem.W.kia_one (PySem.W.kitx_own (cl.get _) cl.hd ha hn htk hm) I.kIn J e (fun z=>nomatch z) h
end
end L2
namespace L2
open PySem PySem.Spec PyProof.Rows
structure Room (k:Nat) (A:Around):Prop where
 hd:A.handled=none
 dp:A.depth+3*k+5<recursionLimit
 un:A.units+16*k+200<cLine
 gd:A.guards=some []
theorem Room.mono {j k:Nat} {A:Around} (r:Room k A) (h:j≤k):Room j A:=⟨r.hd,by have:=r.dp;omega,by have:=r.un;omega,r.gd⟩
theorem Room.deeper {k:Nat} {A:Around} (r:Room (k+1) A) (env:Env):Room k (A.deeper env) :=
 ⟨r.hd,by have:=r.dp;show A.depth+1+3*k+5<_;omega,by have:=r.un;show A.units+3+16*k+200<_;omega,r.gd⟩
theorem make_depth {A:Around} {C:Addr} {us:List Value} {kw:List (Str×Value)}:(A.under (.builtin "type.__call__" ⟨.ref C :: us,kw⟩)).depth=A.depth+1:=by
 first | rfl | simp [Around.under,Code.weight,Code.isCreation,Code.isGuard,Code.isCaller,Code.frames,Code.isFrame,guardIds]
theorem make_units {A:Around} {C:Addr} {us:List Value} {kw:List (Str×Value)}:(A.under (.builtin "type.__call__" ⟨.ref C :: us,kw⟩)).units=A.units+1:=by
 first | rfl | simp [Around.under,Code.cUnits,Code.frames,Code.isFrame]
theorem make_guards {A:Around} {C:Addr} {us:List Value} {kw:List (Str×Value)} (h:A.guards=some []):(A.under (.builtin "type.__call__" ⟨.ref C :: us,kw⟩)).guards=some []:=by
 first | exact h | simp [Around.under,Code.guards,Code.isGuard,pushGuards,guardIds,h]
theorem Room.make {k:Nat} {A:Around} (r:Room (k+1) A) (C:Addr) (us:List Value) (kw:List (Str×Value)):Room k (A.under (.builtin "type.__call__" ⟨.ref C :: us,kw⟩)) :=
 ⟨r.hd,by have:=r.dp;rw [make_depth];omega,by have:=r.un;rw [make_units];omega,make_guards r.gd⟩
theorem Room.depth {k:Nat} {A:Around} (r:Room k A):A.depth<recursionLimit:=by have:=r.dp;omega
theorem Room.units {k:Nat} {A:Around} (r:Room k A):A.units+64<cLine:=by have:=r.un;omega
def tNil:TA:=fun _ H Q=>Q [] H
def tCons (ta:TE) (tr:TA):TA:=fun σ H Q=>ta σ H fun x H1=>tr σ H1 fun xs H2=>Q (x :: xs) H2
section
variable {X : Cx} {e : Expr} {es : List Expr} {te : TE} {t : TA} {pos : Pos}
theorem pa_nil:PA X [] tNil:=fun _ _ _ _ H Q I h=>Calls.spliced_nil ⟨[],H,I,.nil,h⟩
theorem pa_cons (ha:PE X e te) (hr:PA X es t) (hs:starEach (e :: es) X.env=(false,eval e X.env) :: starEach es X.env:=by rfl):PA X (e :: es) (tCons te t):=by
 intro pos pins s σ H Q I h
 rw [hs]
 show wpAny _ _ (spliced ((false,eval e X.env) :: backTo pos (starEach es X.env))) _ _ s
 refine Calls.spliced_cons (thn (ha pins s σ H _ I h) fun u s1 ⟨x,H1,I1,r1,q1⟩=>?_)
 exact thn (hr pos pins s1 σ H1 _ I1 q1) fun us s2 ⟨xs,H2,I2,r2,q2⟩=>⟨x :: xs,H2,I2,.cons r1 r2,q2⟩
def tLst (t:TA):TE:=fun σ H Q=>t σ H fun xs H1=>xs.length≤sizeLine∧∀p,H1 p=none→Q (.ref p) (upd H1 p (.lst xs))
theorem pe_lst (h:PA X es t):PE X (.List es pos) (tLst t):=by
 intro pins s σ H Q I hq
 refine wpAny_List_spliced (thn (h pos pins s σ H _ I hq) fun us s1 ⟨xs,H1,I1,r,z,q⟩=>⟨by rw [←r.length];exact z,?_⟩)
 have hf:H1 s1.heap.objs.size=none:=I1.hok.fresh (Nat.le_refl _)
 refine ⟨.ref s1.heap.objs.size,upd H1 s1.heap.objs.size (.lst xs),I1.laid (t':=s1.toks) (fun b u e=>Heap.get?_push_of_some _ e) (Nat.le_refl _) ?_,rfl,q _ hf⟩
 exact ⟨z,us,0,r,Heap.get?_push_size _ rfl⟩
end
abbrev Sp:=List V→Hp→VK→XK→Prop
abbrev CXT:=List Env→Hp→Shared→XK→Value→Shared→Prop
structure Env0 (P:Program) (w:World) (K:PySem.W.Frag) (mg:Str→Option Value) (base:Heap) (A:Around) (outer:List Env) (s:Shared) (H:Hp):Prop where
 frames:A.frames=some outer
 mod:Mod K mg base
 bs:∀b o,base.get? b=some o→s.heap.get? b=some o∧H b=none
 bsz:base.objs.size≤s.heap.objs.size
 funs:s.heap.FunFrames base outer
 frf:∀b∈frs outer,H b=none
 hok:HOk P w H s.heap
 bare:AllBare s.gens
def CE (outer:List Env) (P:Program) (w:World) (H:Hp) (s:Shared) (Q:VK) (u:Value) (s':Shared):Prop :=
 ∃v H',s'.os=s.os∧AllBare s'.gens∧Un (frs outer) [] H H' s.heap s'.heap∧HOk P w H' s'.heap∧RelV v u∧Q v H'
def CR (CX:CXT) (outer:List Env) (P:Program) (w:World) (H:Hp) (s:Shared) (Q:VK) (E:XK) (r:Result) (s':Shared):Prop :=
 match r with
 | .ok (.ret u)=>CE outer P w H s Q u s'
 | .ok _=>False
 | .error e=>CX outer H s E e s'
structure FnOk (P:Program) (w:World) (K:PySem.W.Frag) (mg:Str→Option Value) (base:Heap) (CX:CXT) (k:Nat) (f:Addr) (fd:FuncData) (ps:List Str) (sp:Sp):Prop where
 len:∀vs H Q E,sp vs H Q E→vs.length=ps.length
 run:∀(A:Around) (outer:List Env) (s:Shared) (H:Hp) (args:Args) (us:List Value) (vs:List V) (Q:VK) (E:XK),Room k A→Env0 P w K mg base A outer s H→BindsTo s fd args (ps.zip us)→Vals vs us→sp vs H Q E →
  codeAny (model P w) A (.call (.ref f) args) (CR CX outer P w H s Q E) s
theorem Env0.make {P:Program} {w:World} {K:PySem.W.Frag} {mg:Str→Option Value} {base:Heap} {A:Around} {outer:List Env} {s:Shared} {H:Hp} (e:Env0 P w K mg base A outer s H) (C:Addr) (us:List Value) (kw:List (Str×Value)) :
 Env0 P w K mg base (A.under (.builtin "type.__call__" ⟨.ref C :: us,kw⟩)) outer s H:=⟨by first | exact e.frames | (simpa [Around.under,Code.envs,Code.isFrame,pushEnvs] using e.frames),e.mod,e.bs,e.bsz,e.funs,e.frf,e.hok,e.bare⟩
section
variable {X : Cx} {pins : List (Addr × Obj)} {σ : St} {H : Hp} {s s' : Shared}
theorem Inv.env0 (I:Inv X pins σ H s):Env0 X.prog X.w X.K X.mg X.base X.A X.stack s H :=
 ⟨I.ok.frames,I.ok.mod,I.bs,Nat.le_trans I.ok.bsz I.sz,I.stack,I.stkFree,I.hok,I.bare⟩
theorem Inv.after {Q:VK} {u:Value} (I:Inv X pins σ H s) (h:CE X.stack X.prog X.w H s Q u s'):EP X pins σ Q u s':=by
 obtain ⟨v,H',os,bare,un,hok,r,q⟩:=h
 obtain ⟨hh,g,d,t,os'⟩:=s'
 obtain rfl:os'=s.os:=os
 exact ⟨v,H',I.call (h':=hh) (g':=g) (d':=d) (t':=t) (ch:=[]) un hok bare (fun b z=>absurd z (by simp)),r,q⟩
end
def tCall (sp:Sp) (dvs:List V) (E:XK) (t:TA):TE:=fun σ H Q=>t σ H fun vs H1=>sp (vs++dvs) H1 Q E
inductive tMeth_I (C:Addr) (m:Str) (sp:Sp) (dvs:List V) (E:XK) (t:TA) (σ:St) (Q:VK) (x:V) (H1:Hp):Prop
 | mk:∀a dx fs,x=.ref a→H1 a=some (.ins C dx fs)→fs.lookup m=none→(t σ H1 fun vs H2=>sp (x :: (vs++dvs)) H2 Q E)→tMeth_I C m sp dvs E t σ Q x H1
def tMeth (C:Addr) (m:Str) (sp:Sp) (dvs:List V) (E:XK) (ta:TE) (t:TA):TE:=fun σ H Q=>ta σ H fun x H1=>tMeth_I C m sp dvs E t σ Q x H1
def tMake (C:Addr) (sp:Sp) (dvs:List V) (E:XK) (t:TA):TE:=fun σ H Q=>t σ H fun vs H1=>∀x dx,H1 x=none→H1 dx=none→dx≠x →
 sp (.ref x :: (vs++dvs)) (upd (upd H1 dx (.own x)) x (.ins C dx [])) (fun v H2=>v=.non∧Q (.ref x) H2) E
def Binds (K:PySem.W.Frag) (fd:FuncData) (ps:List Str) (ds:List Value):Prop :=
 ∀(s:Shared) (us:List Value),K.In s.heap→(us++ds).length=ps.length→BindsTo s fd ⟨us,[]⟩ (ps.zip (us++ds))
theorem Binds.all {K:PySem.W.Frag} {fd:FuncData} {ps:List Str} (h:∀us:List Value,us.length=ps.length→bindArgs fd ⟨us,[]⟩=pure (ps.zip us)):Binds K fd ps []:=fun s us _ hl=>by
 rw [List.append_nil] at hl ⊢
 exact .of_eq (h us hl)
def Passes (CX:CXT) (X:Cx) (E:XK):Prop:=∀(pins:List (Addr×Obj)) (σ:St) (H:Hp) (s:Shared) (e:Value) (s':Shared),Inv X pins σ H s→CX X.stack H s E e s'→X.xe e s'
section
variable {X : Cx} {CX : CXT} {k : Nat} {f C : Addr} {fd : FuncData} {ps : List Str} {sp : Sp} {dvs : List V} {ds : List Value} {E : XK} {x m : Str} {p pos apos : Pos} {e o : Expr} {es : List Expr} {ta : TE} {t : TA}
theorem run_fn {pins:List (Addr×Obj)} {σ:St} {H:Hp} {s:Shared} {Q:VK} {us:List Value} {vs:List V} (F:FnOk X.prog X.w X.K X.mg X.base CX k f fd ps sp) (hr:Room k X.A) (hb:Binds X.K fd ps ds) (hd:Vals dvs ds) (hx:Passes CX X E)
 (I:Inv X pins σ H s) (r:Vals vs us) (h:sp (vs++dvs) H Q E):wpAny (model X.prog X.w) X.A (call (.ref f) us) (EP X pins σ Q) X.xe s:=by
 have r2:Vals (vs++dvs) (us++ds):=r.append hd
 have hl:(us++ds).length=ps.length:=by rw [←r2.length];exact F.len _ _ _ _ h
 refine wpAny_call (codeAny_mono (F.run X.A X.stack s H ⟨us,[]⟩ (us++ds) (vs++dvs) Q E hr I.env0 (hb s us I.kIn hl) r2 h) fun r s' hq=>?_)
 cases r with
 | error e=>exact hx pins σ H s e s' I hq
 | ok fl =>
   cases fl with
   | ret u=>exact I.after hq
   | next=>exact False.elim hq
   | brk=>exact False.elim hq
   | cont=>exact False.elim hq
theorem pe_call (F:FnOk X.prog X.w X.K X.mg X.base CX k f fd ps sp) (hr:Room k X.A) (hg:Gl X x) (hm:X.mg x=some (.ref f)) (hk:PySem.W.keepIn X.K (.ref f)=true) (hb:Binds X.K fd ps ds) (hd:Vals dvs ds) (hx:Passes CX X E)
 (ha:PA X (e :: es) t) (hdb:(x == ("__debug__":Str))=false:=by decide) (he:starEach (e :: es) X.env=(false,eval e X.env) :: starEach es X.env:=by rfl) (hpl:(backTo pos (starEach es X.env)).any (·.1)=false:=by rfl) :
 PE X (.Call (.Name x p) (e :: es) [] pos) (tCall sp dvs E t):=by
 intro pins s σ H Q I h
 refine wpAny_Call_Name_kw (ld_glob I hg hm ?_ hdb)
 refine PySem.W.callWith_K (h₀:=X.base) I.ok.mod.kin hk (thn (ha pos pins s σ H _ I h) fun us s1 ⟨vs,H1,I1,r,q⟩=>⟨I1.kIn,?_⟩) he hpl
 exact run_fn F hr hb hd hx I1 r q
theorem pe_meth {pl:Sem Bool} (he:PE X o ta) (c:Cls X.K C) (hm:Meth X.K C m f) (F:FnOk X.prog X.w X.K X.mg X.base CX k f fd ps sp) (hr:Room k X.A) (hb:Binds X.K fd ps ds) (hd:Vals dvs ds) (hx:Passes CX X E) (ha:PA X (e :: es) t)
 (hst:starEach (e :: es) X.env=(false,eval e X.env) :: starEach es X.env:=by rfl) (hpl:(backTo pos (starEach es X.env)).any (·.1)=false:=by rfl)
 (ht:eval (.Call (.Attribute o m apos) (e :: es) [] pos) X.env=(do
   let ov ←eval o X.env
   standAt apos.atName
   let (f,first) ←holding [ov] (getMethod ov m pl)
   callWith pos f first (backTo pos (starEach (e :: es) X.env)) (backToKw pos (keywordEach [] X.env))):=by rfl) :
 PE X (.Call (.Attribute o m apos) (e :: es) [] pos) (tMeth C m sp dvs E ta t):=by
 intro pins s σ H Q I h
 refine PySem.W.methodCall_KW (pl:=pl) (thn (he pins s σ H _ I h) fun u s1 ⟨x,H1,I1,rx,a,dx,fs,ex,ea,l,q⟩=>?_) ht
 subst ex
 obtain rfl:u=Value.ref a:=rx
 refine getmeth_ok I1 ea c hm l ?_
 refine PySem.W.callWith_K (first:=[.ref a]) (h₀:=X.base) I.ok.mod.kin hm.kp (thn (ha pos pins s1 σ H1 _ I1 q) fun us s2 ⟨vs,H2,I2,r,q2⟩=>⟨I2.kIn,?_⟩) hst hpl
 exact run_fn (us:=.ref a :: us) (vs:=.ref a :: vs) F hr hb hd hx I2 (.cons rfl r) q2
theorem pe_meth0 {pl:Sem Bool} (he:PE X o ta) (c:Cls X.K C) (hm:Meth X.K C m f) (F:FnOk X.prog X.w X.K X.mg X.base CX k f fd ps sp) (hr:Room k X.A) (hb:Binds X.K fd ps ds) (hd:Vals dvs ds) (hx:Passes CX X E)
 (ht:eval (.Call (.Attribute o m apos) [] [] pos) X.env=(do
   let ov ←eval o X.env
   standAt apos.atName
   let (f,first) ←holding [ov] (getMethod ov m pl)
   callWith pos f first (backTo pos (starEach [] X.env)) (backToKw pos (keywordEach [] X.env))):=by rfl) :
 PE X (.Call (.Attribute o m apos) [] [] pos) (tMeth C m sp dvs E ta tNil):=by
 intro pins s σ H Q I h
 refine PySem.W.methodCall_KW (pl:=pl) (thn (he pins s σ H _ I h) fun u s1 ⟨x,H1,I1,rx,a,dx,fs,ex,ea,l,q⟩=>?_) ht
 subst ex
 obtain rfl:u=Value.ref a:=rx
 refine getmeth_ok I1 ea c hm l ?_
 exact PySem.W.callWith_K0 (first:=[.ref a]) I1.kIn hm.kp (run_fn (us:=[.ref a]) (vs:=[.ref a]) F hr hb hd hx I1 (.cons rfl .nil) q)
structure Mk (K:PySem.W.Frag) (C f:Addr):Prop where
 makes:PySem.W.makesIn K C=true
 init:PySem.W.findIn K (.ref C) "__init__"=some (some (.ref f))
 fn:PySem.W.isFn K (.ref f)=true
 kp:PySem.W.keepIn K (.ref C)=true
theorem run_make {pins:List (Addr×Obj)} {σ:St} {H:Hp} {s:Shared} {Q:VK} {us:List Value} {vs:List V} (M:Mk X.K C f) (F:FnOk X.prog X.w X.K X.mg X.base CX k f fd ps sp) (hr:Room (k+1) X.A) (hb:Binds X.K fd ps ds) (hd:Vals dvs ds)
 (hx:Passes CX X E) (I:Inv X pins σ H s) (r:Vals vs us)
 (h:∀x dx,H x=none→H dx=none→dx≠x→sp (.ref x :: (vs++dvs)) (upd (upd H dx (.own x)) x (.ins C dx [])) (fun v H2=>v=.non∧Q (.ref x) H2) E) :
 wpAny (model X.prog X.w) X.A (call (.ref C) us) (EP X pins σ Q) X.xe s:=by
 have hq:=h (s.heap.objs.size+1) s.heap.objs.size (I.hok.fresh (Nat.le_succ _)) (I.hok.fresh (Nat.le_refl _)) (Nat.ne_of_lt (Nat.lt_succ_self _))
 have I2:=Inv.made (C:=C) I
 have r2:Vals (V.ref (s.heap.objs.size+1) :: (vs++dvs)) (Value.ref (s.heap.objs.size+1) :: (us++ds)):=.cons rfl (r.append hd)
 have hl:(Value.ref (s.heap.objs.size+1) :: us++ds).length=ps.length:=by
  have e:=r2.length
  rw [F.len _ _ _ _ hq] at e
  exact e.symm
 refine wpAny_call (make_map (f:=f) I.kIn M.makes M.init (beq_iff_eq.mp M.fn) (codeAny_mono (F.run _ X.stack _ _ ⟨Value.ref (s.heap.objs.size+1) :: us,[]⟩ (Value.ref (s.heap.objs.size+1) :: (us++ds)) _ _ E (hr.make C us [])
  (I2.env0.make C us []) (hb _ (Value.ref (s.heap.objs.size+1) :: us) I2.kIn hl) r2 hq) fun r s' hq'=>?_))
 cases r with
 | error e=>exact hx pins σ _ _ e s' I2 hq'
 | ok fl =>
   cases fl with
   | ret u =>
     obtain ⟨v,H',I3,rv,ev,q3⟩:=I2.after hq'
     subst ev
     exact ⟨rv,⟨V.ref (s.heap.objs.size+1),H',I3,rfl,q3⟩⟩
   | next=>exact False.elim hq'
   | brk=>exact False.elim hq'
   | cont=>exact False.elim hq'
theorem pe_make (M:Mk X.K C f) (F:FnOk X.prog X.w X.K X.mg X.base CX k f fd ps sp) (hr:Room (k+1) X.A) (hg:Gl X x) (hm:X.mg x=some (.ref C)) (hb:Binds X.K fd ps ds) (hd:Vals dvs ds) (hx:Passes CX X E)
 (ha:PA X (e :: es) t) (hdb:(x == ("__debug__":Str))=false:=by decide) (he:starEach (e :: es) X.env=(false,eval e X.env) :: starEach es X.env:=by rfl) (hpl:(backTo pos (starEach es X.env)).any (·.1)=false:=by rfl) :
 PE X (.Call (.Name x p) (e :: es) [] pos) (tMake C sp dvs E t):=by
 intro pins s σ H Q I h
 refine wpAny_Call_Name_kw (ld_glob I hg hm ?_ hdb)
 refine PySem.W.callWith_K (h₀:=X.base) I.ok.mod.kin M.kp (thn (ha pos pins s σ H _ I h) fun us s1 ⟨vs,H1,I1,r,q⟩=>⟨I1.kIn,?_⟩) he hpl
 exact run_make M F hr hb hd hx I1 r q
end
section
variable {X : Cx} {CX : CXT} {k : Nat} {f C : Addr} {fd : FuncData} {ps ks : List Str} {sp : Sp} {E : XK} {x m : Str} {p pos apos kpos : Pos} {e o : Expr} {es : List Expr} {kws : List Keyword} {te ta : TE} {t tk : TA} {nm : Option Str}
variable {g : List Value → List Value → List Value} {gV : List V → List V → List V}
end
structure FnScope (N P:List Str) (sc:Scope):Prop where
 kind:sc.kind=.function
 co:sc.isCoroutine=false
 gen:sc.isGenerator=false
 nd:N.Nodup
 pre:N.take P.length=P
 par:∀x∈P,sc.names.lookup x=some .local∨sc.names.lookup x=some .cell
 nofree:∀y∈sc.names,y.2≠.free
theorem bindL_out {kindOf:Str→Option NameKind} {x:Str}:∀{binds:List (Str×Value)} {m:Str→Option Value},(∀v,(x,v)∉binds)→bindL kindOf binds m x=m x
 | [],_,_=>rfl
 | (n,v) :: r,m,h=>by
   unfold bindL
   rw [bindL_out fun w hw=>h w (List.mem_cons_of_mem _ hw)]
   split
   ·have:x≠n:=by rintro rfl;exact h v List.mem_cons_self
    simp [this]
   ·rfl
theorem bindC_out {kindOf:Str→Option NameKind} {x:Str}:∀{binds:List (Str×Value)} {m:Str→Option Value},(∀v,(x,v)∉binds)→bindC kindOf binds m x=m x
 | [],_,_=>rfl
 | (n,v) :: r,m,h=>by
   unfold bindC
   rw [bindC_out fun w hw=>h w (List.mem_cons_of_mem _ hw)]
   split
   ·rfl
   ·have:x≠n:=by rintro rfl;exact h v List.mem_cons_self
    simp [this]
theorem bindL_get {kindOf:Str→Option NameKind} {x:Str} {v:Value}:∀{P:List Str} {vs:List Value} {i:Nat} {m:Str→Option Value},P.Nodup→P[i]?=some x→vs[i]?=some v→kindOf x=some .local →
 bindL kindOf (P.zip vs) m x=some v
 | [],_,_,_,_,h,_,_=>by simp at h
 | _ :: _,[],_,_,_,_,h,_=>by simp at h
 | p :: P,w :: vs,0,m,nd,h1,h2,hk=>by
   simp at h1 h2;subst h1;subst h2
   show bindL kindOf ((p,w) :: P.zip vs) m p=_
   unfold bindL
   rw [bindL_out fun v hv=>(List.nodup_cons.mp nd).1 (List.of_mem_zip hv).1,if_pos hk]
   simp
 | p :: P,w :: vs,i+1,m,nd,h1,h2,hk=>by
   show bindL kindOf ((p,w) :: P.zip vs) m x=_
   unfold bindL
   exact bindL_get (i:=i) (List.nodup_cons.mp nd).2 (by simpa using h1) (by simpa using h2) hk
theorem bindC_get {kindOf:Str→Option NameKind} {x:Str} {v:Value}:∀{P:List Str} {vs:List Value} {i:Nat} {m:Str→Option Value},P.Nodup→P[i]?=some x→vs[i]?=some v→kindOf x≠some .local →
 bindC kindOf (P.zip vs) m x=some v
 | [],_,_,_,_,h,_,_=>by simp at h
 | _ :: _,[],_,_,_,_,h,_=>by simp at h
 | p :: P,w :: vs,0,m,nd,h1,h2,hk=>by
   simp at h1 h2;subst h1;subst h2
   show bindC kindOf ((p,w) :: P.zip vs) m p=_
   unfold bindC
   rw [bindC_out fun v hv=>(List.nodup_cons.mp nd).1 (List.of_mem_zip hv).1,if_neg hk]
   simp
 | p :: P,w :: vs,i+1,m,nd,h1,h2,hk=>by
   show bindC kindOf ((p,w) :: P.zip vs) m x=_
   unfold bindC
   exact bindC_get (i:=i) (List.nodup_cons.mp nd).2 (by simpa using h1) (by simpa using h2) hk
def start (N:List Str) (vs:List V):St:=vs.map some++List.replicate (N.length - vs.length) none
def cxOf (CX:CXT) (P:Program) (w:World) (K:PySem.W.Frag) (mg:Str→Option Value) (base:Heap) (N:List Str) (qual:Str) (scope:Scope) (f:Addr) (cd:Value) (A:Around) (outer:List Env) (s:Shared) (H:Hp) (E:XK):Cx where
 prog:=P
 w:=w
 K:=K
 mg:=mg
 base:=base
 A:=A.deeper (envOfC qual scope s.heap.objs.size f cd)
 N:=N
 s₀:=s
 H₀:=H
 env:=envOfC qual scope s.heap.objs.size f cd
 outer:=outer
 stack:=envOfC qual scope s.heap.objs.size f cd :: outer
 ex:=[]
 calm:=true
 fn:=fun _=>true
 pn:=[]
 xe:=fun e s'=>wpAny (model P w) (A.deeper (envOfC qual scope s.heap.objs.size f cd)) (leaving (envOfC qual scope s.heap.objs.size f cd) e) (fun _ s''=>CX outer H s E e s'') (fun e' s''=>CX outer H s E e' s'') s'
theorem cell_has {sc:Scope} {n:Nat} {x:Str} (h:sc.names.lookup x=some .cell):∃c,(cellsFrom n sc.names []).lookup x=some c:=by
 have q:=PySem.W.cellsFrom_some sc.names n [] (.inl h)
 exact Option.isSome_iff_exists.mp q
theorem inv_start {CX:CXT} {P:Program} {w:World} {K:PySem.W.Frag} {mg:Str→Option Value} {base:Heap} {N ps:List Str} {qual:Str} {scope:Scope} {f:Addr} {cd:Value} {A:Around} {outer:List Env} {s s1:Shared} {H:Hp} {E:XK} {us:List Value} {vs:List V}
 (S:FnScope N ps scope) (hd:A.handled=none) (e0:Env0 P w K mg base A outer s H) (hl:vs.length=ps.length) (r:Vals vs us)
 (x:InCallC s s.heap.objs.size (bindL (envOfC qual scope s.heap.objs.size f cd).kindOf (ps.zip us) fun _=>none) (cellsFrom (s.heap.objs.size+1) scope.names []) (bindC (envOfC qual scope s.heap.objs.size f cd).kindOf (ps.zip us) fun _=>none) s1) :
 Inv (cxOf CX P w K mg base N qual scope f cd A outer s H E) [] (start N vs) H s1:=by
 have hpl:ps.length≤N.length:=by have:=congrArg List.length S.pre;rw [List.length_take] at this;omega
 obtain ⟨h1,tk,rfl,hk⟩:=x.done
 have noA:∀b:Addr,b∉(cxOf CX P w K mg base N qual scope f cd A outer s H E).ex:=fun b z=>absurd (show b∈([]:List Addr) from z) (by simp)
 refine ⟨⟨e0.mod,S.kind,rfl,rfl,Nat.le_refl _,fun y z c h1 h2=>?_,fun y hy=>?_,fun y c _ h=>?_,fun _=>hd,Around.frames_deeper e0.frames,.inr ⟨rfl,rfl⟩,fun b z=>absurd z (noA b),e0.bs,e0.bsz,fun b _ _=>noA b,fun b z=>absurd z (noA b),e0.funs,e0.frf⟩,
  rfl,e0.bare,Un.kept hk,⟨_,x.toInCall.ns,fun i y v h1 h2 h3=>?_⟩,fun y c h=>⟨_,x.cell y c h⟩,e0.hok.fresh (Nat.le_refl _),fun y c h=>?_,fun p hp=>absurd (show p∈([]:List (Addr×Obj)) from hp) (by simp),e0.hok.kept hk,?_⟩
 ·exact name_of_addr x.apart (PySem.mem_of_lookup h1) (PySem.mem_of_lookup h2)
 ·have hy:scope.names.lookup y=some .cell∨scope.names.lookup y=some .free:=hy
  rcases hy with hy | hy
  ·exact cell_has hy
  ·exact absurd rfl (S.nofree _ (PySem.mem_of_lookup hy))
 ·exact Nat.le_of_lt (x.above y c (PySem.mem_of_lookup h))
 ·have hi:i<vs.length:=by
   unfold start at h2
   by_cases hi:i<vs.length
   ·exact hi
   ·rw [List.getElem?_append_right (by simpa using hi)] at h2
    rw [List.getElem?_replicate] at h2
    split at h2 <;> cases h2
  have ha:vs[i]?=some v:=by
   unfold start at h2
   rw [List.getElem?_append_left (by simpa using hi),List.getElem?_map] at h2
   cases e:vs[i]? with
   | none=>rw [e] at h2;cases h2
   | some a=>rw [e] at h2;cases h2;rfl
  obtain ⟨u,hu,rv⟩:=r.get ha
  have hp:ps[i]?=some y:=by
   rw [←S.pre,List.getElem?_take_of_lt (by omega)];exact h1
  have ndP:ps.Nodup:=by rw [←S.pre];exact S.nd.sublist (List.take_sublist _ _)
  refine ⟨u,rv,?_⟩
  rcases S.par y (List.mem_of_getElem? hp) with k | k
  ·exact .inl ⟨k,bindL_get ndP hp hu k⟩
  ·obtain ⟨c,e⟩:=cell_has (n:=s.heap.objs.size+1) k
   refine .inr ⟨.inl k,c,e,?_⟩
   have q:=x.cell y c e
   rw [bindC_get ndP hp hu (by show scope.names.lookup y≠_;rw [k];decide)] at q
   exact q
 ·exact e0.hok.fresh (Nat.le_of_lt (x.above y c (PySem.mem_of_lookup h)))
 ·unfold start
  show _=N.length
  rw [List.length_append,List.length_map,List.length_replicate]
  omega
theorem fn_of {CX:CXT} {P:Program} {w:World} {K:PySem.W.Frag} {mg:Str→Option Value} {base:Heap} {k:Nat} {f:Addr} {name qual:Str} {params:Arguments} {body:List Stmt} {scope:Scope} {dV kV doc pm cdv ct oc:Value} {an od:Option Addr}
 {osl:Array (Option Value)} {N ps:List Str} {sp:Sp} (lk:K.lookup f=some ⟨oc,od,.func (PySem.W.fnOf name qual params body scope dV kV doc pm an cdv ct),osl⟩) (hcd:PySem.W.codeIn K cdv qual=true) (S:FnScope N ps scope)
 (len:∀vs H Q E,sp vs H Q E→vs.length=ps.length)
 (hbody:∀(A:Around) (outer:List Env) (s:Shared) (H:Hp) (vs:List V) (Q:VK) (E:XK),Room k (A.deeper (envOfC qual scope s.heap.objs.size f cdv))→sp vs H Q E →
   ∃t,PSs (cxOf CX P w K mg base N qual scope f cdv A outer s H E) body t∧t { nx:=fun _ H'=>Q .non H',rt:=Q } (start N vs) H) :
 FnOk P w K mg base CX (k+1) f (PySem.W.fnOf name qual params body scope dV kV doc pm an cdv ct) ps sp:=by
 refine ⟨len,fun A outer s H args us vs Q E hr e0 hb r hsp=>?_⟩
 have hl:=len _ _ _ _ hsp
 have KX:K.In s.heap:=e0.mod.kin.keeps fun b o e=>(e0.bs b o e).1
 have lim:s.heap.NoLimit:=e0.mod.nolimit.keeps fun b o e=>(e0.bs b o e).1
 have hkind:∀y∈ps.zip us,scope.names.lookup y.1=some .local∨(scope.names.lookup y.1=some .cell∧((cellsFrom (s.heap.objs.size+1) scope.names []).lookup y.1).isSome=true):=fun ⟨n,v⟩ hy=>by
  rcases S.par n (List.of_mem_zip hy).1 with q | q
  ·exact .inl q
  ·exact .inr ⟨q,PySem.W.cellsFrom_some _ _ _ (.inl q)⟩
 refine codeAny_call_function hr.depth (KX _ _ lk) rfl S.co S.gen rfl (PySem.W.codeRec_of KX hcd) (hb _ _ _ _ ?_)
 refine wpAny_newFunctionEnv_cells S.kind hkind fun env he s1 x=>?_
 subst he
 refine ⟨lim.keeps x.toInCall.keep,codeAny_func ?_⟩
 obtain ⟨t,ht,hq⟩:=hbody A outer s H vs Q E (hr.deeper _) hsp
 have I:Inv (cxOf CX P w K mg base N qual scope f cdv A outer s H E) [] (start N vs) H s1:=inv_start S hr.hd e0 hl r x
 refine wpAny_mono (ht [] s1 (start N vs) H _ I hq) (fun fl s' hs=>?_) fun e s' hs=>hs
 have fin:∀{σ':St} {H':Hp} {v:V} {u:Value},Inv (cxOf CX P w K mg base N qual scope f cdv A outer s H E) [] σ' H' s'→RelV v u→Q v H'→CE outer P w H s Q u s' :=
  fun {σ' H' v u} J rv q=>⟨v,H',J.os,J.bare,J.base,J.hok,rv,q⟩
 cases fl with
 | ret u =>
   obtain ⟨v,σ',H',J,rv,q⟩:=hs
   exact fin J rv q
 | next =>
   obtain ⟨σ',H',J,q⟩:=hs
   exact fin (v:=V.non) (u:=Value.none) J rfl q
 | brk =>
   obtain ⟨_,_,_,q⟩:=hs
   exact False.elim q
 | cont =>
   obtain ⟨_,_,_,q⟩:=hs
   exact False.elim q
end L2
namespace L2
open PySem PySem.Spec PyProof.Rows
section
variable {X : Cx} {x : Str} {p pos : Pos} {e : Expr} {es : List Expr} {t : TA} {id T : String} {r : List V → Hp → VK → Prop}
def tCB (r:List V→Hp→VK→Prop) (t:TA):TE:=fun σ H Q=>t σ H fun vs H1=>r vs H1 Q
theorem pe_callB (hc:CallR X (.builtin id) r) (hg:Gl X x) (hm:X.mg x=none) (hv:bootBuiltins x=some (.builtin id)) (ha:PA X (e :: es) t) (hn:x≠"__name__":=by decide) (hdb:(x == ("__debug__":Str))=false:=by decide)
 (he:starEach (e :: es) X.env=(false,eval e X.env) :: starEach es X.env:=by rfl) (hpl:(backTo pos (starEach es X.env)).any (·.1)=false:=by rfl):PE X (.Call (.Name x p) (e :: es) [] pos) (tCB r t):=by
 intro pins s σ H Q I h
 refine wpAny_Call_Name_kw (ld_blt I hg hm hv ?_ hn hdb)
 exact PyProof.Rows.callWith_builtin1 (thn (ha pos pins s σ H _ I h) fun us s1 ⟨vs,H1,I1,r1,q1⟩=>hc pins s1 σ H1 vs us Q I1 r1 q1) he hpl
theorem pe_callTy (hc:CallR X (.type T) r) (hg:Gl X x) (hm:X.mg x=none) (hv:bootBuiltins x=some (.type T)) (ha:PA X (e :: es) t) (hn:x≠"__name__":=by decide) (hdb:(x == ("__debug__":Str))=false:=by decide)
 (he:starEach (e :: es) X.env=(false,eval e X.env) :: starEach es X.env:=by rfl) (hpl:(backTo pos (starEach es X.env)).any (·.1)=false:=by rfl):PE X (.Call (.Name x p) (e :: es) [] pos) (tCB r t):=by
 intro pins s σ H Q I h
 refine wpAny_Call_Name_kw (ld_blt I hg hm hv ?_ hn hdb)
 exact PyProof.Rows.callWith_type1 (thn (ha pos pins s σ H _ I h) fun us s1 ⟨vs,H1,I1,r1,q1⟩=>hc pins s1 σ H1 vs us Q I1 r1 q1) he hpl
end
end L2
namespace HT
open PySem PyProof.Rows
section
open PySem.SeqAt
open PySem.AutoSeq1 (wpAny_loadPart')
open PySem.MeetsSeq PySem.MeetsSeq2 PySem.MeetsSeq3
end
section
variable {prog : Program} {w : World} {A : Around} {E : Value → Shared → Prop} {s : Shared}
def sIx (n d:Nat):Option Int→Nat
 | none=>d
 | some v=>if v<0 then (v+(n:Int)).toNat else min v.toNat n
theorem sIx_le (n d:Nat) (hd:d≤n) (o:Option Int):sIx n d o≤n:=by
 cases o with
 | none=>exact hd
 | some v =>
   show (if v<0 then (v+(n:Int)).toNat else min v.toNat n)≤n
   by_cases hv:v<0
   ·rw [if_pos hv];omega
   ·rw [if_neg hv];exact Nat.min_le_right _ _
theorem clip_eq (v:Int) (n d:Nat):(if v<0 then max (v+(n:Int)) 0 else min v (n:Int))=((sIx n d (some v):Nat):Int):=by
 show (if v<0 then max (v+(n:Int)) 0 else min v (n:Int))=(((if v<0 then (v+(n:Int)).toNat else min v.toNat n):Nat):Int)
 by_cases hv:v<0
 ·simp only [if_pos hv];omega
 ·simp only [if_neg hv];omega
theorem adjust_gen (lo hi:Option Int) (n:Nat):Builtin.Slice.sliceAdjust lo hi 1 (n:Int)=(((sIx n 0 lo:Nat):Int),((sIx n n hi:Nat):Int)):=by
 have h1:¬((1:Int)<0):=by omega
 unfold Builtin.Slice.sliceAdjust
 simp only [h1,if_false]
 refine Prod.ext ?_ ?_
 ·cases lo with
  | none=>rfl
  | some v=>exact clip_eq v n 0
 ·cases hi with
  | none=>rfl
  | some v=>exact clip_eq v n n
theorem places_gen (i j:Nat):Builtin.Slice.slicePlaces (i:Int) (j:Int) 1=j - i:=by
 unfold Builtin.Slice.slicePlaces
 have h1:(1:Int) > 0:=by omega
 simp only [h1,if_true,Int.ediv_one]
 split <;> omega
theorem slicePart_ {v:Value} {o:Option Int} {Q:Option Int→Shared→Prop} (p:IsPart v o) (h:Q o s):wpAny (model prog w) A (Builtin.Slice.slicePartIndex v) Q E s:=by
 cases p with
 | none=>exact slicePart_none h
 | int i t=>exact slicePart_int h
theorem sliceApplied_gen {sl:Addr} {vl vu:Value} {lo hi:Option Int} {n:Nat} {Q:Int×Int×Nat→Shared→Prop} (hs:s.heap.IsSliceOf sl vl vu .none) (pl:IsPart vl lo) (pu:IsPart vu hi)
 (h:Q (((sIx n 0 lo:Nat):Int),1,sIx n n hi - sIx n 0 lo) s):wpAny (model prog w) A (Builtin.Slice.sliceApplied (.ref sl) (pure (n:Int))) Q E s:=by
 obtain ⟨os,hos,hcs,hds⟩:=id hs
 unfold Builtin.Slice.sliceApplied Builtin.Slice.sliceFields
 refine wpAny_bind (wpAny_bind (wpAny_field hos hds (x:=vl) rfl (wpAny_bind (wpAny_field hos hds (x:=vu) rfl (wpAny_bind (wpAny_field hos hds (x:=.none) rfl (wpAny_pure ?_)))))))
 refine wpAny_bind (slicePart_none ?_)
 show wpAny _ _ (if ((1:Int) == 0)=true then _ else _) _ _ s
 rw [if_neg (by decide)]
 refine wpAny_bind (slicePart_ pl (wpAny_bind (slicePart_ pu (wpAny_bind (wpAny_pure ?_)))))
 show wpAny _ _ (match Builtin.Slice.sliceAdjust lo hi 1 (n:Int) with | (lo,hi)=>pure (lo,(1:Int),Builtin.Slice.slicePlaces lo hi 1)) _ _ s
 rw [adjust_gen lo hi n]
 show wpAny _ _ (pure (((sIx n 0 lo:Nat):Int),(1:Int),Builtin.Slice.slicePlaces ((sIx n 0 lo:Nat):Int) ((sIx n n hi:Nat):Int) 1)) _ _ s
 rw [places_gen]
 exact wpAny_pure h
theorem pick_gen (xs:Array Value) (i k:Nat):((List.range k).filterMap fun (m:Nat)=>xs[((i:Int)+(m:Int)*1).toNat]?).toArray=((xs.toList.drop i).take k).toArray:=by
 have e:(fun (m:Nat)=>xs[((i:Int)+(m:Int)*1).toNat]?)=fun m=>xs[i+m]?:=by
  funext m
  have:((i:Int)+(m:Int)*1).toNat=i+m:=by omega
  rw [this]
 rw [e]
 have:=pick_run xs i k
 rw [List.filterMap_map] at this
 have e2:((fun x=>xs[x]?)∘fun x=>i+x)=fun m=>xs[i+m]?:=rfl
 rw [e2] at this
 rw [this]
theorem getItem_tuple_cut {t sl:Addr} {items:Array Value} {vl vu:Value} {lo hi:Option Int} {Q:Value→Shared→Prop} (ht:IsTup s.heap t items) (hs:s.heap.IsSliceOf sl vl vu .none) (pl:IsPart vl lo) (pu:IsPart vu hi)
 (hw:¬(sIx items.size 0 lo=0∧sIx items.size items.size hi=items.size))
 (h:Q (.ref s.heap.objs.size) { s with heap:=s.heap.push { cls:=.type "tuple",data:=.seq ((items.toList.drop (sIx items.size 0 lo)).take (sIx items.size items.size hi - sIx items.size 0 lo)).toArray } })
 (hsz:items.size≤sizeLine):wpAny (model prog w) A (getItem (.ref t) (.ref sl)) Q E s:=by
 have htake:sizeOk (.seq ((items.toList.drop (sIx items.size 0 lo)).take (sIx items.size items.size hi - sIx items.size 0 lo)).toArray):=by
  show ((items.toList.drop (sIx items.size 0 lo)).take (sIx items.size items.size hi - sIx items.size 0 lo)).toArray.size≤sizeLine
  rw [List.size_toArray,List.length_take,List.length_drop,Array.length_toList]
  omega
 have hj:sIx items.size items.size hi≤items.size:=sIx_le _ _ (Nat.le_refl _) hi
 obtain ⟨os,hos,hcs,hds⟩:=id hs
 have hTs:s.TypeIs (.ref sl) "slice":=⟨os,hos,hcs⟩
 unfold getItem
 try with_reducible refine wpAny_holding ?_
 first | refine wpAny_bind (wpAny_pure ?_) | skip
 refine wpAny_bind (wpAny_sequenceKey ht.typeIs (by decide) ?_)
 refine wpAny_bind (wpAny_callSpecial?_slot (name:=Str.ofString "__getitem__") ht.typeIs PyProof.Rows.slot_tuple_getitem
  (wpAny_call_entry PyProof.Rows.slot_tuple_getitem ht.typeIs entry_tuple_getitem ?_ (args_tuple_getitem _ _)))
 show wpAny _ _ (Builtin.Tuple.tupleItemsOf (.ref t) >>= _) _ _ s
 refine wpAny_bind (tupleItemsOf_ ht ?_)
 refine wpAny_bind (wpAny_typeOf hTs ?_)
 rw [if_pos (by decide)]
 refine wpAny_bind (sliceApplied_gen hs pl pu ?_)
 have hno:¬((((sIx items.size 0 lo:Nat):Int) == 0 && (1:Int) == 1 && (sIx items.size items.size hi - sIx items.size 0 lo) == items.size)=true):=by
  intro q
  rw [Bool.and_eq_true,Bool.and_eq_true] at q
  have q1:((sIx items.size 0 lo:Nat):Int)=0:=eq_of_beq q.1.1
  have q2:sIx items.size items.size hi - sIx items.size 0 lo=items.size:=eq_of_beq q.2
  exact hw ⟨by omega,by omega⟩
 show wpAny _ _ (if (((sIx items.size 0 lo:Nat):Int) == 0 && (1:Int) == 1 && (sIx items.size items.size hi - sIx items.size 0 lo) == items.size)=true then _ else _) _ _ s
 rw [if_neg hno,pick_gen]
 first
  | exact wpAny_bind (m:=Builtin.Tuple.tupleExact _) (wpAny_newObj_type (wpAny_pure ⟨_,rfl,wpAny_pure h⟩) htake)
  | exact wpAny_bind (m:=Builtin.Tuple.tupleExact _) (wpAny_newObj_type (wpAny_bind (wpAny_pure (wpAny_pure ⟨_,rfl,wpAny_pure h⟩))) htake)
  | exact wpAny_bind (wpAny_bind (m:=Builtin.Tuple.tupleExact _) (wpAny_newObj_type (wpAny_pure (wpAny_pure ⟨_,rfl,wpAny_pure h⟩)) htake))
  | exact wpAny_bind (wpAny_bind (m:=Builtin.Tuple.tupleExact _) (wpAny_newObj_type (wpAny_pure ⟨_,rfl,wpAny_pure h⟩) htake))
end
end HT
namespace L2
open PySem PySem.Spec PyProof.Rows
abbrev TO:=St→Hp→(Option Int→Hp→Prop)→Prop
def PO (X:Cx) (e:Option Expr) (t:TO):Prop :=
 ∀(pins:List (Addr×Obj)) (s:Shared) (σ:St) (H:Hp) (Q:Option Int→Hp→Prop),Inv X pins σ H s→t σ H Q →
  wpAny (model X.prog X.w) X.A (evalPart e X.env) (fun u s'=>∃o H',Inv X pins σ H' s'∧IsPart u o∧Q o H') X.xe s
def tNoPart:TO:=fun _ H Q=>Q none H
inductive tPart_I (Q:(Option Int→Hp→Prop)) (x:V) (H1:Hp):Prop
 | mk:∀i,x=.int i→Q (some i) H1→tPart_I Q x H1
def tPart (t:TE):TO:=fun σ H Q=>t σ H fun x H1=>tPart_I Q x H1
section
variable {X : Cx} {e : Expr} {te : TE} {lo hi : Option Expr} {tl th : TO} {pos p2 : Pos}
theorem po_none:PO X none tNoPart:=by
 intro pins s σ H Q I h
 rw [evalPart_none]
 exact wpAny_pure ⟨none,H,I,.none,h⟩
theorem po_some (h:PE X e te):PO X (some e) (tPart te):=by
 intro pins s σ H Q I hw
 rw [evalPart_some]
 refine thn (h pins s σ H _ I hw) fun u s1 ⟨x,H1,I1,r1,q1⟩=>?_
 obtain ⟨i,rfl,q⟩:=q1
 obtain ⟨t,rfl⟩:=r1
 exact ⟨some i,H1,I1,.int i t,q⟩
def SlR (X:Cx) (r:V→Option Int→Option Int→Hp→VK→Prop):Prop :=
 ∀(pins:List (Addr×Obj)) (s:Shared) (σ:St) (H:Hp) (x:V) (v vl vu:Value) (lo hi:Option Int) (sl:Addr) (Q:VK),Inv X pins σ H s→RelV x v→s.heap.IsSliceOf sl vl vu .none→IsPart vl lo→IsPart vu hi→r x lo hi H Q →
  ∃T id,typeLookup (.type T) "__getitem__"=pure (some (.builtin id))∧s.TypeIs v T∧wpAny (model X.prog X.w) X.A (getItem v (.ref sl)) (EP X pins σ Q) X.xe s
def tSl (r:V→Option Int→Option Int→Hp→VK→Prop) (te:TE) (tl th:TO):TE:=fun σ H Q=>te σ H fun x H1=>tl σ H1 fun l H2=>th σ H2 fun u H3=>r x l u H3 Q
theorem pe_slice {r:V→Option Int→Option Int→Hp→VK→Prop} (hr:SlR X r) (he:PE X e te) (hl:PO X lo tl) (hu:PO X hi th):PE X (.Subscript e (.Slice lo hi none p2) pos) (tSl r te tl th):=by
 intro pins s σ H Q I h
 refine Subscript_ (thn (he pins s σ H _ I h) fun v s1 ⟨x,H1,I1,r1,q1⟩=>?_)
 refine wpAny_Slice (thn (hl pins s1 σ H1 _ I1 q1) fun vl s2 ⟨l,H2,I2,pl,q2⟩=>thn (hu pins s2 σ H2 _ I2 q2) fun vu s3 ⟨u,H3,I3,pu,q3⟩=>?_)
 rw [evalPart_none]
 refine wpAny_pure ?_
 have I4:Inv X pins σ H3 { s3 with heap:=s3.heap.push { cls:=.type "slice",data:=.fields #[vl,vu,.none] } }:=I3.kept (t':=s3.toks) fun b ob q=>Heap.get?_push_of_some _ q
 obtain ⟨T,id,hT,ht,hg⟩:=hr pins { s3 with heap:=s3.heap.push { cls:=.type "slice",data:=.fields #[vl,vu,.none] } } σ H3 x v vl vu l u s3.heap.objs.size Q I4 r1 (Heap.IsSliceOf.new ..) pl pu q3
 show wpAny (model X.prog X.w) X.A (subscriptTail e (.Slice lo hi none p2) v (.ref s3.heap.objs.size)) (EP X pins σ Q) X.xe { s3 with heap:=s3.heap.push { cls:=.type "slice",data:=.fields #[vl,vu,.none] } }
 exact tail_any (ops:=[.ref s3.heap.objs.size,v]) ht hT hg (by with_unfolding_all rfl)
def cutV (xs:List V) (lo hi:Option Int):List V:=(xs.drop (HT.sIx xs.length 0 lo)).take (HT.sIx xs.length xs.length hi - HT.sIx xs.length 0 lo)
theorem cutV_length (xs:List V) (lo hi:Option Int):(cutV xs lo hi).length≤xs.length:=by
 unfold cutV
 rw [List.length_take,List.length_drop]
 omega
inductive rSlT_I (K:PySem.W.Frag) (x:V) (lo:Option Int) (hi:Option Int) (H:Hp) (Q:VK):Prop
 | mk:∀a xs,x=.ref a→SqT K H a xs→¬(HT.sIx xs.length 0 lo=0∧HT.sIx xs.length xs.length hi=xs.length)→(∀p,H p=none→Q (.ref p) (upd H p (.tup (cutV xs lo hi))))→rSlT_I K x lo hi H Q
def rSlT (K:PySem.W.Frag):V→Option Int→Option Int→Hp→VK→Prop:=fun x lo hi H Q=>rSlT_I K x lo hi H Q
theorem sl_tup:SlR X (rSlT X.K):=by
 intro pins s σ H x v vl vu lo hi sl Q I rx hs pl pu h
 obtain ⟨a,xs,rfl,hx,hw,q⟩:=h
 cases rx
 obtain ⟨its,r,ht,hz⟩:=I.tuple hx
 have hlen:its.toArray.size=xs.length:=by rw [List.size_toArray];exact r.length.symm
 refine ⟨"tuple",_,PyProof.Rows.slot_tuple_getitem.lookup,ht.typeIs,?_⟩
 refine HT.getItem_tuple_cut ht hs pl pu (by rw [hlen];exact hw) ?_ (by rw [hlen];exact hz)
 rw [hlen]
 refine ⟨.ref s.heap.objs.size,_,I.laid (t':=s.toks) (o:=.tup (cutV xs lo hi)) (fun b ob q=>Heap.get?_push_of_some _ q) (Nat.le_refl _) ?_,rfl,q _ (I.hok.fresh (Nat.le_refl _))⟩
 exact ⟨Nat.le_trans (cutV_length xs lo hi) hz,_,(r.drop (HT.sIx xs.length 0 lo)).take (HT.sIx xs.length xs.length hi - HT.sIx xs.length 0 lo),IsTup.new _ _⟩
end
end L2
namespace L2
open PySem PySem.Spec PyProof.Rows
def ixN (n:Nat) (i:Int):Option Nat:=if 0≤i then (if i<n then some i.toNat else none) else if -(n:Int)≤i then some (i+n).toNat else none
def atI {α:Type} (xs:List α) (i:Int):Option α:=(ixN xs.length i).bind fun j=>xs[j]?
theorem ixN_seq {n:Nat} {i:Int} {j:Nat} (h:ixN n i=some j):seqIndex? i n=some j∧j<n∧-(n:Int)≤i∧i<n:=by
 unfold ixN at h
 by_cases h0:0≤i
 ·rw [if_pos h0] at h
  by_cases h1:i<n
  ·rw [if_pos h1] at h
   have e:i.toNat=j:=Option.some.inj h
   exact ⟨by rw [seqIndex_of h0 h1,e],by omega,by omega,h1⟩
  ·rw [if_neg h1] at h;cases h
 ·rw [if_neg h0] at h
  by_cases h1 : -(n:Int)≤i
  ·rw [if_pos h1] at h
   have e:(i+n).toNat=j:=Option.some.inj h
   exact ⟨by rw [seqIndex_neg (by omega) h1,e],by omega,h1,by omega⟩
  ·rw [if_neg h1] at h;cases h
theorem atI_get {α:Type} {xs:List α} {i:Int} {v:α} (h:atI xs i=some v):∃j,seqIndex? i xs.length=some j∧xs[j]?=some v∧j<xs.length∧-(xs.length:Int)≤i∧i<xs.length:=by
 unfold atI at h
 cases e:ixN xs.length i with
 | none=>rw [e] at h;cases h
 | some j =>
   rw [e] at h
   obtain ⟨h1,h2,h3,h4⟩:=ixN_seq e
   exact ⟨j,h1,h,h2,h3,h4⟩
theorem atI_nat {α:Type} {xs:List α} {j:Nat} {v:α} (h:xs[j]?=some v):atI xs (j:Int)=some v:=by
 have hj:j<xs.length:=(List.getElem?_eq_some_iff.mp h).1
 have e:ixN xs.length (j:Int)=some j:=by
  unfold ixN
  rw [if_pos (by omega),if_pos (by omega)];simp
 unfold atI;rw [e];exact h
theorem atI_last {α:Type} (xs:List α) (v:α):atI (xs++[v]) (-1)=some v:=by
 have hl:(xs++[v]).length=xs.length+1:=by simp
 have e:ixN (xs++[v]).length (-1)=some xs.length:=by
  unfold ixN
  rw [hl,if_neg (by decide),if_pos (by omega)]
  congr 1
  omega
 unfold atI
 rw [e]
 show (xs++[v])[xs.length]?=some v
 simp
def PlainIx (b:Expr):Prop:=∀o i,subscripted b false o i=operate [o,i] (getItem o i)
def IxR (X:Cx) (r:R2):Prop :=
 ∀(value slice:Expr) (pins:List (Addr×Obj)) (s:Shared) (σ:St) (H:Hp) (x y:V) (v u:Value) (Q:VK),Inv X pins σ H s→RelV x v→RelV y u→r x y H Q →
  subscripted slice false v u=operate [v,u] (getItem v u)→wpAny (model X.prog X.w) X.A (subscriptTail value slice v u) (EP X pins σ Q) X.xe s
def MtR (X:Cx) (id:String) (r:V→List V→Hp→VK→Prop):Prop :=
 ∀(pins:List (Addr×Obj)) (s:Shared) (σ:St) (H:Hp) (x:V) (xs:List V) (v:Value) (us:List Value) (Q:VK),Inv X pins σ H s→RelV x v→Vals xs us→r x xs H Q →
  wpAny (model X.prog X.w) X.A (call (.builtin id) (v :: us)) (EP X pins σ Q) X.xe s
section
variable {X : Cx} {a b : Expr} {ta tb : TE} {pos : Pos}
theorem pe_ix {r:R2} (hr:IxR X r) (ha:PE X a ta) (hb:PE X b tb) (hs:PlainIx b):PE X (.Subscript a b pos) (tOp r ta tb):=by
 intro pins s σ H Q I h
 exact Subscript_ (binT ha hb I h fun v u s2 x y H2 I2 rx ry q=>hr a b pins s2 σ H2 x y v u Q I2 rx ry q (hs _ _))
inductive rIxL_I (K:PySem.W.Frag) (x:V) (y:V) (H:Hp) (Q:VK):Prop
 | mk:∀p xs i v,x=.ref p→y=.int i→SqL K H p xs→atI xs i=some v→Q v H→rIxL_I K x y H Q
def rIxL (K:PySem.W.Frag):R2:=fun x y H Q=>rIxL_I K x y H Q
inductive rIxT_I (K:PySem.W.Frag) (x:V) (y:V) (H:Hp) (Q:VK):Prop
 | mk:∀p xs i v,x=.ref p→y=.int i→SqT K H p xs→atI xs i=some v→Q v H→rIxT_I K x y H Q
def rIxT (K:PySem.W.Frag):R2:=fun x y H Q=>rIxT_I K x y H Q
inductive rIxS_I (x:V) (y:V) (H:Hp) (Q:VK):Prop
 | mk:∀z i c,x=.str z→y=.int i→z.length≤sizeLine→atI z.cps.toList i=some c→Q (.str ⟨#[c]⟩) H→rIxS_I x y H Q
def rIxS:R2:=fun x y H Q=>rIxS_I x y H Q
theorem ix_list:IxR X (rIxL X.K):=by
 intro value slice pins s σ H x y v u Q I rx ry h hs
 obtain ⟨p,xs,i,z,rfl,rfl,hq,he,q⟩:=h
 cases rx
 obtain ⟨t,rfl⟩:=ry
 obtain ⟨its,r,pl,hz⟩:=I.list hq
 obtain ⟨j,h1,h2,h3,h4,h5⟩:=atI_get he
 obtain ⟨w,ew,rw'⟩:=r.get h2
 have hl:=r.length
 have hn:=line63
 have fin:EP X pins σ Q w s:=⟨z,H,I,rw',q⟩
 by_cases h0:0≤i
 ·have hj:i.toNat=j:=by
   rw [seqIndex_of h0 h5] at h1
   exact Option.some.inj h1
  exact item_listR pl.isList h0 (by omega) (by rw [hj];simpa using ew) fin hs
 ·have hj:(i+(its.toArray.size:Int)).toNat=j:=by
   rw [seqIndex_neg (by omega) h4] at h1
   rw [List.size_toArray,←hl]
   exact Option.some.inj h1
  exact subscriptTail_builtinR (x:=w) pl.isList.typeIs slot_list_getitem.lookup
   (wpAny_getItem_list_neg (Q:=fun r s'=>r=w∧EP X pins σ Q r s') pl.isList (by omega) (by rw [List.size_toArray] <;> omega) (by omega) (by rw [hj];simpa using ew) ⟨rfl,fin⟩) hs
theorem ix_tup:IxR X (rIxT X.K):=by
 intro value slice pins s σ H x y v u Q I rx ry h hs
 obtain ⟨p,xs,i,z,rfl,rfl,hq,he,q⟩:=h
 cases rx
 obtain ⟨t,rfl⟩:=ry
 obtain ⟨its,r,pl,hz⟩:=I.tuple hq
 obtain ⟨j,h1,h2,h3,h4,h5⟩:=atI_get he
 obtain ⟨w,ew,rw'⟩:=r.get h2
 have hl:=r.length
 have hn:=line63
 have fin:EP X pins σ Q w s:=⟨z,H,I,rw',q⟩
 exact subscriptTail_builtinR (x:=w) pl.typeIs slot_tuple_getitem.lookup
  (getItem_tuple (j:=j) (Q:=fun r s'=>r=w∧EP X pins σ Q r s') pl (by omega) (by omega) (by rw [List.size_toArray,←hl];exact h1) (by simpa using ew) ⟨rfl,fin⟩) hs
theorem ix_str:IxR X rIxS:=by
 intro value slice pins s σ H x y v u Q I rx ry h hs
 obtain ⟨z,i,c,rfl,rfl,hz,he,q⟩:=h
 obtain ⟨t,rfl⟩:=rx
 obtain ⟨t',rfl⟩:=ry
 obtain ⟨j,h1,h2,h3,h4,h5⟩:=atI_get he
 have hl:z.cps.toList.length=z.length:=by simp [Str.length]
 rw [hl] at h1 h4 h5
 have hn:=line63
 exact tail_any (typeIs_str s z t) slot_str_getitem.lookup (getItem_str (c:=c) (by
  have e1:decide (i < -(2 ^ 63:Int))=false:=decide_eq_false (by omega)
  have e2:decide (i≥2 ^ 63)=false:=decide_eq_false (by omega)
  rw [e1,e2,Bool.or_false]) (by rw [h1];simpa using h2) ⟨.str ⟨#[c]⟩,H,I.tok _,⟨_,rfl⟩,q⟩) hs
theorem slice_bounds (lo hi:Option Int) (n:Nat):(sliceBounds lo hi none n).1=((HT.sIx n 0 lo:Nat):Int)∧(sliceBounds lo hi none n).2.1=((HT.sIx n n hi:Nat):Int)∧(sliceBounds lo hi none n).2.2=1:=by
 refine ⟨?_,?_,rfl⟩
 ·cases lo with
  | none=>simp [sliceBounds,HT.sIx]
  | some i =>
    simp only [sliceBounds,HT.sIx,Option.getD_none,show (1:Int) > 0 by decide,if_true]
    by_cases h:i<0
    ·simp only [h,if_true] <;> omega
    ·simp only [h,if_false] <;> omega
 ·cases hi with
  | none=>simp [sliceBounds,HT.sIx]
  | some i =>
    simp only [sliceBounds,HT.sIx,Option.getD_none,show (1:Int) > 0 by decide,if_true]
    by_cases h:i<0
    ·simp only [h,if_true] <;> omega
    ·simp only [h,if_false] <;> omega
theorem slicePick_cut (its:List Value) (lo hi:Option Int):slicePick its.toArray lo hi none=((its.drop (HT.sIx its.length 0 lo)).take (HT.sIx its.length its.length hi - HT.sIx its.length 0 lo)).toArray:=by
 obtain ⟨h1,h2,h3⟩:=slice_bounds lo hi its.toArray.size
 unfold slicePick
 rw [h1,h2,h3]
 simp only [sliceRange_one,pick_run,List.size_toArray] <;> rfl
inductive rSlL_I (K:PySem.W.Frag) (x:V) (lo:Option Int) (hi:Option Int) (H:Hp) (Q:VK):Prop
 | mk:∀a xs,x=.ref a→SqL K H a xs→(∀p,H p=none→Q (.ref p) (upd H p (.lst (cutV xs lo hi))))→rSlL_I K x lo hi H Q
def rSlL (K:PySem.W.Frag):V→Option Int→Option Int→Hp→VK→Prop:=fun x lo hi H Q=>rSlL_I K x lo hi H Q
theorem sl_list:SlR X (rSlL X.K):=by
 intro pins s σ H x v vl vu lo hi sl Q I rx hs pl pu h
 obtain ⟨a,xs,rfl,hx,q⟩:=h
 cases rx
 obtain ⟨its,r,ht,hz⟩:=I.list hx
 have hlen:=r.length
 refine ⟨"list",_,slot_list_getitem.lookup,ht.isList.typeIs,?_⟩
 refine wpAny_getItem_list_slice ht.isList hs pl pu .none (by simp) ?_ (by rw [List.size_toArray] <;> omega)
 rw [slicePick_cut,←hlen]
 refine ⟨.ref s.heap.objs.size,_,I.laid (t':=s.toks) (o:=.lst (cutV xs lo hi)) (fun b ob q=>Heap.get?_push_of_some _ q) (Nat.le_refl _) ?_,rfl,q _ (I.hok.fresh (Nat.le_refl _))⟩
 exact ⟨Nat.le_trans (cutV_length xs lo hi) hz,_,0,(r.drop (HT.sIx xs.length 0 lo)).take (HT.sIx xs.length xs.length hi - HT.sIx xs.length 0 lo),Heap.get?_push_size _ rfl⟩
def flatV:V→Bool
 | .non=>true
 | .bl _=>true
 | .int _=>true
 | .str _=>true
 | _=>false
def eqV:V→V→Bool
 | .non,.non=>true
 | .bl a,.bl b=>a == b
 | .bl a,.int b=>(if a then 1 else 0) == b
 | .int a,.bl b=>a == (if b then 1 else 0)
 | .int a,.int b=>a == b
 | .str a,.str b=>a == b
 | _,_=>false
theorem eqAt_V {A:Around} {s:Shared} {y x:V} {u v:Value} (ry:RelV y u) (rx:RelV x v) (fy:flatV y=true) (fx:flatV x=true):SeqAt.EqAt A s u v (eqV y x):=by
 cases y with
 | non =>
   cases ry
   cases x with
   | non=>cases rx;exact SeqAt.EqAt.same _
   | bl b=>cases rx;exact SeqAt.EqAt.none_bool b
   | int b=>obtain ⟨t,rfl⟩:=rx;exact SeqAt.EqAt.none_int b t
   | str b=>obtain ⟨t,rfl⟩:=rx;exact SeqAt.EqAt.none_str b t
   | _=>exact absurd (show false=true from fx) Bool.false_ne_true
 | bl a =>
   cases ry
   cases x with
   | non=>cases rx;exact SeqAt.EqAt.bool_none a
   | bl b=>cases rx;exact SeqAt.EqAt.bool_bool a b
   | int b=>obtain ⟨t,rfl⟩:=rx;exact SeqAt.EqAt.bool_int a b t
   | str b=>obtain ⟨t,rfl⟩:=rx;exact SeqAt.EqAt.bool_str a b t
   | _=>exact absurd (show false=true from fx) Bool.false_ne_true
 | int a =>
   obtain ⟨t',rfl⟩:=ry
   cases x with
   | non=>cases rx;exact SeqAt.EqAt.int_none a t'
   | bl b=>cases rx;exact SeqAt.EqAt.int_bool a t' b
   | int b=>obtain ⟨t,rfl⟩:=rx;exact SeqAt.EqAt.int_int a t' b t
   | str b=>obtain ⟨t,rfl⟩:=rx;exact SeqAt.EqAt.int_str a t' b t
   | _=>exact absurd (show false=true from fx) Bool.false_ne_true
 | str a =>
   obtain ⟨t',rfl⟩:=ry
   cases x with
   | non=>cases rx;exact SeqAt.EqAt.str_none a t'
   | bl b=>cases rx;exact SeqAt.EqAt.str_bool a t' b
   | int b=>obtain ⟨t,rfl⟩:=rx;exact SeqAt.EqAt.str_int a t' b t
   | str b=>obtain ⟨t,rfl⟩:=rx;exact SeqAt.EqAt.str_str a t' b t
   | _=>exact absurd (show false=true from fx) Bool.false_ne_true
 | _=>exact absurd (show false=true from fy) Bool.false_ne_true
def eqU (x:V) (u:Value):Bool:=match u with
 | .none=>eqV .non x
 | .bool b=>eqV (.bl b) x
 | .int i _=>eqV (.int i) x
 | .str z _=>eqV (.str z) x
 | _=>false
theorem eqU_of {x y:V} {u:Value} (r:RelV y u) (f:flatV y=true):eqU x u=eqV y x:=by
 cases y with
 | non=>cases r;rfl
 | bl b=>cases r;rfl
 | int i=>obtain ⟨t,rfl⟩:=r;rfl
 | str z=>obtain ⟨t,rfl⟩:=r;rfl
 | _=>exact absurd (show false=true from f) Bool.false_ne_true
theorem any_eqU {x:V}:∀{xs:List V} {us:List Value},Vals xs us→xs.all flatV=true→us.any (eqU x)=xs.any fun y=>eqV y x
 | _,_,.nil,_=>rfl
 | y :: xs,u :: us,.cons r t,f=>by
   rw [List.all_cons,Bool.and_eq_true] at f
   rw [List.any_cons,List.any_cons,eqU_of r f.1,any_eqU t f.2]
theorem mem_eqAt {A:Around} {s:Shared} {x:V} {v:Value} (rx:RelV x v) (fx:flatV x=true):∀{xs:List V} {us:List Value},Vals xs us→xs.all flatV=true→∀u∈us,SeqAt.EqAt A s u v (eqU x u)
 | _,_,.nil,_=>fun u hu=>by cases hu
 | y :: xs,u :: us,.cons r t,f=>fun u' hu=>by
   rw [List.all_cons,Bool.and_eq_true] at f
   rcases List.mem_cons.mp hu with rfl | hu
   ·rw [eqU_of r f.1];exact eqAt_V r rx f.1 fx
   ·exact mem_eqAt rx fx t f.2 u' hu
def inV (x:V) (xs:List V):Bool:=xs.any fun y=>eqV y x
inductive rIn_I (K:PySem.W.Frag) (neg:Bool) (x:V) (y:V) (H:Hp) (Q:VK):Prop
 | mk:∀p xs,y=.ref p→(SqL K H p xs∨SqT K H p xs)→flatV x=true→xs.all flatV=true→Q (.bl (if neg then !inV x xs else inV x xs)) H→rIn_I K neg x y H Q
def rIn (K:PySem.W.Frag) (neg:Bool):R2:=fun x y H Q=>rIn_I K neg x y H Q
theorem op_in_seq:OpR X (compareOp .In) (rIn X.K false):=by
 intro pins s σ H x y v u Q I rx ry h
 obtain ⟨p,xs,rfl,hq,fx,fs,q⟩:=h
 cases ry
 rcases hq with hq | hq
 ·obtain ⟨its,r,pl,hz⟩:=I.list hq
  refine SeqAt.in_listAt (eqU x) pl.isList (fun w hw=>mem_eqAt rx fx r fs w (by simpa using hw)) ⟨.bl _,H,I,rfl,?_⟩
  rw [show its.toArray.any (eqU x)=its.any (eqU x) by simp,any_eqU r fs]
  exact q
 ·obtain ⟨its,r,pl,hz⟩:=I.tuple hq
  refine SeqAt.in_tupleAt (eqU x) pl (fun w hw=>mem_eqAt rx fx r fs w (by simpa using hw)) ⟨.bl _,H,I,rfl,?_⟩
  rw [show its.toArray.any (eqU x)=its.any (eqU x) by simp,any_eqU r fs]
  exact q
theorem op_notIn_seq:OpR X (compareOp .NotIn) (rIn X.K true):=by
 intro pins s σ H x y v u Q I rx ry h
 obtain ⟨p,xs,rfl,hq,fx,fs,q⟩:=h
 cases ry
 rcases hq with hq | hq
 ·obtain ⟨its,r,pl,hz⟩:=I.list hq
  refine SeqAt.notIn_listAt (eqU x) pl.isList (fun w hw=>mem_eqAt rx fx r fs w (by simpa using hw)) ⟨.bl _,H,I,rfl,?_⟩
  rw [show its.toArray.any (eqU x)=its.any (eqU x) by simp,any_eqU r fs]
  exact q
 ·obtain ⟨its,r,pl,hz⟩:=I.tuple hq
  refine SeqAt.notIn_tupleAt (eqU x) pl (fun w hw=>mem_eqAt rx fx r fs w (by simpa using hw)) ⟨.bl _,H,I,rfl,?_⟩
  rw [show its.toArray.any (eqU x)=its.any (eqU x) by simp,any_eqU r fs]
  exact q
theorem call_len_seq:CallR X (.builtin "len") (fun xs H Q=>∃p ys,xs=[.ref p]∧(SqL X.K H p ys∨SqT X.K H p ys)∧Q (.int ys.length) H):=by
 intro pins s σ H xs us Q I r h
 obtain ⟨p,ys,rfl,hq,q⟩:=h
 obtain ⟨u,rfl,rx⟩:=vals1 r
 cases rx
 have hn:=line63
 rcases hq with hq | hq
 ·obtain ⟨its,r',pl,hz⟩:=I.list hq
  have hlen:=r'.length
  exact Calls.call_len_list pl.isList (by simp only [List.size_toArray] <;> omega) ⟨.int ys.length,H,I.tok _,⟨s.toks+1,by rw [List.size_toArray,hlen]⟩,q⟩
 ·obtain ⟨its,r',pl,hz⟩:=I.tuple hq
  have hlen:=r'.length
  exact len_tuple pl (by simp only [List.size_toArray] <;> omega) ⟨.int ys.length,H,I.tok _,⟨s.toks+1,by rw [List.size_toArray,hlen]⟩,q⟩
theorem call_len_str:CallR X (.builtin "len") (fun xs H Q=>∃z,xs=[.str z]∧z.length≤sizeLine∧Q (.int z.length) H):=by
 intro pins s σ H xs us Q I r h
 obtain ⟨z,rfl,hz,q⟩:=h
 obtain ⟨u,rfl,t,rfl⟩:=vals1 r
 have hn:=line63
 exact len_str (by omega) ⟨.int z.length,H,I.tok _,⟨_,rfl⟩,q⟩
def tyV (K:PySem.W.Frag) (T:String) (x:V) (H:Hp):Prop:=match x with
 | .str _=>T="str"
 | .int _=>T="int"
 | .ref p=>(T="list"∧∃xs,SqL K H p xs)∨(T="tuple"∧∃o,K.lookup p=some o∧o.cls=.type "tuple"∧o.dict=none) ∨
    (T="dict"∧((∃kvs,H p=some (.dK kvs))∨∃kvs,H p=some (.dT kvs)))∨(T="set"∧∃S n,H p=some (.set S n))
 | _=>False
theorem tyV_is {pins:List (Addr×Obj)} {σ:St} {H:Hp} {s:Shared} {T:String} {x:V} {v:Value} (I:Inv X pins σ H s) (r:RelV x v) (ty:tyV X.K T x H) :
 s.TypeIs v T∧∀a,v=.ref a→∃ob,s.heap.get? a=some ob∧ob.dict=none:=by
 cases x with
 | str z =>
   obtain ⟨t,rfl⟩:=r
   cases (show T="str" from ty)
   exact ⟨typeIs_str s z t,fun _ e=>nomatch e⟩
 | int i =>
   obtain ⟨t,rfl⟩:=r
   cases (show T="int" from ty)
   exact ⟨typeIs_int s i t,fun _ e=>nomatch e⟩
 | ref p =>
   cases r
   rcases ty with ⟨rfl,xs,hq⟩ | ⟨rfl,o,hk,hc,hd⟩ | ⟨rfl,hk⟩ | ⟨rfl,S,n,hk⟩
   ·obtain ⟨its,_,pl,_⟩:=I.list hq
    refine ⟨pl.isList.typeIs,fun a e=>?_⟩
    cases e
    obtain ⟨o,n,e,c,hd,_⟩:=pl
    exact ⟨o,e,hd⟩
   ·refine ⟨⟨o,I.kIn p o hk,hc⟩,fun a e=>?_⟩
    cases e
    exact ⟨o,I.kIn _ o hk,hd⟩
   ·have z:∃o,s.heap.get? p=some o∧o.ExactDict:=by
     rcases hk with ⟨kvs,hk⟩ | ⟨kvs,hk⟩
     ·obtain ⟨_,_,_,_,o,_,_,e,ex,_⟩:=I.hok p _ hk
      exact ⟨o,e,ex⟩
     ·obtain ⟨_,_,_,_,o,_,_,e,ex,_⟩:=I.hok p _ hk
      exact ⟨o,e,ex⟩
    obtain ⟨o,e,ex⟩:=z
    refine ⟨⟨o,e,ex.1⟩,fun a e2=>?_⟩
    cases e2
    exact ⟨o,e,ex.2.1⟩
   ·obtain ⟨o,_,_,_,e,ex,_⟩:=I.hok p _ hk
    refine ⟨⟨o,e,ex.1⟩,fun a e2=>?_⟩
    cases e2
    exact ⟨o,e,ex.2.1⟩
 | _=>exact False.elim ty
def tBM0 (K:PySem.W.Frag) (T:String) (r:V→List V→Hp→VK→Prop) (to:TE):TE:=fun σ H Q=>to σ H fun x H1=>tyV K T x H1∧r x [] H1 Q
def tBM (K:PySem.W.Frag) (T:String) (r:V→List V→Hp→VK→Prop) (to:TE) (t:TA):TE:=fun σ H Q=>to σ H fun x H1=>tyV K T x H1∧t σ H1 fun xs H2=>r x xs H2 Q
variable {o e : Expr} {es : List Expr} {to : TE} {t : TA} {name : Str} {apos cpos : Pos} {T id : String} {r : V → List V → Hp → VK → Prop}
theorem pe_bm0 (pa:PlainAttrs T) (slot:Slot T name id) (hty:typeOf (.builtin id)=pure (.type "method_descriptor")) (hm:MtR X id r) (ho:PE X o to)
 (hbase:attributeBase o name X.env (eval o X.env)=eval o X.env:=by rfl) (hline:(apos.endLine == cpos.line)=true:=by rfl):PE X (.Call (.Attribute o name apos) [] [] cpos) (tBM0 X.K T r to):=by
 intro pins s σ H Q I h
 refine wpAny_Call_method0_late hbase hline (thn (ho pins s σ H _ I h) fun v s1 ⟨x,H1,I1,r1,ty,q1⟩=>?_)
 obtain ⟨h1,h2⟩:=tyV_is I1 r1 ty
 exact ⟨T,id,pa,slot,hty,h1,h2,Calls.callWith_builtin rfl (PySem.evalArgs_none (hm pins s1 σ H1 x [] v [] Q I1 r1 .nil q1))⟩
theorem pe_bm (pa:PlainAttrs T) (slot:Slot T name id) (hty:typeOf (.builtin id)=pure (.type "method_descriptor")) (hm:MtR X id r) (ho:PE X o to) (ha:PA X (e :: es) t)
 (hbase:attributeBase o name X.env (eval o X.env)=eval o X.env:=by rfl)
 (hfew:((backTo cpos (starEach (e :: es) X.env)).all (fun x=>!x.1) && (backToKw cpos (keywordEach [] X.env)).all (fun x=>x.1.isSome)
   && decide ((e :: es).length+([]:List Keyword).length+(if ([]:List Keyword).isEmpty then 0 else 1)<30))=true:=by rfl)
 (hline:(apos.endLine == cpos.line)=true:=by rfl) (hs:starEach (e :: es) X.env=(false,eval e X.env) :: starEach es X.env:=by rfl) (hplain:(backTo cpos (starEach es X.env)).any (·.1)=false:=by rfl) :
 PE X (.Call (.Attribute o name apos) (e :: es) [] cpos) (tBM X.K T r to t):=by
 intro pins s σ H Q I h
 refine wpAny_Call_method_late hbase hfew hline rfl (thn (ho pins s σ H _ I h) fun v s1 ⟨x,H1,I1,r1,ty,q1⟩=>?_)
 obtain ⟨h1,h2⟩:=tyV_is I1 r1 ty
 refine ⟨T,id,pa,slot,hty,h1,h2,?_⟩
 have hA:=ha cpos pins s1 σ H1 _ I1 q1
 rw [hs] at hA ⊢
 refine Calls.callWith_builtin (by show (false || (backTo cpos (starEach es X.env)).any (·.1))=false;rw [hplain] <;> rfl) (Calls.evalArgs_plain ?_)
 exact thn hA fun us s2 ⟨vs,H2,I2,r2,q2⟩=>hm pins s2 σ H2 x vs v us Q I2 r1 r2 q2
end
end L2
namespace L2
open PySem PySem.Spec PyProof.Rows
def MtM (X:Cx) (id:String) (r:V→List V→Hp→VK→Prop):Prop :=
 ∀(pins:List (Addr×Obj)) (s:Shared) (σ:St) (H:Hp) (x:V) (xs:List V) (v:Value) (us:List Value) (Q:VK),Inv X pins σ H s→RelV x v→Vals xs us→r x xs H Q →
  wpAny (model X.prog X.w) X.A (call (.builtin id) (v :: us)) (EP X pins σ Q) X.xe s
theorem Vals.one:∀{x:V} {us:List Value},Vals [x] us→∃u,us=[u]∧RelV x u
 | _,_,.cons r .nil=>⟨_,rfl,r⟩
theorem Vals.rep {xs:List V} {us:List Value} (h:Vals xs us):∀k:Nat,Vals (List.replicate k xs).flatten (List.replicate k us).flatten
 | 0=>.nil
 | k+1=>by
   rw [List.replicate_succ,List.replicate_succ,List.flatten_cons,List.flatten_cons]
   exact Vals.append h (Vals.rep h k)
theorem foldl_rep (its:List Value):∀(k:Nat) (acc:List Value),
 List.foldl (fun x1 x2=>x1++x2) acc.toArray (List.replicate k its.toArray)=(acc++(List.replicate k its).flatten).toArray
 | 0,acc=>by simp
 | k+1,acc=>by
   have e:acc.toArray++its.toArray=(acc++its).toArray:=by simp
   have e2:(acc++its)++(List.replicate k its).flatten=acc++(List.replicate (k+1) its).flatten:=by
    rw [List.replicate_succ,List.flatten_cons,List.append_assoc]
   rw [←e2,←foldl_rep its k (acc++its),←e,List.replicate_succ,List.foldl_cons]
section
variable {X : Cx} {pins : List (Addr × Obj)} {σ : St} {H : Hp} {s : Shared} {l b : Addr} {xs ys zs : List V}
theorem Inv.lset {its its':List Value} {n:Nat} {f:Array Value→Array Value} {t':Nat} (I:Inv X pins σ H s) (hH:H l=some (.lst xs))
 (e:s.heap.get? l=some { cls:=.type "list",data:=.seq its.toArray n }) (hf:f its.toArray=its'.toArray) (hv:Vals ys its') (hz:ys.length≤sizeLine) :
 Inv X pins σ (upd H l (.lst ys)) { s with heap:=s.heap.update l (Obj.mapSeq f),toks:=t' }:=by
 have q:=PySem.IsL.update e f
 rw [hf] at q
 refine I.write (x:=l) (e:=l) (by rw [hH];exact trivial) (.inl rfl) (fun b' u hb hu=>(Heap.get?_update_other s.heap (Obj.mapSeq f) (Ne.symm hb)).trans hu) ⟨_,q⟩ ?_
 exact ⟨hz,its',_,hv,q⟩
theorem Inv.lnew {its:List Value} {t':Nat} (I:Inv X pins σ H s) (hv:Vals ys its) (hz:ys.length≤sizeLine) :
 Inv X pins σ (upd H s.heap.objs.size (.lst ys)) { s with heap:=s.heap.push { cls:=.type "list",data:=.seq its.toArray },toks:=t' } :=
 I.laid (fun _ _ q=>Heap.get?_push_of_some _ q) (Nat.le_refl _) ⟨hz,its,0,hv,Heap.get?_push_size _ rfl⟩
theorem Inv.fresh (I:Inv X pins σ H s):H s.heap.objs.size=none:=I.hok.fresh (Nat.le_refl _)
theorem Inv.lstM (I:Inv X pins σ H s) (hH:H l=some (.lst xs)):xs.length≤sizeLine∧∃(its:List Value) (n:Nat),Vals xs its∧xs.length=its.length∧s.heap.get? l=some { cls:=.type "list",data:=.seq its.toArray n }:=by
 obtain ⟨z,its,n,r,e⟩:=I.hok l _ hH
 exact ⟨z,its,n,r,r.length,e⟩
theorem notLongL {n:Nat} (h:n≤sizeLine):Builtin.List.listTooLong n=false:=by
 unfold Builtin.List.listTooLong
 exact decide_eq_false (by omega)
end
section
variable {X : Cx}
inductive rAppend_I (x:V) (vs:List V) (H:Hp) (Q:VK):Prop
 | mk:∀l xs y,x=.ref l→vs=[y]→H l=some (.lst xs)→xs.length<sizeLine→Q .non (upd H l (.lst (xs++[y])))→rAppend_I x vs H Q
def rAppend:V→List V→Hp→VK→Prop:=fun x vs H Q=>rAppend_I x vs H Q
theorem mt_append:MtM X "list.append" rAppend:=by
 intro pins s σ H x vs v us Q I rx rv h
 obtain ⟨l,xs,y,rfl,rfl,hH,hz,q⟩:=h
 cases rx
 obtain ⟨u,rfl,ru⟩:=rv.one
 obtain ⟨z,its,n,r,hl,e⟩:=I.lstM hH
 refine call_meets F.slot_list_append ⟨_,e,rfl⟩ F.entry_list_append (F.args_list_append_2 _ _) (PySem.list_append l its.toArray n u (by rw [List.size_toArray];omega)) ⟨e,?_⟩
 refine ⟨.non,_,I.lset (its':=its++[u]) hH e (by simp) (r.append (.cons ru .nil)) ?_,rfl,q⟩
 rw [List.length_append,List.length_singleton]
 omega
inductive rCat_I (x:V) (y:V) (H:Hp) (Q:VK):Prop
 | mk:∀l b xs zs,x=.ref l→y=.ref b→H l=some (.lst xs)→H b=some (.lst zs)→xs.length+zs.length≤sizeLine→(∀p,H p=none→Q (.ref p) (upd H p (.lst (xs++zs))))→rCat_I x y H Q
def rCat:R2:=fun x y H Q=>rCat_I x y H Q
theorem op_cat:OpR X (binaryOp .Add) rCat:=by
 intro pins s σ H x y v u Q I rx ry h
 obtain ⟨l,b,xs,zs,rfl,rfl,hH,hB,hz,q⟩:=h
 cases rx
 cases ry
 obtain ⟨z,its,n,r,hl,e⟩:=I.lstM hH
 obtain ⟨z2,its2,n2,r2,hl2,e2⟩:=I.lstM hB
 refine PySem.P.add_list e e2 ?_ (by rw [List.size_toArray,List.size_toArray];omega)
 have ea:its.toArray++its2.toArray=(its++its2).toArray:=by simp
 rw [ea]
 exact ⟨.ref _,_,I.lnew (t':=s.toks) (r.append r2) (by rw [List.length_append];omega),rfl,q _ I.fresh⟩
inductive rRep_I (x:V) (y:V) (H:Hp) (Q:VK):Prop
 | mk:∀l k xs,x=.ref l→y=.int k→H l=some (.lst xs)→-(2 ^ 63)≤k→k<2 ^ 63→xs.length*k.toNat≤sizeLine→(∀p,H p=none→Q (.ref p) (upd H p (.lst (List.replicate k.toNat xs).flatten)))→rRep_I x y H Q
def rRep:R2:=fun x y H Q=>rRep_I x y H Q
theorem len_rep {α:Type} (xs:List α) (k:Nat):(List.replicate k xs).flatten.length=k*xs.length:=by
 induction k with
 | zero=>simp
 | succ k ih=>rw [List.replicate_succ,List.flatten_cons,List.length_append,ih,Nat.succ_mul,Nat.add_comm]
theorem op_rep:OpR X (binaryOp .Mult) rRep:=by
 intro pins s σ H x y v u Q I rx ry h
 obtain ⟨l,k,xs,rfl,rfl,hH,h1,h2,hz,q⟩:=h
 cases rx
 obtain ⟨t,rfl⟩:=ry
 obtain ⟨z,its,n,r,hl,e⟩:=I.lstM hH
 have hlen:its.toArray.size*k.toNat≤sizeLine:=by rw [List.size_toArray,←hl];exact hz
 have hcap:¬its.toArray.size*k.toNat > (2 ^ 63 - 1) / 8:=by
  have:(sizeLine:Nat)≤(2 ^ 63 - 1) / 8:=by decide
  omega
 have hfit:¬(!Builtin.List.listFitsIndex k)=true:=by
  rw [fitsIndex_both h1 h2]
  exact Bool.false_ne_true
 have hlong:¬Builtin.List.listTooLong (its.toArray.size*k.toNat)=true:=by
  rw [notLongL hlen]
  exact Bool.false_ne_true
 have hnew:List.foldl (fun x1 x2=>x1++x2) #[] (List.replicate (if its.toArray.isEmpty=true then 0 else k.toNat) its.toArray)=(List.replicate k.toNat its).flatten.toArray:=by
  have f0:∀m:Nat,List.foldl (fun x1 x2=>x1++x2) #[] (List.replicate m its.toArray)=(List.replicate m its).flatten.toArray:=fun m=>by
   have:=foldl_rep its m []
   rw [List.nil_append] at this
   exact this
  rw [f0]
  cases its with
  | nil=>simp
  | cons a r'=>rw [if_neg (by simp)]
 refine wpAny_binaryOp_repeat_ref (T:="list") (U:="int") (by decide) ⟨_,e,rfl⟩ (fun s'=>typeIs_int s' k t) noFill_list_mul F.fills_int_mul F.slot_int_rmul repeat_list F.slot_int_index.lookup
  (call_meets F.slot_int_rmul (typeIs_int s k t) F.entry_int_rmul (F.args_int_rmul_2 _ _) (int___rmul___int_list k t l its.toArray n)
    ⟨e,rfl,⟨_,e,rfl⟩,call_meets F.slot_list_mul ⟨_,e,rfl⟩ F.entry_list_mul (F.args_list_mul_2 _ _) (AutoListH.list___mul___list_int_3 l its.toArray n k t hfit hcap hlong) ⟨e,?_⟩⟩)
 rw [hnew]
 exact ⟨.ref _,_,I.lnew (t':=s.toks) (r.rep k.toNat) (by rw [len_rep,Nat.mul_comm];exact hz),rfl,q _ I.fresh⟩
end
section
variable {prog : Program} {w : World} {A : Around} {E : Value → Shared → Prop} {s : Shared}
end
section
variable {X : Cx}
end
end L2
namespace L2
open PySem PySem.Spec PyProof.Rows
section
variable {κ : Type} [DecidableEq κ]
end
section
variable {P : Program} {w : World} {H : Hp} {h : Heap} {a : Addr}
end
section
variable {X : Cx} {pins : List (Addr × Obj)} {σ : St} {H : Hp} {s : Shared} {a : Addr} {y v : V} {u r : Value} {o : Option V} {A : Around} {E : Value → Shared → Prop}
end
section
variable {X : Cx} {pins : List (Addr × Obj)} {σ : St} {H : Hp} {s : Shared} {a : Addr} {kvs : List (Key × V)} {k : Key} {u : Value} {A : Around} {E : Value → Shared → Prop}
end
section
variable {X : Cx} {o i e value : Expr} {pos pos' tpos : Pos} {td ty tv : TE}
end
section
variable {X : Cx} {pos : Pos}
end
section
variable {X : Cx} {pins : List (Addr × Obj)} {σ : St} {H : Hp} {s : Shared} {a : Addr} {y d : V} {u r : Value} {o : Option V} {A : Around} {E : Value → Shared → Prop}
end
section
variable {X : Cx} {o e f : Expr} {apos cpos : Pos} {td ty tx : TE}
end
section
variable {X : Cx} {pins : List (Addr × Obj)} {σ : St} {H : Hp} {s : Shared} {a : Addr} {kvs : List (Key × V)} {A : Around} {E : Value → Shared → Prop}
end
section
variable {X : Cx} {pins : List (Addr × Obj)} {σ : St} {H : Hp} {s : Shared} {a : Addr} {y : V} {u : Value} {A : Around} {E : Value → Shared → Prop}
end
end L2
namespace Att
open PySem PySem.W PySem.Calls PyProof.Rows
theorem ints_of_wellAll {P:Params} {h:Heap}:∀(ns:List Int) (vs:List Value),WellAll P h vs (ns.map WData.int)→IntsAre vs ns:=by
 intro ns
 induction ns with
 | nil =>
   intro vs w
   rw [List.map_nil] at w
   cases w
   exact .nil
 | cons n ns ih =>
   intro vs w
   rw [List.map_cons] at w
   cases w with
   | cons a b =>
     cases a
     exact .cons _ _ (ih _ b)
theorem script_of {l:OpenLaw} {n:Nat} (hn:l.most=some n) {P:Params} {h:Heap} {args:List WData} {vals:List Value}
 (hpre:l.row.toRowW.claim.pre args=true) (hwl:WellAll P h vals args) :
 ∃a vs ns,vals=[Value.ref a]∧args=[WData.list (ns.map WData.int)]∧h.get? a=some { cls:=.type "list",data:=.seq vs.toArray }∧IntsAre vs ns∧ns.length≤n:=by
 have hsh:WShape.hasAll [] args [.list .int]=true:=(pre_splitW hpre).1
 have hc:l.pre.holds [] { args:=args }=true:=(pre_splitW hpre).2
 obtain ⟨d,r,rfl,h1,h2⟩:=hasAllW_cons hsh
 obtain rfl:=hasAllW_nil h2
 obtain ⟨xs,rfl,h3⟩:=hasW_list h1
 obtain ⟨ns,rfl⟩:=items_int h3
 have hlen:ns.length≤n:=by
  unfold OpenLaw.pre at hc
  have h4:(WTm.not (.lt (.lit (.int (n:Int))) (.len (.arg 0)))).holds [] { args:=[.list (ns.map .int)] }=true:=by
   have h4:=(holds_andW hc).1
   rw [hn] at h4
   exact h4
  have h5:=condW_of h4 (w_not (w_lt w_lit (w_len_list (w_arg rfl))))
  rw [List.length_map] at h5
  refine Nat.le_of_not_lt fun q=>?_
  have q':(n:Int)<((ns.length:Nat):Int):=by omega
  first
   | (rw [decide_eq_true q'] at h5;exact absurd h5 (by decide))
   | (simp at h5;omega)
 cases hwl with
 | cons w1 w2 =>
   cases w2
   cases w1 with
   | list ho hall=>exact ⟨_,_,ns,rfl,rfl,ho,ints_of_wellAll ns _ hall,hlen⟩
theorem post_true (l:OpenLaw) (args:List WData):l.row.toRowW.claim.post args (.bool true) args=true :=
 postW_of (r:=l.row.toRowW) (X:=(true == true))
  (show WShape.has [] (.bool true) .bool=true by first | rfl | decide | simp [WShape.has,WShape.arms,WShape.armsAll])
  (show (WTm.eq .res (.lit (.bool true))).value [] { args:=args,res:=some (.bool true),after:=args }=some (.bool (true == true)) from w_eq_bool (w_res rfl) w_lit) rfl
theorem attach_call {l:OpenLaw} {n:Nat} {q:Program} {loose:List Str} {XP:(Str→Option Value)→Heap→Prop} {YP:World→Heap→Prop} {d:DefRec}
 (hn:l.most=some n) (hdf:d.params.defaults=[])
 (call:∀(w:World) (s₀ s₁:Shared) (mg mb:Str→Option Value) (fa:Addr) (o:Obj) (pm cd doc:Value) (a:Addr) (vs:List Value) (ns:List Int),
   Ground q loose [] XP w s₀ mg mb s₁.heap→YP w s₁.heap →
   s₁.heap.get? fa=some o→o.data=.func (docDef d.name d.params d.body d.scope pm cd doc)→s₁.heap.CodeRec cd d.name→mg d.name=some (.ref fa) →
   s₁.heap.get? a=some { cls:=.type "list",data:=.seq vs.toArray }→IntsAre vs ns→ns.length≤n→s₁.gens=#[] →
   codeAny (model l.prog w) callerA (.call (.ref fa) ⟨[.ref a],[]⟩) (fun r s'=>r=.ok (.ret (.bool true))∧OldK s₁.heap s'.heap∧s'.os=s₁.os∧AllBare s'.gens) s₁) :
 WalkO q loose XP YP l.row.toRowW d [] (fun f vs=>PySem.call f vs):=by
 intro w s₀ s₁ mg mb G Y fa o pm cd doc dV kV ho hd hcd hD hmg hg args vals as hpre hlay hrd hwl hlo
 obtain rfl:dV=.none:=Dflts.none hD hdf
 obtain rfl:kV=.none:=Dflts.noKw hD
 obtain ⟨a,vs,ns,rfl,rfl,hobj,hints,hlen⟩:=script_of hn hpre hwl
 refine enter_call (codeAny_mono (call w s₀ s₁ mg mb fa o pm cd doc a vs ns G Y ho (fd_plain hd) hcd hmg hobj hints hlen hg) fun r s' hq=>?_)
 obtain ⟨rfl,h2,h3,h4⟩:=hq
 exact ⟨.inl ⟨.bool true,.bool true,[],rfl,fun _=>rfl,.bool true,post_true l _,fun _=>⟨List.Pairwise.nil,fun _ hm=>(nomatch hm)⟩⟩,h2,h3,h4⟩
section
variable {prog : Program} {w : World} {A : Around} {E : Value → Shared → Prop} {s : Shared} {K : Frag}
end
end Att
namespace L2
open PySem PySem.Spec PyProof.Rows
theorem vals_ints:∀{vs:List Value} {ns:List Int},IntsAre vs ns→Vals (ns.map V.int) vs
 | _,_,.nil=>.nil
 | _,_,.cons n t h=>.cons ⟨t,rfl⟩ (vals_ints h)
def Only (H:Hp):Prop:=∀b,H b=none∨∃o xs,H b=some (.frz o (.lst xs))
theorem law_call {P:Program} {w:World} {K:PySem.W.Frag} {mg mb:Str→Option Value} {CX:CXT} {k:Nat} {fa a:Addr} {fd:FuncData} {x:Str} {sp:Sp} {s₁:Shared} {vs:List Value} {ns:List Int}
 (KX:K.In s₁.heap) (hns:s₁.heap.Ns mainGlobals mg) (hb:s₁.heap.Ns builtinsNs mb) (hbb:∀x:Str,x≠"__name__"→mb x=bootBuiltins x) (hlim:s₁.heap.NoLimit) (hg:s₁.gens=#[])
 (ha:s₁.heap.get? a=some { cls:=.type "list",data:=.seq vs.toArray }) (hi:IntsAre vs ns) (hl:ns.length≤sizeLine) (hr:Room k callerA)
 (F:∀base:Heap,K.In base→base.Ns mainGlobals mg→FnOk P w K mg base CX k fa fd [x] sp) (hbind:∀(s:Shared) (u:Value),BindsTo s fd ⟨[u],[]⟩ [(x,u)])
 (hsp:∀H:Hp,Only H→SqL K H a (ns.map V.int)→sp [.ref a] H (fun v _=>v=.bl true) fun _ _ _=>False)
 (hCX:∀H e s',CX [] H s₁ (fun _ _ _=>False) e s'→False) :
 codeAny (model P w) callerA (.call (.ref fa) ⟨[.ref a],[]⟩) (fun r s'=>r=.ok (.ret (.bool true))∧OldK s₁.heap s'.heap∧s'.os=s₁.os∧AllBare s'.gens) s₁:=by
 have rv:=vals_ints hi
 have lenV:=hi.length
 have core:∀H:Hp,Only H→SqL K H a (ns.map V.int)→HOk P w H s₁.heap→(∀b,H b≠none→b=a)→(H a≠none→K.lookup a=none) →
  codeAny (model P w) callerA (.call (.ref fa) ⟨[.ref a],[]⟩) (fun r s'=>r=.ok (.ret (.bool true))∧OldK s₁.heap s'.heap∧s'.os=s₁.os∧AllBare s'.gens) s₁:=by
  intro H hO hS hok hA hK
  have base_of:∀{b:Addr} {o:Obj},s₁.heap.get? b=some o→H b=none→(hidT s₁.heap H).get? b=some o:=fun e n=>hidT_get e n
  have noA:∀{b:Addr} {o:Obj} {es:Array DictEntry} {ep:Nat},s₁.heap.get? b=some o→o.data=.dict es ep→H b=none:=fun {b o es ep} e d=>by
   cases q:H b with
   | none=>rfl
   | some u =>
     have e':b=a:=hA b (by rw [q];simp)
     subst e'
     rw [ha] at e;cases e
     have d':Data.seq vs.toArray _=Data.dict es ep:=d
     cases d'
  have nsK:∀{b:Addr} {m:Str→Option Value},s₁.heap.Ns b m→(hidT s₁.heap H).Ns b m:=fun {b m} ⟨o,es,ep,e,d,r⟩=>⟨o,es,ep,base_of e (noA e d),d,r⟩
  have hKb:K.In (hidT s₁.heap H):=fun b o e=>base_of (KX b o e) (by
   cases q:H b with
   | none=>rfl
   | some u =>
     have e':b=a:=hA b (by rw [q];simp)
     subst e'
     rw [hK (by rw [q];simp)] at e;cases e)
  have hM:Mod K mg (hidT s₁.heap H):=⟨hKb,nsK hns,⟨mb,nsK hb,hbb⟩,let ⟨mc,h1,h2⟩:=hlim;⟨mc,nsK h1,h2⟩⟩
  have e0:Env0 P w K mg (hidT s₁.heap H) callerA [] s₁ H:=⟨rfl,hM,fun b o e=>of_hidT e,Nat.le_of_eq (hidT_size _ _),trivial,fun b hb=>absurd (show b∈([]:List Addr) from hb) (by simp),hok,.of_eq hg⟩
  refine codeAny_mono ((F _ hKb (nsK hns)).run callerA [] s₁ H ⟨[.ref a],[]⟩ [.ref a] [.ref a] _ _ hr e0 (hbind s₁ (.ref a)) (.cons rfl .nil) (hsp H hO hS)) fun r s' h=>?_
  cases r with
  | error e=>exact (hCX H e s' h).elim
  | ok fl =>
    cases fl with
    | next=>exact False.elim h
    | brk=>exact False.elim h
    | cont=>exact False.elim h
    | ret u =>
      obtain ⟨v,H',os,bare,un,hok',r',q⟩:=h
      have q':v=.bl true:=q
      subst q'
      obtain rfl:u=Value.bool true:=r'
      refine ⟨rfl,OldK.of_keep fun b o e=>?_,os,bare⟩
      cases q:H b with
      | none=>exact un.keep b o e q (by intro z;exact absurd (show b∈([]:List Addr) from z) (by simp)) (by simp)
      | some u =>
        rcases hO b with z | ⟨ob,xs,z⟩
        ·rw [q] at z;cases z
        ·have z2:=un.frzs b ob _ z
         obtain ⟨e1,_⟩:=hok b _ z
         obtain ⟨e2,_⟩:=hok' b _ z2
         rw [e] at e1;cases e1
         exact e2
 cases hk:K.lookup a with
 | some o =>
   have e:=KX a o hk
   rw [ha] at e
   cases e
   refine core (fun _=>none) (fun _=>.inl rfl) (.inr ⟨_,vs.toArray,_,hk,rfl,rfl,rfl,by rw [List.size_toArray,lenV];exact hl,vals_abs rv (fun x hx y t z=>by obtain ⟨i,_,rfl⟩:=List.mem_map.mp hx;cases z)⟩) (fun b u z=>by have z':(none:Option HO)=some u:=z;cases z') (fun b z=>absurd rfl z) fun z=>absurd rfl z
 | none =>
   refine core (fun b=>if b=a then some (.frz { cls:=.type "list",data:=.seq vs.toArray } (.lst (ns.map V.int))) else none) (fun b=>?_) (.inl (.inr ⟨{ cls:=.type "list",data:=.seq vs.toArray },if_pos rfl⟩)) (fun b u z=>?_) (fun b z=>?_) fun _=>hk
   ·by_cases hb:b=a
    ·exact .inr ⟨_,_,if_pos hb⟩
    ·exact .inl (if_neg hb)
   ·by_cases hb:b=a
    ·have z':=(if_pos hb).symm.trans z
     cases z'
     subst hb
     exact ⟨ha,by rw [List.length_map];exact hl,vs,_,rv,ha⟩
    ·have z':=(if_neg hb).symm.trans z
     cases z'
   ·by_cases hb:b=a
    ·exact hb
    ·exact absurd (if_neg hb) z
end L2
namespace L2
open PySem PySem.Spec PyProof.Rows
end L2
namespace L2
open PySem PySem.Spec PyProof.Rows
def inClass (s:Stmt) (j:Nat):Stmt:=match s with
 | .ClassDef _ _ _ body _ _ _ _ _ _ _=>body.getD j (.Pass ⟨0,0,0,0⟩)
 | _=>.Pass ⟨0,0,0,0⟩
def defArgs (s:Stmt):Arguments:=match s with
 | .FunctionDef _ a _ _ _ _ _ _ _ _=>a
 | _=>{ posonlyargs:=[],args:=[],vararg:=none,kwonlyargs:=[],kw_defaults:=[],kwarg:=none,defaults:=[] }
def defBody (s:Stmt):List Stmt:=match s with
 | .FunctionDef _ _ b _ _ _ _ _ _ _=>b
 | _=>[]
def defScope (s:Stmt):Scope:=match s with
 | .FunctionDef _ _ _ _ _ _ sc _ _ _=>sc
 | _=>{ kind:=.function,names:=[],isGenerator:=false,isCoroutine:=false }
abbrev CX0:CXT:=fun _ _ _ _ _ _=>False
abbrev E0:XK:=fun _ _ _=>False
theorem pass0 {X:Cx}:Passes CX0 X E0:=fun _ _ _ _ _ _ _ h=>h.elim
structure Fun (K:PySem.W.Frag) (x qual:Str) (st:Stmt) (f:Addr) (fd:FuncData):Prop where
 ex:∃(oc:Value) (od:Option Addr) (kV doc pm:Value) (an:Option Addr) (cdv ct:Value) (osl:Array (Option Value)),
  fd=PySem.W.fnOf x qual (defArgs st) (defBody st) (defScope st) .none kV doc pm an cdv ct∧K.lookup f=some ⟨oc,od,.func fd,osl⟩∧PySem.W.codeIn K cdv qual=true
 kp:PySem.W.keepIn K (.ref f)=true
section
variable {P : Program} {w : World} {K : PySem.W.Frag} {mg : Str → Option Value} {base : Heap}
theorem Fun.ok {x qual:Str} {st:Stmt} {f:Addr} {fd:FuncData} {N ps:List Str} {k:Nat} {sp:Sp} (F:Fun K x qual st f fd) (S:FnScope N ps (defScope st)) (len:∀vs H Q E,sp vs H Q E→vs.length=ps.length)
 (hbody:∀(cdv:Value) (A:Around) (outer:List Env) (s:Shared) (H:Hp) (vs:List V) (Q:VK) (E:XK),Room k (A.deeper (envOfC qual (defScope st) s.heap.objs.size f cdv))→sp vs H Q E →
   ∃t,PSs (cxOf CX0 P w K mg base N qual (defScope st) f cdv A outer s H E).nox (defBody st) t∧t { nx:=fun _ H'=>Q .non H',rt:=Q } (start N vs) H):FnOk P w K mg base CX0 (k+1) f fd ps sp:=by
 obtain ⟨oc,od,kV,doc,pm,an,cdv,ct,osl,rfl,lk,hcd⟩:=F.ex
 refine fn_of lk hcd S len fun A outer s H vs Q E hr hsp=>?_
 obtain ⟨t,h,q⟩:=hbody cdv A outer s H vs Q E hr hsp
 exact ⟨t,h.nox,q⟩
theorem Fun.binds {x qual:Str} {st:Stmt} {f:Addr} {fd:FuncData} {ps:List Str} (F:Fun K x qual st f fd)
 (h:∀(kV doc pm:Value) (an:Option Addr) (cdv ct:Value) (us:List Value),us.length=ps.length→bindArgs (PySem.W.fnOf x qual (defArgs st) (defBody st) (defScope st) .none kV doc pm an cdv ct) ⟨us,[]⟩=pure (ps.zip us)):Binds K fd ps []:=by
 obtain ⟨oc,od,kV,doc,pm,an,cdv,ct,osl,rfl,lk,hcd⟩:=F.ex
 exact .all (h kV doc pm an cdv ct)
theorem fun_mk {x qual:Str} {st:Stmt} {f:Addr} {oc:Value} {od an:Option Addr} {osl:Array (Option Value)} {kV doc pm cdv ct:Value} (l:K.lookup f=some ⟨oc,od,.func (PySem.W.fnOf x qual (defArgs st) (defBody st) (defScope st) .none kV doc pm an cdv ct),osl⟩)
 (c:PySem.W.codeIn K cdv qual=true) (k:PySem.W.keepIn K (.ref f)=true):Fun K x qual st f (PySem.W.fnOf x qual (defArgs st) (defBody st) (defScope st) .none kV doc pm an cdv ct):=⟨⟨oc,od,kV,doc,pm,an,cdv,ct,osl,rfl,l,c⟩,k⟩
end
theorem small1000 {n:Nat} (h:n≤1000):n<sizeLine:=Nat.lt_of_le_of_lt h (by decide)
section
variable {X : Cx}
theorem pv (i:Nat) {x:Str} {pos:Pos} (hN:X.N[i]?=some x:=by rfl) (hv:Vis X.env.scope x:=by first | exact Or.inl rfl | exact Or.inr (Or.inl rfl) | exact Or.inr (Or.inr rfl)) (hd:(x == ("__debug__":Str))=false:=by decide)
 (hcd:(x == ("__classdict__":Str))=false:=by decide):PE X (.Name x pos) (tVar i):=pe_var hN hv hd hcd
end
theorem iteF {A B:Prop} (h:B):if false=true then A else B:=by
 rw [if_neg Bool.false_ne_true]
 exact h
theorem iteT {A B:Prop} (h:A):if true=true then A else B:=by
 rw [if_pos rfl]
 exact h
theorem ite2 {c A B:Prop} [Decidable c] (h1:c→A) (h2:¬c→B):if c then A else B:=by
 by_cases h:c
 ·rw [if_pos h]
  exact h1 h
 ·rw [if_neg h]
  exact h2 h
def Same (H H':Hp):Prop:=∀b o,H b=some o→H' b=some o
theorem Same.refl (H:Hp):Same H H:=fun _ _ h=>h
theorem Same.trans {H H1 H2:Hp} (a:Same H H1) (b:Same H1 H2):Same H H2:=fun c o h=>b c o (a c o h)
theorem Same.free {H H':Hp} (e:Same H H') {l:Addr} (h:H' l=Option.none):H l=Option.none:=by
 cases q:H l with
 | none=>rfl
 | some o =>
   rw [e l o q] at h
   cases h
theorem Same.seq {K:PySem.W.Frag} {H H':Hp} {a:Addr} {xs:List V} (e:Same H H') (h:SqL K H a xs):SqL K H' a xs:=by
 rcases h with (h | ⟨o,h⟩) | h
 ·exact .inl (.inl (e _ _ h))
 ·exact .inl (.inr ⟨o,e _ _ h⟩)
 ·exact .inr h
end L2
namespace L2
open PySem PySem.Spec PyProof.Rows
section
variable {X : Cx}
end
section
variable {κ : Type} [DecidableEq κ]
end
end L2
set_option maxHeartbeats 4000000
namespace L2
open PySem PySem.Spec PyProof.Rows
def Its (x:Str):It:=⟨fun i _=>i<x.cps.size,fun i H y H'=>H'=H∧∃c,x.cps[i]?=some c∧y=.str ⟨#[c]⟩,fun i _=>i=x.cps.size⟩
theorem turn_strG {P:Program} {w:World} {K:PySem.W.Frag} {tg:Expr} {x:Str} {t:Tok} {it:Addr} {ty:String}
 (hn:["enumerate","zip","dict_itemiterator","dict_reverseitemiterator","odict_iterator","itertools.zip_longest","itertools.pairwise"].contains ty=false)
 (W:∀A':Around,A'.handled=none→Walks P w A' it [it] [it] x.cps.size (SignAt x) (fun i h=>h.IsStrIter it ty x t i))
 (hself:∀(A:Around) (i:Nat) (s:Shared) (Q:Value→Shared→Prop) (E:Value→Shared→Prop),s.heap.IsStrIter it ty x t i→Q (.ref it) s→wpAny (model P w) A (pyIter (.ref it)) Q E s) :
 Turn P w K tg (Its x) [it] it (fun i h=>h.IsStrIter it ty x t i) where
 mem:=List.mem_singleton.mpr rfl
 obj:=fun i h st b hb=>by
  cases List.mem_singleton.mp hb
  obtain ⟨o,q,_,d⟩:=st
  exact ⟨o,q,fun v z=>by rw [d] at z;cases z⟩
 keep:=fun i h h' st k=>by
  obtain ⟨o,q,r⟩:=st
  exact ⟨o,k it (List.mem_singleton.mpr rfl) o q,r⟩
 item:=by
  intro X e1 e2 e3 hc i pins s σ H E I hf st hg
  subst e1 e2 e3
  have F:=hf it (List.mem_singleton.mpr rfl)
  refine (W X.A (I.ok.hd hc)).item i s _ _ hg st fun v h' tk hv st' kk=>?_
  obtain ⟨c,u,hx,rfl⟩:=hv
  have J:Inv X pins σ H { s with heap:=h',toks:=tk }:=I.turned (fun b o hb q=>kk b o (fun z=>hb (List.mem_singleton.mp z)) q) F.1 F.2.1 F.2.2.2.1 F.2.2.2.2.1 F.2.2.2.2.2
  obtain ⟨o,q,cc,d⟩:=id st'
  exact ⟨_,rfl,go_of (s:={ s with heap:=h',toks:=tk }) q cc d hn ⟨.str ⟨#[c]⟩,H,J,⟨u,rfl⟩,⟨rfl,c,hx,rfl⟩,st',fun b hb=>(hf b hb).1⟩⟩
 done:=by
  intro X e1 e2 e3 hc i pins s σ H E I hf st hg
  subst e1 e2 e3
  have F:=hf it (List.mem_singleton.mpr rfl)
  have g:i=x.cps.size:=hg
  subst g
  exact (W X.A (I.ok.hd hc)).done s _ _ st fun h' tk kk=>⟨rfl,I.turned (fun b o hb q=>kk b o (fun z=>hb (List.mem_singleton.mp z)) q) F.1 F.2.1 F.2.2.2.1 F.2.2.2.2.1 F.2.2.2.2.2⟩
 self:=hself
inductive iStr_I (R:(It→Hp→Prop)) (x:V) (H1:Hp):Prop
 | mk:∀y,x=.str y→R (Its y) H1→iStr_I R x H1
def iStr (te:TE):TI:=fun σ H R=>te σ H fun x H1=>iStr_I R x H1
theorem pi_str {X:Cx} {tg l:Expr} {tl:TE} (hl:PE X l tl):PI X tg l (iStr tl):=by
 intro pins s σ H R I h
 refine thn (hl pins s σ H _ I h) fun v s1 ⟨x,H1,I1,r1,y,e,q⟩=>?_
 subst e
 obtain ⟨t,rfl⟩:=r1
 have fp:∀b∈[s1.heap.objs.size],FpOk X pins H1 b:=fun b hb=>by
  cases List.mem_singleton.mp hb
  exact I1.fpOk (Nat.le_refl _) (I1.hok.fresh (Nat.le_refl _))
 cases ha:y.cps.all (·<128)
 ·refine wpAny_pyIter_wide ha ?_
  exact ⟨s1.heap.objs.size,[s1.heap.objs.size],_,_,H1,rfl,I1.kept (t':=s1.toks) fun b o z=>Heap.get?_push_of_some _ z,
   turn_strG (x:=y) (t:=t) (ty:="str_iterator") (by decide) (fun A' hA=>Walks.strWide hA _ y t) (fun _ _ _ _ _ st hq=>wpAny_pyIter_striter_wide st hq),⟨_,Heap.get?_push_size _ rfl,rfl,rfl⟩,fp,q⟩
 ·refine wpAny_pyIter_ascii ha ?_
  exact ⟨s1.heap.objs.size,[s1.heap.objs.size],_,_,H1,rfl,I1.kept (t':=s1.toks) fun b o z=>Heap.get?_push_of_some _ z,
   turn_strG (x:=y) (t:=t) (ty:="str_ascii_iterator") (by decide) (fun A' hA=>Walks.strAscii hA _ y t) (fun _ _ _ _ _ st hq=>wpAny_pyIter_striter_ascii st hq),⟨_,Heap.get?_push_size _ rfl,rfl,rfl⟩,fp,q⟩
def closOf (cells:List (Str×Addr)):List (Str×NameKind)→List (Str×Addr)→List (Str×Addr)
 | [],cs=>cs
 | (n,k) :: r,cs=>closOf cells r (if k == .free then (match cells.lookup n with | some c=>(n,c) :: cs | none=>cs) else cs)
theorem closureFor_of {scope:Scope} {env:Env} (h:∀y∈scope.names,y.2=.free→∃c,env.cells.lookup y.1=some c):closureFor scope env=pure (closOf env.cells scope.names []):=by
 unfold closureFor
 generalize ([]:List (Str×Addr))=cs
 revert cs
 generalize scope.names=names at h
 induction names with
 | nil=>intro cs;rfl
 | cons p r ih =>
   obtain ⟨n,k⟩:=p
   intro cs
   have ih':=ih fun y hy=>h y (List.mem_cons_of_mem _ hy)
   by_cases hk:k=.free
   ·subst hk
    obtain ⟨c,hc⟩:=h (n,.free) List.mem_cons_self rfl
    have e:cellOf env n=pure c:=by unfold cellOf;rw [hc] <;> rfl
    dsimp only at hc ⊢
    rw [List.forIn_cons]
    simp only [beq_self_eq_true,if_true,closOf,hc]
    rw [e]
    exact ih' _
   ·have hb:(k == NameKind.free)=false:=by simpa using hk
    dsimp only
    rw [List.forIn_cons]
    simp only [hb,Bool.false_eq_true,if_false,closOf]
    exact ih' _
theorem closOf_sub {cells:List (Str×Addr)}:∀(names:List (Str×NameKind)) (cs:List (Str×Addr)) {y:Str} {c:Addr},(closOf cells names cs).lookup y=some c→cells.lookup y=some c∨cs.lookup y=some c
 | [],cs,y,c,h=>.inr h
 | (n,k) :: r,cs,y,c,h=>by
   rcases closOf_sub r _ (show (closOf cells r _).lookup y=some c from h) with h1 | h1
   ·exact .inl h1
   ·split at h1
    ·split at h1
     ·rename_i c' hc'
      rw [List.lookup_cons] at h1
      split at h1
      ·rename_i e
       cases h1
       exact .inl (by rw [eq_of_beq e];exact hc')
      ·exact .inr h1
     ·exact .inr h1
    ·exact .inr h1
theorem closOf_keep {cells:List (Str×Addr)}:∀(names:List (Str×NameKind)) (cs:List (Str×Addr)) {y:Str},(∃c,cs.lookup y=some c)→∃c,(closOf cells names cs).lookup y=some c
 | [],cs,y,h=>h
 | (n,k) :: r,cs,y,h=>by
   refine closOf_keep r _ ?_
   split
   ·split
    ·rw [List.lookup_cons]
     split
     ·exact ⟨_,rfl⟩
     ·exact h
    ·exact h
   ·exact h
theorem closOf_has {cells:List (Str×Addr)}:∀(names:List (Str×NameKind)) (cs:List (Str×Addr)) {y:Str},(y,NameKind.free)∈names→(∃c,cells.lookup y=some c)→∃c,(closOf cells names cs).lookup y=some c
 | (n,k) :: r,cs,y,hy,hc=>by
   rcases List.mem_cons.mp hy with e | hy
   ·cases e
    refine closOf_keep r _ ?_
    obtain ⟨c,hc⟩:=hc
    simp only [beq_self_eq_true,if_true,hc]
    exact ⟨c,by simp [List.lookup_cons]⟩
   ·exact closOf_has r _ hy hc
def relF (env:Env) (p:Str×NameKind):Str×NameKind:=if (p.2 == NameKind.free && env.scope.kind == .function && env.kindOf p.1 == some .cell)=true then (p.1,NameKind.cell) else (p.1,p.2)
theorem relF_free {env:Env}:∀{names:List (Str×NameKind)} {x:Str},names.lookup x=some .free→(names.map (relF env)).lookup x=some .cell∨(names.map (relF env)).lookup x=some .free
 | [],_,h=>by simp at h
 | (n,k) :: r,x,h=>by
   have ih:=@relF_free env r x
   rw [List.map_cons]
   unfold relF
   cases hx:x == n with
   | true =>
     rw [List.lookup_cons,hx] at h
     cases h
     by_cases hc:(NameKind.free == NameKind.free && env.scope.kind == .function && env.kindOf n == some .cell)=true
     ·left;rw [if_pos hc,List.lookup_cons,hx]
     ·right;rw [if_neg hc,List.lookup_cons,hx]
   | false =>
     rw [List.lookup_cons,hx] at h
     by_cases hc:(k == NameKind.free && env.scope.kind == .function && env.kindOf n == some .cell)=true
     ·rw [if_pos hc,List.lookup_cons,hx];exact ih h
     ·rw [if_neg hc,List.lookup_cons,hx];exact ih h
theorem lookup_relabel_free {scope:Scope} {env:Env} {x:Str} (h:scope.names.lookup x=some .free):(relabel scope env).names.lookup x=some .cell∨(relabel scope env).names.lookup x=some .free :=
 relF_free (env:=env) h
theorem relabel_kind {scope:Scope} {env:Env} (nc:∀y∈scope.names,y.2≠.cell) {y:Str} (h:(relabel scope env).names.lookup y=some .cell∨(relabel scope env).names.lookup y=some .free):(y,NameKind.free)∈scope.names:=by
 have key:∀k,(relabel scope env).names.lookup y=some k→k=.cell∨k=.free→(y,NameKind.free)∈scope.names:=fun k e hk=>by
  have m:=PySem.mem_of_lookup e
  obtain ⟨⟨n,k'⟩,hm,q⟩:=List.mem_map.mp m
  dsimp only at q
  split at q
  ·rename_i c
   have c1:(k' == NameKind.free)=true:=by
    simp only [Bool.and_eq_true] at c
    exact c.1.1
   have c2:k'=.free:=eq_of_beq c1
   cases q
   rw [c2] at hm
   exact hm
  ·cases q
   rcases hk with z | z
   ·exact absurd z (nc _ hm)
   ·rw [z] at hm;exact hm
 rcases h with h | h
 ·exact key _ h (.inl rfl)
 ·exact key _ h (.inr rfl)
structure CompScope (sc scope:Scope) (N:List Str) (x:Str) (fr:List (Nat×Str)):Prop where
 kind:scope.kind=.function
 loc:scope.names.lookup x=some .local
 names:∀y∈scope.names,y.2=.local→scope.names.lookup y.1=some .local
 nocell:∀y∈scope.names,y.2≠.cell
 free:∀y∈scope.names,y.2=.free→sc.names.lookup y.1=some .cell∨sc.names.lookup y.1=some .free
 frk:∀p∈fr,N[p.1]?=some p.2∧scope.names.lookup p.2=some .free
 nd:(x :: fr.map (·.2)).Nodup
def cxComp (X:Cx) (scope:Scope) (C:Addr) (N:List Str) (s:Shared) (H:Hp) (fp:List Addr):Cx where
 prog:=X.prog
 w:=X.w
 K:=X.K
 mg:=X.mg
 base:=X.base
 A:=X.A
 N:=N
 s₀:=s
 H₀:=H
 env:=compEnvC scope (closOf X.env.cells scope.names []) C X.env
 outer:=X.stack
 stack:=X.stack
 ex:=fp
 fn:=fun _=>false
 calm:=X.calm
 pn:=[]
 xe:=fun _ _=>False
def frV (σ:St) (fr:List (Nat×Str)):St:=fr.map fun p=>(σ[p.1]?).join
def PTs (X:Cx) (ifs:List Expr) (t:TT):Prop :=
 ∀(pins:List (Addr×Obj)) (s:Shared) (σ:St) (H:Hp) (Q:Bool→Hp→Prop),Inv X pins σ H s→t σ H Q →
  wpAny (model X.prog X.w) X.A (forIn ifs true fun c r=>if r=true then do let ok ←isTrue c X.env (eval c X.env);pure (ForInStep.yield ok) else pure (ForInStep.yield r)) (TP X pins σ Q) X.xe s
def tTrue:TT:=fun _ H Q=>Q true H
theorem tTrue_go {σ:St} {H:Hp} {Q:Bool→Hp→Prop} (h:Q true H):tTrue σ H Q:=h
theorem pts_nil {X:Cx}:PTs X [] tTrue:=fun _ _ _ H _ I h=>wpAny_tests_nil ⟨H,I,h⟩
theorem pts_one {X:Cx} {c:Expr} {t:TT} (hc:PT X c t):PTs X [c] t:=fun pins s σ H Q I h=>wpAny_tests_one (hc pins s σ H Q I h)
def compGoal (J:It) (fr:List (Nat×Str)) (tt:TT) (te:TE) (σ:St) (H1:Hp) (Q:VK):Prop:=∀D,H1 D=none →
 ∃W:Nat→Nat→List V→Hp→Prop,(∃m,W 0 m [] (upd H1 D (.lst [])))∧∀i m ys H2,W i m ys H2→H2 D=some (.lst ys) ∧
  ((J.stop i H2∧Q (.ref D) H2)∨(J.go i H2∧∀v H3,J.yld i H2 v H3→tt (some v :: frV σ fr) H3 fun b H4 =>
    if b=true then te (some v :: frV σ fr) H4 fun y H5=>H5 D=some (.lst ys)∧ys.length<sizeLine∧∃m',m'<m∧W (i+1) m' (ys++[y]) (upd H5 D (.lst (ys++[y])))
    else ∃m',m'<m∧W (i+1) m' ys H4))
def tComp (wi:TI) (fr:List (Nat×Str)) (tt:TT) (te:TE):TE:=fun σ H Q=>wi σ H fun J H1=>compGoal J fr tt te σ H1 Q
structure FreshC (X:Cx) (pins:List (Addr×Obj)) (H:Hp) (C:Addr):Prop where
 hn:H C=none
 hL:C≠X.env.locals
 h1:C∈X.ex∨X.s₀.heap.objs.size≤C
 h2:∀x c,X.env.cells.lookup x=some c→c≠C
 h3:∀p∈X.pn++pins,p.1≠C
theorem comp_run {X:Cx} {x:Str} {px:Pos} {iter elt:Expr} {ifs:List Expr} {scope sc:Scope} {pos pos':Pos} {N:List Str} {fr:List (Nat×Str)} {wi:TI} {tt:TT} {te:TE}
 {pins:List (Addr×Obj)} {s:Shared} {σ:St} {H:Hp} {Q:VK} {Q':Value→Shared→Prop} {use:Option (Value→Sem Unit)}
 (S:CompScope sc scope N x fr) (hsc:X.env.scope=sc) (hN:X.N=N) (hc:X.calm=true) (hi:PI X (.Name x px) iter wi)
 (ht:∀(C:Addr) (s:Shared) (H:Hp) (fp:List Addr),PTs (cxComp X scope C (x :: fr.map (·.2)) s H fp) ifs tt)
 (he:∀(C:Addr) (s:Shared) (H:Hp) (fp:List Addr),PE (cxComp X scope C (x :: fr.map (·.2)) s H fp) elt te)
 (hs:∀z,foldedSetIterable iter X.env z=pure z) (I:Inv X pins σ H s) (h:tComp wi fr tt te σ H Q)
 (hfin:∀(D C:Addr) (H':Hp) (s':Shared) (m:Str→Option Value),Inv X pins σ H' s'→s'.heap.Ns C m→FreshC X pins H' C→Q (.ref D) H'→compPost (model X.prog X.w) X.A X.xe use Q' (.ref D) C (.ok .next) s') :
 wpAny (model X.prog X.w) X.A (comprehension (.ListComp elt [⟨.Name x px,iter,ifs,0⟩] scope pos) scope X.env pos' (newList []) false (eval iter X.env) use) Q' X.xe s:=by
 have kin:∀y,scope.names.lookup y=some .free→X.env.kindOf y=some .cell∨X.env.kindOf y=some .free:=fun y hy=>by
  show X.env.scope.names.lookup y=_∨X.env.scope.names.lookup y=_
  rw [hsc]
  exact S.free (y,.free) (PySem.mem_of_lookup hy) rfl
 have kin':∀y∈scope.names,y.2=.free→X.env.kindOf y.1=some .cell∨X.env.kindOf y.1=some .free:=fun y hy hf=>by
  show X.env.scope.names.lookup y.1=_∨X.env.scope.names.lookup y.1=_
  rw [hsc]
  exact S.free y hy hf
 have hkc:∀y∈scope.names,y.2=.free→∃c,X.env.cells.lookup y.1=some c:=fun y hy hf=>I.ok.has y.1 (kin' y hy hf)
 refine wpAny_comprehension_free (use:=use) rfl hs (closureFor_of hkc) S.kind S.names ?_
 refine thn (hi pins s σ H _ I h) fun xv s1 h1=>thn h1 fun itv s2 h2=>?_
 obtain ⟨it,fp,tn,J,H2,rfl,I2,T,st2,f2,q2⟩:=h2
 refine wpAny_newObj_type (wpAny_newFunctionEnv S.nocell (by intro y hy;simp at hy) (fun h₁ hns₁ hsb₁=>?_) S.kind)
 dsimp only at hns₁ hsb₁ ⊢
 have I3:Inv X pins σ (upd H2 s2.heap.objs.size (.lst [])) { s2 with heap:=s2.heap.push { cls:=.type "list",data:=.seq ([]:List Value).toArray } } :=
  I2.lnew (its:=[]) (t':=s2.toks) .nil (Nat.zero_le _)
 unfold compGoal at q2
 obtain ⟨W,⟨m0,w0⟩,turn⟩:=q2 s2.heap.objs.size (I2.hok.fresh (Nat.le_refl _))
 generalize hG:s2.heap.push { cls:=.type "list",dict:=none,data:=.seq ([]:List Value).toArray }=G at hns₁ hsb₁ I3 ⊢
 generalize hD:s2.heap.objs.size=D at I3 turn w0 ⊢
 generalize hH3:upd H2 D (.lst [])=H3 at I3 w0
 have neG:∀b o,G.get? b=some o→b≠G.objs.size:=fun b o e=>Nat.ne_of_lt (Heap.lt_size e)
 have old:∀b o,G.get? b=some o→h₁.get? b=some o:=fun b o e=>(hsb₁.2 b (neG b o e)).trans (Heap.get?_push_of_some _ e)
 have up2:∀b o,s2.heap.get? b=some o→G.get? b=some o:=fun b o e=>by rw [←hG];exact Heap.get?_push_of_some _ e
 have fpG:∀b∈fp,b<G.objs.size:=fun b hb=>by
  obtain ⟨o,e,_⟩:=T.obj _ _ st2 b hb
  exact Heap.lt_size (up2 b o e)
 have sub:∀{y:Str} {c:Addr},(closOf X.env.cells scope.names []).lookup y=some c→X.env.cells.lookup y=some c:=fun {y c} e=>by
  rcases closOf_sub _ _ e with z | z
  ·exact z
  ·simp at z
 have stat0:∀b∈fp,(b∈X.ex∨X.s₀.heap.objs.size≤b)∧b≠X.env.locals∧(∀x c,X.env.cells.lookup x=some c→c≠b)∧∀p∈X.pn++pins,p.1≠b:=fun b hb =>
  ⟨(f2 b hb).2.2.2.1,(f2 b hb).2.1,(f2 b hb).2.2.2.2.1,(f2 b hb).2.2.2.2.2⟩
 have hCL:G.objs.size≠X.env.locals:=Nat.ne_of_gt I3.lt
 have hC1:X.s₀.heap.objs.size≤G.objs.size:=I3.sz
 have hC2:∀x c,X.env.cells.lookup x=some c→c≠G.objs.size:=fun x c e=>by
  obtain ⟨v,o,ho,_⟩:=I3.cell x c e
  exact neG c o ho
 have hC3:∀p∈X.pn++pins,p.1≠G.objs.size:=fun p hp=>neG p.1 p.2 (I3.pin p hp).1
 have okB:(cxComp X scope G.objs.size (x :: fr.map (·.2)) { s2 with heap:=G } H3 fp).Ok:=by
  refine ⟨I2.ok.mod,S.kind,I2.ok.glob,I2.ok.blt,Nat.le_refl _,fun y z c e1 e2=>I2.ok.inj y z c (sub e1) (sub e2),fun y hy=>?_,fun y c z=>Bool.noConfusion z,I2.ok.hd,I2.ok.frames,.inl rfl,fun b hb=>⟨Nat.ne_of_lt (fpG b hb),fun y c e=>(stat0 b hb).2.2.1 y c (sub e)⟩,
   fun b o e=>I3.bs b o e,Nat.le_trans I2.ok.bsz I3.sz,fun b o e hb=>?_,fun b hb hf=>?_,I3.stack,I3.stkFree⟩
  ·have m:=relabel_kind S.nocell hy
   exact closOf_has _ _ m (hkc _ m rfl)
  ·rcases (stat0 b hb).1 with z | z
   ·exact I2.ok.noex b o e z
   ·exact absurd (Nat.lt_of_lt_of_le (Heap.lt_size e) (Nat.le_trans I2.ok.bsz z)) (Nat.lt_irrefl _)
  ·rcases List.mem_cons.mp (I2.stkSub b hf) with z | z
   ·exact (stat0 b hb).2.1 z
   ·exact (f2 b hb).2.2.1 z
 have I4:∀tk:Nat,Inv (cxComp X scope G.objs.size (x :: fr.map (·.2)) { s2 with heap:=G } H3 fp) [] (none :: frV σ fr) H3 { s2 with heap:=h₁,toks:=tk }:=fun tk=>by
  refine ⟨okB,rfl,I2.bare,Un.kept old,⟨_,hns₁,fun i y v e1 e2 _=>?_⟩,fun y c e=>?_,I3.hok.fresh (Nat.le_refl _),fun y c e=>I3.freeC y c (sub e),fun p hp=>absurd (show p∈([]:List (Addr×Obj)) from hp) (by simp),I3.hok.kept old,?_⟩
  ·cases i with
   | zero=>simp at e2
   | succ i =>
     have e1':(fr.map (·.2))[i]?=some y:=e1
     have e2':(fr.map fun p=>(σ[p.1]?).join)[i]?=some (some v):=e2
     rw [List.getElem?_map] at e1' e2'
     cases hp:fr[i]? with
     | none=>rw [hp] at e1';cases e1'
     | some p =>
       rw [hp] at e1' e2'
       have ey:p.2=y:=Option.some.inj e1'
       have ev:(σ[p.1]?).join=some v:=Option.some.inj e2'
       have ev':σ[p.1]?=some (some v):=by
        cases q:σ[p.1]? with
        | none=>rw [q] at ev;cases ev
        | some o=>rw [q] at ev;simp only [Option.join] at ev;exact congrArg some ev
       have hf:=S.frk p (List.mem_of_getElem? hp)
       rw [ey] at hf
       have hk:=kin y hf.2
       obtain ⟨m,_,hl⟩:=I2.loc
       obtain ⟨u,ru,l⟩:=hl p.1 y v (by rw [hN];exact hf.1) ev' (.inr hk)
       refine ⟨u,ru,.inr ⟨lookup_relabel_free hf.2,?_⟩⟩
       rcases l with ⟨k,_⟩ | ⟨_,c,e,z⟩
       ·rcases hk with hk | hk
        ·rw [hk] at k;cases k
        ·rw [hk] at k;cases k
       ·obtain ⟨c',ec⟩:=closOf_has (cells:=X.env.cells) scope.names [] (PySem.mem_of_lookup hf.2) ⟨c,e⟩
        have:=sub ec
        rw [e] at this
        cases this
        obtain ⟨o,ho,hd⟩:=z
        exact ⟨c,ec,o,old c o (up2 c o ho),hd⟩
  ·obtain ⟨v,o,ho,hd⟩:=I2.cell y c (sub e)
   exact ⟨v,o,old c o (up2 c o ho),hd⟩
  ·show (none :: frV σ fr).length=(x :: fr.map (·.2)).length
   simp [frV]
 have locX:(cxComp X scope G.objs.size (x :: fr.map (·.2)) { s2 with heap:=G } H3 fp).env.scope.names.lookup x=some .local:=lookup_relabel_local S.loc
 generalize hX:cxComp X scope G.objs.size (x :: fr.map (·.2)) { s2 with heap:=G } H3 fp=Y at I4 locX
 have eP:Y.prog=X.prog:=by rw [←hX];rfl
 have eW:Y.w=X.w:=by rw [←hX];rfl
 have eK:Y.K=X.K:=by rw [←hX];rfl
 have eA:Y.A=X.A:=by rw [←hX];rfl
 have eC:Y.calm=true:=by rw [←hX];exact hc
 have eE:Y.env=compEnvC scope (closOf X.env.cells scope.names []) G.objs.size X.env:=by rw [←hX];rfl
 have eN:Y.N=x :: fr.map (·.2):=by rw [←hX];rfl
 have eX:Y.xe=fun _ _=>False:=by rw [←hX];rfl
 have eB:∀{σ':St} {H':Hp} {s':Shared} {pins':List (Addr×Obj)},Inv Y pins' σ' H' s'→s'.os=s2.os∧Un (frs X.stack) fp H3 H' G s'.heap:=fun {σ' H' s' pins'} J=>by
  subst hX
  exact ⟨J.os,J.base⟩
 have hT:=ht G.objs.size { s2 with heap:=G } H3 fp
 have hE:=he G.objs.size { s2 with heap:=G } H3 fp
 rw [hX] at hT hE
 have fpY:∀{H':Hp},(∀b∈fp,H' b=none)→∀b∈fp,FpOk Y [] H' b:=fun {H'} hn b hb=>by
  subst hX
  refine ⟨hn b hb,Nat.ne_of_lt (fpG b hb),okB.exfs b hb,.inl hb,fun y c e=>(okB.exf b hb).2 y c e,fun p hp=>absurd (show p∈([]:List (Addr×Obj)) from hp) (by simp)⟩
 have loop:∀s3:Shared,(∃tk,s3={ s2 with heap:=h₁,toks:=tk }) →
  codeAny (model X.prog X.w) X.A (.compLoop (.ListComp elt [⟨.Name x px,iter,ifs,0⟩] scope pos) 0 (.ref it) (.ref D) Y.env)
   (compPost (model X.prog X.w) X.A X.xe use Q' (.ref D) G.objs.size) s3:=by
  rintro s3 ⟨tk,rfl⟩
  refine codeAny_compLoop_tests (fun n s'=>∃i ys o H',Inv Y [] (o :: frV σ fr) H' s'∧tn i s'.heap∧(∀b∈fp,H' b=none)∧W i n ys H') ?_ m0
   ⟨0,[],none,H3,I4 tk,T.keep _ _ _ st2 fun b hb o e=>old b o (up2 b o e),fun b hb=>?_,w0⟩
  ·rintro n s' ⟨i,ys,o,H',J',st',fr',w'⟩
   obtain ⟨hD',hgo⟩:=turn i n ys H' w'
   rcases hgo with ⟨stop,qn⟩ | ⟨go,step⟩
   ·have Q1:=T.done Y eP eW eK eC i [] s' (o :: frV σ fr) H' (notedBy (model X.prog X.w) X.A Y.env fun e s''=>compPost (model X.prog X.w) X.A X.xe use Q' (.ref D) G.objs.size (.error e) s'') J' (fpY fr') st' stop
    rw [eA] at Q1
    refine thn Q1 fun r s4 ⟨hr,J4⟩=>?_
    subst hr
    obtain ⟨m,hn,_⟩:=J4.loc
    rw [eE] at hn
    obtain ⟨os4,u4⟩:=eB J4
    have free4:H' G.objs.size=none:=by have:=J4.free;rw [eE] at this;exact this
    have hok4:HOk X.prog X.w H' s4.heap:=by have:=J4.hok;rw [eP,eW] at this;exact this
    exact hfin D G.objs.size H' s4 m (I3.call' (ch:=fp) (s':=s4) os4 u4 hok4 J4.bare stat0) hn ⟨free4,hCL,.inr hC1,hC2,hC3⟩ qn
   ·have Q1:=T.item Y eP eW eK eC i [] s' (o :: frV σ fr) H' (notedBy (model X.prog X.w) X.A Y.env fun e s''=>compPost (model X.prog X.w) X.A X.xe use Q' (.ref D) G.objs.size (.error e) s'') J' (fpY fr') st' go
    rw [eA] at Q1
    refine thn Q1 fun r s4 ⟨u,hr,h4⟩=>?_
    subst hr
    show wpAny _ _ (letOwnedTupleGo (.Name x px) (.ref it) u >>= fun _=>assign (.Name x px) Y.env u) _ _ s4
    refine wpAny_bind (thn h4 fun _ s5 ⟨v,H5,J5,r5,y5,st5,fr5⟩=>?_)
    have J5':=J5.pinned (fpY fr5) (T.obj _ _ st5)
    have G5:=pg_name (X:=Y) (i:=0) (x:=x) (pos:=px) (by rw [eN];exact S.nd) (by rw [eN];rfl) (.inl locX) (.inr locX) ([]++pinsAt fp s5.heap) s5 (o :: frV σ fr) H5 v u (fun σ6 H6=>σ6=some v :: frV σ fr∧H6=H5) J5' r5 ⟨rfl,rfl⟩
    rw [eP,eW,eA,eX] at G5
    refine wpAny_mono G5 (fun _ s6 ⟨σ6,H6,J6,e6,e6'⟩=>?_) fun _ _ z=>z.elim
    subst e6 e6'
    have T6:=hT _ s6 _ _ _ J6 (step v _ y5)
    rw [eP,eW,eA,eX] at T6
    have again:∀{s7:Shared} {H7:Hp} {zs:List V},Inv Y ([]++pinsAt fp s5.heap) (some v :: frV σ fr) H7 s7→(∃m',m'<n∧W (i+1) m' zs H7)→∃m,m<n∧∃i ys o H',Inv Y [] (o :: frV σ fr) H' s7∧tn i s7.heap∧(∀b∈fp,H' b=none)∧W i m ys H':=fun {s7 H7 zs} J7 ⟨m',hm,w7⟩=>by
     refine ⟨m',hm,i+1,zs,some v,H7,J7.unpinned,T.keep _ _ _ st5 fun b hb o e=>(J7.pin (b,o) (List.mem_append_right _ (List.mem_append_right _ (mem_pinsAt hb e)))).1,fun b hb=>?_,w7⟩
     obtain ⟨o,e,d⟩:=T.obj _ _ st5 b hb
     exact (J7.pin (b,o) (List.mem_append_right _ (List.mem_append_right _ (mem_pinsAt hb e)))).2.1
    refine wpAny_mono T6 (fun ok s7 ⟨H7,J7,q7⟩=>?_) fun _ _ z=>z.elim
    cases ok with
    | false=>exact again J7 q7
    | true =>
      have E7:=hE _ s7 _ _ _ J7 q7
      rw [eP,eW,eA,eX] at E7
      show wpAny _ _ (eval elt Y.env) _ _ s7
      refine wpAny_mono E7 (fun u8 s8 ⟨y8,H8,J8,r8,hD8,hz8,w8⟩=>?_) fun _ _ z=>z.elim
      have A8:=mt_append (X:=Y) _ s8 _ H8 (.ref D) [y8] (.ref D) [u8] (fun z H9=>H9=upd H8 D (.lst (ys++[y8]))) J8 rfl (.cons r8 .nil) ⟨D,ys,y8,rfl,rfl,hD8,hz8,rfl⟩
      rw [eP,eW,eA,eX] at A8
      refine wpAny_mono A8 (fun _ s9 ⟨z9,H9,J9,_,e9⟩=>?_) fun _ _ z=>z.elim
      subst e9
      exact again J9 w8
  ·rw [←hH3]
   have hbD:b≠D:=by
    rw [←hD]
    obtain ⟨o,e,_⟩:=T.obj _ _ st2 b hb
    exact Nat.ne_of_lt (Heap.lt_size e)
   rw [upd_ne hbD]
   exact (f2 b hb).1
 rw [eE] at loop
 exact codeAny_compStart_list (loop _ ⟨_,rfl⟩) (T.self _ 0 _ _ _ (T.keep _ _ _ st2 fun b hb o e=>old b o (up2 b o e)) (loop _ ⟨_,rfl⟩))
theorem pe_comp {X:Cx} {x:Str} {px:Pos} {iter elt:Expr} {ifs:List Expr} {scope sc:Scope} {pos:Pos} {N:List Str} {fr:List (Nat×Str)} {wi:TI} {tt:TT} {te:TE}
 (S:CompScope sc scope N x fr) (hsc:X.env.scope=sc) (hN:X.N=N) (hc:X.calm=true) (hi:PI X (.Name x px) iter wi)
 (ht:∀(C:Addr) (s:Shared) (H:Hp) (fp:List Addr),PTs (cxComp X scope C (x :: fr.map (·.2)) s H fp) ifs tt)
 (he:∀(C:Addr) (s:Shared) (H:Hp) (fp:List Addr),PE (cxComp X scope C (x :: fr.map (·.2)) s H fp) elt te)
 (hs:∀z,foldedSetIterable iter X.env z=pure z:=by intro _;rfl) :
 PE X (.ListComp elt [⟨.Name x px,iter,ifs,0⟩] scope pos) (tComp wi fr tt te):=by
 intro pins s σ H Q I h
 rw [eval_ListComp]
 refine comp_run (use:=none) S hsc hN hc hi ht he hs I h fun D C H' s' m J hn fc q=>?_
 exact ⟨m,hn,fun h' hs'=>⟨.ref D,H',J.turned (t':=s'.toks) (fun b o hb e=>(hs'.2 b hb).trans e) fc.hn fc.hL fc.h1 fc.h2 fc.h3,rfl,q⟩⟩
theorem all_range {bs:List Bool}:(List.range bs.length).all (fun i=>bs.getD i true)=bs.all id:=by
 rw [Bool.eq_iff_iff,List.all_eq_true,List.all_eq_true]
 constructor
 ·intro h b hb
  obtain ⟨i,hi,e⟩:=List.mem_iff_getElem.mp hb
  have q:=h i (List.mem_range.mpr hi)
  simp only [List.getD_eq_getElem?_getD,List.getElem?_eq_getElem hi,Option.getD_some] at q
  rw [←e];exact q
 ·intro h i hi
  have hi':=List.mem_range.mp hi
  simp only [List.getD_eq_getElem?_getD,List.getElem?_eq_getElem hi',Option.getD_some]
  exact h _ (List.getElem_mem hi')
theorem call_all {X:Cx} (hc:X.calm=true):CallR X (.builtin "all") (fun xs H Q=>∃(p:Addr) (bs:List Bool),xs=[.ref p]∧SqL X.K H p (bs.map V.bl)∧Q (.bl (bs.all id)) H):=by
 intro pins s σ H xs us Q I r h
 obtain ⟨p,bs,rfl,hq,q⟩:=h
 obtain ⟨u,rfl,rx⟩:=vals1 r
 cases rx
 obtain ⟨its,rv,pl,hz⟩:=I.list hq
 have hlen:=rv.length
 rw [List.length_map] at hlen
 have hpl:p<s.heap.objs.size:=by obtain ⟨o,e,_⟩:=pl.isList;exact Heap.lt_size e
 refine call_all_walk (wpAny_pyIter_list pl.isList ?_)
 refine ⟨s.heap.objs.size,_,[s.heap.objs.size],its.toArray.size,_,_,fun i=>bs.getD i true,rfl,Walks.list (A:=X.A.in1) (I.ok.hd hc) s.heap.objs.size p (Nat.ne_of_lt hpl) its.toArray,⟨⟨_,Heap.get?_push_size _ rfl,rfl,rfl⟩,pl.isList.push _⟩,?_,?_⟩
 ·intro i v s' Q' E' hv hq'
  have hv':its[i]?=some v:=by simpa using hv
  have hi:i<its.length:=(List.getElem?_eq_some_iff.mp hv').1
  have hb:(bs.map V.bl)[i]?=some (V.bl (bs.getD i true)):=by
   rw [List.getElem?_map,List.getElem?_eq_getElem (by omega)]
   simp [List.getD_eq_getElem?_getD,List.getElem?_eq_getElem (show i<bs.length by omega)]
  obtain ⟨u,e1,e2⟩:=rv.get hb
  rw [hv'] at e1
  cases e1
  cases e2
  exact wpAny_truthy_bool hq'
 ·intro h' tk hk
  have hsz:its.toArray.size=bs.length:=by rw [List.size_toArray];exact hlen.symm
  rw [hsz,all_range]
  exact ⟨.bl (bs.all id),H,I.kept (t':=tk) fun b o e=>hk b o (fun z=>absurd (Heap.lt_size e) (by rw [List.mem_singleton.mp z];exact Nat.lt_irrefl _)) (Heap.get?_push_of_some _ e),rfl,q⟩
def clsV:V→Option Value
 | .ty n=>some (.type n)
 | .ref a=>some (.ref a)
 | _=>none
theorem call_isinst {X:Cx}:CallR X (.builtin "isinstance") (fun xs H Q=>∃x c cv t b,xs=[x,c]∧clsV c=some cv∧TyOf X.K H x t∧PySem.W.kitOne X.K t cv=some b∧Q (.bl b) H):=by
 intro pins s σ H xs us Q I r h
 obtain ⟨x,c,cv,t,b,rfl,hcv,ty,hk,q⟩:=h
 obtain ⟨u,u',rfl,rx,rc⟩:=vals2 r
 have e:u'=cv:=by
  cases c with
  | ty n=>cases hcv;exact rc
  | ref a=>cases hcv;exact rc
  | _=>cases hcv
 subst e
 exact isinst_ok I rx ty hk fun tk=>⟨.bl b,H,I.tok tk,rfl,q⟩
theorem strsAre_of {xs:List Str}:∀{us:List Value},Vals (xs.map V.str) us→StrsAre us xs:=by
 induction xs with
 | nil=>intro us r;rw [List.map_nil] at r;cases r;exact .nil
 | cons y ys ih =>
   intro us r
   rw [List.map_cons] at r
   cases r with
   | cons r1 r2 =>
     obtain ⟨t,e⟩:=r1
     subst e
     exact .cons y t (ih r2)
inductive rJoin_I (K:PySem.W.Frag) (x:V) (xs:List V) (H:Hp) (Q:VK):Prop
 | mk:∀(sep:Str) (p:Addr) (ys:List Str),x=.str sep→xs=[.ref p]→SqL K H p (ys.map V.str)→(ys.map (·.length)).sum+ys.length*sep.length≤16777216→Q (.str (Txt.join sep ys)) H→rJoin_I K x xs H Q
def rJoin (K:PySem.W.Frag):V→List V→Hp→VK→Prop:=fun x xs H Q=>rJoin_I K x xs H Q
theorem mt_join {X:Cx}:MtR X "str.join" (rJoin X.K):=by
 intro pins s σ H x xs v us Q I rx rv h
 obtain ⟨sep,p,ys,rfl,rfl,hq,hz,q⟩:=h
 obtain ⟨t,rfl⟩:=rx
 obtain ⟨u,rfl,ru⟩:=vals1 rv
 cases ru
 obtain ⟨its,r,pl,_⟩:=I.list hq
 exact join_list pl.isList (by have:=strsAre_of r;simpa using this) hz fun t' k=>⟨.str (Txt.join sep ys),H,I.tok k,⟨t',rfl⟩,q⟩
inductive rSlS_I (x:V) (lo:Option Int) (hi:Option Int) (H:Hp) (Q:VK):Prop
 | mk:∀y,x=.str y→y.length≤sizeLine→Q (.str (Txt.slice y lo hi)) H→rSlS_I x lo hi H Q
def rSlS:V→Option Int→Option Int→Hp→VK→Prop:=fun x lo hi H Q=>rSlS_I x lo hi H Q
theorem sl_str {X:Cx}:SlR X rSlS:=by
 intro pins s σ H x v vl vu lo hi sl Q I rx hs pl pu h
 obtain ⟨y,rfl,hz,q⟩:=h
 obtain ⟨t,rfl⟩:=rx
 refine ⟨"str",_,F.slot_str_getitem.lookup,typeIs_str _ _ _,?_⟩
 have fin:∀lo hi,Q (.str (Txt.slice y lo hi)) H→(Txt.slice y lo hi).length≤sizeLine∧∀t' k,EP X pins σ Q (.str (Txt.slice y lo hi) t') { s with toks:=k }:=fun lo hi q =>
  ⟨Nat.le_trans (Txt.slice_le y _ _) hz,fun t' k=>⟨.str _,H,I.tok k,⟨t',rfl⟩,q⟩⟩
 cases pl with
 | none =>
   cases pu with
   | none=>exact wpAny_getItem_str_slice (l:=none) (u:=none) (st:=none) hs rfl (post_val_or_str (fin _ _ q))
   | int j tj=>exact wpAny_getItem_str_slice (l:=none) (u:=some (j,tj)) (st:=none) hs rfl (post_val_or_str (fin _ _ q))
 | int i ti =>
   cases pu with
   | none=>exact wpAny_getItem_str_slice (l:=some (i,ti)) (u:=none) (st:=none) hs rfl (post_val_or_str (fin _ _ q))
   | int j tj=>exact wpAny_getItem_str_slice (l:=some (i,ti)) (u:=some (j,tj)) (st:=none) hs rfl (post_val_or_str (fin _ _ q))
mutual
inductive RD (K:PySem.W.Frag) (H:Hp):V→PyData→Prop
 | non:RD K H .non .none
 | bl (b:Bool):RD K H (.bl b) (.bool b)
 | int (i:Int):RD K H (.int i) (.int i)
 | str (x:Str):RD K H (.str x) (.str x)
 | lst {a:Addr} {xs:List V} {ds:List PyData}:SqL K H a xs→RDs K H xs ds→RD K H (.ref a) (.list ds)
 | tup {a:Addr} {xs:List V} {ds:List PyData}:SqT K H a xs→RDs K H xs ds→RD K H (.ref a) (.tuple ds)
inductive RDs (K:PySem.W.Frag) (H:Hp):List V→List PyData→Prop
 | nil:RDs K H [] []
 | cons {x:V} {xs:List V} {d:PyData} {ds:List PyData}:RD K H x d→RDs K H xs ds→RDs K H (x :: xs) (d :: ds)
end
mutual
theorem RD.reads {X:Cx} {pins:List (Addr×Obj)} {σ:St} {H:Hp} {s:Shared} (I:Inv X pins σ H s):∀{x:V} {d:PyData} {u:Value},RD X.K H x d→RelV x u→∃as,Reads s.heap u d as
 | _,_,_,.non,r=>by cases (show _=Value.none from r);exact ⟨_,.none⟩
 | _,_,_,.bl b,r=>by cases (show _=Value.bool b from r);exact ⟨_,.bool b⟩
 | _,_,_,.int i,r=>by obtain ⟨t,e⟩:=r;subst e;exact ⟨_,.int i t⟩
 | _,_,_,.str x,r=>by obtain ⟨t,e⟩:=r;subst e;exact ⟨_,.str x t⟩
 | _,_,_,.lst (a:=a) hq hs,r=>by
   cases (show _=Value.ref a from r)
   obtain ⟨its,rv,pl,_⟩:=I.list hq
   obtain ⟨as,ra⟩:=RDs.reads I hs rv
   obtain ⟨o,e,c,n,d⟩:=pl.isList
   exact ⟨_,.list e c d (by simpa using ra)⟩
 | _,_,_,.tup (a:=a) hq hs,r=>by
   cases (show _=Value.ref a from r)
   obtain ⟨its,rv,pl,_⟩:=I.tuple hq
   obtain ⟨as,ra⟩:=RDs.reads I hs rv
   obtain ⟨o,e,c,n,d⟩:=pl
   exact ⟨_,.tuple e c d (by simpa using ra)⟩
theorem RDs.reads {X:Cx} {pins:List (Addr×Obj)} {σ:St} {H:Hp} {s:Shared} (I:Inv X pins σ H s):∀{xs:List V} {ds:List PyData} {us:List Value},RDs X.K H xs ds→Vals xs us→∃as,ReadsAll s.heap us ds as
 | _,_,_,.nil,r=>by cases r;exact ⟨_,.nil⟩
 | _,_,_,.cons h1 h2,r=>by
   cases r with
   | cons r1 r2 =>
     obtain ⟨as,a1⟩:=RD.reads I h1 r1
     obtain ⟨bs,a2⟩:=RDs.reads I h2 r2
     exact ⟨_,.cons a1 a2⟩
end
inductive rEqD_I (K:PySem.W.Frag) (x:V) (y:V) (H:Hp) (Q:VK):Prop
 | mk:∀d e,RD K H x d→RD K H y e→SeqAt.shaped d=true→SeqAt.shaped e=true→Q (.bl (PyData.eqv d e)) H→rEqD_I K x y H Q
def rEqD (K:PySem.W.Frag):R2:=fun x y H Q=>rEqD_I K x y H Q
inductive rNeD_I (K:PySem.W.Frag) (x:V) (y:V) (H:Hp) (Q:VK):Prop
 | mk:∀d e,RD K H x d→RD K H y e→SeqAt.shaped d=true→SeqAt.shaped e=true→Q (.bl (!PyData.eqv d e)) H→rNeD_I K x y H Q
def rNeD (K:PySem.W.Frag):R2:=fun x y H Q=>rNeD_I K x y H Q
theorem op_eqD {X:Cx} (hu:X.A.units+64<cLine):OpR X (compareOp .Eq) (rEqD X.K):=by
 intro pins s σ H x y v u Q I rx ry h
 obtain ⟨d,e,hd,he,sd,se,q⟩:=h
 obtain ⟨as,ra⟩:=hd.reads I rx
 obtain ⟨bs,rb⟩:=he.reads I ry
 exact eq_dataH ra rb sd se hu ⟨.bl _,H,I,rfl,q⟩
theorem op_neD {X:Cx} (hu:X.A.units+64<cLine):OpR X (compareOp .NotEq) (rNeD X.K):=by
 intro pins s σ H x y v u Q I rx ry h
 obtain ⟨d,e,hd,he,sd,se,q⟩:=h
 obtain ⟨as,ra⟩:=hd.reads I rx
 obtain ⟨bs,rb⟩:=he.reads I ry
 exact ne_dataH ra rb sd se hu ⟨.bl _,H,I,rfl,q⟩
theorem us_s {n:Nat} {P:List Value→Prop} (h:∀a us,us.length=n→P (a :: us)):∀us:List Value,us.length=n+1→P us:=fun us e=>by
 cases us with
 | nil=>exact absurd e (Nat.succ_ne_zero n).symm
 | cons a us=>exact h a us (Nat.succ.inj e)
theorem us_0 {P:List Value→Prop} (h:P []):∀us:List Value,us.length=0→P us:=fun us e=>by rw [List.eq_nil_of_length_eq_zero e];exact h
theorem us_1 {P:List Value→Prop} (h:∀a,P [a]):∀us:List Value,us.length=1→P us:=us_s fun a=>us_0 (P:=fun us=>P (a :: us)) (h a)
theorem us_2 {P:List Value→Prop} (h:∀a b,P [a,b]):∀us:List Value,us.length=2→P us:=us_s fun a=>us_1 (P:=fun us=>P (a :: us)) (fun b=>h a b)
theorem us_3 {P:List Value→Prop} (h:∀a b c,P [a,b,c]):∀us:List Value,us.length=3→P us:=us_s fun a=>us_2 (P:=fun us=>P (a :: us)) (fun b c=>h a b c)
theorem us_4 {P:List Value→Prop} (h:∀a b c d,P [a,b,c,d]):∀us:List Value,us.length=4→P us:=us_s fun a=>us_3 (P:=fun us=>P (a :: us)) (fun b c d=>h a b c d)
end L2
namespace L2
open PySem PySem.Spec PyProof.Rows
theorem atI_some {α:Type} {xs:List α} {i:Int} (h0:0≤i) (h1:i<(xs.length:Int)):∃v,atI xs i=some v∧v∈xs∧xs[i.toNat]?=some v:=by
 have hn:i.toNat<xs.length:=by omega
 refine ⟨xs[i.toNat],?_,List.getElem_mem hn,List.getElem?_eq_getElem hn⟩
 have e:((i.toNat:Nat):Int)=i:=by omega
 have q:=atI_nat (xs:=xs) (j:=i.toNat) (List.getElem?_eq_getElem hn)
 rw [e] at q
 exact q
theorem mem_map_int {ns:List Int} {v:V} (h:v∈ns.map V.int):∃z,v=.int z∧z∈ns:=by
 obtain ⟨z,hz,e⟩:=List.mem_map.mp h
 exact ⟨z,e.symm,hz⟩
theorem Same.upd_new {H:Hp} {p:Addr} {o:HO} (h:H p=none):Same H (upd H p o):=fun b u e=>by rw [upd_ne (ne_of_none e h)];exact e
theorem Same.upd_of {H H':Hp} {p:Addr} {o:HO} (s:Same H H') (h:H p=none):Same H (upd H' p o):=fun b u e=>by rw [upd_ne (ne_of_none e h)];exact s b u e
theorem Same.tup {K:PySem.W.Frag} {H H':Hp} {a:Addr} {xs:List V} (e:Same H H') (h:SqT K H a xs):SqT K H' a xs:=by
 rcases h with (h | ⟨o,h⟩) | h
 ·exact .inl (.inl (e _ _ h))
 ·exact .inl (.inr ⟨o,e _ _ h⟩)
 ·exact .inr h
theorem pe_gl {X:Cx} {x:Str} {v:V} {pos:Pos} (hg:Gl X x) (h:∃u,X.mg x=some u∧RelV v u) (hd:(x == ("__debug__":Str))=false:=by decide):PE X (.Name x pos) (tC v):=by
 obtain ⟨u,hm,r⟩:=h
 exact pe_glob hg hm r hd
section
variable {X : Cx} {o e : Expr} {es : List Expr} {to : TE} {t : TA} {name : Str} {apos cpos : Pos} {T id : String} {r : V → List V → Hp → VK → Prop}
end
def plainE:Expr→Bool
 | .Starred ..=>false
 | _=>true
theorem starEach_plain {e:Expr} {es:List Expr} {env:Env} (h:plainE e=true):starEach (e :: es) env=(false,eval e env) :: starEach es env:=by
 cases e <;> first | rfl | (cases h)
theorem pac {X:Cx} {e:Expr} {es:List Expr} {te:TE} {t:TA} (ha:PE X e te) (hr:PA X es t) (h:plainE e=true:=by rfl):PA X (e :: es) (tCons te t):=pa_cons ha hr (starEach_plain h)
structure PAs (X:Cx) (es:List Expr) (t:TA):Prop where
 h:PA X es t
theorem pas_nil {X:Cx}:PAs X [] tNil:=⟨pa_nil⟩
theorem pas_cons {X:Cx} {e:Expr} {es:List Expr} {te:TE} {t:TA} (ha:PE X e te) (hr:PAs X es t) (h:plainE e=true:=by rfl):PAs X (e :: es) (tCons te t):=⟨pac ha hr.h h⟩
theorem pe_lstS {X:Cx} {es:List Expr} {t:TA} {pos:Pos} (h:PAs X es t):PE X (.List es pos) (tLst t):=pe_lst h.h
structure QE (X:Cx) (e:Expr) (t:TE):Prop where
 h:PE X e t
structure QS (X:Cx) (st:Stmt) (t:TS):Prop where
 h:PS X st t
structure QSs (X:Cx) (st:List Stmt) (t:TS):Prop where
 h:PSs X st t
theorem qe_lst {X:Cx} {es:List Expr} {t:TA} {pos:Pos} (h:PAs X es t):QE X (.List es pos) (tLst t):=⟨pe_lst h.h⟩
theorem qs_of {X:Cx} {st:Stmt} {t:TS} (h:PS X st t):QS X st t:=⟨h⟩
theorem qs_set {X:Cx} {i:Nat} {x:Str} {e:Expr} {te:TE} {pos pos':Pos} (hN:X.N.Nodup) (hi:X.N[i]?=some x) (hx:Loc X.env.scope x) (he:QE X e te) (hs:swapsWith e (some (.Name x pos')) pos.line X.env=pure false:=by rfl) (hf:X.fn x=true∨X.env.scope.names.lookup x=some .local:=by first | exact .inl rfl | exact .inr rfl | assumption) :
 QS X (.Assign [.Name x pos'] e pos) (tAsg te (gName i)):=⟨ps_set hN hi hx he.h hs hf⟩
theorem qs_if {X:Cx} {c:Expr} {a b:List Stmt} {tc:TT} {t u:TS} {pos:Pos} (hc:PT X c tc) (ha:QSs X a t) (hb:PSs X b u):QS X (.If c a b pos) (tIfS tc t u):=⟨ps_if hc ha.h hb⟩
theorem qss_cons {X:Cx} {st:Stmt} {rest:List Stmt} {t u:TS} (h1:QS X st t) (h2:QSs X rest u):QSs X (st :: rest) (tSeq t u):=⟨pss_cons h1.h h2.h⟩
theorem qss_one {X:Cx} {st:Stmt} {t:TS} (h1:QS X st t):QSs X [st] t:=⟨pss_one h1.h⟩
theorem comp_str {x:Str} {fr:List (Nat×Str)} {te:TE} {σ:St} {H1:Hp} {Q:VK} (f:Nat→V) (hz:x.cps.size≤sizeLine)
 (hte:∀(c:Nat) (H3:Hp) (Q':VK),c∈x.cps.toList→Q' (f c) H3→te (some (.str ⟨#[c]⟩) :: frV σ fr) H3 Q')
 (hQ:∀D,H1 D=none→Q (.ref D) (upd H1 D (.lst (x.cps.toList.map f)))) :
 compGoal (Its x) fr tTrue te σ H1 Q:=by
 unfold compGoal
 intro D hD
 refine ⟨fun i m ys H2=>m=x.cps.size - i∧i≤x.cps.size∧ys=(x.cps.toList.take i).map f∧H2=upd H1 D (.lst ys),⟨x.cps.size,by simp,Nat.zero_le _,by simp,rfl⟩,?_⟩
 rintro i m ys H2 ⟨rfl,hi,rfl,rfl⟩
 refine ⟨upd_same,?_⟩
 by_cases hlt:i<x.cps.size
 ·refine .inr ⟨hlt,?_⟩
  rintro v H3 ⟨rfl,c,hc,rfl⟩
  refine tTrue_go (iteT ?_)
  have hcl:x.cps.toList[i]?=some c:=by simpa using hc
  refine hte c _ _ (List.mem_of_getElem? hcl) ⟨upd_same,?_,x.cps.size - (i+1),by omega,rfl,hlt,?_,upd_upd⟩
  ·rw [List.length_map,List.length_take]
   simp only [Array.length_toList]
   omega
  ·rw [List.take_add_one,hcl]
   simp
 ·have e:i=x.cps.size:=by omega
  subst e
  have e2:x.cps.toList.take x.cps.size=x.cps.toList:=List.take_of_length_le (by simp)
  refine .inl ⟨rfl,?_⟩
  rw [e2]
  exact hQ D hD
theorem sl_le (x:Str) (lo hi:Option Int):(Txt.slice x lo hi).length≤x.length:=Txt.slice_le x lo hi
theorem one_len (c:Nat):(⟨#[c]⟩:Str).length=1:=rfl
end L2
namespace L2
open PySem PySem.Spec PyProof.Rows
def Asc (x:Str):Prop:=∀c∈x.cps.toList,c<128
theorem Asc.ok {x:Str} (h:Asc x):PyData.strOk x=true:=by
 unfold PyData.strOk
 rw [Array.all_eq_true']
 intro c hc
 have:=h c (Array.mem_toList_iff.mpr hc)
 exact decide_eq_true (by omega)
theorem Asc.app {x y:Str} (hx:Asc x) (hy:Asc y):Asc (x++y):=fun c hc=>by
 have e:(x++y).cps.toList=x.cps.toList++y.cps.toList:=by show (x.cps++y.cps).toList=_;simp
 rw [e] at hc
 rcases List.mem_append.mp hc with z | z
 ·exact hx c z
 ·exact hy c z
inductive rUpper_I (x:V) (xs:List V) (H:Hp) (Q:VK):Prop
 | mk:∀y,x=.str y→xs=[]→Asc y→y.length≤1000000→Q (.str ⟨y.cps.map up1⟩) H→rUpper_I x xs H Q
def rUpper:V→List V→Hp→VK→Prop:=fun x xs H Q=>rUpper_I x xs H Q
theorem mt_upper {X:Cx}:MtR X "str.upper" rUpper:=by
 intro pins s σ H x xs v us Q I rx rv h
 obtain ⟨y,rfl,rfl,ha,hz,q⟩:=h
 obtain ⟨t,rfl⟩:=rx
 cases rv
 refine SCL.upper (by omega) fun _=>?_
 rw [upper_ascii ha]
 exact ⟨.str _,H,I.tok _,⟨_,rfl⟩,q⟩
theorem up1_lt {c:Nat} (h:c<128):up1 c<128:=by unfold up1;split <;> omega
theorem Asc.upper {x:Str} (h:Asc x):Asc ⟨x.cps.map up1⟩:=fun c hc=>by
 have:c∈x.cps.toList.map up1:=by simpa using hc
 obtain ⟨d,hd,rfl⟩:=List.mem_map.mp this
 exact up1_lt (h d hd)
theorem vals_strValues:∀l:List (Str×Tok),Vals ((l.map (·.1)).map V.str) (strValues l)
 | []=>.nil
 | p :: r=>.cons ⟨p.2,rfl⟩ (vals_strValues r)
end L2
namespace L2
open PySem PySem.Spec PyProof.Rows
theorem inV_strs {xs:List Str} {t:Str}:inV (.str t) (xs.map V.str)=decide (t∈xs):=by
 unfold inV
 rw [List.any_map,Bool.eq_iff_iff,List.any_eq_true,decide_eq_true_eq]
 constructor
 ·rintro ⟨x,hx,e⟩
  have:x=t:=eq_of_beq (show (x == t)=true from e)
  rw [←this];exact hx
 ·intro h
  exact ⟨t,h,show (t == t)=true from beq_self_eq_true t⟩
theorem flat_strs (xs:List Str):(xs.map V.str).all flatV=true:=by
 rw [List.all_map,List.all_eq_true];intro x _;rfl
theorem cut_front {α:Type} (f:α→V) (xs:List α) (v:Int) (h:0≤v):cutV (xs.map f) none (some v)=(xs.take v.toNat).map f:=by
 have hv:¬v<0:=by omega
 simp only [cutV,HT.sIx,if_neg hv,List.drop_zero,List.length_map,Nat.sub_zero,←List.map_take]
 congr 1
 by_cases h2:v.toNat≤xs.length
 ·rw [Nat.min_eq_left h2]
 ·rw [Nat.min_eq_right (by omega),List.take_of_length_le (Nat.le_refl _),List.take_of_length_le (by omega)]
theorem cut_last {α:Type} (f:α→V) (xs:List α) (x:α):cutV ((xs++[x]).map f) none (some (-1))=xs.map f:=by
 have h1:(-1:Int)<0:=by decide
 simp only [cutV,HT.sIx,if_pos h1,List.drop_zero,List.length_map,List.length_append,List.length_singleton,Nat.sub_zero,←List.map_take]
 congr 1
 have e:(-1+((xs.length+1:Nat):Int)).toNat=xs.length:=by omega
 rw [e,List.take_left]
end L2
namespace L2
open PySem PySem.Spec PyProof.Rows
abbrev aZ:Str:="abcdefghijklmnopqrstuvwxyz0123456789"
theorem aZ_len:aZ.cps.toList.length=36:=by decide +kernel
theorem aZ_asc:Asc aZ:=by
 have h:(aZ.cps.toList.all fun c=>decide (c<128))=true:=by decide +kernel
 intro c hc
 exact of_decide_eq_true (List.all_eq_true.mp h c hc)
theorem aZ_small:aZ.length≤sizeLine:=by
 have:aZ.length=36:=by decide +kernel
 rw [this];decide
structure WordS (x:Str):Prop where
 lo:1≤x.length
 hi:x.length≤20
 in_:∀c∈x.cps.toList,c∈aZ.cps.toList
theorem WordS.asc {x:Str} (h:WordS x):Asc x:=fun c hc=>aZ_asc c (h.in_ c hc)
theorem len_list (x:Str):x.length=x.cps.toList.length:=by simp [Str.length]
theorem cat_list (x y:Str):(x++y).cps.toList=x.cps.toList++y.cps.toList:=by show (x.cps++y.cps).toList=_;simp
theorem pick_sign {z:Str} {i:Int} (h0:0≤i) (h1:i<(z.cps.toList.length:Int)):∃c,atI z.cps.toList i=some c∧c∈z.cps.toList:=by
 obtain ⟨c,a,b,_⟩:=atI_some h0 h1
 exact ⟨c,a,b⟩
end L2
namespace L2
open PySem PySem.Spec PyProof.Rows
theorem big1:1000002≤sizeLine:=by decide
end L2
namespace L2
open PySem PySem.Spec PyProof.Rows
theorem qe_op {X:Cx} {a b:Expr} {ta tb:TE} {pos:Pos} {op:Operator} {r:R2} (ho:OpR X (binaryOp op) r) (ha:PE X a ta) (hb:QE X b tb):QE X (.BinOp a op b pos) (tOp r ta tb):=⟨pe_op ho ha hb.h⟩
theorem qss_of {X:Cx} {st:List Stmt} {t:TS} (h:PSs X st t):QSs X st t:=⟨h⟩
theorem atI_map {α β:Type} (f:α→β) (xs:List α) (i:Int):atI (xs.map f) i=(atI xs i).map f:=by
 unfold atI
 rw [List.length_map]
 cases ixN xs.length i with
 | none=>rfl
 | some j=>simp
abbrev abS:Str:="abcde1"
theorem ab_len:abS.cps.toList.length=6:=by decide +kernel
theorem ab_small:abS.length≤sizeLine:=by decide +kernel
def ownWords:List Str:=["and","or","not","then","if","thread","to","any","day","stop","place","answers","before","after","word","title","from","in","marked","mark","unmark"]
theorem own_len:ownWords.length=21:=rfl
def wordSign (b i:Int) (j:Nat):Nat:=if (j:Int)=b / 4 % 6 then (atI abS.cps.toList i).getD 0 else (atI aZ.cps.toList ((b / 500+7*(j:Int)) % 36)).getD 0
def wordBy (b i:Int):Str:=if b % 4=1 then (atI ownWords ((b / 4+5*i) % 21)).getD "" else ⟨((List.range (b / 4 % 6+1+b / 24 % (20 - b / 4 % 6)).toNat).map (wordSign b i)).toArray⟩
theorem own_ok:(ownWords.all fun w=>decide (1≤w.length) && decide (w.length≤20) && w.cps.toList.all fun c=>decide (c∈aZ.cps.toList))=true:=by decide +kernel
theorem ab_ok:(abS.cps.toList.all fun c=>decide (c∈aZ.cps.toList))=true:=by decide +kernel
theorem wordBy_ok {b i:Int} (hi0:0≤i) (hi1:i<6):WordS (wordBy b i):=by
 unfold wordBy
 split
 ·obtain ⟨v,hv,hvm,_⟩:=atI_some (xs:=ownWords) (i:=(b / 4+5*i) % 21) (Int.emod_nonneg _ (by decide)) (by rw [own_len];exact Int.emod_lt_of_pos _ (by decide))
  rw [hv]
  have q:=List.all_eq_true.mp own_ok v hvm
  rw [Bool.and_eq_true,Bool.and_eq_true] at q
  exact ⟨of_decide_eq_true q.1.1,of_decide_eq_true q.1.2,fun c hc=>of_decide_eq_true (List.all_eq_true.mp q.2 c hc)⟩
 ·have p0:0≤b / 4 % 6:=Int.emod_nonneg _ (by decide)
  have p1:b / 4 % 6<6:=Int.emod_lt_of_pos _ (by decide)
  have q0:0≤b / 24 % (20 - b / 4 % 6):=Int.emod_nonneg _ (by omega)
  have q1:b / 24 % (20 - b / 4 % 6)<20 - b / 4 % 6:=Int.emod_lt_of_pos _ (by omega)
  have hl:(⟨((List.range (b / 4 % 6+1+b / 24 % (20 - b / 4 % 6)).toNat).map (wordSign b i)).toArray⟩:Str).length=(b / 4 % 6+1+b / 24 % (20 - b / 4 % 6)).toNat:=by
   rw [len_list,List.toList_toArray,List.length_map,List.length_range]
  refine ⟨by rw [hl];omega,by rw [hl];omega,fun c hc=>?_⟩
  have hc':c∈(List.range (b / 4 % 6+1+b / 24 % (20 - b / 4 % 6)).toNat).map (wordSign b i):=hc
  obtain ⟨j,_,rfl⟩:=List.mem_map.mp hc'
  unfold wordSign
  split
  ·obtain ⟨c,hc,hcm⟩:=pick_sign (z:=abS) (i:=i) hi0 (by rw [ab_len];exact hi1)
   rw [hc]
   exact of_decide_eq_true (List.all_eq_true.mp ab_ok c hcm)
  ·obtain ⟨c,hc,hcm⟩:=pick_sign (z:=aZ) (i:=(b / 500+7*(j:Int)) % 36) (Int.emod_nonneg _ (by decide)) (by rw [aZ_len];exact Int.emod_lt_of_pos _ (by decide))
   rw [hc]
   exact hcm
end L2
namespace L2
open PySem PySem.Spec PyProof.Rows
structure FunD (K:PySem.W.Frag) (x qual:Str) (st:Stmt) (f:Addr) (fd:FuncData):Prop where
 ex:∃(oc:Value) (od:Option Addr) (dV kV doc pm:Value) (an:Option Addr) (cdv ct:Value) (osl:Array (Option Value)),
  fd=PySem.W.fnOf x qual (defArgs st) (defBody st) (defScope st) dV kV doc pm an cdv ct∧K.lookup f=some ⟨oc,od,.func fd,osl⟩∧PySem.W.codeIn K cdv qual=true
 kp:PySem.W.keepIn K (.ref f)=true
theorem FunD.ok {P:Program} {w:World} {K:PySem.W.Frag} {mg:Str→Option Value} {base:Heap} {x qual:Str} {st:Stmt} {f:Addr} {fd:FuncData} {N ps:List Str} {k:Nat} {sp:Sp} (F:FunD K x qual st f fd) (S:FnScope N ps (defScope st))
 (len:∀vs H Q E,sp vs H Q E→vs.length=ps.length)
 (hbody:∀(cdv:Value) (A:Around) (outer:List Env) (s:Shared) (H:Hp) (vs:List V) (Q:VK) (E:XK),Room k (A.deeper (envOfC qual (defScope st) s.heap.objs.size f cdv))→sp vs H Q E →
   ∃t,PSs (cxOf CX0 P w K mg base N qual (defScope st) f cdv A outer s H E).nox (defBody st) t∧t { nx:=fun _ H'=>Q .non H',rt:=Q } (start N vs) H):FnOk P w K mg base CX0 (k+1) f fd ps sp:=by
 obtain ⟨oc,od,dV,kV,doc,pm,an,cdv,ct,osl,rfl,lk,hcd⟩:=F.ex
 refine fn_of lk hcd S len fun A outer s H vs Q E hr hsp=>?_
 obtain ⟨t,h,q⟩:=hbody cdv A outer s H vs Q E hr hsp
 exact ⟨t,h.nox,q⟩
theorem fun_mkD {K:PySem.W.Frag} {x qual:Str} {st:Stmt} {f:Addr} {oc dV:Value} {od an:Option Addr} {osl:Array (Option Value)} {kV doc pm cdv ct:Value} (l:K.lookup f=some ⟨oc,od,.func (PySem.W.fnOf x qual (defArgs st) (defBody st) (defScope st) dV kV doc pm an cdv ct),osl⟩)
 (c:PySem.W.codeIn K cdv qual=true) (k:PySem.W.keepIn K (.ref f)=true):FunD K x qual st f (PySem.W.fnOf x qual (defArgs st) (defBody st) (defScope st) dV kV doc pm an cdv ct):=⟨⟨oc,od,dV,kV,doc,pm,an,cdv,ct,osl,rfl,l,c⟩,k⟩
theorem ne_refl {K:PySem.W.Frag} {H:Hp} {x y:V} {d:PyData} {Q:VK} (hx:RD K H x d) (hy:RD K H y d) (h:SeqAt.shaped d=true) (q:Q (.bl false) H):rNeD K x y H Q :=
 ⟨d,d,hx,hy,h,h,by rw [SeqAt.eqv_refl d (SeqAt.canLay_of_shaped h)];exact q⟩
theorem eq_refl {K:PySem.W.Frag} {H:Hp} {x y:V} {d:PyData} {Q:VK} (hx:RD K H x d) (hy:RD K H y d) (h:SeqAt.shaped d=true) (q:Q (.bl true) H):rEqD K x y H Q :=
 ⟨d,d,hx,hy,h,h,by rw [SeqAt.eqv_refl d (SeqAt.canLay_of_shaped h)];exact q⟩
end L2
namespace L2
open PySem PySem.Spec PyProof.Rows
open Builtin.Str in
theorem idx_nat (a b n:Nat):strSliceIndices (some (a:Int)) (some (b:Int)) 1 n=(List.range (min b n - min a n)).map (fun k=>min a n+k):=by
 have h1:¬((a:Int)<0):=by omega
 have h2:¬((b:Int)<0):=by omega
 have e1:max (0:Int) (min (a:Int) (n:Int))=((min a n:Nat):Int):=by omega
 have e2:max (0:Int) (min (b:Int) (n:Int))=((min b n:Nat):Int):=by omega
 simp only [strSliceIndices,sliceRange,h1,h2,if_false,e1,e2,show ((1:Int) > 0)=True from by simp,if_true]
 by_cases hlt:((min a n:Nat):Int)<((min b n:Nat):Int)
 ·have e3:((((min b n:Nat):Int) - ((min a n:Nat):Int)+1 - 1) / 1).toNat=min b n - min a n:=by first | omega | (simp;done) | (simp;omega)
  simp only [hlt,if_true,e3]
  refine List.map_congr_left fun k _=>?_
  omega
 ·have:min b n - min a n=0:=by omega
  simp [hlt,this]
open Builtin.Str in
theorem idx_none_l (u:Option Int) (n:Nat):strSliceIndices none u 1 n=strSliceIndices (some ((0:Nat):Int)) u 1 n:=by
 have e1:max (0:Int) (min (((0:Nat):Int)) (n:Int))=0:=by omega
 simp only [strSliceIndices,show ¬((((0:Nat):Int))<0) from by omega,if_false,e1,show ((1:Int) > 0)=True from by simp,if_true]
open Builtin.Str in
theorem idx_none_u (l:Option Int) (n:Nat):strSliceIndices l none 1 n=strSliceIndices l (some (n:Int)) 1 n:=by
 have e1:max (0:Int) (min (n:Int) (n:Int))=n:=by omega
 simp only [strSliceIndices,show ¬((n:Int)<0) from by omega,if_false,e1,show ((1:Int) > 0)=True from by simp,if_true]
theorem slice_list (x:Str) (a b:Nat):(Txt.slice x (some (a:Int)) (some (b:Int))).cps.toList=(x.cps.toList.drop a).take (b - a):=by
 have hl:=len_list x
 unfold Txt.slice
 rw [idx_nat,List.length_map,List.length_range]
 have hp:=StrLaws.picks x.cps.toList (min b x.length - min a x.length) (min a x.length) (by omega)
 have key:((List.range (min b x.length - min a x.length)).map (fun k=>min a x.length+k)).filterMap (x.cps[·]?)=(x.cps.toList.drop a).take (b - a):=by
  have e:(fun i:Nat=>x.cps[i]?)=(fun i:Nat=>x.cps.toList[i]?):=by funext i;simp
  rw [e,hp]
  by_cases h:a≤x.length
  ·rw [Nat.min_eq_left (show a≤x.length from h)]
   by_cases h2:b≤x.length
   ·rw [Nat.min_eq_left (show b≤x.length from h2)]
   ·rw [Nat.min_eq_right (show x.length≤b by omega),List.take_of_length_le (by rw [List.length_drop];omega),List.take_of_length_le (by rw [List.length_drop];omega)]
  ·rw [Nat.min_eq_right (show x.length≤a by omega),List.drop_of_length_le (by omega),List.drop_of_length_le (by omega),List.take_nil,List.take_nil]
 split
 ·rename_i h
  have h':min b x.length - min a x.length=x.length:=by
   have:=(Bool.and_eq_true_iff.mp h).2
   exact beq_iff_eq.mp this
  rw [←key,h']
  have e0:x.length=0∨min a x.length=0:=by omega
  rcases e0 with e0 | e0
  ·have:x.cps.toList=[]:=List.eq_nil_of_length_eq_zero (by omega)
   rw [this,e0];rfl
  ·have e:(fun i:Nat=>x.cps[i]?)=(fun i:Nat=>x.cps.toList[i]?):=by funext i;simp
   rw [e]
   have hp2:=StrLaws.picks x.cps.toList x.length 0 (by omega)
   rw [e0,hp2,List.drop_zero,List.take_of_length_le (by omega)]
 ·rw [key]
theorem slice_to (x:Str) (b:Nat):(Txt.slice x none (some (b:Int))).cps.toList=x.cps.toList.take b:=by
 have e:Txt.slice x none (some (b:Int))=Txt.slice x (some ((0:Nat):Int)) (some (b:Int)):=by unfold Txt.slice;rw [idx_none_l]
 rw [e,slice_list,List.drop_zero,Nat.sub_zero]
theorem slice_from (x:Str) (a:Nat):(Txt.slice x (some (a:Int)) none).cps.toList=x.cps.toList.drop a:=by
 have e:Txt.slice x (some (a:Int)) none=Txt.slice x (some (a:Int)) (some (x.length:Int)):=by unfold Txt.slice;rw [idx_none_u]
 rw [e,slice_list,List.take_of_length_le (by rw [List.length_drop,←len_list];omega)]
theorem str_ext {x y:Str} (h:x.cps.toList=y.cps.toList):x=y:=by
 cases x;cases y
 have:=Array.toList_inj.mp h
 simp only at this
 rw [this]
theorem row_pick {rs:List Int} {m:Int} (hb:∀r∈rs,0≤r∧r<m) (i:Int) (h0:0≤i) (h1:i<(rs.length:Int)):∃z,atI (rs.map V.int) i=some (V.int z)∧0≤z∧z<m:=by
 obtain ⟨v,hv,hvm,_⟩:=atI_some (xs:=rs.map V.int) h0 (by rw [List.length_map];exact h1)
 obtain ⟨z,hz,rfl⟩:=List.mem_map.mp hvm
 exact ⟨z,hv,hb z hz⟩
end L2
namespace L2
open PySem PySem.Spec PyProof.Rows
inductive rSplit1_I (x:V) (xs:List V) (H:Hp) (Q:VK):Prop
 | mk:∀(z y:Str),x=.str z→xs=[.str y]→(y.length == 0)=false→z.length≤1000000→(∀l,H l=none→Q (.ref l) (upd H l (.lst ((Txt.split z y).map V.str))))→rSplit1_I x xs H Q
def rSplit1:V→List V→Hp→VK→Prop:=fun x xs H Q=>rSplit1_I x xs H Q
theorem parts_le (x y:Str):(Builtin.Str.partsBetween x (Builtin.Str.occurrences x y 0 x.length (x.length+1)) y.length).length≤x.length+2:=by
 rw [StrLaws.partsBetween_eq]
 have h:=StrLaws.occ_length_le_len x y 0 x.length (x.length+1)
 have e:∀(cuts:List Nat) (w a:Nat),(StrLaws.partsFrom x w a cuts).length≤cuts.length+1:=by
  intro cuts
  induction cuts with
  | nil=>intro w a;simp [StrLaws.partsFrom]
  | cons c r ih =>
    intro w a
    have:=ih w (c+w)
    simp only [StrLaws.partsFrom,List.length_cons]
    omega
 have:=e (Builtin.Str.occurrences x y 0 x.length (x.length+1)) y.length 0
 omega
theorem mt_split1 {X:Cx}:MtR X "str.split" rSplit1:=by
 intro pins s σ H x xs v us Q I rx rv h
 obtain ⟨x,y,rfl,rfl,hy,hz,q⟩:=h
 obtain ⟨t,rfl⟩:=rx
 obtain ⟨u,rfl,ru⟩:=vals1 rv
 obtain ⟨t',rfl⟩:=ru
 have hb:=big1
 have hp:=parts_le x y
 have hsl:=split_le x y
 have fin:∀(l:List (Str×Tok)) (k:Nat),l.map (·.1)=Txt.split x y→EP X pins σ Q (.ref s.heap.objs.size) { s with toks:=k,heap:=s.heap.push { cls:=.type "list",data:=.seq (strValues l).toArray } }:=fun l k e=>by
  have hv:=vals_strValues l
  rw [e] at hv
  exact ⟨.ref s.heap.objs.size,_,I.lnew (t':=k) hv (by rw [List.length_map];omega),rfl,q _ I.fresh⟩
 cases h1:(decide (x.length<y.length) || decide (Builtin.Str.strKind x<Builtin.Str.strKind y))
 ·cases hf:(Builtin.Str.occurrences x y 0 x.length (x.length+1)).isEmpty
  ·refine call_meets F.slot_str_split (typeIs_str _ _ _) F.entry_str_split (F.args_str_split_2 _ _) (meets_str_split_sep x y t t' h1 hy hf (by omega) (by omega)) ?_
   show wants _ _ _ { s with toks:=_,heap:=s.heap.push { cls:=.type "list",data:=.seq (strsFrom s.toks (Builtin.Str.partsBetween x (Builtin.Str.occurrences x y 0 x.length (x.length+1)) y.length)).toArray } }
   rw [strsFrom_eq]
   exact fin (numbered s.toks _) _ ((numbered_texts _ _).trans ((if_neg (ne_true_of_eq_false h1)).trans (if_neg (ne_true_of_eq_false hf))).symm)
  ·exact call_meets F.slot_str_split (typeIs_str _ _ _) F.entry_str_split (F.args_str_split_2 _ _) (meets_str_split_not_found x y t t' h1 hy hf) (fin [(x,t)] _ ((if_neg (ne_true_of_eq_false h1)).trans (if_pos hf)).symm)
 ·exact call_meets F.slot_str_split (typeIs_str _ _ _) F.entry_str_split (F.args_str_split_2 _ _) (meets_str_split_cannot_occur x y t t' h1) (fin [(x,t)] _ (if_pos h1).symm)
theorem call_int_text {X:Cx}:CallR X (.type "int") (fun xs H Q=>∃(x:Str) (n:Int),xs=[.str x]∧x.length≤640∧PySem.intText? x=some n∧Q (.int n) H):=by
 intro pins s σ H xs us Q I r h
 obtain ⟨x,n,rfl,hl,hn,q⟩:=h
 obtain ⟨u,rfl,t,rfl⟩:=vals1 r
 exact PySem.W.KIN.call_text hn hl ⟨.int n,H,I.tok _,⟨_,rfl⟩,q⟩
end L2
namespace L2
open PySem PySem.Spec PyProof.Rows
theorem cut_at {c:Nat}:∀{p q X Y:List Nat},¬c∈p→¬c∈q→p++c :: X=q++c :: Y→p=q∧X=Y
 | [],[],_,_,_,_,h=>⟨rfl,(List.cons.inj h).2⟩
 | [],b :: q,_,_,_,hq,h=>absurd (by rw [(List.cons.inj h).1];exact List.mem_cons_self) hq
 | a :: p,[],_,_,hp,_,h=>absurd (by rw [←(List.cons.inj h).1];exact List.mem_cons_self) hp
 | a :: p,b :: q,X,Y,hp,hq,h=>by
   obtain ⟨h1,h2⟩:=List.cons.inj h
   obtain ⟨e1,e2⟩:=cut_at (fun z=>hp (List.mem_cons_of_mem _ z)) (fun z=>hq (List.mem_cons_of_mem _ z)) h2
   exact ⟨by rw [h1,e1],e2⟩
end L2
namespace L2
open PySem PySem.Spec PyProof.Rows
theorem num_digits {d:Int} (h0:0≤d):PySem.NumText.AllDigits (Str.ofString (toString d)).cps.toList:=by
 obtain ⟨m,rfl⟩:=Int.eq_ofNat_of_zero_le h0
 intro c hc
 rw [PySem.W.KIN.signs_num] at hc
 obtain ⟨ch,hch,e⟩:=List.mem_map.mp hc
 have r:=digit_range (Nat.isDigit_of_mem_toDigits (by decide) (by decide) hch)
 rw [←e]
 exact r
theorem num_val {d:Int} (h0:0≤d):((PySem.NumText.digitsVal (Str.ofString (toString d)).cps.toList:Nat):Int)=d:=by
 obtain ⟨m,rfl⟩:=Int.eq_ofNat_of_zero_le h0
 rw [PySem.W.KIN.signs_num,PySem.W.KIN.val_back]
theorem num_le4 {d:Int} (h0:0≤d) (h1:d≤9999):(Str.ofString (toString d)).length≤4:=toString_length_le h0 (by decide) (by omega)
theorem num_ge1 {d:Int} (h0:0≤d):1≤(Str.ofString (toString d)).length:=by
 obtain ⟨m,rfl⟩:=Int.eq_ofNat_of_zero_le h0
 rw [len_list,PySem.W.KIN.signs_num,List.length_map]
 exact toDigits_len_ge 10 m
end L2
namespace L2
open PySem PySem.Spec PyProof.Rows
end L2
namespace L2
open PySem PySem.Spec PyProof.Rows
end L2
namespace L2
open PySem PySem.Spec PyProof.Rows
end L2
namespace L2
open PySem PySem.Spec PyProof.Rows
end L2
namespace L2
open PySem PySem.Spec PyProof.Rows
theorem rep_list (x:Str):∀(n:Nat) (acc:Array Nat),((List.replicate n x.cps).foldl (·++·) acc).toList=acc.toList++(List.replicate n x.cps.toList).flatten
 | 0,acc=>by simp
 | n+1,acc=>by
   rw [List.replicate_succ,List.foldl_cons,rep_list x n (acc++x.cps),List.replicate_succ,List.flatten_cons,Array.toList_append,List.append_assoc]
theorem mul_signs (x:Str) (n:Int):(Txt.mul x n).cps.toList=(List.replicate n.toNat x.cps.toList).flatten:=by
 unfold Txt.mul
 by_cases h:n<1
 ·rw [if_pos h,show n.toNat=0 by omega];rfl
 ·rw [if_neg h]
  split
  ·rename_i h2
   rw [Bool.or_eq_true] at h2
   rcases h2 with h2 | h2
   ·have:n=1:=by simpa using h2
    rw [this]
    show _=(List.replicate 1 x.cps.toList).flatten
    simp
   ·have h3:x.cps.toList=[]:=List.eq_nil_of_length_eq_zero (by rw [←len_list];simpa using h2)
    rw [h3]
    simp
  ·show ((List.replicate n.toNat x.cps).foldl (·++·) #[]).toList=_
   rw [rep_list];rfl
theorem mul_mem {x:Str} {n:Int} {c:Nat} (h:c∈(Txt.mul x n).cps.toList):c∈x.cps.toList:=by
 rw [mul_signs] at h
 obtain ⟨l,h1,h2⟩:=List.mem_flatten.mp h
 rw [(List.mem_replicate.mp h1).2] at h2
 exact h2
inductive rMulS_I (x:V) (y:V) (H:Hp) (Q:VK):Prop
 | mk:∀(s:Str) (n:Int),x=.str s→y=.int n→s.length≤100→-1000≤n→n≤1000→Q (.str (Txt.mul s n)) H→rMulS_I x y H Q
def rMulS:R2:=fun x y H Q=>rMulS_I x y H Q
theorem op_mul_str {X:Cx}:OpR X (binaryOp .Mult) rMulS:=by
 intro pins s σ H x y v u Q I rx ry h
 obtain ⟨z,n,rfl,rfl,hz,h0,h1,q⟩:=h
 obtain ⟨t,rfl⟩:=rx
 obtain ⟨t',rfl⟩:=ry
 refine SB.mul ⟨?_,fun hn _=>?_,fun hn _=>?_⟩ fun t' k=>⟨.str _,H,I.tok _,⟨_,rfl⟩,q⟩
 ·rw [Bool.or_eq_false_iff]
  exact ⟨decide_eq_false (by omega),decide_eq_false (by omega)⟩
 ·have h4:(z.length:Int)*n≤100*1000:=Int.mul_le_mul (by omega) h1 (by omega) (by decide)
  have h5:(z.length:Int)≤(2 ^ 63 - 1) / n:=Int.le_ediv_of_mul_le (by omega) (Int.le_trans h4 (by decide))
  omega
 ·have h2:z.length*n.toNat≤100*1000:=Nat.mul_le_mul hz (by omega)
  have h3:100*1000≤sizeLine:=by decide
  unfold Builtin.Str.tooLong
  exact decide_eq_false (by omega)
end L2
namespace L2
open PySem PySem.Spec PyProof.Rows
end L2
namespace L2
open PySem PySem.Spec PyProof.Rows
section
variable {X : Cx} {pins : List (Addr × Obj)} {σ : St} {H : Hp} {s : Shared} {a : Addr} {oa : Obj} {kvs : List (Key × V)}
end
end L2
namespace L2
open PySem PySem.Spec PyProof.Rows
end L2
namespace L2
open PySem PySem.Spec PyProof.Rows
section
variable {prs S : List PRow} {n : Str} {k : Nat}
end
end L2
namespace L2
open PySem PySem.Spec
section
variable {X : Cx} {pins : List (Addr × Obj)} {σ : St} {H : Hp} {s : Shared} {a : Addr} {kvs : List (Key × V)} {k : Key} {z : V} {u r : Value} {A : Around} {E : Value → Shared → Prop}
end
section
variable {X : Cx} {o e f : Expr} {apos cpos : Pos} {td ty tx : TE}
end
def nIns:HO→Bool
 | .ins _ _ _=>false
 | _=>true
end L2
namespace L2
open PySem PySem.Spec PyProof.Rows
section
variable {prog : Program} {w : World} {A : Around} {E : Value → Shared → Prop} {s : Shared}
end
end L2
namespace L2
open PySem PySem.Spec PyProof.Rows
section
variable {prog : Program} {w : World} {A : Around} {E : Value → Shared → Prop} {s : Shared}
end
end L2
namespace L2
open PySem PySem.Spec PyProof.Rows
section
variable {prog : Program} {w : World} {A : Around} {E : Value → Shared → Prop} {s : Shared} {a it : Addr} {es : Array (Int × Value)} {ep : Nat} {t : SetTable}
end
end L2
namespace L2
open PySem PySem.Spec PyProof.Rows
section
variable {prog : Program} {w : World} {A : Around} {E : Value → Shared → Prop} {s : Shared} {a it : Addr} {es : Array (Int × Value)} {ep : Nat} {t : SetTable}
end
end L2
namespace L2
open PySem PySem.Spec PyProof.Rows
section
variable {prog : Program} {w : World} {A : Around} {E : Value → Shared → Prop} {s : Shared}
end
end L2
namespace L2
open PySem PySem.Spec PyProof.Rows
end L2
namespace L2
open PySem PySem.Spec PyProof.Rows
end L2
namespace L2
open PySem PySem.Spec PyProof.Rows
section
variable {prog : Program} {w : World} {A : Around} {E : Value → Shared → Prop} {s : Shared}
end
end L2
namespace L2
open PySem PySem.Spec PyProof.Rows
end L2
namespace L2
open PySem PySem.Spec PyProof.Rows
end L2
namespace L2
open PySem PySem.Spec PyProof.Rows
theorem comp_listFG {K:PySem.W.Frag} {a:Addr} {α:Type} {xs:List α} {fr:List (Nat×Str)} {tt:TT} {te:TE} {σ:St} {H1:Hp} {Q:VK} (g:α→V) (pr:α→Bool) (f:α→V) (hz:xs.length≤sizeLine) (hS:SqL K H1 a (xs.map g))
 (htt:∀(x:α) (H3:Hp) (Q':Bool→Hp→Prop),x∈xs→Same H1 H3→(∀H4,Same H3 H4→Q' (pr x) H4)→tt (some (g x) :: frV σ fr) H3 Q')
 (hte:∀(x:α) (H3:Hp) (Q':VK),x∈xs→Same H1 H3→pr x=true→(∀H4,Same H3 H4→Q' (f x) H4)→te (some (g x) :: frV σ fr) H3 Q')
 (hQ:∀D H2,H1 D=none→Same H1 H2→H2 D=some (.lst ((xs.filter pr).map f))→Q (.ref D) H2) :
 compGoal (Itl K a) fr tt te σ H1 Q:=by
 intro D hD
 refine ⟨fun i m ys H2=>m=xs.length - i∧i≤xs.length∧ys=((xs.take i).filter pr).map f∧Same H1 H2∧H2 D=some (.lst ys),⟨xs.length,by simp,Nat.zero_le _,by simp,Same.upd_new hD,upd_same⟩,?_⟩
 rintro i m ys H2 ⟨rfl,hi,rfl,s2,d2⟩
 refine ⟨d2,?_⟩
 have hS2:=s2.seq hS
 by_cases hlt:i<xs.length
 ·have hx0:(xs.map g)[i]?=some (g xs[i]):=by rw [List.getElem?_map,List.getElem?_eq_getElem hlt];rfl
  refine .inr ⟨⟨xs.map g,g xs[i],hS2,hx0⟩,?_⟩
  rintro v H3 ⟨rfl,hv⟩
  have hx:(xs.map g)[i]?=some v:=hv _ hS2
  rw [hx0] at hx
  cases hx
  have hm:xs[i]∈xs:=List.getElem_mem hlt
  have et:xs.take (i+1)=xs.take i++[xs[i]]:=by rw [List.take_add_one,List.getElem?_eq_getElem hlt];rfl
  refine htt xs[i] _ _ hm s2 fun H4 s4=>?_
  cases hp:pr xs[i] with
  | false =>
    refine iteF ⟨xs.length - (i+1),by omega,rfl,hlt,?_,s2.trans s4,s4 _ _ d2⟩
    rw [et,List.filter_append,List.filter_cons,hp]
    simp
  | true =>
    refine iteT (hte xs[i] _ _ hm (s2.trans s4) hp fun H5 s5=>⟨s5 _ _ (s4 _ _ d2),?_,xs.length - (i+1),by omega,rfl,hlt,?_,((s2.trans s4).trans s5).upd_of hD,upd_same⟩)
    ·have:=List.length_filter_le pr (xs.take i)
     rw [List.length_take] at this
     rw [List.length_map]
     omega
    ·rw [et,List.filter_append,List.filter_cons,hp]
     simp
 ·have e:i=xs.length:=by omega
  subst e
  have e2:xs.take xs.length=xs:=List.take_of_length_le (Nat.le_refl _)
  rw [e2] at d2
  exact .inl ⟨⟨xs.map g,hS2,by rw [List.length_map];exact Nat.le_refl _⟩,hQ D H2 hD s2 d2⟩
end L2
namespace L2
open PySem PySem.Spec PyProof.Rows
theorem ObjOk.there {P:Program} {w:World} {H:Hp} {h:Heap} {a:Addr} {o:HO} (x:ObjOk P w H h a o):∃ob,h.get? a=some ob:=by
 cases o with
 | lst xs=>obtain ⟨_,_,_,_,e⟩:=x;exact ⟨_,e⟩
 | tup xs=>obtain ⟨_,_,_,ob,e,_⟩:=x;exact ⟨_,e⟩
 | dK kvs=>obtain ⟨_,_,_,_,o,_,_,e,_⟩:=x;exact ⟨_,e⟩
 | dT kvs=>obtain ⟨_,_,_,_,o,_,_,e,_⟩:=x;exact ⟨_,e⟩
 | set S n=>obtain ⟨o,_,_,_,e,_⟩:=x;exact ⟨_,e⟩
 | ins C dx fs=>obtain ⟨_,_,_,e,_⟩:=x;exact ⟨_,e⟩
 | own y=>exact x
 | xd fs=>obtain ⟨_,⟨_,_,_,e,_⟩,_⟩:=x;exact ⟨_,e⟩
 | rng lo hi=>obtain ⟨_,_,_,e⟩:=x;exact ⟨_,e⟩
 | frz ob u=>obtain ⟨e,_⟩:=x;exact ⟨_,e⟩
 | tbl ps=>exact ⟨_,(show h.get? a=some _ from x)⟩
 | met f y=>exact ⟨_,(show h.get? a=some _ from x)⟩
 | ext φ=>obtain ⟨_,e,_⟩:=x;exact e
def Cov (fs:List Addr) (H:Hp) (h B:Heap):Prop:=∀b o,h.get? b=some o→b∉fs→∃o',B.get? b=some o'∧(H b=none→o'=o)
def Trk (H:Hp) (h B:Heap):Prop:=∀b o,H b≠none→h.get? b=some o→B.get? b=some o
theorem Un.flown {fs:List Addr} {H H':Hp} {h h1 h2 B:Heap} (u:Un fs [] H H' h h1) (cv:Cov fs H h B) (st:B.StaysIn h2) (sl:h1.UpToSlots h2) (fr:∀b∈fs,∀o,h1.get? b=some o→∀vs,o.data≠.fields vs):Un fs [] H H' h h2 where
 keep:=fun b o q n hb _=>by
  obtain ⟨o',e,z⟩:=cv b o q hb
  rw [z n] at e
  exact st _ _ e
 slot:=fun b o q n hb hx=>by
  obtain ⟨s0,e⟩:=u.slot b o q n hb hx
  obtain ⟨s1,e1⟩:=sl b _ e (fr b hb _ e)
  exact ⟨s1,e1⟩
 free:=u.free
 there:=fun b o q hx=>by
  by_cases hb:b∈fs
  ·obtain ⟨o1,e1⟩:=u.there b o q hx
   obtain ⟨_,e2⟩:=sl b o1 e1 (fr b hb o1 e1)
   exact ⟨_,e2⟩
  ·obtain ⟨o',e,_⟩:=cv b o q hb
   exact ⟨o',st _ _ e⟩
 tups:=u.tups
 frzs:=u.frzs
 tbls:=u.tbls
theorem HOk.flown {P:Program} {w:World} {H:Hp} {h1 h2 B:Heap} (x:HOk P w H h1) (ct:Trk H h1 B) (st:B.StaysIn h2):HOk P w H h2:=fun a o e =>
 (x a o e).stay (fun b u hb q=>st b u (ct b u (fun z=>by
   rcases hb with rfl | hb
   ·rw [z] at e;cases e
   ·rw [z] at hb;cases hb) q)) (fun _ q=>q) fun _ _ q=>q
theorem Trk.flown {P:Program} {w:World} {H:Hp} {h1 h2 B:Heap} (x:HOk P w H h1) (ct:Trk H h1 B) (st:B.StaysIn h2):Trk H h2 B:=fun b o n q=>by
 cases e:H b with
 | none=>exact absurd e n
 | some u =>
   obtain ⟨ob,eb⟩:=(x b u e).there
   have e1:=ct b ob n eb
   have e2:=st _ _ e1
   rw [q] at e2
   cases e2
   exact e1
structure Fly (P:Program) (w:World) (l:List Env) (H:Hp) (s:Shared) (e C:Addr) (H':Hp) (s':Shared):Prop where
 os:s'.os=s.os
 bare:AllBare s'.gens
 un:Un (frs l) [] H H' s.heap s'.heap
 hok:HOk P w H' s'.heap
 fr:H' e=none
 nw:s.heap.get? e=none
 fly:∃(B:Heap) (a0:Value),Heap.FlyingW B l e (.ref C) a0 s'.heap∧Cov (frs l) H s.heap B∧Trk H' s'.heap B
section
variable {X : Cx} {pins : List (Addr × Obj)} {σ : St} {Hc H' : Hp} {sc : Shared}
theorem Inv.nofr (I:Inv X pins σ Hc sc):∀b∈frs X.stack,∀o,sc.heap.get? b=some o→∀vs,o.data≠.fields vs:=fun b hb o e=>by
 obtain ⟨_,o1,e1,d⟩:=I.stack.mem hb
 rw [e] at e1
 cases e1
 exact d
theorem fly_out {s1:Shared} {h2 B:Heap} {e C:Addr} {a0:Value} (I:Inv X pins σ Hc sc) (hex:X.ex=[]) (un:Un (frs X.stack) [] Hc H' sc.heap s1.heap) (os:s1.os=sc.os) (bare:AllBare s1.gens) (hok:HOk X.prog X.w H' s1.heap)
 (he:H' e=none) (nw:sc.heap.get? e=none) (fl:Heap.FlyingW B X.outer e (.ref C) a0 h2) (cv:Cov (frs X.stack) Hc sc.heap B) (ct:Trk H' s1.heap B) (sl:s1.heap.UpToSlots h2) (nf:∀b∈frs X.stack,∀o,s1.heap.get? b=some o→∀vs,o.data≠.fields vs) :
 Fly X.prog X.w X.outer X.H₀ X.s₀ e C H' { s1 with heap:=h2 }:=by
 have un2:=un.flown cv fl.1 sl nf
 have hok2:=hok.flown ct fl.1
 have J:Inv X pins σ H' { s1 with heap:=h2 }:=I.call' (s':={ s1 with heap:=h2 }) (ch:=[]) os un2 hok2 bare (fun b z=>nomatch z)
 have base:=J.base
 rw [hex] at base
 have base0:=I.base
 rw [hex] at base0
 refine ⟨J.os,J.bare,base,J.hok,he,?_,B,a0,fl,fun b o e hb=>?_,ct.flown hok fl.1⟩
 ·cases q:X.s₀.heap.get? e with
  | none=>rfl
  | some o =>
    obtain ⟨o',e'⟩:=base0.there e o q (fun z=>nomatch z)
    rw [nw] at e'
    cases e'
 ·obtain ⟨o1,e1⟩:=base0.there b o e (fun z=>nomatch z)
  have nb:b∉frs X.stack:=fun z=>(List.mem_cons.mp (I.stkSub b z)).elim (fun z=>absurd (Nat.lt_of_lt_of_le (Heap.lt_size e) I.ok.above) (by rw [z];exact Nat.lt_irrefl _)) hb
  obtain ⟨o',e2,z⟩:=cv b o1 e1 nb
  refine ⟨o',e2,fun n=>?_⟩
  have:=base0.keep b o e n hb (fun z=>nomatch z)
  rw [e1] at this
  cases this
  exact z (base0.free b o e n (fun z=>nomatch z))
end
section
variable {P : Program} {w : World} {K : PySem.W.Frag} {mg : Str → Option Value} {base : Heap} {N : List Str} {qual : Str} {scope : Scope} {f : Addr} {cd : Value} {A : Around} {outer : List Env} {s : Shared} {H : Hp} {E : XK}
end
abbrev mroVE:List Value:=[.type "ValueError",.type "Exception",.type "BaseException",.type "object"]
structure Xcl (K:PySem.W.Frag) (C:Addr):Prop where
 q:PySem.W.excIn K C mroVE "ValueError.__new__"=true
inductive XObj (h:Heap) (C:Addr):Prop
 | mk:∀bm N nm q bs hdct sn sub ab col dd k0 k1 k2 k3 k5 mN,h.get? C=some (excClassObj nm q C N bs bm hdct sn sub ab col dd k0 k1 k2 k3 k5 "ValueError.__new__")→h.Ns N mN→mN "__init__"=none→OwnTail h mroVE bm→XObj h C
theorem Xcl.obj {K:PySem.W.Frag} {h:Heap} {C:Addr} (x:Xcl K C) (X:K.In h):XObj h C:=by
 have q:=x.q
 unfold PySem.W.excIn at q
 split at q
 ·rename_i dd cd sl ho
  split at q
  ·rename_i C' bm k0 k1 k2 k3 n k5 hm hs
   rw [Bool.and_eq_true,Bool.and_eq_true,Bool.and_eq_true,Bool.and_eq_true,Bool.and_eq_true] at q
   obtain ⟨⟨⟨⟨⟨q1,q2⟩,q3⟩,q4⟩,q5⟩,q6⟩:=q
   have q1:=beq_iff_eq.mp q1
   have q2:=beq_iff_eq.mp q2
   rw [Bool.not_eq_true'] at q3
   obtain ⟨a1,a2,a3,a4,a5,a6,a7,a8,a9,a10,a11⟩:=cd
   obtain ⟨ls⟩:=sl
   dsimp only at hm q3 q5 q6 hs
   have q6:=beq_iff_eq.mp q6
   subst hm q3 hs q1 q2
   exact ⟨bm,a4,a1,a5,a2,a6,a7,a8,a9,a10,dd,k0,k1,k2,k3,k5,_,X _ _ ho,.of_isNs (PySem.W.isNs_of_in X q5),PySem.W.nsMap_none_of_in X q5 q6,PySem.W.tail_of_in X q4⟩
  ·cases q
 ·cases q
section
variable {P : Program} {w : World} {K : PySem.W.Frag} {mg : Str → Option Value} {base : Heap} {N : List Str} {qual : Str} {scope : Scope} {f : Addr} {cd : Value} {A : Around} {outer : List Env} {s : Shared} {H : Hp} {E : XK}
end
def PassesX (CX:CXT) (X:Cx) (R:St→XK):Prop:=∀(pins:List (Addr×Obj)) (σ:St) (H:Hp) (s:Shared) (e:Value) (s':Shared),Inv X pins σ H s→CX X.stack H s (R σ) e s'→X.xe e s'
def tCallX (sp:Sp) (dvs:List V) (R:St→XK) (t:TA):TE:=fun σ H Q=>t σ H fun vs H1=>sp (vs++dvs) H1 Q (R σ)
section
variable {X : Cx} {CX : CXT} {k : Nat} {f C : Addr} {fd : FuncData} {ps : List Str} {sp : Sp} {dvs : List V} {ds : List Value} {R : St → XK} {x m : Str} {p pos apos : Pos} {e o : Expr} {es : List Expr} {ta : TE} {t : TA}
theorem run_fnX {pins:List (Addr×Obj)} {σ:St} {H:Hp} {s:Shared} {Q:VK} {us:List Value} {vs:List V} (F:FnOk X.prog X.w X.K X.mg X.base CX k f fd ps sp) (hr:Room k X.A) (hb:Binds X.K fd ps ds) (hd:Vals dvs ds) (hx:PassesX CX X R)
 (I:Inv X pins σ H s) (r:Vals vs us) (h:sp (vs++dvs) H Q (R σ)):wpAny (model X.prog X.w) X.A (call (.ref f) us) (EP X pins σ Q) X.xe s:=by
 have r2:Vals (vs++dvs) (us++ds):=r.append hd
 have hl:(us++ds).length=ps.length:=by rw [←r2.length];exact F.len _ _ _ _ h
 refine wpAny_call (codeAny_mono (F.run X.A X.stack s H ⟨us,[]⟩ (us++ds) (vs++dvs) Q (R σ) hr I.env0 (hb s us I.kIn hl) r2 h) fun r s' hq=>?_)
 cases r with
 | error e=>exact hx pins σ H s e s' I hq
 | ok fl=>cases fl with
   | ret u=>exact I.after hq
   | _=>exact False.elim hq
theorem pe_callX (F:FnOk X.prog X.w X.K X.mg X.base CX k f fd ps sp) (hr:Room k X.A) (hg:Gl X x) (hm:X.mg x=some (.ref f)) (hk:PySem.W.keepIn X.K (.ref f)=true) (hb:Binds X.K fd ps ds) (hd:Vals dvs ds) (hx:PassesX CX X R)
 (ha:PA X (e :: es) t) (hdb:(x == ("__debug__":Str))=false:=by decide) (he:starEach (e :: es) X.env=(false,eval e X.env) :: starEach es X.env:=by rfl) (hpl:(backTo pos (starEach es X.env)).any (·.1)=false:=by rfl) :
 PE X (.Call (.Name x p) (e :: es) [] pos) (tCallX sp dvs R t):=by
 intro pins s σ H Q I h
 refine wpAny_Call_Name_kw (ld_glob I hg hm (PySem.W.callWith_K (h₀:=X.base) I.ok.mod.kin hk (thn (ha pos pins s σ H _ I h) fun us s1 ⟨vs,H1,I1,r,q⟩=>⟨I1.kIn,run_fnX F hr hb hd hx I1 r q⟩) he hpl) hdb)
end
theorem matches_own {M:Model} {A:Around} {E:Value→Shared→Prop} {h:Heap} {g:Array GenState} {d:Drawn} {t:Nat} {os:OsState} {e C D N N':Addr} {oe:Obj} {Q:Bool→Shared→Prop}
 {nm q nm' q':Str} {bs bm bs' bm':List Value} {hdct hdct':Bool} {sn sn':List Str} {sub sub':List Value} {ab ab':Bool} {col col':Option Bool} {dd dd':Option Addr} {k0 k1 k2 k3 k5 l0 l1 l2 l3 l5:Option Value} {newId newId':String}
 (hC:h.get? C=some (excClassObj nm q C N bs bm hdct sn sub ab col dd k0 k1 k2 k3 k5 newId)) (hD:h.get? D=some (excClassObj nm' q' D N' bs' bm' hdct' sn' sub' ab' col' dd' l0 l1 l2 l3 l5 newId')) (he:h.get? e=some oe) (hcls:oe.cls=.ref C)
 (hbase:bm'.contains (.type "BaseException")=true) (hsub:(Value.ref C :: bm).contains (.ref D)=true) (hq:Q true ⟨h,g,d,t,os⟩):wpAny M A (excMatches (.ref e) (.ref D)) Q E ⟨h,g,d,t,os⟩:=by
 have hB:(Value.ref D :: bm').contains (.type "BaseException")=true:=by rw [List.contains_cons,hbase,Bool.or_true]
 have f:=tc_notTuple
 unfold excMatches
 repeat (first | (with_reducible refine wpAny_loadPart_at he ?_;rw [hcls]) | (with_reducible refine wpAny_loadPart_at hD ?_) | (with_reducible refine wpAny_isSubtype_exc hD ?_;rw [hB]) | (with_reducible refine wpAny_isSubtype_exc hC ?_;rw [hsub]) | wp_step)
 exact hq
def hnd (X:Cx) (ev:Value):Cx:={ X with A:=X.A.mark (some ev),calm:=false,xe:=fun _ _=>False }
section
variable {X : Cx} {pins pins' : List (Addr × Obj)} {σ : St} {H : Hp} {s : Shared} {R : St → XK}
theorem Inv.inhnd (I:Inv X pins σ H s) (ev:Value):Inv (hnd X ev) pins σ H s :=
 ⟨⟨I.ok.mod,I.ok.kind,I.ok.glob,I.ok.blt,I.ok.above,I.ok.inj,I.ok.has,I.ok.cab,(fun z=>nomatch z),I.ok.frames,I.ok.stk,I.ok.exf,I.ok.bs,I.ok.bsz,I.ok.noex,I.ok.exfs,I.ok.funs,I.ok.frf⟩,I.os,I.bare,I.base,I.loc,I.cell,I.free,I.freeC,I.pin,I.hok,I.len⟩
theorem Inv.outhnd {ev:Value} (ok:X.Ok) (I:Inv (hnd X ev) pins σ H s):Inv X pins σ H s :=
 ⟨ok,I.os,I.bare,I.base,I.loc,I.cell,I.free,I.freeC,I.pin,I.hok,I.len⟩
theorem SP.outhnd {ev:Value} {D:Ends} {f:Flow} (ok:X.Ok) (h:SP (hnd X ev) pins D f s):SP X pins D f s:=by
 cases f with
 | ret u=>obtain ⟨v,σ',H',I,r,q⟩:=h;exact ⟨v,σ',H',I.outhnd ok,r,q⟩
 | _=>obtain ⟨σ',H',I,q⟩:=h;exact ⟨σ',H',I.outhnd ok,q⟩
theorem Fly.inv {e C:Addr} {H':Hp} {s1:Shared} {B h2:Heap} {l:List Env} {a0:Value} (F:Fly X.prog X.w X.stack H s e C H' s1) (I:Inv X pins σ H s) (fl:Heap.FlyingW B X.stack e (.ref C) a0 s1.heap) (cv:Cov (frs X.stack) H s.heap B) (ct:Trk H' s1.heap B)
 (st:B.StaysIn h2) (sl:s1.heap.UpToSlots h2):Inv X pins σ H' { s1 with heap:=h2 } :=
 I.call' (s':={ s1 with heap:=h2 }) (ch:=[]) F.os (F.un.flown cv st sl fun b hb o e=>by
  obtain ⟨_,o1,e1,d⟩:=fl.2.2.1.mem hb
  rw [e] at e1
  cases e1
  exact d) (F.hok.flown ct st) F.bare (fun b z=>nomatch z)
end
end L2
namespace L2
open PySem PySem.Spec PyProof.Rows
end L2
set_option maxHeartbeats 400000
namespace L2
open PySem PySem.Spec PyProof.Rows
open PySem.Builtin PySem.Builtin.ObjectAttr PySem.Builtin.Getset_descriptor
structure XGet (K:PySem.W.Frag) (C:Addr):Prop where
 ga:PySem.W.findIn K (.ref C) "__getattribute__"=some (some (.builtin "BaseException.__getattribute__"))
 gt:PySem.W.findIn K (.ref C) "__getattr__"=some none
 cl:PySem.W.hasDictIn K C=true
 ca:PySem.W.findIn K (.ref C) "__class__"=some (some (.builtin "object.__class__"))
 hn:PySem.W.specialIn K (.builtin "object.__class__") "__get__"=some (some (.builtin "getset_descriptor.__get__"))
 tk:PySem.W.takesIn K (.builtin "object.__class__")=some true
 mo:PySem.W.mroIn K C (.type "object")=some true
 mb:PySem.W.mroIn K C (.type "BaseException")=some true
def XAt (C e:Addr) (h:Heap):Prop:=∃o,h.get? e=some o∧o.cls=.ref C
theorem XAt.type {C e:Addr} {h:Heap} (x:XAt C e h) {M:Model}:PySem.W.Looks M h (typeOf (.ref e)) (.ref C):=by
 obtain ⟨o,h1,h2⟩:=x
 exact h2▸(PySem.W.Looks.ld h1).andThen .now
section
variable {prog : Program} {w : World} {A : Around} {E : Value → Shared → Prop} {K : PySem.W.Frag} {x C : Addr} {h : Heap} {g : Array GenState} {d : Drawn} {t : Nat} {os : OsState}
theorem wpAny_ite_f {α:Type} {M:Model} {A:Around} {c:Bool} {a b:Sem α} {Q:α→Shared→Prop} {E:Value→Shared→Prop} {s:Shared} (hc:c=false) (h:wpAny M A b Q E s):wpAny M A (if c=true then a else b) Q E s:=by
 rw [hc,if_neg Bool.false_ne_true];exact h
theorem XGet.find (Z:XGet K C) (X:K.In h) {M:Model}:PySem.W.Looks M h (Builtin.ObjectAttr.find (.ref x) (.ref C) "__class__") (.bind (.builtin "getset_descriptor.__get__") (.builtin "object.__class__")):=by
 have L1:=PySem.W.looks_findIn (M:=M) X Z.ca
 have L2:PySem.W.Looks M h (Builtin.ObjectAttr.getOf (some (.builtin "object.__class__"))) (some (.builtin "getset_descriptor.__get__")):=PySem.W.looks_specialIn X Z.hn
 have L3:PySem.W.Looks M h (Builtin.ObjectAttr.dataDescriptor? (some (.builtin "object.__class__")) (some (.builtin "getset_descriptor.__get__"))) (some (.builtin "getset_descriptor.__get__",.builtin "object.__class__")):=(PySem.W.looks_takesIn X Z.tk).andThen .now
 exact L1.andThen (L2.andThen (L3.andThen (PySem.W.Looks.tag .now)))
theorem exc_get {R:Result→Shared→Prop} {tp:Value} (Z:XGet K C) (X:K.In h) (I:XAt C x h) (hq:R (.ok (.ret (.ref C))) ⟨h,g,d,t,os⟩) :
 codeAny (model prog w) A (.call (.builtin "getset_descriptor.__get__") ⟨[.builtin "object.__class__",.ref x,tp],[]⟩) R ⟨h,g,d,t,os⟩:=by
 have L0:=I.type (M:=model prog w);have L1:=PySem.W.looks_mroIn (M:=model prog w) X Z.mo
 refine codeAny_call_builtin PySem.W.KF.slot_gs.plain PySem.W.KF.entry_gs (PySem.W.KF.slot_gs.check _ _ _ _ _ _ _ _ PySem.W.KF.type_class (PySem.W.KF.args_gs _ _ _) ?_)
 unfold Builtin.«getset_descriptor.__get__» descrGet;rw [PySem.W.dga_obj];refine wpAny_bind (wpAny_pure ?_)
 unfold descrGetter descrCheckInstance descrNameAndClass isInstance;simp only [PySem.W.KF.owner_class];repeat lk
 refine ⟨Code.quiet_builtin _ (by decide +kernel),codeAny_builtin PySem.W.KF.entry_class ?_⟩;unfold Builtin.«object.__class__» shownTypeOf;repeat lk
 exact hq
theorem exc_entry {tk:Tok} {Q:Fin→Shared→Prop} (Z:XGet K C) (X:K.In h) (I:XAt C x h) (hq:Q (.done (.ret (.ref C))) ⟨h,g,d,t,os⟩) :
 wpAny (model prog w) A (Builtin.«object.__getattribute__» ⟨[.ref x,.str "__class__" tk],[]⟩) Q E ⟨h,g,d,t,os⟩:=by
 have L0:=I.type (M:=model prog w)
 have L3:=Z.find (x:=x) X (M:=model prog w)
 refine wpAny_bind (wpAny_pure (wpAny_bind (wpAny_pure (wpAny_bind (L0.at (wpAny_bind (L3.at ?_)))))))
 show wpAny _ _ (Builtin.ObjectAttr.bindTo (.builtin "getset_descriptor.__get__") (.builtin "object.__class__") (.ref x) (.ref C)) _ _ _
 unfold Builtin.ObjectAttr.bindTo
 repeat (any_goals (first | assumption | wp_step))
 exact exc_get Z X I (wpAny_pure hq)
theorem exc_check {M:Model} {nameV:Value} {Q:Unit→Shared→Prop} (L:PySem.W.Looks M h (isInstance (.ref x) (.type "BaseException")) true) (hq:Q () ⟨h,g,d,t,os⟩):wpAny M A (checkBuiltinCall "BaseException.__getattribute__" ⟨[.ref x,nameV],[]⟩) Q E ⟨h,g,d,t,os⟩:=by
 have hk:builtinKind "BaseException.__getattribute__"=some .slot:=by decide +kernel
 have hs:splitId "BaseException.__getattribute__"=some ("BaseException","__getattribute__"):=by decide +kernel
 have ha:argsOk "BaseException.__getattribute__" ⟨[.ref x,nameV],[]⟩:=F.args_bexc_ga (.ref x) nameV
 have LL:PySem.W.Looks M (⟨h,g,d,t,os⟩:Shared).heap (isInstance (.ref x) (.type "BaseException")) true:=L
 have key:=PySem.W.check_slot (M:=M) (A:=A) (E:=E) (s:=⟨h,g,d,t,os⟩) (i:="BaseException.__getattribute__") (owner:="BaseException") (n:="__getattribute__") (self:=.ref x) (rest:=[nameV]) (kw:=[]) (Q:=Q) hk hs LL
 exact key ha hq
theorem exc_call {tk:Tok} {R:Result→Shared→Prop} (Z:XGet K C) (X:K.In h) (I:XAt C x h) (hq:R (.ok (.ret (.ref C))) ⟨h,g,d,t,os⟩) :
 codeAny (model prog w) A (.call (.builtin "BaseException.__getattribute__") ⟨[.ref x,.str "__class__" tk],[]⟩) R ⟨h,g,d,t,os⟩:=by
 have L:PySem.W.Looks (model prog w) h (isInstance (.ref x) (.type "BaseException")) true:=(I.type (M:=model prog w)).andThen (PySem.W.looks_mroIn (M:=model prog w) X Z.mb)
 exact codeAny_call_builtin F.excAttr_ValueError.ga.plain F.entry_bexc_ga (exc_check L (exc_entry Z X I hq))
theorem exc_by {tk:Tok} {Q:Value→Shared→Prop} (Z:XGet K C) (X:K.In h) (I:XAt C x h) (hq:Q (.ref C) ⟨h,g,d,t,os⟩) :
 wpAny (model prog w) A (getAttrBy (.ref x) (.str "__class__" tk) false) Q E ⟨h,g,d,t,os⟩:=by
 have L0:=I.type (M:=model prog w)
 have L1:=PySem.W.looks_findIn (M:=model prog w) X Z.ga
 have L2:=PySem.W.looks_findIn (M:=model prog w) X Z.gt
 have f3:=F.excAttr_ValueError.ga.bind (.ref x)
 have hx2:(Value.builtin "BaseException.__getattribute__" == Value.builtin "object.__getattribute__")=false:=by decide +kernel
 have hx1:(onTheHeap (Value.ref C) && Value.builtin "BaseException.__getattribute__" == Value.builtin "object.__getattribute__")=false:=by rw [hx2];rfl
 refine wpAny_holding (wpAny_bind (L0.at (wpAny_bind (L1.at ?_))))
 refine wpAny_ite_f hx1 ?_
 refine wpAny_bind (L2.at ?_)
 refine wpAny_bind (wpAny_attempt (wpAny_holding ?_))
 show wpAny _ _ (boundAndCalled (.builtin "BaseException.__getattribute__") (.ref x) (.str "__class__" tk)) _ _ _
 unfold boundAndCalled
 rw [f3]
 refine wpAny_bind (wpAny_pure ?_)
 refine wpAny_call (exc_call Z X I ?_)
 exact PySem.W.handed_on rfl hq
theorem exc_class {Q:Option Value→Shared→Prop} (Z:XGet K C) (X:K.In h) (I:XAt C x h) (hq:Q (some (.ref C)) ⟨h,g,d,t+1,os⟩):wpAny (model prog w) A (getAttr? (.ref x) "__class__") Q E ⟨h,g,d,t,os⟩:=by
 unfold getAttr? getAttrBy?
 refine wpAny_bind (wpAny_mkText (wpAny_bind (wpAny_attempt (exc_by Z X I ?_))))
 exact wpAny_pure hq
theorem kitx_exc (Z:XGet K C):PySem.W.KitX K (.ref x) (.ref C) (XAt C x) where
 ty:=fun _ _ _ I=>I.type
 it:=fun _ _ X _=>by
  obtain ⟨cd,hc,_⟩:=PySem.W.any_some Z.cl
  unfold PySem.W.clsIn at hc
  split at hc
  ·rename_i ho
   intro A' Q' E' s' k q;unfold isType loadHead;exact wpAny_bind (wpAny_loadPart (k _ _ (X _ _ ho)) (wpAny_pure q))
  ·cases hc
 ne:=fun h tp dd its n sl X htp=>by
  obtain ⟨cd,hc,_⟩:=PySem.W.any_some Z.cl
  refine Bool.eq_false_iff.mpr fun q=>?_
  have e:C=tp:=Value.ref.inj (beq_iff_eq.mp q)
  rw [←e] at htp;unfold PySem.W.clsIn at hc
  split at hc
  ·rename_i ho
   have z:=(X _ _ ho).symm.trans htp;cases z
  ·cases hc
 ca:=fun {prog w A E Q s} X I k=>by
  obtain ⟨h,g,d,t,os⟩:=s
  exact exc_class Z X I k
end
end L2
set_option maxHeartbeats 4000000
namespace L2
open PySem PySem.Spec PyProof.Rows
section
variable {X : Cx} {pins : List (Addr × Obj)} {σ : St} {H : Hp} {s : Shared}
theorem Inv.track {e:Addr} {o:HO} (I:Inv X pins σ H s) (hn:H e=none) (h0:X.s₀.heap.get? e=none) (hL:e≠X.env.locals) (hC:∀x c,X.env.cells.lookup x=some c→c≠e) (hp:∀p∈X.pn++pins,p.1≠e)
 (ok:ObjOk X.prog X.w (upd H e o) s.heap e o):Inv X pins σ (upd H e o) s where
 ok:=I.ok
 os:=I.os
 bare:=I.bare
 base:=⟨I.base.keep,I.base.slot,fun b ob q n hx=>by
  have hb:b≠e:=fun z=>by rw [z,h0] at q;cases q
  rw [upd_ne hb];exact I.base.free b ob q n hx,I.base.there,
  fun b xs q=>by have:=I.base.tups b xs q;rw [upd_ne (ne_of_none this hn)];exact this,
  fun b o u q=>by have:=I.base.frzs b o u q;rw [upd_ne (ne_of_none this hn)];exact this,
  fun b ps q=>by obtain ⟨more,this⟩:=I.base.tbls b ps q;exact ⟨more,by rw [upd_ne (ne_of_none this hn)];exact this⟩⟩
 loc:=I.loc
 cell:=I.cell
 free:=by rw [upd_ne (Ne.symm hL)];exact I.free
 freeC:=fun x c q=>by rw [upd_ne (hC x c q)];exact I.freeC x c q
 pin:=fun p q=>by
  obtain ⟨a,b,c⟩:=I.pin p q
  exact ⟨a,by rw [upd_ne (hp p q)];exact b,c⟩
 hok:=fun b u q=>by
  by_cases hb:b=e
  ·subst hb;rw [upd_same] at q;cases q;exact ok
  ·rw [upd_ne hb] at q
   exact (I.hok b u q).stay (fun _ _ _ z=>z) (fun c z=>by rw [upd_ne (ne_of_none z hn)];exact z) fun c xs z=>by rw [upd_ne (ne_of_none z hn)];exact z
 len:=I.len
theorem goes_ok {M:Model} {A:Around} {E:Value→Shared→Prop} {i:Nat} {x:Str} {pos:Pos} {Q:Unit→Shared→Prop} (I:Inv X pins σ H s) (hN:X.N.Nodup) (hi:X.N[i]?=some x) (hk:X.env.scope.names.lookup x=some .local)
 (h:∀s',Inv X pins (σ.set i none) H s'→Q () s'):wpAny M A (do bindName X.env x .none;unbindBehindTheSuite X.env x pos) Q E s:=by
 obtain ⟨m,hn,hl⟩:=id I.loc
 have hcls:(X.env.scope.kind == .class || (X.env.scope.kind == .module && X.env.locals != X.env.globals))=false:=by rw [I.ok.kind];rfl
 have cne:=I.cne
 have hiσ:i<σ.length:=by rw [I.len];exact (List.getElem?_eq_some_iff.mp hi).1
 obtain ⟨oL,_,_,hoL,_⟩:=id hn
 refine wpAny_nameGoes_keeps hk hn hcls fun h' v hn' hs=>?_
 have far:∀b o,X.s₀.heap.get? b=some o→b≠X.env.locals:=fun b o e=>Nat.ne_of_lt (Nat.lt_of_lt_of_le (Heap.lt_size e) I.ok.above)
 refine h _ ⟨I.ok,I.os,I.bare,⟨fun b o e n hb hx=>?_,fun b o e n hb hx=>?_,I.base.free,fun b o e hx=>?_,I.base.tups,I.base.frzs,I.base.tbls⟩,⟨_,hn',fun j y v' e1 e2 e3=>?_⟩,fun y c e=>?_,I.free,I.freeC,fun p hp=>?_,fun b ob e=>?_,by simpa using I.len⟩
 ·exact (hs.2 b (far b o e)).trans (I.base.keep b o e n hb hx)
 ·obtain ⟨sl,e1⟩:=I.base.slot b o e n hb hx
  exact ⟨sl,(hs.2 b (far b o e)).trans e1⟩
 ·obtain ⟨o',e1⟩:=I.base.there b o e hx
  exact ⟨o',(hs.2 b (far b o e)).trans e1⟩
 ·have hj:j≠i:=fun z=>by
   subst z
   rw [List.getElem?_set_self hiσ] at e2
   cases e2
  rw [List.getElem?_set_ne (Ne.symm hj)] at e2
  obtain ⟨u',r',q⟩:=hl j y v' e1 e2 e3
  refine ⟨u',r',?_⟩
  rcases q with ⟨k,e⟩ | ⟨k,c,e,z⟩
  ·refine .inl ⟨k,?_⟩
   have:y≠x:=fun e=>hj (nodup_ix hN e1 (e▸hi))
   simp [this,e]
  ·exact .inr ⟨k,c,e,z.sameBut hs (cne y c e)⟩
 ·obtain ⟨w',z⟩:=I.cell y c e
  exact ⟨w',z.sameBut hs (cne y c e)⟩
 ·obtain ⟨e,n,ne,nf,d⟩:=I.pin p hp
  exact ⟨(hs.2 p.1 ne).trans e,n,ne,nf,d⟩
 ·refine (I.hok b ob e).stay (fun c w' hc q=>(hs.2 c ?_).trans q) (fun _ q=>q) fun _ _ q=>q
  rintro rfl
  rcases hc with rfl | hc
  ·rw [I.free] at e;cases e
  ·rw [I.free] at hc;cases hc
end
def unb (i:Nat) (D:Ends):Ends:={ nx:=fun σ H=>D.nx (σ.set i none) H,rt:=D.rt,bk:=fun σ H=>D.bk (σ.set i none) H,ct:=fun σ H=>D.ct (σ.set i none) H }
end L2
set_option maxHeartbeats 400000
namespace L2
open PySem PySem.Spec PyProof.Rows
end L2
namespace L2
open PySem PySem.Spec PyProof.Rows
end L2
namespace L2
open PySem PySem.Spec PyProof.Rows
structure RoomU (k:Nat) (A:Around):Prop where
 dp:A.depth+3*k+5<recursionLimit
 un:A.units+16*k+200<cLine
 gd:A.guards=some []
theorem Room.toU {k:Nat} {A:Around} (r:Room k A):RoomU k A:=⟨r.dp,r.un,r.gd⟩
theorem RoomU.mark {k:Nat} {A:Around} (r:RoomU k A) (ev:Option Value):RoomU k (A.mark ev):=⟨r.dp,r.un,r.gd⟩
theorem RoomU.deeper {k:Nat} {A:Around} (r:RoomU (k+1) A) (env:Env):RoomU k (A.deeper env) :=
 ⟨by have:=r.dp;show A.depth+1+3*k+5<_;omega,by have:=r.un;show A.units+3+16*k+200<_;omega,r.gd⟩
theorem RoomU.depth {k:Nat} {A:Around} (r:RoomU k A):A.depth<recursionLimit:=by have:=r.dp;omega
structure FnOkU (P:Program) (w:World) (K:PySem.W.Frag) (mg:Str→Option Value) (base:Heap) (k:Nat) (f:Addr) (fd:FuncData) (ps:List Str) (sp:Sp):Prop where
 len:∀vs H Q E,sp vs H Q E→vs.length=ps.length
 run:∀(A:Around) (outer:List Env) (s:Shared) (H:Hp) (args:Args) (us:List Value) (vs:List V) (Q:VK) (E:XK),RoomU k A→Env0 P w K mg base A outer s H→BindsTo s fd args (ps.zip us)→Vals vs us→sp vs H Q E →
  codeAny (model P w) A (.call (.ref f) args) (CR CX0 outer P w H s Q E) s
def cxU (P:Program) (w:World) (K:PySem.W.Frag) (mg:Str→Option Value) (base:Heap) (N:List Str) (qual:Str) (scope:Scope) (f:Addr) (cd:Value) (A:Around) (outer:List Env) (s:Shared) (H:Hp) (E:XK):Cx :=
 { cxOf CX0 P w K mg base N qual scope f cd A outer s H E with calm:=false,xe:=fun _ _=>False }
theorem Inv.toU {P:Program} {w:World} {K:PySem.W.Frag} {mg:Str→Option Value} {base:Heap} {N:List Str} {qual:Str} {scope:Scope} {f:Addr} {cd:Value} {A:Around} {outer:List Env} {s s1:Shared} {H H1:Hp} {E:XK} {σ:St} {pins:List (Addr×Obj)}
 (I:Inv (cxOf CX0 P w K mg base N qual scope f cd { A with handled:=none } outer s H E) pins σ H1 s1):Inv (cxU P w K mg base N qual scope f cd A outer s H E) pins σ H1 s1 :=
 ⟨⟨I.ok.mod,I.ok.kind,I.ok.glob,I.ok.blt,I.ok.above,I.ok.inj,I.ok.has,I.ok.cab,(fun z=>nomatch z),I.ok.frames,I.ok.stk,I.ok.exf,I.ok.bs,I.ok.bsz,I.ok.noex,I.ok.exfs,I.ok.funs,I.ok.frf⟩,I.os,I.bare,I.base,I.loc,I.cell,I.free,I.freeC,I.pin,I.hok,I.len⟩
theorem fn_ofU {P:Program} {w:World} {K:PySem.W.Frag} {mg:Str→Option Value} {base:Heap} {k:Nat} {f:Addr} {name qual:Str} {params:Arguments} {body:List Stmt} {scope:Scope} {dV kV doc pm cdv ct oc:Value} {an od:Option Addr}
 {osl:Array (Option Value)} {N ps:List Str} {sp:Sp} (lk:K.lookup f=some ⟨oc,od,.func (PySem.W.fnOf name qual params body scope dV kV doc pm an cdv ct),osl⟩) (hcd:PySem.W.codeIn K cdv qual=true) (S:FnScope N ps scope)
 (len:∀vs H Q E,sp vs H Q E→vs.length=ps.length)
 (hbody:∀(A:Around) (outer:List Env) (s:Shared) (H:Hp) (vs:List V) (Q:VK) (E:XK),RoomU k (A.deeper (envOfC qual scope s.heap.objs.size f cdv))→sp vs H Q E →
   ∃t,PSs (cxU P w K mg base N qual scope f cdv A outer s H E) body t∧t { nx:=fun _ H'=>Q .non H',rt:=Q } (start N vs) H) :
 FnOkU P w K mg base (k+1) f (PySem.W.fnOf name qual params body scope dV kV doc pm an cdv ct) ps sp:=by
 refine ⟨len,fun A outer s H args us vs Q E hr e0 hb r hsp=>?_⟩
 have hl:=len _ _ _ _ hsp
 have KX:K.In s.heap:=e0.mod.kin.keeps fun b o e=>(e0.bs b o e).1
 have lim:s.heap.NoLimit:=e0.mod.nolimit.keeps fun b o e=>(e0.bs b o e).1
 have hkind:∀y∈ps.zip us,scope.names.lookup y.1=some .local∨(scope.names.lookup y.1=some .cell∧((cellsFrom (s.heap.objs.size+1) scope.names []).lookup y.1).isSome=true):=fun ⟨n,v⟩ hy=>by
  rcases S.par n (List.of_mem_zip hy).1 with q | q
  ·exact .inl q
  ·exact .inr ⟨q,PySem.W.cellsFrom_some _ _ _ (.inl q)⟩
 refine codeAny_call_function hr.depth (KX _ _ lk) rfl S.co S.gen rfl (PySem.W.codeRec_of KX hcd) (hb _ _ _ _ ?_)
 refine wpAny_newFunctionEnv_cells S.kind hkind fun env he s1 x=>?_
 subst he
 refine ⟨lim.keeps x.toInCall.keep,codeAny_func ?_⟩
 obtain ⟨t,ht,hq⟩:=hbody A outer s H vs Q E (hr.deeper _) hsp
 have e0':Env0 P w K mg base { A with handled:=none } outer s H:=⟨e0.frames,e0.mod,e0.bs,e0.bsz,e0.funs,e0.frf,e0.hok,e0.bare⟩
 have I0:Inv (cxOf CX0 P w K mg base N qual scope f cdv { A with handled:=none } outer s H E) [] (start N vs) H s1:=inv_start S rfl e0' hl r x
 have I:Inv (cxU P w K mg base N qual scope f cdv A outer s H E) [] (start N vs) H s1:=I0.toU
 refine wpAny_mono (ht [] s1 (start N vs) H _ I hq) (fun fl s' hs=>?_) fun e s' hs=>hs.elim
 have fin:∀{σ':St} {H':Hp} {v:V} {u:Value},Inv (cxU P w K mg base N qual scope f cdv A outer s H E) [] σ' H' s'→RelV v u→Q v H'→CE outer P w H s Q u s' :=
  fun {σ' H' v u} J rv q=>⟨v,H',J.os,J.bare,J.base,J.hok,rv,q⟩
 cases fl with
 | ret u =>
   obtain ⟨v,σ',H',J,rv,q⟩:=hs
   exact fin J rv q
 | next =>
   obtain ⟨σ',H',J,q⟩:=hs
   exact fin (v:=V.non) (u:=Value.none) J rfl q
 | brk =>
   obtain ⟨_,_,_,q⟩:=hs
   exact False.elim q
 | cont =>
   obtain ⟨_,_,_,q⟩:=hs
   exact False.elim q
theorem Fun.okU {P:Program} {w:World} {K:PySem.W.Frag} {mg:Str→Option Value} {base:Heap} {x qual:Str} {st:Stmt} {f:Addr} {fd:FuncData} {N ps:List Str} {k:Nat} {sp:Sp} (F:Fun K x qual st f fd) (S:FnScope N ps (defScope st)) (len:∀vs H Q E,sp vs H Q E→vs.length=ps.length)
 (hbody:∀(cdv:Value) (A:Around) (outer:List Env) (s:Shared) (H:Hp) (vs:List V) (Q:VK) (E:XK),RoomU k (A.deeper (envOfC qual (defScope st) s.heap.objs.size f cdv))→sp vs H Q E →
   ∃t,PSs (cxU P w K mg base N qual (defScope st) f cdv A outer s H E) (defBody st) t∧t { nx:=fun _ H'=>Q .non H',rt:=Q } (start N vs) H):FnOkU P w K mg base (k+1) f fd ps sp:=by
 obtain ⟨oc,od,kV,doc,pm,an,cdv,ct,osl,rfl,lk,hcd⟩:=F.ex
 exact fn_ofU lk hcd S len fun A outer s H vs Q E hr hsp=>hbody cdv A outer s H vs Q E hr hsp
section
variable {X : Cx} {k : Nat} {f : Addr} {fd : FuncData} {ps : List Str} {sp : Sp} {dvs : List V} {ds : List Value} {E : XK} {x : Str} {p pos : Pos} {e : Expr} {es : List Expr} {t : TA}
theorem run_fnU {pins:List (Addr×Obj)} {σ:St} {H:Hp} {s:Shared} {Q:VK} {us:List Value} {vs:List V} (F:FnOkU X.prog X.w X.K X.mg X.base k f fd ps sp) (hr:RoomU k X.A) (hb:Binds X.K fd ps ds) (hd:Vals dvs ds)
 (I:Inv X pins σ H s) (r:Vals vs us) (h:sp (vs++dvs) H Q E):wpAny (model X.prog X.w) X.A (call (.ref f) us) (EP X pins σ Q) X.xe s:=by
 have r2:Vals (vs++dvs) (us++ds):=r.append hd
 have hl:(us++ds).length=ps.length:=by rw [←r2.length];exact F.len _ _ _ _ h
 refine wpAny_call (codeAny_mono (F.run X.A X.stack s H ⟨us,[]⟩ (us++ds) (vs++dvs) Q E hr I.env0 (hb s us I.kIn hl) r2 h) fun r s' hq=>?_)
 cases r with
 | error e=>exact False.elim hq
 | ok fl =>
   cases fl with
   | ret u=>exact I.after hq
   | next=>exact False.elim hq
   | brk=>exact False.elim hq
   | cont=>exact False.elim hq
theorem pe_callU (F:FnOkU X.prog X.w X.K X.mg X.base k f fd ps sp) (hr:RoomU k X.A) (hg:Gl X x) (hm:X.mg x=some (.ref f)) (hk:PySem.W.keepIn X.K (.ref f)=true) (hb:Binds X.K fd ps ds) (hd:Vals dvs ds)
 (ha:PA X (e :: es) t) (hdb:(x == ("__debug__":Str))=false:=by decide) (he:starEach (e :: es) X.env=(false,eval e X.env) :: starEach es X.env:=by rfl) (hpl:(backTo pos (starEach es X.env)).any (·.1)=false:=by rfl) :
 PE X (.Call (.Name x p) (e :: es) [] pos) (tCall sp dvs E t):=by
 intro pins s σ H Q I h
 refine wpAny_Call_Name_kw (ld_glob I hg hm ?_ hdb)
 refine PySem.W.callWith_K (h₀:=X.base) I.ok.mod.kin hk (thn (ha pos pins s σ H _ I h) fun us s1 ⟨vs,H1,I1,r,q⟩=>⟨I1.kIn,?_⟩) he hpl
 exact run_fnU F hr hb hd I1 r q
end
end L2
namespace L2
open PySem PySem.Spec PyProof.Rows
section
variable {X : Cx} {o e : Expr} {es : List Expr} {to : TE} {t : TA} {name : Str} {apos cpos : Pos} {T id : String} {r : V → List V → Hp → VK → Prop}
end
theorem boot_VE:bootBuiltins "ValueError"=some (.type "ValueError"):=by decide +kernel
end L2
set_option maxHeartbeats 4000000
namespace L2
open PySem PySem.Spec PyProof.Rows
end L2
namespace L2
open PySem PySem.Spec PyProof.Rows
end L2
namespace L2
open PySem PySem.Spec PyProof.Rows
section
variable {n : Nat}
end
end L2
namespace L2
open PySem PySem.Spec PyProof.Rows
section
variable {X : Cx} {pins : List (Addr × Obj)} {σ : St} {H : Hp} {s : Shared} {h' : Heap}
end
end L2
namespace HT
open PySem PyProof.Rows
section
open PySem.SeqAt
open PySem.AutoSeq1 (wpAny_loadPart')
open PySem.MeetsSeq PySem.MeetsSeq2 PySem.MeetsSeq3
end
end HT
namespace L2
open PySem PySem.Spec PyProof.Rows
end L2
namespace L2
open PySem PySem.Spec PyProof.Rows
section
variable {prog : Program} {w : World} {A : Around} {E : Value → Shared → Prop} {s : Shared} {d it : Addr} {es : Array DictEntry} {ep i : Nat}
end
end L2
namespace L2
open PySem PySem.Spec PyProof.Rows
end L2
namespace HT
open PySem PyProof.Rows
variable {prog : Program} {w : World} {A : Around} {E : Value → Shared → Prop} {s : Shared}
theorem getItem_tuple_whole {t sl:Addr} {items:Array Value} {vl vu:Value} {lo hi:Option Int} {Q:Value→Shared→Prop} (ht:IsTup s.heap t items) (hs:s.heap.IsSliceOf sl vl vu .none) (pl:IsPart vl lo) (pu:IsPart vu hi)
 (hw:sIx items.size 0 lo=0∧sIx items.size items.size hi=items.size) (h:Q (.ref t) s):wpAny (model prog w) A (getItem (.ref t) (.ref sl)) Q E s:=by
 have hTs:s.TypeIs (.ref sl) "slice":=let ⟨os,hos,hcs,_⟩:=hs;⟨os,hos,hcs⟩
 unfold getItem
 try with_reducible refine wpAny_holding ?_
 first | refine wpAny_bind (wpAny_pure ?_) | skip
 refine wpAny_bind (wpAny_sequenceKey ht.typeIs (by decide) ?_)
 refine wpAny_bind (wpAny_callSpecial?_slot (name:=Str.ofString "__getitem__") ht.typeIs PyProof.Rows.slot_tuple_getitem
  (wpAny_call_entry PyProof.Rows.slot_tuple_getitem ht.typeIs entry_tuple_getitem ?_ (args_tuple_getitem _ _)))
 show wpAny _ _ (Builtin.Tuple.tupleItemsOf (.ref t) >>= _) _ _ s
 refine wpAny_bind (tupleItemsOf_ ht (wpAny_bind (wpAny_typeOf hTs ?_)))
 rw [if_pos (by decide)]
 refine wpAny_bind (sliceApplied_gen hs pl pu ?_)
 show wpAny _ _ (if (((sIx items.size 0 lo:Nat):Int) == 0 && (1:Int) == 1 && (sIx items.size items.size hi - sIx items.size 0 lo) == items.size)=true then _ else _) _ _ s
 rw [if_pos (by rw [hw.1,hw.2];simp)]
 show wpAny _ _ (Builtin.Tuple.tupleIsExact (.ref t) >>= _) _ _ s
 unfold Builtin.Tuple.tupleIsExact
 refine wpAny_bind ?_
 refine wpAny_bind (wpAny_typeOf ht.typeIs (wpAny_pure ?_))
 show wpAny _ _ (if (Value.type "tuple" == Value.type "tuple")=true then _ else _) _ _ s
 rw [if_pos (by decide)]
 refine wpAny_bind (wpAny_rule ?_)
 exact wpAny_pure ⟨_,rfl,wpAny_pure h⟩
end HT
namespace L2
open PySem PySem.Spec PyProof.Rows
inductive rSlA_I (K:PySem.W.Frag) (x:V) (lo:Option Int) (hi:Option Int) (H:Hp) (Q:VK):Prop
 | mk:∀a xs,x=.ref a→SqT K H a xs→((HT.sIx xs.length 0 lo=0∧HT.sIx xs.length xs.length hi=xs.length)→Q (.ref a) H)→(∀p,H p=none→Q (.ref p) (upd H p (.tup (cutV xs lo hi))))→rSlA_I K x lo hi H Q
def rSlA (K:PySem.W.Frag):V→Option Int→Option Int→Hp→VK→Prop:=fun x lo hi H Q=>rSlA_I K x lo hi H Q
theorem sl_tupA {X:Cx}:SlR X (rSlA X.K):=by
 intro pins s σ H x v vl vu lo hi sl Q I rx hs pl pu h
 obtain ⟨a,xs,rfl,hx,q1,q2⟩:=h
 by_cases hw:HT.sIx xs.length 0 lo=0∧HT.sIx xs.length xs.length hi=xs.length
 ·cases rx
  obtain ⟨its,r,ht,hz⟩:=I.tuple hx
  have hlen:its.toArray.size=xs.length:=by rw [List.size_toArray];exact r.length.symm
  exact ⟨"tuple",_,PyProof.Rows.slot_tuple_getitem.lookup,ht.typeIs,HT.getItem_tuple_whole ht hs pl pu (by rw [hlen];exact hw) ⟨.ref a,H,I,rfl,q1 hw⟩⟩
 ·exact sl_tup pins s σ H (.ref a) v vl vu lo hi sl Q I rx hs pl pu ⟨a,xs,rfl,hx,hw,q2⟩
section
variable {X : Cx} {pins : List (Addr × Obj)} {σ : St} {H : Hp} {s : Shared} {a : Addr} {oa : Obj} {kvs : List (List Key × V)}
end
end L2
namespace Hd
open PySem PySem.W PySem.Calls PyProof.Rows L2
noncomputable def runT (st:SharedT→Thread→Option (SharedT×Thread)) (ok:Thread→Bool) (n:Nat):SharedT→Thread→Option SharedT :=
 @Nat.rec (fun _=>SharedT→Thread→Option SharedT) (fun _ _=>none) (fun _ ih s t=>match through t with
  | true=>some s
  | false=>match ok t with
    | false=>none
    | true=>match st s t with
      | some (s',t')=>ih s' t'
      | none=>none) n
theorem runT_succ (st:SharedT→Thread→Option (SharedT×Thread)) (ok:Thread→Bool) (n:Nat) (s:SharedT) (t:Thread):runT st ok (n+1) s t=(match through t with
 | true=>some s
 | false=>match ok t with
   | false=>none
   | true=>match st s t with
     | some (s',t')=>runT st ok n s' t'
     | none=>none):=rfl
theorem runT_of {tb:String→Option Builtin} {p:Program} {w:World} {n₀:Nat} {ann:Option Value}:∀(n:Nat) (s:SharedT) (t:Thread) (s':SharedT),
 runT (stepT (denote tb) p w) (stepOk n₀ ann) n s t=some s'→topRun tb p w n₀ ann n s.abs t=some s'.abs
 | 0,_,_,_,h=>nomatch (h:none=some _)
 | n+1,s,t,s',h=>by
   rw [runT_succ] at h
   unfold topRun
   cases ht:through t with
   | true=>rw [ht] at h;cases h;rfl
   | false =>
     rw [ht] at h
     cases hk:stepOk n₀ ann t with
     | false=>rw [hk] at h;cases h
     | true =>
       rw [hk] at h
       dsimp only at h ⊢
       cases hs:stepT (denote tb) p w s t with
       | none=>rw [hs] at h;cases h
       | some x =>
         obtain ⟨s₂,t₂⟩:=x
         rw [hs] at h
         rw [stepT_spec hs]
         exact runT_of n s₂ t₂ s' h
def btFrom (t:BT) (n:Nat):List Obj→BT
 | []=>t
 | o :: r=>btFrom (t.ins n o) (n+1) r
noncomputable def bootT (P:Params):BT:=btFrom .nil 0 (boot_heap P).objs.toList
theorem boot_size (P:Params):((boot_heap P).isNs mainGlobals,(boot_heap P).objs.size,(boot_heap P).nsMap mainGlobals "__annotations__")=(true,11,some (.ref 6)):=by kernel_rfl
theorem boot_abs (P:Params):absHeap (bootT P) 11 {}=boot_heap P:=by kernel_rfl
noncomputable def S0 (w:World) (os:OsState):SharedT:=⟨bootT w.params,11,{},#[],boot_drawn,boot_toks,os⟩
theorem S0_abs (w:World) (os:OsState):(S0 w os).abs=⟨boot_heap w.params,#[],boot_drawn,boot_toks,os⟩:=congrArg (fun h=>(⟨h,#[],boot_drawn,boot_toks,os⟩:Shared)) (boot_abs w.params)
noncomputable def chk (p:Program) (P:Params) (s:Shared):Bool:=staticsOk (importedModules p.main.body) (boot_heap P) s.heap && namesBound p s.heap && gensDone s && laidKept (boot_heap P) s.heap
noncomputable abbrev stepQ:(Code→Sem Fin)→Program→World→SharedT→Thread→Option (SharedT×Thread):=PySem.W.Fast.tw10156331382660048174
noncomputable abbrev denQ:Code→Sem Fin:=PySem.W.Fast.tw11892475500146522536 PySem.W.Fast.tw14364793385576792824
noncomputable abbrev okQ:Nat→Option Value→Thread→Bool:=PySem.W.Fast.tw6613529449190102663
noncomputable abbrev seenQ:=@PySem.W.Fast.tw4187177175401517315
theorem left {p q:Program} {loose:List Str} {Xt:Shared→Bool} {α:Type} {Yf:Shared→α} {Ya:World→α} {N:Nat} (e:opening p=plainProg p.main.scope.names) (hN:Nat.ble 600 N=true) (f:∀s,fenceModules? p s=some s)
 (h:∀(w:World) (os:OsState),(runT (stepQ denQ p w) (okQ 11 (some (.ref 6))) N (S0 w os) (topStub p)).map (fun s=>(chk p w.params s.abs,seenQ q loose (importedModules p.main.body) Xt true s.abs,Yf s.abs))=some (true,openGood q loose,Ya w)) :
 LeftO p q loose Xt Yf Ya N:=fun w=>by
 obtain ⟨⟨hh,gs,d,k,os⟩,e1,e'⟩:=Option.map_eq_some_iff.mp (boot_open e hN f w)
 obtain ⟨rfl,rfl,rfl,rfl⟩:hh=boot_heap w.params∧gs=#[]∧d=boot_drawn∧k=boot_toks:=by simpa using e'
 have h:=h w os
 unfold stepQ denQ okQ seenQ at h
 rw [←PySem.W.Fast.te10156331382660048174,←PySem.W.Fast.te11892475500146522536,←PySem.W.Fast.te14364793385576792824,←PySem.W.Fast.te6613529449190102663,←PySem.W.Fast.te4187177175401517315] at h
 obtain ⟨s,r,l⟩:=Option.map_eq_some_iff.mp h
 obtain ⟨l1,l2,l3⟩:_∧_∧_:=by simpa only [Prod.mk.injEq] using l
 have r:=runT_of N _ _ _ r
 rw [S0_abs] at r
 obtain ⟨z1,z2,z3⟩:_∧_∧_:=by simpa only [Prod.mk.injEq] using boot_size w.params
 have t:topFrom treeTable p w N ⟨boot_heap w.params,#[],boot_drawn,boot_toks,os⟩=some s.abs:=by
  unfold topFrom
  dsimp only
  rw [z1,z2,z3,r]
  show (match staticsOk (importedModules p.main.body) (boot_heap w.params) s.abs.heap && namesBound p s.abs.heap && gensDone s.abs && laidKept (boot_heap w.params) s.abs.heap with | true=>_ | false=>_)=_
  rw [show (staticsOk (importedModules p.main.body) (boot_heap w.params) s.abs.heap && namesBound p s.abs.heap && gensDone s.abs && laidKept (boot_heap w.params) s.abs.heap)=true from l1]
 unfold openEnds
 rw [e1]
 show (topFrom treeTable p w N _).map _=_
 rw [t]
 exact congrArg some (Prod.ext l2 l3)
def fragH (h:Heap):Frag:=(List.range h.objs.size).filterMap fun a=>(h.get? a).map fun o=>(a,o)
theorem look_map (f:Nat→Option Obj) (a:Addr) (o:Obj):∀l:List Nat,(l.filterMap fun a=>(f a).map fun o=>(a,o)).lookup a=some o→f a=some o
 | [],e=>nomatch e
 | b :: l,e=>by
   cases hb:f b with
   | none=>rw [List.filterMap_cons_none (by rw [hb];rfl)] at e;exact look_map f a o l e
   | some x =>
     rw [List.filterMap_cons_some (by rw [hb];rfl),List.lookup_cons] at e
     split at e
     ·rename_i q;cases e;rw [beq_iff_eq.mp q];exact hb
     ·exact look_map f a o l e
theorem frag_in (h:Heap):(fragH h).In h:=fun a o e=>look_map h.get? a o _ e
def fragT (s:SharedT):Frag:=(List.range s.n).filterMap fun a=>(match Nat.blt a s.n with | true=>alive ((s.tree.get a).getD default) | false=>none).map fun o=>(a,o)
theorem fragT_eq (s:SharedT):fragT s=fragH s.abs.heap:=by
 unfold fragT fragH
 show _=(List.range (absHeap s.tree s.n s.life).objs.size).filterMap fun a=>((absHeap s.tree s.n s.life).get? a).map fun o=>(a,o)
 rw [absHeap_size]
 congr 1
 funext a
 congr 1
 unfold Heap.get?
 rw [absHeap_at]
 cases h:Nat.blt a s.n with
 | true =>
   rw [if_pos (show a<s.n from Nat.le_of_ble_eq_true h)]
   dsimp only
   cases (s.tree.get a).getD default with
   | mk c d dt sl=>cases dt <;> rfl
 | false =>
   rw [if_neg (fun q=>by rw [show Nat.blt a s.n=true from Nat.ble_eq_true_of_le q] at h;cases h)]
def says {α:Type} (obs:Frag→α) (good:α) (_:World) (h:Heap):Prop:=∃K:Frag,K.In h∧obs K=good
theorem close {l:OpenLaw} {q:Program} {loose:List Str} {d:DefRec} {α:Type} {obs:Frag→α} {good:α} {N:Nat}
 (look:PySem.W.Fast.tw9446332074065402090 l=true) (e:opening l.prog=plainProg l.prog.main.scope.names) (hN:Nat.ble 600 N=true) (f:∀s,fenceModules? l.prog s=some s)
 (h:∀(w:World) (os:OsState),(runT (stepQ denQ l.prog w) (okQ 11 (some (.ref 6))) N (S0 w os) (topStub l.prog)).map (fun s=>(chk l.prog w.params s.abs,seenQ q loose (importedModules l.prog.main.body) (fun s=>recOk [] s) true s.abs,obs (fragT s)))=some (true,openGood q loose,good))
 (hdef:defOf q l.name=some (d,[])) (hp:l.prog.theDef l.name=some (d.params,d.body,d.scope)) (hk:kwWritten? d.params.kwonlyargs d.params.kw_defaults=some []) (hwr:(!l.writes || ([]:WRecords).isEmpty)=true)
 (ok:(chainsOk q && opensWell l.prog && (frees l.row.toRowW && l.row.within.isEmpty))=true) (hb:l.prog.bare) (hw:l.row.toRowW.promised)
 (call:WalkO q loose (fun _ _=>True) (says obs good) l.row.toRowW d [] fun f vs=>PySem.call f vs):l.Holds:=by
 rw [←PySem.W.Fast.te9446332074065402090] at look
 refine holds_law look fun said=>?_
 have lf:LeftO l.prog q loose (fun s=>recOk [] s) (fun s=>obs (fragH s.heap)) (fun _=>good) N:=left e hN f fun w os=>by
  have:=h w os
  rw [show (fun s:SharedT=>(chk l.prog w.params s.abs,seenQ q loose (importedModules l.prog.main.body) (fun s=>recOk [] s) true s.abs,obs (fragT s)))=fun s=>(chk l.prog w.params s.abs,seenQ q loose (importedModules l.prog.main.body) (fun s=>recOk [] s) true s.abs,obs (fragH s.abs.heap)) from funext fun s=>by rw [fragT_eq]] at this
  exact this
 exact holds_open (r:=l.row) (q:=q) (loose:=loose) (Xt:=fun s=>recOk [] s) (XP:=fun _ _=>True) (YP:=says obs good) lf (fun _ s y=>⟨fragH s.heap,frag_in _,y⟩) (fun _ _ _ ⟨K,X,y⟩ k=>⟨K,X.keeps k,y⟩) (fun _ _=>trivial) (fun _ _ _ _ _=>trivial) hdef hp hk (fun _ e=>recFacts_of e) hwr said ok hb hw call
def bareV:Value→Value
 | .int n _=>.int n 0
 | .str x _=>.str x 0
 | v=>v
def dflOf (K:Frag):Value→Option (List Value)
 | .none=>none
 | .ref D=>(match K.lookup D with
   | some ⟨_,_,.seq items _,_⟩=>some (items.toList.map bareV)
   | _=>some [])
 | _=>some []
def adOf:Option (Option Value)→Addr
 | some (some (.ref f))=>f
 | _=>0
def see (K:Frag) (r:Option (Option Value)) (q:Str):Option (FuncData×Option (List Value))×Bool:=match r with
 | some (some (.ref f))=>(match K.lookup f with
   | some ⟨_,_,.func fd,_⟩=>(some ({ fd with defaults:=.none,kwdefaults:=.none,doc:=.none,pyModule:=.none,annotations:=none,code:=.none,closureTuple:=.none },dflOf K fd.defaults),codeIn K fd.code q && (keepIn K (.ref f) && isFn K (.ref f)))
   | _=>(none,false))
 | _=>(none,false)
abbrev bareFn (x q:Str) (st:Stmt):FuncData:=fnOf x q (defArgs st) (defBody st) (defScope st) .none .none .none .none none .none .none
theorem see_inv {K:Frag} {r:Option (Option Value)} {x q:Str} {st:Stmt} {ds:Option (List Value)} (h:see K r q=(some (bareFn x q st,ds),true)):∃(oc:Value) (od:Option Addr) (dV kV doc pm:Value) (an:Option Addr) (cdv ct:Value) (osl:Array (Option Value)),
 r=some (some (.ref (adOf r)))∧K.lookup (adOf r)=some ⟨oc,od,.func (fnOf x q (defArgs st) (defBody st) (defScope st) dV kV doc pm an cdv ct),osl⟩∧dflOf K dV=ds∧codeIn K cdv q=true∧keepIn K (.ref (adOf r))=true∧isFn K (.ref (adOf r))=true:=by
 unfold see at h
 split at h
 ·rename_i f
  split at h
  ·rename_i oc od fd osl hl
   obtain ⟨h1,h2⟩:=Prod.mk.inj h
   obtain ⟨h3,h4⟩:=Prod.mk.inj (Option.some.inj h1)
   obtain ⟨c1,c2⟩:=Bool.and_eq_true_iff.mp h2
   obtain ⟨c2,c3⟩:=Bool.and_eq_true_iff.mp c2
   obtain ⟨n,qn,ps,b,sc,g,cl,dV,kV,doc,pm,an,cdv,ct,bs⟩:=fd
   simp only [FuncData.mk.injEq] at h3
   obtain ⟨rfl,rfl,rfl,rfl,rfl,rfl,rfl,-,-,-,-,-,-,-,rfl⟩:=h3
   exact ⟨oc,od,dV,kV,doc,pm,an,cdv,ct,osl,rfl,hl,h4,c1,c2,c3⟩
  ·cases h
 ·cases h
theorem see_fun {K:Frag} {r:Option (Option Value)} {x q:Str} {st:Stmt} (h:see K r q=(some (bareFn x q st,none),true)):r=some (some (.ref (adOf r)))∧keepIn K (.ref (adOf r))=true∧isFn K (.ref (adOf r))=true∧∃fd,Fun K x q st (adOf r) fd:=by
 obtain ⟨oc,od,dV,kV,doc,pm,an,cdv,ct,osl,h1,h2,h3,h4,h5,h6⟩:=see_inv h
 have:dV=.none:=by
  cases dV with
  | none=>rfl
  | ref D=>simp only [dflOf] at h3;split at h3 <;> cases h3
  | _=>cases h3
 subst this
 exact ⟨h1,h5,h6,_,fun_mk h2 h4 h5⟩
theorem see_funD {K:Frag} {r:Option (Option Value)} {x q:Str} {st:Stmt} {b:Value} {bs:List Value} (h:see K r q=(some (bareFn x q st,some (b :: bs)),true)):r=some (some (.ref (adOf r)))∧keepIn K (.ref (adOf r))=true∧isFn K (.ref (adOf r))=true ∧
 ∃(D:Addr) (kV doc pm:Value) (an:Option Addr) (cdv ct:Value) (o:Obj) (items:List Value) (n:Nat),FunD K x q st (adOf r) (fnOf x q (defArgs st) (defBody st) (defScope st) (.ref D) kV doc pm an cdv ct)∧K.lookup D=some o∧o.data=.seq items.toArray n∧items.map bareV=b :: bs:=by
 obtain ⟨oc,od,dV,kV,doc,pm,an,cdv,ct,osl,h1,h2,h3,h4,h5,h6⟩:=see_inv h
 cases dV with
 | none=>cases h3
 | ref D =>
   simp only [dflOf] at h3
   split at h3
   ·rename_i c dd items n sl hl
    refine ⟨h1,h5,h6,D,kV,doc,pm,an,cdv,ct,_,items.toList,n,fun_mkD h2 h4 h5,hl,?_,Option.some.inj h3⟩
    rw [Array.toArray_toList]
   ·cases h3
 | _=>cases h3
theorem map2 {f:Value→Value} {b c:Value} {l:List Value} (h:l.map f=[b,c]):∃u v,l=[u,v]∧f u=b∧f v=c:=by
 match l,h with
 | [u,v],h=>exact ⟨u,v,rfl,(List.cons.inj h).1,(List.cons.inj (List.cons.inj h).2).1⟩
def bv:V→Value
 | .int n=>.int n 0
 | .str x=>.str x 0
 | .bl b=>.bool b
 | _=>.none
def flat:V→Bool
 | .int _ | .str _ | .bl _ | .non=>true
 | _=>false
theorem bare_rel {v:V} {u:Value} (h:bareV u=bv v) (hv:flat v=true:=by rfl):RelV v u:=by
 cases v <;> first | (cases hv;done) | skip
 all_goals (cases u <;> first | (cases h;done) | skip)
 all_goals first | rfl | (injection h with h1;subst h1;exact ⟨_,rfl⟩) | (injection h with h1 _;subst h1;exact ⟨_,rfl⟩) | (injection h with h1;subst h1;rfl)
abbrev gl (K:Frag) (x:Str):Option (Option Value):=nsIn K mainGlobals x
abbrev cl (K:Frag) (x:Str):Addr:=adOf (gl K x)
theorem all_at {l:List Bool} (h:l.all id=true) (i:Nat) {b:Bool} (e:l[i]?=some b):b=true:=List.all_eq_true.mp h b (List.mem_of_getElem? e)
theorem eq_at {α:Type} {l m:List α} (h:l=m) (i:Nat) {a b:α} (e:l[i]?=some a) (e':m[i]?=some b):a=b:=by
 subst h
 exact Option.some.inj (e.symm.trans e')
theorem walk {l:OpenLaw} {n k:Nat} {q:Program} {loose:List Str} {XP:(Str→Option Value)→Heap→Prop} {α:Type} {obs:Frag→α} {good:α} {d:DefRec} {sp:Frag→Sp} {x:Str}
 (hn:l.most=some n) (hn2:n≤sizeLine) (hdf:d.params.defaults=[]) (hr:Room k callerA)
 (F:∀(w:World) (K:Frag) (mg:Str→Option Value) (fa:Addr) (h:Heap),K.In h→obs K=good→h.Ns mainGlobals mg→mg d.name=some (.ref fa) →
   ∃fd:FuncData,(∀(s:Shared) (u:Value),BindsTo s fd ⟨[u],[]⟩ [(x,u)])∧∀base:Heap,K.In base→base.Ns mainGlobals mg→FnOk l.prog w K mg base CX0 k fa fd [x] (sp K))
 (hsp:∀(K:Frag) (H:Hp) (a:Addr) (ns:List Int),ns.length≤n→Only H→SqL K H a (ns.map V.int)→sp K [.ref a] H (fun v _=>v=.bl true) fun _ _ _=>False) :
 WalkO q loose XP (says obs good) l.row.toRowW d [] (fun f vs=>PySem.call f vs):=by
 refine Att.attach_call hn hdf fun w s₀ s₁ mg mb fa o pm cd doc a vs ns G Y ho hd hcd hmg hobj hints hlen hg=>?_
 obtain ⟨K,KX,y⟩:=Y
 obtain ⟨fd,hb,hF⟩:=F w K mg fa _ KX y G.T.g hmg
 exact law_call KX G.T.g G.T.b G.T.builtins G.T.nolimit hg hobj hints (Nat.le_trans hlen hn2) hr hF hb (fun H hO hS=>hsp K H a ns hlen hO hS) fun _ _ _ z=>z
theorem const_at {K:Frag} {h:Heap} {mg:Str→Option Value} {x:Str} {v:V} (X:K.In h) (G:h.Ns mainGlobals mg) (e:(gl K x).map (Option.map bareV)=some (some (bv v))) (hv:flat v=true:=by rfl):∃u,mg x=some u∧RelV v u:=by
 obtain ⟨r,h1,h2⟩:=Option.map_eq_some_iff.mp e
 obtain ⟨u,h3,h4⟩:=Option.map_eq_some_iff.mp h2
 subst h3
 exact ⟨u,mg_of X G h1,bare_rel h4 hv⟩
theorem no_at {K:Frag} {C:Addr} {f:Str} (h:decide (findIn K (.ref C) f=some none)=true):NoAttr K C f:=by have e:findIn K (.ref C) f=some none:=of_decide_eq_true h;exact e
def isVal (o:Option CFound) (v:Value):Bool:=match o with | some (.val u)=>decide (u=v) | _=>false
theorem isVal_of {o:Option CFound} {v:Value} (h:isVal o v=true):o=some (.val v):=by
 unfold isVal at h
 split at h
 ·rw [of_decide_eq_true h]
 ·cases h
end Hd
namespace L2
open PySem PySem.Spec PyProof.Rows
abbrev NewAt (o:HO) (H:Hp) (Q:VK):Prop:=∀p H',H p=none→Same H H'→H' p=some o→Q (.ref p) H'
theorem NewAt.put {o:HO} {H:Hp} {Q:VK} (k:NewAt o H Q) {p:Addr} (hp:H p=none):Q (.ref p) (upd H p o):=k p _ hp (Same.upd_new hp) upd_same
inductive gLstN (xs:List V) (H:Hp) (Q:VK):Prop
 | mk:xs.length≤sizeLine→NewAt (.lst xs) H Q→gLstN xs H Q
inductive gTupN (xs:List V) (H:Hp) (Q:VK):Prop
 | mk:xs.length≤sizeLine→NewAt (.tup xs) H Q→gTupN xs H Q
def tLstG (t:TA):TE:=fun σ H Q=>t σ H fun xs H1=>gLstN xs H1 Q
def tTupG (t:TA):TE:=fun σ H Q=>t σ H fun xs H1=>gTupN xs H1 Q
theorem pe_lstG {X:Cx} {es:List Expr} {t:TA} {pos:Pos} (h:PAs X es t):PE X (.List es pos) (tLstG t):=by
 intro pins s σ H Q I hq
 refine wpAny_List_spliced (thn (h.h pos pins s σ H _ I hq) fun us s1 ⟨xs,H1,I1,r,z,q⟩=>⟨by rw [←r.length];exact z,?_⟩)
 have hf:H1 s1.heap.objs.size=none:=I1.hok.fresh (Nat.le_refl _)
 refine ⟨.ref s1.heap.objs.size,upd H1 s1.heap.objs.size (.lst xs),I1.laid (t':=s1.toks) (fun b u e=>Heap.get?_push_of_some _ e) (Nat.le_refl _) ?_,rfl,NewAt.put q hf⟩
 exact ⟨z,us,0,r,Heap.get?_push_size _ rfl⟩
theorem pe_tupG {X:Cx} {es:List Expr} {t:TA} {x1:Nat} {pos:Pos} (h:PAs X es t):PE X (.Tuple es x1 pos) (tTupG t):=by
 intro pins s σ H Q I hq
 refine wpAny_Tuple_spliced (thn (h.h pos pins s σ H _ I hq) fun us s1 ⟨xs,H1,I1,r,z,q⟩=>⟨by rw [←r.length];exact z,?_⟩)
 have hf:H1 s1.heap.objs.size=none:=I1.hok.fresh (Nat.le_refl _)
 refine ⟨.ref s1.heap.objs.size,upd H1 s1.heap.objs.size (.tup xs),I1.laid (t':=s1.toks) (fun b u e=>Heap.get?_push_of_some _ e) (Nat.le_refl _) ?_,rfl,NewAt.put q hf⟩
 exact ⟨z,us,r,⟨_,Heap.get?_push_size _ rfl,rfl,_,rfl⟩⟩
theorem SlR.mono {X:Cx} {r r':V→Option Int→Option Int→Hp→VK→Prop} (h:SlR X r) (k:∀x lo hi H Q,r' x lo hi H Q→r x lo hi H Q):SlR X r' :=
 fun pins s σ H x v vl vu lo hi sl Q I rx hs pl pu q=>h pins s σ H x v vl vu lo hi sl Q I rx hs pl pu (k _ _ _ _ _ q)
theorem OpR.mono {X:Cx} {f:Value→Value→Sem Value} {r r':R2} (h:OpR X f r) (k:∀x y H Q,r' x y H Q→r x y H Q):OpR X f r' :=
 fun pins s σ H x y v u Q I rx ry q=>h pins s σ H x y v u Q I rx ry (k _ _ _ _ q)
theorem MtR.mono {X:Cx} {id:String} {r r':V→List V→Hp→VK→Prop} (h:MtR X id r) (k:∀x y H Q,r' x y H Q→r x y H Q):MtR X id r' :=
 fun pins s σ H x xs v us Q I rx rv q=>h pins s σ H x xs v us Q I rx rv (k _ _ _ _ q)
inductive gSlL (K:PySem.W.Frag) (x:V) (lo hi:Option Int) (H:Hp) (Q:VK):Prop
 | mk:∀a xs,x=.ref a→SqL K H a xs→NewAt (.lst (cutV xs lo hi)) H Q→gSlL K x lo hi H Q
theorem sl_listG {X:Cx}:SlR X (gSlL X.K):=sl_list.mono fun x lo hi H Q ⟨a,xs,e,h,k⟩=>⟨a,xs,e,h,fun p hp=>NewAt.put k hp⟩
inductive gCat (x y:V) (H:Hp) (Q:VK):Prop
 | mk:∀l b xs zs,x=.ref l→y=.ref b→H l=some (.lst xs)→H b=some (.lst zs)→xs.length+zs.length≤sizeLine→NewAt (.lst (xs++zs)) H Q→gCat x y H Q
theorem op_catG {X:Cx}:OpR X (binaryOp .Add) gCat:=op_cat.mono fun x y H Q ⟨l,b,xs,zs,e1,e2,h1,h2,hz,k⟩=>⟨l,b,xs,zs,e1,e2,h1,h2,hz,fun p hp=>NewAt.put k hp⟩
inductive gSplit (x:V) (xs:List V) (H:Hp) (Q:VK):Prop
 | mk:∀(z y:Str),x=.str z→xs=[.str y]→(y.length == 0)=false→z.length≤1000000→NewAt (.lst ((Txt.split z y).map V.str)) H Q→gSplit x xs H Q
theorem mt_splitG {X:Cx}:MtR X "str.split" gSplit:=mt_split1.mono fun x xs H Q ⟨z,y,e1,e2,hy,hz,k⟩=>⟨z,y,e1,e2,hy,hz,fun p hp=>NewAt.put k hp⟩
inductive gSlT (K:PySem.W.Frag) (x:V) (lo hi:Option Int) (H:Hp) (Q:VK):Prop
 | mk:∀a xs,x=.ref a→H a=some (.tup xs)→(∀p H',Same H H'→H' p=some (.tup (cutV xs lo hi))→Q (.ref p) H')→gSlT K x lo hi H Q
theorem cut_whole {xs:List V} {lo hi:Option Int} (h:HT.sIx xs.length 0 lo=0∧HT.sIx xs.length xs.length hi=xs.length):cutV xs lo hi=xs:=by
 unfold cutV
 rw [h.1,h.2]
 simp
theorem sl_tupG {X:Cx}:SlR X (gSlT X.K):=sl_tupA.mono fun x lo hi H Q ⟨a,xs,e,h,k⟩=>⟨a,xs,e,SqT.of h,fun c=>k a H (Same.refl H) (by rw [cut_whole c];exact h),fun p hp=>k p _ (Same.upd_new hp) upd_same⟩
theorem cut_from {α:Type} (f:α→V) (xs:List α) (v:Int) (h:0≤v):cutV (xs.map f) (some v) none=(xs.drop v.toNat).map f:=by
 have hv:¬v<0:=by omega
 simp only [cutV,HT.sIx,if_neg hv,List.length_map,←List.map_drop,←List.map_take]
 congr 1
 by_cases hl:v.toNat≤xs.length
 ·rw [show min v.toNat xs.length=v.toNat by omega]
  exact List.take_of_length_le (by rw [List.length_drop];omega)
 ·rw [show min v.toNat xs.length=xs.length by omega,List.drop_eq_nil_of_le (Nat.le_refl _),List.drop_eq_nil_of_le (show xs.length≤v.toNat by omega)]
  simp
theorem str_ne {x y:Str}:(!decide (V.str x=V.str y)) = !decide (x=y):=by
 by_cases h:x=y
 ·rw [h,decide_eq_true rfl,decide_eq_true rfl]
 ·rw [decide_eq_false h,decide_eq_false fun z=>h (V.str.inj z)]
theorem str_eq {x y:Str}:decide (V.str x=V.str y)=decide (x=y):=by
 by_cases h:x=y
 ·rw [h,decide_eq_true rfl,decide_eq_true rfl]
 ·rw [decide_eq_false h,decide_eq_false fun z=>h (V.str.inj z)]
theorem int_eq {x y:Int}:decide (V.int x=V.int y)=decide (x=y):=by
 by_cases h:x=y
 ·rw [h,decide_eq_true rfl,decide_eq_true rfl]
 ·rw [decide_eq_false h,decide_eq_false fun z=>h (V.int.inj z)]
end L2
namespace L2
open PySem PySem.Spec PyProof.Rows
inductive tMethD_I (P:Program) (w:World) (K:PySem.W.Frag) (mg:Str→Option Value) (base:Heap) (A:Around) (m:Str) (t:TA) (σ:St) (Q:VK) (x:V) (H1:Hp):Prop
 | mk:∀(a dx:Addr) (fs:List (Str×V)) (C f:Addr) (fd:FuncData) (ps:List Str) (sp:Sp) (k:Nat),x=.ref a→H1 a=some (.ins C dx fs)→Cls K C→Meth K C m f→FnOk P w K mg base CX0 k f fd ps sp→Room k A→Binds K fd ps []→fs.lookup m=none→(t σ H1 fun vs H2=>sp (x :: vs) H2 Q E0)→tMethD_I P w K mg base A m t σ Q x H1
def tMethD (P:Program) (w:World) (K:PySem.W.Frag) (mg:Str→Option Value) (base:Heap) (A:Around) (m:Str) (ta:TE) (t:TA):TE:=fun σ H Q=>ta σ H fun x H1=>tMethD_I P w K mg base A m t σ Q x H1
section
variable {X : Cx} {o e : Expr} {es : List Expr} {ta : TE} {t : TA} {m : Str} {apos pos : Pos}
theorem pe_methD0 {P:Program} {w:World} {K:PySem.W.Frag} {mg:Str→Option Value} {base:Heap} {A:Around} {pl:Sem Bool} (he:PE X o ta) (hP:X.prog=P:=by rfl) (hw:X.w=w:=by rfl) (hK:X.K=K:=by rfl) (hmg:X.mg=mg:=by rfl) (hba:X.base=base:=by rfl) (hA:X.A=A:=by rfl)
 (ht:eval (.Call (.Attribute o m apos) [] [] pos) X.env=(do
   let ov ←eval o X.env
   standAt apos.atName
   let (f,first) ←holding [ov] (getMethod ov m pl)
   callWith pos f first (backTo pos (starEach [] X.env)) (backToKw pos (keywordEach [] X.env))):=by rfl) :
 PE X (.Call (.Attribute o m apos) [] [] pos) (tMethD P w K mg base A m ta tNil):=by
 subst hP hw hK hmg hba hA
 intro pins s σ H Q I h
 refine PySem.W.methodCall_KW (pl:=pl) (thn (he pins s σ H _ I h) fun u s1 ⟨x,H1,I1,rx,a,dx,fs,C,f,fd,ps,sp,k,ex,ea,c,hm,F,hr,hb,l,q⟩=>?_) ht
 subst ex
 obtain rfl:u=Value.ref a:=rx
 refine getmeth_ok I1 ea c hm l ?_
 exact PySem.W.callWith_K0 (first:=[.ref a]) I1.kIn hm.kp (run_fn (us:=[.ref a]) (vs:=[.ref a]) F hr hb .nil pass0 I1 (.cons rfl .nil) (by rw [List.append_nil];exact q))
structure CFn (K:PySem.W.Frag) (C f:Addr) (m:Str):Prop where
 ga:PySem.W.specialIn K (.ref C) "__getattribute__"=some (some (.builtin "type.__getattribute__"))
 rd:PySem.W.readsIn K C (.type "type")=true
 fc:PySem.W.findCls K (.ref C) (.type "type") m=some (.val (.ref f))
 hn:PySem.W.handedIn (.ref f)=true
 kp:PySem.W.keepIn K (.ref f)=true
theorem pe_clsfn {C f:Addr} {k:Nat} {fd:FuncData} {ps:List Str} {sp:Sp} {pl:Sem Bool} {x:Str} {np:Pos} (hg:Gl X x) (hmx:X.mg x=some (.ref C)) (c:CFn X.K C f m) (F:FnOk X.prog X.w X.K X.mg X.base CX0 k f fd ps sp) (hr:Room k X.A) (hb:Binds X.K fd ps []) (ha:PA X (e :: es) t)
 (hdb:(x == ("__debug__":Str))=false:=by decide)
 (hst:starEach (e :: es) X.env=(false,eval e X.env) :: starEach es X.env:=by rfl) (hpl:(backTo pos (starEach es X.env)).any (·.1)=false:=by rfl)
 (ht:eval (.Call (.Attribute (.Name x np) m apos) (e :: es) [] pos) X.env=(do
   let ov ←eval (.Name x np) X.env
   standAt apos.atName
   let (f,first) ←holding [ov] (getMethod ov m pl)
   callWith pos f first (backTo pos (starEach (e :: es) X.env)) (backToKw pos (keywordEach [] X.env))):=by rfl) :
 PE X (.Call (.Attribute (.Name x np) m apos) (e :: es) [] pos) (tCall sp [] E0 t):=by
 intro pins s σ H Q I h
 refine PySem.W.methodCall_KW (pl:=pl) (thn (pe_glob (v:=.ref C) hg hmx rfl hdb pins s σ H (fun v H1=>v=.ref C∧H1=H) I ⟨rfl,rfl⟩) fun u s1 ⟨y,H1,I1,rx,ey,eH⟩=>?_) ht
 subst ey eH
 obtain rfl:u=Value.ref C:=rx
 refine PySem.W.method_cls I1.kIn c.ga (PySem.W.cls_value I1.kIn c.rd c.fc c.hn ?_)
 have I2:Inv X pins σ H1 { s1 with toks:=s1.toks+1 }:=I1.tok _
 refine PySem.W.callWith_K (first:=[]) (h₀:=X.base) I.ok.mod.kin c.kp (thn (ha pos pins _ σ H1 _ I2 h) fun us s2 ⟨vs,H2,I3,r,q2⟩=>⟨I3.kIn,?_⟩) hst hpl
 exact run_fn (us:=us) (vs:=vs) F hr hb .nil pass0 I3 r q2
end
end L2
namespace L2
open PySem PySem.Spec PyProof.Rows
end L2
namespace L2
open PySem PySem.Spec PyProof.Rows
end L2
namespace Hd
open PySem PySem.W L2
def isStrs:List Value→List Str→Bool
 | [],[]=>true
 | .str x _ :: us,y :: ys=>decide (x=y) && isStrs us ys
 | _,_=>false
theorem isStrs_vals:∀{us:List Value} {ys:List Str},isStrs us ys=true→Vals (ys.map V.str) us
 | [],[],_=>.nil
 | [],_ :: _,h=>by simp [isStrs] at h
 | u :: us,[],h=>by cases u <;> simp [isStrs] at h
 | u :: us,y :: ys,h=>by
   cases u with
   | str x t =>
     rw [isStrs,Bool.and_eq_true] at h
     have e:=of_decide_eq_true h.1
     subst e
     exact .cons ⟨t,rfl⟩ (isStrs_vals h.2)
   | _=>simp [isStrs] at h
def tupObj (o:Option Obj) (ys:List Str):Bool:=match o with
 | some ob=>decide (ob.cls=.type "tuple") && (match ob.data with | .seq its _=>decide (its.size≤sizeLine) && isStrs its.toList ys | _=>false)
 | none=>false
def tupStrs (K:Frag) (x:Str) (ys:List Str):Bool:=decide (gl K x=some (some (.ref (adOf (gl K x))))) && tupObj (K.lookup (adOf (gl K x))) ys
theorem tup_at {K:Frag} {h:Heap} {mg:Str→Option Value} {x:Str} {ys:List Str} (X:K.In h) (G:h.Ns mainGlobals mg) (e:tupStrs K x ys=true):∃p,mg x=some (.ref p)∧∀H,SqT K H p (ys.map V.str):=by
 unfold tupStrs at e
 rw [Bool.and_eq_true] at e
 refine ⟨_,mg_of X G (of_decide_eq_true e.1),fun H=>.inr ?_⟩
 have e2:=e.2
 unfold tupObj at e2
 cases ho:K.lookup (adOf (gl K x)) with
 | none=>rw [ho] at e2;cases e2
 | some ob =>
   rw [ho] at e2
   dsimp only at e2
   rw [Bool.and_eq_true] at e2
   obtain ⟨c1,c2⟩:=e2
   cases hd:ob.data with
   | seq its n =>
     rw [hd] at c2
     dsimp only at c2
     rw [Bool.and_eq_true] at c2
     exact ⟨ob,its,n,rfl,of_decide_eq_true c1,hd,of_decide_eq_true c2.1,vals_abs (isStrs_vals c2.2) (fun x hx y t z=>by obtain ⟨i,_,rfl⟩:=List.mem_map.mp hx;cases z)⟩
   | _=>rw [hd] at c2;cases c2
end Hd
namespace L2
open PySem PySem.Spec PyProof.Rows
inductive rJoinT_I (K:PySem.W.Frag) (x:V) (xs:List V) (H:Hp) (Q:VK):Prop
 | mk:∀(sep:Str) (p:Addr) (ys:List Str),x=.str sep→xs=[.ref p]→SqT K H p (ys.map V.str)→(ys.map (·.length)).sum+ys.length*sep.length≤16777216→Q (.str (Txt.join sep ys)) H→rJoinT_I K x xs H Q
def rJoinT (K:PySem.W.Frag):V→List V→Hp→VK→Prop:=fun x xs H Q=>rJoinT_I K x xs H Q
theorem mt_joinT {X:Cx}:MtR X "str.join" (rJoinT X.K):=by
 intro pins s σ H x xs v us Q I rx rv h
 obtain ⟨sep,p,ys,rfl,rfl,hq,hz,q⟩:=h
 obtain ⟨t,rfl⟩:=rx
 obtain ⟨u,rfl,ru⟩:=vals1 rv
 cases ru
 obtain ⟨its,r,pl,_⟩:=I.tuple hq
 exact join_tuple pl (by have:=strsAre_of r;simpa using this) hz fun t' k=>⟨.str (Txt.join sep ys),H,I.tok k,⟨t',rfl⟩,q⟩
abbrev TF:=St→Hp→Str→(Str→Hp→Prop)→Prop
def PF (X:Cx) (es:List Expr) (t:TF):Prop:=∀(pins:List (Addr×Obj)) (s:Shared) (σ:St) (H:Hp) (acc:Str) (Q:Str→Hp→Prop),Inv X pins σ H s→t σ H acc Q →
 Joins (model X.prog X.w) X.A X.xe (evalEach es X.env) acc (fun out s1=>∃H',Inv X pins σ H' s1∧Q out H') s
def tfNil:TF:=fun _ H acc Q=>Q acc H
inductive tfOne (t:TF) (σ:St) (acc:Str) (Q:Str→Hp→Prop) (v:V) (H1:Hp):Prop
 | mk:∀y:Str,v=.str y→(acc++y).length≤sizeLine→t σ H1 (acc++y) Q→tfOne t σ acc Q v H1
def tfCons (te:TE) (t:TF):TF:=fun σ H acc Q=>te σ H fun v H1=>tfOne t σ acc Q v H1
section
variable {X : Cx} {e : Expr} {es : List Expr} {te : TE} {t : TF} {pos : Pos}
theorem pf_nil:PF X [] tfNil:=fun _ s _ H _ _ I h=>⟨H,I,h⟩
theorem pf_cons (he:PE X e te) (h:PF X es t) (hev:evalEach (e :: es) X.env=eval e X.env :: evalEach es X.env:=by rfl):PF X (e :: es) (tfCons te t):=by
 intro pins s σ H acc Q I q
 rw [hev]
 refine thn (he pins s σ H _ I q) fun u s1 ⟨v,H1,I1,r,y,ev,hz,q1⟩=>?_
 subst ev
 obtain ⟨tk,rfl⟩:=r
 exact ⟨y,tk,rfl,hz,h pins s1 σ H1 _ Q I1 q1⟩
inductive tFs_I (Q:VK) (out:Str) (H':Hp):Prop
 | mk:out.length≤sizeLine→Q (.str out) H'→tFs_I Q out H'
def tFs (t:TF):TE:=fun σ H Q=>t σ H Str.empty fun out H'=>tFs_I Q out H'
theorem pe_fs {v1 v2:Expr} {rest:List Expr} (h:PF X (v1 :: v2 :: rest) t):PE X (.JoinedStr (v1 :: v2 :: rest) pos) (tFs t):=by
 intro pins s σ H Q I q
 refine wpAny_JoinedStr ?_
 have hj:=h pins s σ H Str.empty _ I q
 have mono:∀(ps:List (Sem Value)) (acc:Str) (Q1 Q2:Str→Shared→Prop) (s:Shared),(∀o s,Q1 o s→Q2 o s)→Joins (model X.prog X.w) X.A X.xe ps acc Q1 s→Joins (model X.prog X.w) X.A X.xe ps acc Q2 s:=by
  intro ps
  induction ps with
  | nil=>intro acc Q1 Q2 s k j;exact k _ _ j
  | cons p ps ih =>
    intro acc Q1 Q2 s k j
    exact thn j fun v s1 ⟨y,t,ev,hz,hr⟩=>⟨y,t,ev,hz,ih _ Q1 Q2 s1 k hr⟩
 refine mono _ _ _ _ _ (fun out s1 ⟨H',I',hz,q'⟩=>⟨hz,⟨.str out,H',I'.tok _,⟨_,rfl⟩,q'⟩⟩) hj
inductive tFmt_I (Q:VK) (v:V) (H1:Hp):Prop
 | str:∀y:Str,v=.str y→y.length≤sizeLine→Q (.str y) H1→tFmt_I Q v H1
 | int:∀i:Int,v=.int i→i.natAbs.log2<1920→Q (.str (toString i)) H1→tFmt_I Q v H1
def tFmt (te:TE):TE:=fun σ H Q=>te σ H fun v H1=>tFmt_I Q v H1
theorem pe_fmt (he:PE X e te):PE X (.FormattedValue e (-1) none pos) (tFmt te):=by
 intro pins s σ H Q I q
 refine wpAny_FormattedValue_plain (thn (he pins s σ H _ I q) fun u s1 ⟨v,H1,I1,r,q1⟩=>?_)
 cases q1 with
 | str y ev hz q1 =>
   subst ev
   obtain ⟨tk,rfl⟩:=r
   exact wpAny_formatField_str ⟨.str y,H1,I1,⟨tk,rfl⟩,q1⟩ ⟨.str y,H1,I1.tok _,⟨_,rfl⟩,q1⟩ hz
 | int i ev hz q1 =>
   subst ev
   obtain ⟨tk,rfl⟩:=r
   exact wpAny_formatField_int hz ⟨.str _,H1,I1.tok _,⟨_,rfl⟩,q1⟩
end
end L2
namespace L2
open PySem PySem.Spec PyProof.Rows
end L2
namespace L2
open PySem PySem.Spec PyProof.Rows
theorem runs_toks {M:Model} {Γ:PySem.Ctx} {p:Pos} {t:Sem Fin} {fs:List Frame} {s:Shared} {e:End} {s':Shared} (h:Runs M Γ p t fs s e s'):s.toks≤s'.toks:=by
 induction h with
 | fresh _ ih=>exact Nat.le_trans (Nat.le_succ _) ih
 | call _ _ i1 i2=>exact Nat.le_trans i1 i2
 | resumeFresh _ _ _ _ i1 i2=>exact Nat.le_trans i1 i2
 | resumeSuspended _ _ _ _ i1 i2=>exact Nat.le_trans i1 i2
 | segRet _ _ i1 i2=>exact Nat.le_trans i1 i2
 | segGen _ _ i1 i2=>exact Nat.le_trans i1 i2
 | segSuspGen _ _ _ _ i1 i2=>exact Nat.le_trans i1 i2
 | done=>exact Nat.le_refl _
 | raise=>exact Nat.le_refl _
 | yield=>exact Nat.le_refl _
 | again _ _ ih=>exact ih
 | rule _ ih=>exact ih
 | «at» _ ih=>exact ih
 | load _ _ ih=>exact ih
 | update _ _ ih=>exact ih
 | loadIfAlive _ ih=>exact ih
 | point _ ih=>exact ih
 | alloc _ ih=>exact ih
 | ask _ ih=>exact ih
 | choose _ _ ih=>exact ih
 | os _ ih=>exact ih
 | handled _ ih=>exact ih
 | genState _ _ ih=>exact ih
 | stack _ ih=>exact ih
 | thread _ ih=>exact ih
 | newGen _ ih=>exact ih
 | callSusp _ ih=>exact ih
 | resumeJustStarted _ _ _ ih=>exact ih
 | resumeThrowFresh _ _ ih=>exact ih
 | resumeRunning _ _ ih=>exact ih
 | resumeFinished _ _ ih=>exact ih
 | segSuspOut _ _ ih=>exact ih
theorem wakes_toks {M:Model} {Γ:PySem.Ctx} {p:Pos} {g:Nat} {r:Resume} {s:Shared} {res:GenResult} {s':Shared} (h:Wakes M Γ p g r s res s'):s.toks≤s'.toks:=by
 unfold Wakes at h
 split at h
 ·exact h.elim
 ·split at h
  ·obtain ⟨e1,s1,hr,_,_,rfl⟩:=h
   exact (runs_toks hr:(s.setGen g .running).toks≤s1.toks)
  ·obtain ⟨_,rfl⟩:=h;exact Nat.le_refl _
  ·obtain ⟨_,rfl⟩:=h;exact Nat.le_refl _
 ·obtain ⟨e1,s1,hr,_,_,rfl⟩:=h
  exact (runs_toks hr:(s.setGen g .running).toks≤s1.toks)
 ·obtain ⟨_,rfl⟩:=h;exact Nat.le_refl _
 ·obtain ⟨_,rfl⟩:=h;exact Nat.le_refl _
theorem wp_toks {α:Type} {M:Model} {Γ:PySem.Ctx} {n:Nat} (t:Sem α):∀{Q:α→Pos→Shared→Prop} {E:Value→Pos→Shared→Prop} {p:Pos} {s:Shared},n≤s.toks→Sem.wp M Γ t (fun a p' s'=>n≤s'.toks→Q a p' s') (fun e p' s'=>n≤s'.toks→E e p' s') p s→Sem.wp M Γ t Q E p s:=by
 induction t with
 | pure a=>intro Q E p s hn h;exact h hn
 | raise e=>intro Q E p s hn h;exact h hn
 | unsupported _=>intro Q E p s hn h;exact h
 | finish _=>intro Q E p s hn h;exact h
 | rule _ k ih=>intro Q E p s hn h;exact ih _ hn h
 | «at» _ k ih=>intro Q E p s hn h;exact ih _ hn h
 | load _ _ k ih=>intro Q E p s hn h;obtain ⟨o,e,h⟩:=h;exact ⟨o,e,ih _ hn h⟩
 | update _ _ _ k ih=>intro Q E p s hn h;exact ⟨h.1,ih _ hn h.2⟩
 | loadIfAlive _ k ih=>intro Q E p s hn h;exact ih _ hn h
 | point _ k ih=>intro Q E p s hn h;exact ih _ hn h
 | register _ _=>intro Q E p s hn h;exact h
 | alloc _ k ih=>intro Q E p s hn h;exact ih _ hn h
 | fresh k ih=>intro Q E p s hn h;exact ih _ (Nat.le_succ_of_le hn) h
 | ask k ih=>intro Q E p s hn h;exact ih _ hn h
 | choose _ _ k ih=>intro Q E p s hn h;exact ⟨h.1,ih _ hn h.2⟩
 | os _ _ k ih=>intro Q E p s hn h;exact ih _ hn h
 | call _ _ _ _ k ih=>intro Q E p s hn h;obtain ⟨r,s',hr,h⟩:=h;exact ⟨r,s',hr,ih _ (Nat.le_trans hn (runs_toks hr)) h⟩
 | handled _ k ih=>intro Q E p s hn h;exact ih _ hn h
 | genState _ k ih=>intro Q E p s hn h;obtain ⟨st,e,h⟩:=h;exact ⟨st,e,ih _ hn h⟩
 | newGen _ k ih=>intro Q E p s hn h;exact ih _ hn h
 | resume _ _ _ k ih=>intro Q E p s hn h;obtain ⟨r,s',hr,h⟩:=h;exact ⟨r,s',hr,ih _ (Nat.le_trans hn (wakes_toks hr)) h⟩
 | yield _ _ _ _=>intro Q E p s hn h;exact h
 | stack k ih=>intro Q E p s hn h;exact ih _ hn h
 | fork _ _=>intro Q E p s hn h;exact h
 | thread k ih=>intro Q E p s hn h;exact ih _ hn h
 | await _ _ _ _ _=>intro Q E p s hn h;exact h
theorem wpAny_tk {α:Type} {M:Model} {A:Around} {t:Sem α} {Q:α→Shared→Prop} {E:Value→Shared→Prop} {s:Shared} (h:wpAny M A t (fun a s'=>s.toks≤s'.toks→Q a s') (fun e s'=>s.toks≤s'.toks→E e s') s):wpAny M A t Q E s :=
 fun Γ p hΓ=>wp_toks t (Nat.le_refl _) (h Γ p hΓ)
theorem thn_tk {α:Type} {M:Model} {A:Around} {t:Sem α} {Q Q':α→Shared→Prop} {E:Value→Shared→Prop} {s:Shared} (h:wpAny M A t Q E s) (k:∀a s',s.toks≤s'.toks→Q a s'→Q' a s'):wpAny M A t Q' E s :=
 wpAny_tk (wpAny_mono h (fun a s' q hn=>k a s' hn q) fun e s' q _=>q)
end L2
namespace L2
open PySem PySem.Spec PyProof.Rows
section
variable {X : Cx} {pins : List (Addr × Obj)} {σ : List (Option V)} {H : Hp} {s : Shared}
abbrev LocRel (X:Cx) (σ:List (Option V)) (h:Heap) (m:Str→Option Value):Prop:=∀(i:Nat) (x:Str) (v:V),X.N[i]?=some x→σ[i]?=some (some v)→Vis X.env.scope x→∃u,RelV v u∧Look X.env h m x u
theorem Inv.stored {i:Nat} {x:Str} {v:V} {u:Value} {m:Str→Option Value} {h':Heap} {k:Nat} (I:Inv X pins σ H s) (hN:X.N.Nodup) (hi:X.N[i]?=some x) (hk:X.env.kindOf x=some .local) (r:RelV v u) (hn:s.heap.Ns X.env.locals m) (hl:LocRel X σ s.heap m)
 (hn':h'.Ns X.env.locals (fun y=>if y=x then some u else m y)) (hs:Heap.SameBut X.env.locals s.heap h'):Inv X pins (σ.set i (some v)) H { s with heap:=h',toks:=k }∧LocRel X (σ.set i (some v)) h' (fun y=>if y=x then some u else m y):=by
 have hiσ:i<σ.length:=by rw [I.len];exact (List.getElem?_eq_some_iff.mp hi).1
 have cne:=I.cne
 obtain ⟨oL,_,_,hoL,_⟩:=id hn
 have tracked:HOk X.prog X.w H h':=fun b ob e=>by
  refine (I.hok b ob e).stay (fun c w' hc q=>(hs.2 c ?_).trans q) (fun _ q=>q) fun _ _ q=>q
  rintro rfl
  rcases hc with rfl | hc
  ·rw [I.free] at e;cases e
  ·rw [I.free] at hc;cases hc
 have lr:LocRel X (σ.set i (some v)) h' (fun y=>if y=x then some u else m y):=fun j y v' e1 e2 e3=>by
  by_cases hj:j=i
  ·subst hj
   rw [hi] at e1;cases e1
   rw [List.getElem?_set_self hiσ] at e2
   cases e2
   exact ⟨u,r,.inl ⟨hk,by simp⟩⟩
  ·rw [List.getElem?_set_ne (Ne.symm hj)] at e2
   obtain ⟨u',r',q⟩:=hl j y v' e1 e2 e3
   refine ⟨u',r',?_⟩
   rcases q with ⟨k,e⟩ | ⟨k,c,e,z⟩
   ·refine .inl ⟨k,?_⟩
    have:y≠x:=fun e=>hj (nodup_ix hN e1 (e▸hi))
    simp [this,e]
   ·exact .inr ⟨k,c,e,z.sameBut hs (cne y c e)⟩
 refine ⟨⟨I.ok,I.os,I.bare,⟨fun b o e n hb hx=>?_,fun b o e n hb hx=>?_,I.base.free,fun b o e hx=>?_,I.base.tups,I.base.frzs,I.base.tbls⟩,⟨_,hn',lr⟩,fun y c e=>?_,I.free,I.freeC,fun p hp=>?_,tracked,by simpa using I.len⟩,lr⟩
 ·exact (hs.2 b (Nat.ne_of_lt (Nat.lt_of_lt_of_le (Heap.lt_size e) I.ok.above))).trans (I.base.keep b o e n hb hx)
 ·obtain ⟨sl,e1⟩:=I.base.slot b o e n hb hx
  exact ⟨sl,(hs.2 b (Nat.ne_of_lt (Nat.lt_of_lt_of_le (Heap.lt_size e) I.ok.above))).trans e1⟩
 ·obtain ⟨o',e1⟩:=I.base.there b o e hx
  exact ⟨o',(hs.2 b (Nat.ne_of_lt (Nat.lt_of_lt_of_le (Heap.lt_size e) I.ok.above))).trans e1⟩
 ·obtain ⟨w',z⟩:=I.cell y c e
  exact ⟨w',z.sameBut hs (cne y c e)⟩
 ·obtain ⟨e,n,ne,nf,d⟩:=I.pin p hp
  exact ⟨(hs.2 p.1 ne).trans e,n,ne,nf,d⟩
abbrev padS (y:Str):Str:=((" ":Str)++y)++" "
theorem pad_ne (y:Str):(y == padS y)=false:=by
 rw [beq_eq_false_iff_ne]
 intro e
 have h:=congrArg Str.length e
 have q:(" ":Str).length=1:=by decide +kernel
 rw [strLen_append,strLen_append,q] at h
 omega
theorem rep_eval {m:Str→Option Value} {txt sg:Str} {x y:Str} {tx ts:Tok} {E:Value→Shared→Prop} {Q:Value→Shared→Prop} {p1 p2 p3 p4 p5 p6 p7 apos cpos:Pos} {k1 k2:Nat} (I:Inv X pins σ H s) (hn:s.heap.Ns X.env.locals m)
 (hx:m txt=some (.str x tx)) (hy:m sg=some (.str y ts)) (kt:X.env.kindOf txt=some .local) (ks:X.env.kindOf sg=some .local) (h0:0<ts) (h1:ts<s.toks) (hy1:y.length=1) (hb:x.length≤1000000)
 (q:∀t' k,Q (.str (Txt.replace x y (padS y)) t') { s with toks:=k })
 (hd1:(txt == ("__debug__":Str))=false) (hd2:(sg == ("__debug__":Str))=false)
 (hbase:attributeBase (.Name txt p1) "replace" X.env (eval (.Name txt p1) X.env)=eval (.Name txt p1) X.env) (hline:(apos.endLine == cpos.line)=true)
 (hfew:((backTo cpos (starEach [.Name sg p2,.BinOp (.BinOp (.Constant (.str " ") k1 p3) .Add (.Name sg p4) p5) .Add (.Constant (.str " ") k2 p6) p7] X.env)).all (fun x=>!x.1) && (backToKw cpos (keywordEach [] X.env)).all (fun x=>x.1.isSome)
   && decide ([Expr.Name sg p2,.BinOp (.BinOp (.Constant (.str " ") k1 p3) .Add (.Name sg p4) p5) .Add (.Constant (.str " ") k2 p6) p7].length+([]:List Keyword).length+(if ([]:List Keyword).isEmpty then 0 else 1)<30))=true) :
 wpAny (model X.prog X.w) X.A (eval (.Call (.Attribute (.Name txt p1) "replace" apos) [.Name sg p2,.BinOp (.BinOp (.Constant (.str " ") k1 p3) .Add (.Name sg p4) p5) .Add (.Constant (.str " ") k2 p6) p7] [] cpos) X.env) Q E s:=by
 have l1:(" ":Str).length=1:=by decide +kernel
 refine wpAny_Call_method_late hbase hfew hline rfl (wpAny_Name (wpAny_loadName_local I.ok.kind kt hn hx ?_) hd1)
 refine ⟨"str","str.replace",PySem.F.plainAttrs_str,PySem.F.slot_str_replace,PySem.F.type_str_replace,typeIs_str s x tx,(fun _ e=>nomatch e),?_⟩
 refine Calls.callWith_builtin (by rfl) (Calls.evalArgs_plain ?_)
 show wpAny _ _ (spliced ((false,eval (.Name sg p2) X.env) :: backTo cpos (starEach [.BinOp (.BinOp (.Constant (.str " ") k1 p3) .Add (.Name sg p4) p5) .Add (.Constant (.str " ") k2 p6) p7] X.env))) _ _ s
 refine Calls.spliced_cons (wpAny_Name (wpAny_loadName_local I.ok.kind ks hn hy ?_) hd2)
 show wpAny _ _ (spliced ((false,eval (.BinOp (.BinOp (.Constant (.str " ") k1 p3) .Add (.Name sg p4) p5) .Add (.Constant (.str " ") k2 p6) p7) X.env) :: backTo cpos (starEach [] X.env))) _ _ s
 refine Calls.spliced_cons (wpAny_BinOp (wpAny_BinOp (Calls.Constant_str (wpAny_Name (wpAny_loadName_local I.ok.kind ks (s:={ s with toks:=s.toks+1 }) hn hy ?_) hd2))))
 refine PySem.P.add_str ?_
 rw [if_neg (by rw [l1];decide),if_neg (by rw [hy1];decide)]
 have la:((" ":Str)++y).length=2:=by rw [strLen_append,l1,hy1]
 refine ⟨by rw [la];decide,?_⟩
 refine Calls.Constant_str ?_
 refine PySem.P.add_str ?_
 rw [if_neg (by rw [la];decide),if_neg (by rw [l1];decide)]
 have lb:(((" ":Str)++y)++" ").length=3:=by rw [strLen_append,la,l1]
 refine ⟨by rw [lb];decide,?_⟩
 refine Calls.spliced_nil ?_
 refine SC.replace (Nat.pos_iff_ne_zero.mp h0) (Nat.succ_ne_zero _) (Nat.ne_of_lt (Nat.lt_of_lt_of_le h1 (Nat.le_add_right s.toks 3))) (pad_ne y) ?_ fun t' k=>q t' k
 show x.length+(x.length+1)*(((" ":Str)++y)++" ").length≤16777216
 rw [lb];omega
def PST (X:Cx) (st:Stmt) (t:TS):Prop :=
 ∀(pins:List (Addr×Obj)) (s:Shared) (σ:St) (H:Hp) (D:Ends),Inv X pins σ H s→0<s.toks→t D σ H→wpAny (model X.prog X.w) X.A (exec st X.env) (SP X pins D) X.xe s
def PSsT (X:Cx) (st:List Stmt) (t:TS):Prop :=
 ∀(pins:List (Addr×Obj)) (s:Shared) (σ:St) (H:Hp) (D:Ends),Inv X pins σ H s→0<s.toks→t D σ H→wpAny (model X.prog X.w) X.A (execs st X.env) (SP X pins D) X.xe s
def PET (X:Cx) (e:Expr) (t:TE):Prop :=
 ∀(pins:List (Addr×Obj)) (s:Shared) (σ:St) (H:Hp) (Q:VK),Inv X pins σ H s→0<s.toks→t σ H Q→wpAny (model X.prog X.w) X.A (eval e X.env) (EP X pins σ Q) X.xe s
def rep3 (x a b c:Str):Str:=Txt.replace (Txt.replace (Txt.replace x a (padS a)) b (padS b)) c (padS c)
inductive tRep_I (a b c:Str) (D:Ends) (σ:St) (H:Hp):Prop
 | mk:∀(x:Str) (o:Option V),σ=[some (.str x),o]→x.length≤1000000→(Txt.replace x a (padS a)).length≤1000000→(Txt.replace (Txt.replace x a (padS a)) b (padS b)).length≤1000000→D.nx [some (.str (rep3 x a b c)),some (.str c)] H→tRep_I a b c D σ H
def tRep (a b c:Str):TS:=fun D σ H=>tRep_I a b c D σ H
theorem ps_rep {txt sg a b c:Str} {p1 p2 p3 p4 p5 p6 p7 apos cpos pg pt spos tpos pos q1 q2 q3:Pos} {k1 k2 j1 j2 j3 ctx:Nat}
 (hN:X.N=[txt,sg]) (hne:txt≠sg) (kt:X.env.kindOf txt=some .local) (ks:X.env.kindOf sg=some .local) (hc:X.calm=true) (ha:a.length=1) (hb:b.length=1) (hcl:c.length=1)
 (hp:PassesOwn (model X.prog X.w) X.A X.env X.xe)
 (hd1:(txt == ("__debug__":Str))=false) (hd2:(sg == ("__debug__":Str))=false)
 (hbase:attributeBase (.Name txt p1) "replace" X.env (eval (.Name txt p1) X.env)=eval (.Name txt p1) X.env) (hline:(apos.endLine == cpos.line)=true)
 (hfew:((backTo cpos (starEach [.Name sg p2,.BinOp (.BinOp (.Constant (.str " ") k1 p3) .Add (.Name sg p4) p5) .Add (.Constant (.str " ") k2 p6) p7] X.env)).all (fun x=>!x.1) && (backToKw cpos (keywordEach [] X.env)).all (fun x=>x.1.isSome)
   && decide ([Expr.Name sg p2,.BinOp (.BinOp (.Constant (.str " ") k1 p3) .Add (.Name sg p4) p5) .Add (.Constant (.str " ") k2 p6) p7].length+([]:List Keyword).length+(if ([]:List Keyword).isEmpty then 0 else 1)<30))=true)
 (hsw:swapsWith (.Call (.Attribute (.Name txt p1) "replace" apos) [.Name sg p2,.BinOp (.BinOp (.Constant (.str " ") k1 p3) .Add (.Name sg p4) p5) .Add (.Constant (.str " ") k2 p6) p7] [] cpos) (some (.Name txt pt)) spos.line X.env=pure false)
 (hs:∀x,foldedSetIterable (.Tuple [.Constant (.str a) j1 q1,.Constant (.str b) j2 q2,.Constant (.str c) j3 q3] ctx tpos) X.env x=pure x) :
 PST X (.For (.Name sg pg) (.Tuple [.Constant (.str a) j1 q1,.Constant (.str b) j2 q2,.Constant (.str c) j3 q3] ctx tpos) [.Assign [.Name txt pt] (.Call (.Attribute (.Name txt p1) "replace" apos) [.Name sg p2,.BinOp (.BinOp (.Constant (.str " ") k1 p3) .Add (.Name sg p4) p5) .Add (.Constant (.str " ") k2 p6) p7] [] cpos) spos] [] pos) (tRep a b c):=by
 intro pins s σ H D I h0 h
 obtain ⟨x,o,rfl,hx0,hx1,hx2,q⟩:=h
 have i0:X.N[0]?=some txt:=by rw [hN];rfl
 have i1:X.N[1]?=some sg:=by rw [hN];rfl
 have hnd:X.N.Nodup:=by rw [hN];simp [hne]
 refine wpAny_For (wpAny_Tuple_spliced ?_) hs
 show wpAny _ _ (spliced ((false,eval (.Constant (.str a) j1 q1) X.env) :: backTo tpos (starEach [.Constant (.str b) j2 q2,.Constant (.str c) j3 q3] X.env))) _ _ s
 refine Calls.spliced_cons (Calls.Constant_str ?_)
 show wpAny _ _ (spliced ((false,eval (.Constant (.str b) j2 q2) X.env) :: backTo tpos (starEach [.Constant (.str c) j3 q3] X.env))) _ _ _
 refine Calls.spliced_cons (Calls.Constant_str ?_)
 show wpAny _ _ (spliced ((false,eval (.Constant (.str c) j3 q3) X.env) :: backTo tpos (starEach [] X.env))) _ _ _
 refine Calls.spliced_cons (Calls.Constant_str (Calls.spliced_nil ⟨by show 3≤sizeLine;decide,?_⟩))
 have hT:(s.heap.push { cls:=.type "tuple",data:=.seq #[.str a s.toks,.str b (s.toks+1),.str c (s.toks+1+1)] }).IsTuple s.heap.objs.size #[.str a s.toks,.str b (s.toks+1),.str c (s.toks+1+1)]:=⟨_,Heap.get?_push_size _ rfl,rfl,_,rfl⟩
 refine wpAny_pyIter_tuple hT ?_
 have sz:(s.heap.push { cls:=.type "tuple",data:=.seq #[.str a s.toks,.str b (s.toks+1),.str c (s.toks+1+1)] }).objs.size=s.heap.objs.size+1:=size_push' ..
 generalize hh1:s.heap.push { cls:=.type "tuple",data:=.seq #[.str a s.toks,.str b (s.toks+1),.str c (s.toks+1+1)] }=h1 at hT sz
 have k1':∀b u,s.heap.get? b=some u→h1.get? b=some u:=fun b u e=>by rw [←hh1];exact Heap.get?_push_of_some _ e
 have fa:FpOk X pins H s.heap.objs.size:=I.fpOk (Nat.le_refl _) (I.hok.fresh (Nat.le_refl _))
 have fi:FpOk X pins H h1.objs.size:=I.fpOk (by rw [sz];exact Nat.le_succ _) (I.hok.fresh (by rw [sz];exact Nat.le_succ _))
 have nai:s.heap.objs.size≠h1.objs.size:=by rw [sz];exact Nat.ne_of_lt (Nat.lt_succ_self _)
 generalize s.heap.objs.size=a0 at hT fa nai sz
 generalize hit:h1.objs.size=it at fi nai
 have rel0:∀i v,(#[Value.str a s.toks,.str b (s.toks+1),.str c (s.toks+1+1)])[i]?=some v→∃y ts,v=.str y ts∧y.length=1∧0<ts∧ts<s.toks+1+1+1∧((i=0∧y=a)∨(i=1∧y=b)∨(i=2∧y=c)):=by
  intro i v hv
  match i,hv with
  | 0,hv=>cases hv;exact ⟨a,_,rfl,ha,h0,Nat.lt_succ_of_lt (Nat.lt_succ_of_lt (Nat.lt_succ_self _)),.inl ⟨rfl,rfl⟩⟩
  | 1,hv=>cases hv;exact ⟨b,_,rfl,hb,Nat.succ_pos _,Nat.lt_succ_self _ |> fun z=>Nat.lt_trans z (Nat.lt_succ_self _),.inr (.inl ⟨rfl,rfl⟩)⟩
  | 2,hv=>cases hv;exact ⟨c,_,rfl,hcl,Nat.succ_pos _,Nat.lt_succ_self _,.inr (.inr ⟨rfl,rfl⟩)⟩
  | n+3,hv=>exact absurd hv (by simp)
 refine codeAny_forLoop_any (fun n s'=>∃i xx o',n=3 - i∧i≤3∧Inv X pins [some (.str xx),o'] H s'∧s'.heap.IsTupleIter it a0 i∧s'.heap.IsTuple a0 #[.str a s.toks,.str b (s.toks+1),.str c (s.toks+1+1)]∧s.toks+1+1+1≤s'.toks∧((i=0∧xx=x)∨(i=1∧xx=Txt.replace x a (padS a))∨(i=2∧xx=Txt.replace (Txt.replace x a (padS a)) b (padS b))∨(i=3∧xx=rep3 x a b c∧o'=some (.str c)))) ?_ 3 ⟨0,x,o,rfl,by decide,?_,?_,?_,Nat.le_refl _,.inl ⟨rfl,rfl⟩⟩
 ·rintro n s3 ⟨i,xx,o',rfl,hi3,I3,st3,tp3,tk3,rel⟩
  obtain ⟨f0,f1,f2,f3,f4,f5⟩:=id fi
  by_cases hi:i=3
  ·subst hi
   obtain ⟨rfl,rfl⟩:xx=rep3 x a b c∧o'=some (.str c):=by
    rcases rel with ⟨z,_⟩ | ⟨z,_⟩ | ⟨z,_⟩ | ⟨_,z⟩
    ·cases z
    ·cases z
    ·cases z
    ·exact z
   exact wpAny_passesOwn hp (wpAny_pyNext_tuple_end (I.ok.hd hc) st3 tp3 rfl fun h' eb=>wpAny_execs_nil ⟨_,H,I3.turned (t':=s3.toks) (fun b o hb e=>eb b o hb e) f0 f1 f3 f4 f5,q⟩)
  ·obtain ⟨v,hv⟩:∃v,(#[Value.str a s.toks,.str b (s.toks+1),.str c (s.toks+1+1)])[i]?=some v:=⟨_,Array.getElem?_eq_getElem (show i<3 by omega)⟩
   obtain ⟨y,ts,rfl,hy1,ht0,ht1,hyi⟩:=rel0 i v hv
   refine wpAny_passesOwn hp (wpAny_pyNext_tuple_item st3 tp3 hv fun h' st' sb=>?_)
   have I4:Inv X pins [some (.str xx),o'] H { s3 with heap:=h' }:=I3.turned (t':=s3.toks) (fun b o hb e=>(sb.2 b hb).trans e) f0 f1 f3 f4 f5
   have tp4:h'.IsTuple a0 #[.str a s.toks,.str b (s.toks+1),.str c (s.toks+1+1)]:=by
    obtain ⟨ot,e1,e2⟩:=tp3
    exact ⟨ot,(sb.2 a0 nai).trans e1,e2⟩
   obtain ⟨oi,ei,ci,di⟩:=id st'
   refine wpAny_passesOwn hp (go_of (s:={ s3 with heap:=h' }) ei ci di (by decide) ?_)
   obtain ⟨m,hn,hl⟩:=id I4.loc
   have hcls:(X.env.scope.kind == .class || (X.env.scope.kind == .module && X.env.locals != X.env.globals))=false:=by rw [I.ok.kind];rfl
   refine wpAny_passesOwn hp (wpAny_assign_Name (wpAny_storeName_local ks hn (fun h5 hn5 sb5=>?_) hcls))
   obtain ⟨I5,lr5⟩:=I4.stored (k:=s3.toks+1) hnd i1 ks (v:=.str y) ⟨ts,rfl⟩ hn hl hn5 sb5
   obtain ⟨u,ru,lu⟩:=lr5 0 txt (.str xx) i0 rfl (.inl kt)
   obtain ⟨tx,rfl⟩:=ru
   have mtx:(fun y'=>if y'=sg then some (Value.str y ts) else m y') txt=some (.str xx tx):=by
    rcases lu with ⟨_,e⟩ | ⟨z,_⟩
    ·exact e
    ·rcases z with z | z
     ·rw [kt] at z;cases z
     ·rw [kt] at z;cases z
   have hxx:xx.length≤1000000:=by
    rcases rel with ⟨_,z⟩ | ⟨_,z⟩ | ⟨_,z⟩ | ⟨z,_⟩
    ·rw [z];exact hx0
    ·rw [z];exact hx1
    ·rw [z];exact hx2
    ·exact absurd z hi
   refine wpAny_passesOwn hp (wpAny_execs_cons (wpAny_Assign_Name (wpAny_tk (rep_eval I5 hn5 mtx (by simp) kt ks ht0 (Nat.lt_of_lt_of_le ht1 (Nat.le_trans tk3 (Nat.le_succ _))) hy1 hxx (fun t' k htk=>?_) hd1 hd2 hbase hline hfew)) hsw))
   refine wpAny_storeName_local kt hn5 (fun h6 hn6 sb6=>?_) hcls
   obtain ⟨I6,_⟩:=(I5.tok k).stored (k:=k+1) hnd i0 kt (v:=.str (Txt.replace xx y (padS y))) ⟨t',rfl⟩ hn5 lr5 hn6 sb6
   refine wpAny_execs_nil ⟨3 - (i+1),by omega,i+1,Txt.replace xx y (padS y),some (.str y),rfl,by omega,I6,?_,?_,?_,?_⟩
   ·obtain ⟨o9,e1,e2⟩:=st'
    exact ⟨o9,(sb6.2 it f1).trans ((sb5.2 it f1).trans e1),e2⟩
   ·obtain ⟨o9,e1,e2⟩:=tp4
    exact ⟨o9,(sb6.2 a0 fa.2.1).trans ((sb5.2 a0 fa.2.1).trans e1),e2⟩
   ·exact Nat.le_trans tk3 (Nat.le_trans (Nat.le_succ _) (Nat.le_trans htk (Nat.le_succ _)))
   ·rcases rel with ⟨z,rfl⟩ | ⟨z,rfl⟩ | ⟨z,rfl⟩ | ⟨z,_⟩
    ·subst z
     rcases hyi with ⟨_,rfl⟩ | ⟨z,_⟩ | ⟨z,_⟩
     ·exact .inr (.inl ⟨rfl,rfl⟩)
     ·cases z
     ·cases z
    ·subst z
     rcases hyi with ⟨z,_⟩ | ⟨_,rfl⟩ | ⟨z,_⟩
     ·cases z
     ·exact .inr (.inr (.inl ⟨rfl,rfl⟩))
     ·cases z
    ·subst z
     rcases hyi with ⟨z,_⟩ | ⟨z,_⟩ | ⟨_,rfl⟩
     ·cases z
     ·cases z
     ·exact .inr (.inr (.inr ⟨rfl,rfl,rfl⟩))
    ·exact absurd z hi
 ·exact I.kept (t':=s.toks+1+1+1) fun b u e=>Heap.get?_push_of_some _ (k1' b u e)
 ·subst hit
  exact ⟨_,Heap.get?_push_size _ rfl,rfl,rfl⟩
 ·obtain ⟨ot,e1,e2⟩:=hT
  exact ⟨ot,Heap.get?_push_of_some _ e1,e2⟩
end
end L2
namespace L2
open PySem PySem.Spec PyProof.Rows
structure FnOkT (P:Program) (w:World) (K:PySem.W.Frag) (mg:Str→Option Value) (base:Heap) (CX:CXT) (k:Nat) (f:Addr) (fd:FuncData) (ps:List Str) (sp:Sp):Prop where
 len:∀vs H Q E,sp vs H Q E→vs.length=ps.length
 run:∀(A:Around) (outer:List Env) (s:Shared) (H:Hp) (args:Args) (us:List Value) (vs:List V) (Q:VK) (E:XK),Room k A→Env0 P w K mg base A outer s H→0<s.toks→BindsTo s fd args (ps.zip us)→Vals vs us→sp vs H Q E →
  codeAny (model P w) A (.call (.ref f) args) (CR CX outer P w H s Q E) s
theorem fn_ofT {CX:CXT} {P:Program} {w:World} {K:PySem.W.Frag} {mg:Str→Option Value} {base:Heap} {k:Nat} {f:Addr} {name qual:Str} {params:Arguments} {body:List Stmt} {scope:Scope} {dV kV doc pm cdv ct oc:Value} {an od:Option Addr}
 {osl:Array (Option Value)} {N ps:List Str} {sp:Sp} (lk:K.lookup f=some ⟨oc,od,.func (PySem.W.fnOf name qual params body scope dV kV doc pm an cdv ct),osl⟩) (hcd:PySem.W.codeIn K cdv qual=true) (S:FnScope N ps scope)
 (len:∀vs H Q E,sp vs H Q E→vs.length=ps.length)
 (hbody:∀(A:Around) (outer:List Env) (s:Shared) (H:Hp) (vs:List V) (Q:VK) (E:XK),Room k (A.deeper (envOfC qual scope s.heap.objs.size f cdv))→sp vs H Q E →
   ∃t,PSsT (cxOf CX P w K mg base N qual scope f cdv A outer s H E) body t∧t { nx:=fun _ H'=>Q .non H',rt:=Q } (start N vs) H) :
 FnOkT P w K mg base CX (k+1) f (PySem.W.fnOf name qual params body scope dV kV doc pm an cdv ct) ps sp:=by
 refine ⟨len,fun A outer s H args us vs Q E hr e0 htk hb r hsp=>?_⟩
 have hl:=len _ _ _ _ hsp
 have KX:K.In s.heap:=e0.mod.kin.keeps fun b o e=>(e0.bs b o e).1
 have lim:s.heap.NoLimit:=e0.mod.nolimit.keeps fun b o e=>(e0.bs b o e).1
 have hkind:∀y∈ps.zip us,scope.names.lookup y.1=some .local∨(scope.names.lookup y.1=some .cell∧((cellsFrom (s.heap.objs.size+1) scope.names []).lookup y.1).isSome=true):=fun ⟨n,v⟩ hy=>by
  rcases S.par n (List.of_mem_zip hy).1 with q | q
  ·exact .inl q
  ·exact .inr ⟨q,PySem.W.cellsFrom_some _ _ _ (.inl q)⟩
 refine codeAny_call_function hr.depth (KX _ _ lk) rfl S.co S.gen rfl (PySem.W.codeRec_of KX hcd) (hb _ _ _ _ ?_)
 refine wpAny_tk (wpAny_newFunctionEnv_cells S.kind hkind fun env he s1 x h1=>?_)
 subst he
 refine ⟨lim.keeps x.toInCall.keep,codeAny_func ?_⟩
 obtain ⟨t,ht,hq⟩:=hbody A outer s H vs Q E (hr.deeper _) hsp
 have I:Inv (cxOf CX P w K mg base N qual scope f cdv A outer s H E) [] (start N vs) H s1:=inv_start S hr.hd e0 hl r x
 refine wpAny_mono (ht [] s1 (start N vs) H _ I (Nat.lt_of_lt_of_le htk h1) hq) (fun fl s' hs=>?_) fun e s' hs=>hs
 have fin:∀{σ':St} {H':Hp} {v:V} {u:Value},Inv (cxOf CX P w K mg base N qual scope f cdv A outer s H E) [] σ' H' s'→RelV v u→Q v H'→CE outer P w H s Q u s' :=
  fun {σ' H' v u} J rv q=>⟨v,H',J.os,J.bare,J.base,J.hok,rv,q⟩
 cases fl with
 | ret u =>
   obtain ⟨v,σ',H',J,rv,q⟩:=hs
   exact fin J rv q
 | next =>
   obtain ⟨σ',H',J,q⟩:=hs
   exact fin (v:=V.non) (u:=Value.none) J rfl q
 | brk =>
   obtain ⟨_,_,_,q⟩:=hs
   exact False.elim q
 | cont =>
   obtain ⟨_,_,_,q⟩:=hs
   exact False.elim q
theorem PSsT.nox {X:Cx} {st:List Stmt} {t:TS} (h:PSsT X.nox st t):PSsT X st t:=fun pins s σ H D I h0 hw =>
 wpAny_mono (h pins s σ H D (I.wish _) h0 hw) (fun _ _ q=>q.unwish) fun _ _ z=>False.elim z
section
variable {P : Program} {w : World} {K : PySem.W.Frag} {mg : Str → Option Value} {base : Heap}
theorem Fun.okT {x qual:Str} {st:Stmt} {f:Addr} {fd:FuncData} {N ps:List Str} {k:Nat} {sp:Sp} (F:Fun K x qual st f fd) (S:FnScope N ps (defScope st)) (len:∀vs H Q E,sp vs H Q E→vs.length=ps.length)
 (hbody:∀(cdv:Value) (A:Around) (outer:List Env) (s:Shared) (H:Hp) (vs:List V) (Q:VK) (E:XK),Room k (A.deeper (envOfC qual (defScope st) s.heap.objs.size f cdv))→sp vs H Q E →
   ∃t,PSsT (cxOf CX0 P w K mg base N qual (defScope st) f cdv A outer s H E).nox (defBody st) t∧t { nx:=fun _ H'=>Q .non H',rt:=Q } (start N vs) H):FnOkT P w K mg base CX0 (k+1) f fd ps sp:=by
 obtain ⟨oc,od,kV,doc,pm,an,cdv,ct,osl,rfl,lk,hcd⟩:=F.ex
 exact fn_ofT lk hcd S len fun A outer s H vs Q E hr hsp=>let ⟨t,h,q⟩:=hbody cdv A outer s H vs Q E hr hsp;⟨t,h.nox,q⟩
end
section
variable {X : Cx} {CX : CXT} {k : Nat} {f C : Addr} {fd : FuncData} {ps : List Str} {ds : List Value} {dvs : List V} {sp : Sp} {E : XK} {x : Str} {p pos : Pos} {e o : Expr} {es : List Expr} {t : TA} {st : Stmt} {rest : List Stmt} {ts u : TS} {te ta tv : TE}
theorem pet_call (F:FnOkT X.prog X.w X.K X.mg X.base CX k f fd ps sp) (hr:Room k X.A) (hg:Gl X x) (hm:X.mg x=some (.ref f)) (hk:PySem.W.keepIn X.K (.ref f)=true) (hb:Binds X.K fd ps ds) (hd:Vals dvs ds) (hx:Passes CX X E)
 (ha:PA X (e :: es) t) (hdb:(x == ("__debug__":Str))=false:=by decide) (he:starEach (e :: es) X.env=(false,eval e X.env) :: starEach es X.env:=by rfl) (hpl:(backTo pos (starEach es X.env)).any (·.1)=false:=by rfl) :
 PET X (.Call (.Name x p) (e :: es) [] pos) (tCall sp dvs E t):=by
 intro pins s σ H Q I htk h
 refine wpAny_Call_Name_kw (ld_glob I hg hm ?_ hdb)
 refine PySem.W.callWith_K (h₀:=X.base) I.ok.mod.kin hk (thn_tk (ha pos pins s σ H _ I h) fun us s1 h1 ⟨vs,H1,I1,r,q⟩=>⟨I1.kIn,?_⟩) he hpl
 have r2:Vals (vs++dvs) (us++ds):=r.append hd
 have hl:(us++ds).length=ps.length:=by rw [←r2.length];exact F.len _ _ _ _ q
 refine wpAny_call (codeAny_mono (F.run X.A X.stack s1 H1 ⟨us,[]⟩ (us++ds) (vs++dvs) Q E hr I1.env0 (Nat.lt_of_lt_of_le htk h1) (hb s1 us I1.kIn hl) r2 q) fun r s' hq=>?_)
 cases r with
 | error e=>exact hx pins σ H1 s1 e s' I1 hq
 | ok fl =>
   cases fl with
   | ret u=>exact I1.after hq
   | next=>exact False.elim hq
   | brk=>exact False.elim hq
   | cont=>exact False.elim hq
theorem pst_fld {f:Str} {pos':Pos} {value:Expr} (ha:PE X o ta) (hv:PET X value tv) (hs:swapsWith value (some (.Attribute o f pos')) pos.line X.env=pure false):PST X (.Assign [.Attribute o f pos'] value pos) (sFld X.K ta tv f):=by
 intro pins s σ H D I htk h
 refine plainObj_wpAny_Assign_Attribute (thn (hv pins s σ H _ I htk h) fun u s1 ⟨y,H1,I1,ry,q⟩=>thn (ha pins s1 σ H1 _ I1 q) fun ov s2 ⟨x,H2,I2,rx,a,C,dx,fs,ex,ea,c,n,l,q2⟩=>?_) hs
 subst ex
 obtain rfl:ov=Value.ref a:=rx
 exact setattr_ok I2 ea c n l ry fun s3 I3=>⟨σ,_,I3,q2⟩
theorem psst_cons (h1:PST X st ts) (h2:PSs X rest u):PSsT X (st :: rest) (tSeq ts u):=by
 intro pins s σ H D I htk h
 refine wpAny_execs_cons (thn (h1 pins s σ H { D with nx:=u D } I htk h) fun f s1 q=>?_)
 cases f with
 | next =>
   obtain ⟨σ',H',I',q⟩:=q
   exact h2 pins s1 σ' H' D I' q
 | ret v=>exact q
 | brk=>exact q
 | cont=>exact q
theorem pe_makeT1 {i:Int} {j:Nat} {ip:Pos} (M:Mk X.K C f) (F:FnOkT X.prog X.w X.K X.mg X.base CX k f fd ps sp) (hr:Room (k+1) X.A) (hg:Gl X x) (hm:X.mg x=some (.ref C)) (hb:Binds X.K fd ps []) (hx:Passes CX X E)
 (ha:PE X e te) (hdb:(x == ("__debug__":Str))=false:=by decide) (he:starEach [e,.Constant (.int i) j ip] X.env=(false,eval e X.env) :: starEach [.Constant (.int i) j ip] X.env:=by rfl) (hpl:(backTo pos (starEach [.Constant (.int i) j ip] X.env)).any (·.1)=false:=by rfl) :
 PE X (.Call (.Name x p) [e,.Constant (.int i) j ip] [] pos) (tMake C sp [] E (tCons te (tCons (tC (.int i)) tNil))):=by
 intro pins s σ H Q I h
 refine wpAny_Call_Name_kw (ld_glob I hg hm ?_ hdb)
 have hA:wpAny (model X.prog X.w) X.A (spliced (backTo pos (starEach [e,.Constant (.int i) j ip] X.env))) (fun us s1=>AP X pins σ (fun xs H1=>∀x dx,H1 x=none→H1 dx=none→dx≠x→sp (.ref x :: (xs++[])) (upd (upd H1 dx (.own x)) x (.ins C dx [])) (fun v H2=>v=.non∧Q (.ref x) H2) E) us s1∧0<s1.toks) X.xe s:=by
  rw [he]
  show wpAny _ _ (spliced ((false,eval e X.env) :: backTo pos (starEach [.Constant (.int i) j ip] X.env))) _ _ s
  refine Calls.spliced_cons (thn (ha pins s σ H _ I h) fun u s1 ⟨y,H1,I1,r1,q1⟩=>?_)
  show wpAny _ _ (spliced ((false,eval (.Constant (.int i) j ip) X.env) :: backTo pos (starEach [] X.env))) _ _ s1
  refine Calls.spliced_cons (wpAny_Constant_int (Calls.spliced_nil ⟨⟨[y,.int i],H1,I1.tok _,.cons r1 (.cons ⟨_,rfl⟩ .nil),q1⟩,Nat.succ_pos _⟩))
 refine PySem.W.callWith_K (h₀:=X.base) I.ok.mod.kin M.kp (thn hA fun us s1 ⟨⟨vs,H1,I1,r,h⟩,h1⟩=>⟨I1.kIn,?_⟩) he hpl
 have hq:=h (s1.heap.objs.size+1) s1.heap.objs.size (I1.hok.fresh (Nat.le_succ _)) (I1.hok.fresh (Nat.le_refl _)) (Nat.ne_of_lt (Nat.lt_succ_self _))
 rw [List.append_nil] at hq
 have I2:=Inv.made (C:=C) I1
 have r2:Vals (V.ref (s1.heap.objs.size+1) :: vs) (Value.ref (s1.heap.objs.size+1) :: us):=.cons rfl r
 have hl:(Value.ref (s1.heap.objs.size+1) :: us).length=ps.length:=by
  have e:=r2.length
  rw [F.len _ _ _ _ hq] at e
  exact e.symm
 have hb':=hb _ (Value.ref (s1.heap.objs.size+1) :: us) I2.kIn (by rw [List.append_nil];exact hl)
 rw [List.append_nil] at hb'
 refine wpAny_call (make_map (f:=f) I1.kIn M.makes M.init (beq_iff_eq.mp M.fn) (codeAny_mono (F.run _ X.stack _ _ ⟨Value.ref (s1.heap.objs.size+1) :: us,[]⟩ (Value.ref (s1.heap.objs.size+1) :: us) _ _ E (hr.make C us [])
  (I2.env0.make C us []) h1 hb' r2 hq) fun r s' hq'=>?_))
 cases r with
 | error e=>exact hx pins σ _ _ e s' I2 hq'
 | ok fl =>
   cases fl with
   | ret u =>
     obtain ⟨v,H',I3,rv,ev,q3⟩:=I2.after hq'
     subst ev
     exact ⟨rv,⟨V.ref (s1.heap.objs.size+1),H',I3,rfl,q3⟩⟩
   | next=>exact False.elim hq'
   | brk=>exact False.elim hq'
   | cont=>exact False.elim hq'
end
end L2
namespace L2
open PySem PySem.Spec PyProof.Rows
section
variable {prog : Program} {w : World} {A : Around} {R : Result → Shared → Prop} {I : Addr} {fp wr : List Addr} {n : Nat} {P : Nat → Value → Prop} {St : Nat → Heap → Prop} {dv : Value}
theorem maxd_name:(toString "max"++toString ".loop":String)="max.loop":=by decide
theorem maxd_loop (W:Walks prog w A.in1 I fp wr n P St) (bt:Nat→Nat→Bool) (hcmp:CmpOf prog w A.in1 .Gt P bt) (S:Addr) (hSf:S∉fp):∀(k j:Nat) (s:Shared) (vb:Value) (c:Nat),n - (j+1)=k→j+1≤n→St (j+1) s.heap→P (argBest bt j) vb→s.heap.get? S=some { cls:=.type "list",dict:=none,data:=.seq #[vb,vb] c,slots:=#[] } →
 (∀v h' tk,P (argBest bt (n - 1)) v→(∀b o,b∉wr→b≠S→s.heap.get? b=some o→h'.get? b=some o)→R (.ok (.ret v)) { s with heap:=h',toks:=tk })→codeAny (model prog w) A (.builtin "max.loop" ⟨[.ref I,.none,.ref S],[(Str.ofString "default",dv)]⟩) R s:=by
 have hSw:S∉wr:=fun h=>hSf (W.sub _ h)
 intro k
 induction k with
 | zero =>
   intro j s vb c hk hj hst hPb hS hR
   have hin:j+1=n:=by omega
   refine codeAny_builtin PySem.F.entry_max_loop ?_;rw [Around.under_plainId PySem.F.plain_max_loop _];show wpAny _ A.in1 (seqItems? (.ref S) >>= _) _ _ s
   refine wpAny_bind (wpAny_seqItems hS rfl ?_);show wpAny _ A.in1 (tryCatch (pyNext (.ref I)) _ >>= _) _ _ s
   refine wpAny_bind (wpAny_tryCatch (W.done s _ _ (hin▸hst) fun h' tk hk'=>?_));have hS':=hk' S _ hSw hS
   show wpAny _ A.in1 (updateSeq S (fun _=>#[]) >>= _) _ _ _;refine wpAny_bind ?_
   refine wpAny_updateSeq hS' rfl (wpAny_bind (wpAny_letGo (wpAny_pure ?_)));refine hR vb _ tk (by rw [←hin];exact hPb) fun b o hbw hbS e=>(Heap.get?_update_other _ _ (Ne.symm hbS)).trans (hk' b o hbw e)
 | succ k ih =>
   intro j s vb c hk hj hst hPb hS hR
   have hlt:j+1<n:=by omega
   refine codeAny_builtin PySem.F.entry_max_loop ?_;rw [Around.under_plainId PySem.F.plain_max_loop _];show wpAny _ A.in1 (seqItems? (.ref S) >>= _) _ _ s
   refine wpAny_bind (wpAny_seqItems hS rfl ?_);show wpAny _ A.in1 (tryCatch (pyNext (.ref I)) _ >>= _) _ _ s
   refine wpAny_bind (wpAny_tryCatch (W.item (j+1) s _ _ hlt hst fun v h' tk hP hst' hk'=>?_));have hS':=hk' S _ hSw hS
   show wpAny _ A.in1 (tryCatch (holding [v,v] (richCompare .Gt v vb >>= _)) _ >>= _) _ _ _;refine wpAny_bind (wpAny_tryCatch (wpAny_holding (wpAny_bind (hcmp (j+1) (argBest bt j) v vb _ _ _ hP hPb ?_))))
   refine wpAny_bind (wpAny_holding (wpAny_truthy_bool ?_));refine wpAny_bind (wpAny_letGo (wpAny_pure ?_))
   cases hb:bt (j+1) (argBest bt j) with
   | true =>
     simp only [if_true];refine wpAny_bind ?_
     refine wpAny_updateSeq hS' rfl (wpAny_bind (wpAny_letGo ?_));rw [maxd_name]
     refine wpAny_pure ⟨plainId_quiet PySem.F.plain_max_loop _,ih (j+1) _ v _ (by omega) hlt (W.frame _ _ _ hst' fun b hbf o e=>(Heap.get?_update_other _ _ (fun h:S=b=>hSf (by rw [h];exact hbf))).trans e) (by simp only [argBest,hb,if_true];exact hP) (Heap.get?_update_self _ hS' rfl) fun v' h'' tk'' hP' hk''=>?_⟩
     exact hR v' h'' tk'' hP' fun b o hbw hbS e=>hk'' b o hbw hbS ((Heap.get?_update_other _ _ (Ne.symm hbS)).trans (hk' b o hbw e))
   | false =>
     simp only [Bool.false_eq_true,if_false];refine wpAny_bind (wpAny_letGo ?_);rw [maxd_name]
     refine wpAny_pure ⟨plainId_quiet PySem.F.plain_max_loop _,ih (j+1) _ vb c (by omega) hlt hst' (by simp only [argBest,hb,Bool.false_eq_true,if_false];exact hPb) hS' fun v' h'' tk'' hP' hk''=>hR v' h'' tk'' hP' fun b o hbw hbS e=>hk'' b o hbw hbS (hk' b o hbw e)⟩
theorem maxd_first (W:Walks prog w A.in1 I fp wr n P St) (bt:Nat→Nat→Bool) (hcmp:CmpOf prog w A.in1 .Gt P bt) (S:Addr) (hSf:S∉fp) {s:Shared} {c:Nat} (hst:St 0 s.heap) (hS:s.heap.get? S=some { cls:=.type "list",dict:=none,data:=.seq #[] c,slots:=#[] })
 (hR:∀v h' tk,(0<n∧P (argBest bt (n - 1)) v∨n=0∧v=dv)→(∀b o,b∉wr→b≠S→s.heap.get? b=some o→h'.get? b=some o)→R (.ok (.ret v)) { s with heap:=h',toks:=tk }):codeAny (model prog w) A (.builtin "max.loop" ⟨[.ref I,.none,.ref S],[(Str.ofString "default",dv)]⟩) R s:=by
 have hSw:S∉wr:=fun h=>hSf (W.sub _ h)
 refine codeAny_builtin PySem.F.entry_max_loop ?_;rw [Around.under_plainId PySem.F.plain_max_loop _];show wpAny _ A.in1 (seqItems? (.ref S) >>= _) _ _ s
 refine wpAny_bind (wpAny_seqItems hS rfl ?_);show wpAny _ A.in1 (tryCatch (pyNext (.ref I)) _ >>= _) _ _ s
 by_cases hn:0<n
 ·refine wpAny_bind (wpAny_tryCatch (W.item 0 s _ _ hn hst fun v h' tk hP hst' hk'=>?_));have hS':=hk' S _ hSw hS
  show wpAny _ A.in1 (updateSeq S (fun _=>#[v,v]) >>= _) _ _ _;refine wpAny_bind ?_
  refine wpAny_updateSeq hS' rfl ?_;rw [maxd_name]
  refine wpAny_pure ⟨plainId_quiet PySem.F.plain_max_loop _,maxd_loop W bt hcmp S hSf _ 0 _ v _ rfl hn (W.frame _ _ _ hst' fun b hbf o e=>(Heap.get?_update_other _ _ (fun h:S=b=>hSf (by rw [h];exact hbf))).trans e) hP (Heap.get?_update_self _ hS' rfl) fun v' h'' tk'' hP' hk''=>?_⟩
  exact hR v' h'' tk'' (.inl ⟨hn,hP'⟩) fun b o hbw hbS e=>hk'' b o hbw hbS ((Heap.get?_update_other _ _ (Ne.symm hbS)).trans (hk' b o hbw e))
 ·have h0:n=0:=by omega
  refine wpAny_bind (wpAny_tryCatch (W.done s _ _ (h0▸hst) fun h' tk hk'=>?_))
  refine wpAny_bind (wpAny_rule (wpAny_pure ?_))
  exact hR dv h' tk (.inr ⟨h0,rfl⟩) fun b o hbw _ e=>hk' b o hbw e
end
def mxd (d:Int):List Int→Int
 | []=>d
 | n :: ns=>ns.foldl max n
theorem mxd_top {d:Int} {ns:List Int} (hne:0<ns.length) {M:Int} (hm:M∈ns) (ht:∀a∈ns,a≤M):M=mxd d ns:=by
 cases ns with
 | nil=>cases hm
 | cons n ns =>
   have key:∀(l:List Int) (z:Int),z≤l.foldl max z∧(∀a∈l,a≤l.foldl max z)∧(l.foldl max z=z∨l.foldl max z∈l):=by
    intro l
    induction l with
    | nil=>intro z;exact ⟨Int.le_refl _,(fun a h=>nomatch h),.inl rfl⟩
    | cons y l ih =>
      intro z
      obtain ⟨h1,h2,h3⟩:=ih (max z y)
      refine ⟨by show z≤l.foldl max (max z y);omega,fun a ha=>?_,?_⟩
      ·rcases List.mem_cons.mp ha with rfl | ha
       ·show a≤l.foldl max (max z a);omega
       ·exact h2 a ha
      ·show l.foldl max (max z y)=z∨l.foldl max (max z y)∈y :: l
       rcases h3 with h3 | h3
       ·rw [h3]
        by_cases hz:y≤z
        ·left;omega
        ·right;rw [show max z y=y by omega];exact List.mem_cons_self
       ·exact .inr (List.mem_cons_of_mem _ h3)
   obtain ⟨h1,h2,h3⟩:=key ns n
   show M=ns.foldl max n
   have u1:M≤ns.foldl max n:=by
    rcases List.mem_cons.mp hm with rfl | hm
    ·exact h1
    ·exact h2 M hm
   have u2:ns.foldl max n≤M:=by
    rcases h3 with h3 | h3
    ·rw [h3];exact ht n List.mem_cons_self
    ·exact ht _ (List.mem_cons_of_mem _ h3)
   omega
theorem ints_items:∀{us:List Value} {ns:List Int},Vals (ns.map V.int) us→∃xs:Array (Int×Tok),us.toArray=intItems xs∧ns=xs.toList.map (·.1)
 | _,[],.nil=>⟨#[],by simp [intItems],rfl⟩
 | _,n :: ns,.cons r rs=>by
   obtain ⟨t,rfl⟩:=r
   obtain ⟨xs,e1,e2⟩:=ints_items rs
   refine ⟨#[(n,t)]++xs,?_,?_⟩
   ·have:=congrArg Array.toList e1
    simp only [intItems,Array.toList_map] at this
    apply Array.ext'
    simp [intItems,this]
   ·simp [e2]
theorem args_max_default (a v:Value):argsOk "max" ⟨[a],[(Str.ofString "default",v)]⟩:=by unfold argsOk;kernel_rfl
inductive tMaxd_I (K:PySem.W.Frag) (d:Int) (Q:VK) (x:V) (H1:Hp):Prop
 | mk:∀l (ns:List Int),x=.ref l→SqL K H1 l (ns.map V.int)→Q (.int (mxd d ns)) H1→tMaxd_I K d Q x H1
def tMaxd (K:PySem.W.Frag) (te:TE) (d:Int):TE:=fun σ H Q=>te σ H fun x H1=>tMaxd_I K d Q x H1
theorem pe_maxd {X:Cx} {e:Expr} {te:TE} {d:Int} {j:Nat} {p pos cp kp:Pos} (hc:X.calm=true) (hg:Gl X "max") (hm:X.mg "max"=none) (ha:PE X e te)
 (he:starEach [e] X.env=[(false,eval e X.env)]:=by rfl) :
 PE X (.Call (.Name "max" p) [e] [⟨some "default",.Constant (.int d) j cp,kp⟩] pos) (tMaxd X.K te d):=by
 intro pins s σ H Q I h
 refine wpAny_Call_Name_kw (ld_blt I hg hm PyProof.Rows.boot_max ?_ (by decide) (by decide))
 refine PyProof.Rows.callWith_kw ?_ (by rw [he];rfl) (by rw [he];rfl) (by rfl) (by rfl)
 rw [he]
 show wpAny _ _ (spliced ((false,eval e X.env) :: backTo pos [])) _ _ s
 refine Calls.spliced_cons (thn (ha pins s σ H _ I h) fun u s1 ⟨x,H1,I1,r1,q1⟩=>Calls.spliced_nil ?_)
 obtain ⟨l,ns,rfl,hl,q⟩:=q1
 cases r1
 refine PyProof.Rows.kws_cons (wpAny_Constant_int (PyProof.Rows.kws_nil ?_))
 show wpAny _ _ (call (.builtin "max") [.ref l] [(Str.ofString "default",.int d s1.toks)]) _ _ { s1 with toks:=s1.toks+1 }
 obtain ⟨its,rv,pl,_⟩:=I1.list hl
 obtain ⟨xs,e1,e2⟩:=ints_items rv
 have hls:s1.heap.IsList l (intItems xs):=by rw [←e1];exact pl.isList
 have hhd:X.A.handled=none:=I.ok.hd hc
 refine kmk_tree PySem.F.kind_max PySem.F.plain_max PySem.F.entry_max (args_max_default _ _) ?_
 show wpAny _ X.A.in1 (Builtin.Builtins.bindParams "max" ["key","default"] 0 ⟨[],[(Str.ofString "default",.int d s1.toks)]⟩ >>= _) _ _ _
 refine wpAny_bind (wpAny_of_eq (show Builtin.Builtins.bindParams "max" ["key","default"] 0 ⟨[],[(Str.ofString "default",.int d s1.toks)]⟩=pure [none,some (.int d s1.toks)] from rfl) ?_)
 refine wpAny_bind (wpAny_pure ?_)
 refine wpAny_bind (iter_intList (s:={ s1 with toks:=s1.toks+1 }) hls fun s2 es2 st hfp hlI=>?_)
 subst es2
 refine wpAny_bind (wpAny_newObj_type ?_)
 have W:=Walks.list (prog:=X.prog) (w:=X.w) (A:=X.A.in1) hhd s1.heap.objs.size l hlI (intItems xs)
 have hSf:(s1.heap.push { cls:=.type "list_iterator",data:=.fields #[.ref l,.int 0 0] }).objs.size∉[s1.heap.objs.size,l]:=fun hm=>Nat.lt_irrefl _ (hfp _ hm)
 refine wpAny_pure ⟨plainId_quiet PySem.F.plain_max_loop _,?_⟩
 refine maxd_first W (fun i j=>decide (numAt xs i > numAt xs j)) (CmpOf.ints_gt (numAt xs) (fun _ _=>intItems_at)) _ hSf (W.frame _ _ _ st fun b _ o e=>Heap.get?_push_of_some _ e) (Heap.get?_push_size _ rfl) fun v h' tk hP hk=>?_
 have I2:Inv X pins σ H1 { s1 with heap:=h',toks:=tk }:=I1.kept (t':=tk) fun b o e=>by
  have lb:=Heap.lt_size e
  refine hk b o (fun hm=>?_) (Nat.ne_of_lt (Nat.lt_of_lt_of_le lb (by rw [Heap.size_push];exact Nat.le_succ _))) (Heap.get?_push_of_some _ (Heap.get?_push_of_some _ e))
  rcases List.mem_cons.mp hm with e1 | hm
  ·exact absurd (e1▸lb) (Nat.lt_irrefl _)
  ·cases hm
 have hsz:(intItems xs).size=ns.length:=by rw [e2];simp [intItems]
 rcases hP with ⟨hn,hv⟩ | ⟨hn,rfl⟩
 ·obtain ⟨t,rfl⟩:=intItems_at hv
  obtain ⟨h1,h2⟩:=argBest_gt (numAt xs) ((intItems xs).size - 1)
  have hxs:xs.size=ns.length:=by rw [e2];simp
  have eM:numAt xs (argBest (fun i j=>decide (numAt xs i > numAt xs j)) ((intItems xs).size - 1))=mxd d ns:=by
   refine mxd_top (by omega) ?_ fun a ha=>?_
   ·rw [e2,numAt_eq];exact getD_mem (by rw [List.length_map,Array.length_toList];omega)
   ·rw [e2] at ha
    obtain ⟨i,hi,rfl⟩:=mem_getD ha
    rw [List.length_map,Array.length_toList] at hi
    rw [←numAt_eq];exact h2 i (by omega)
  exact ⟨.int (mxd d ns),H1,I2,⟨t,by rw [eM]⟩,q⟩
 ·have en:ns=[]:=List.length_eq_zero_iff.mp (by omega)
  subst en
  exact ⟨.int d,H1,I2,⟨_,rfl⟩,q⟩
end L2
namespace L2
open PySem PySem.Spec PyProof.Rows
theorem bl_signs:(" ":Str).cps.toList=[32]:=by decide +kernel
theorem bl_eq:(" ":Str)=⟨#[32]⟩:=by decide +kernel
theorem bjoin_cons2 (a b:Str) (r:List Str):(Str.join " " (a :: b :: r)).cps.toList=a.cps.toList++32 :: (Str.join " " (b :: r)).cps.toList:=by
 show ((a++" ")++Str.join " " (b :: r)).cps.toList=_
 rw [cat_list,cat_list,bl_signs,List.append_assoc];rfl
theorem bjoin_inj:∀{ps qs:List Str},ps≠[]→qs≠[]→(∀p∈ps,¬32∈p.cps.toList)→(∀p∈qs,¬32∈p.cps.toList)→Str.join " " ps=Str.join " " qs→ps=qs
 | [],_,h,_,_,_,_=>absurd rfl h
 | _,[],_,h,_,_,_=>absurd rfl h
 | [p],[q],_,_,_,_,h=>by have h:p=q:=h;rw [h]
 | [p],q :: q' :: r,_,_,hp,_,h=>by
   have h:p=Str.join " " (q :: q' :: r):=h
   have:=hp p List.mem_cons_self
   rw [h,bjoin_cons2] at this
   exact absurd (List.mem_append_right _ List.mem_cons_self) this
 | p :: p' :: r,[q],_,_,_,hq,h=>by
   have h:Str.join " " (p :: p' :: r)=q:=h
   have:=hq q List.mem_cons_self
   rw [←h,bjoin_cons2] at this
   exact absurd (List.mem_append_right _ List.mem_cons_self) this
 | p :: p' :: r,q :: q' :: r',_,_,hp,hq,h=>by
   have e:(Str.join " " (p :: p' :: r)).cps.toList=(Str.join " " (q :: q' :: r')).cps.toList:=by rw [h]
   rw [bjoin_cons2,bjoin_cons2] at e
   obtain ⟨e1,e2⟩:=cut_at (hp p List.mem_cons_self) (hq q List.mem_cons_self) e
   have ih:=bjoin_inj (ps:=p' :: r) (qs:=q' :: r') (by simp) (by simp) (fun z hz=>hp z (List.mem_cons_of_mem _ hz)) (fun z hz=>hq z (List.mem_cons_of_mem _ hz)) (str_ext e2)
   rw [str_ext e1,ih]
theorem bsplit_ne (x:Str):Txt.split x " "≠[]:=fun z=>by
 have:=split_pos x " "
 rw [z] at this
 exact absurd this (by decide)
theorem bsplit_free (x:Str):∀p∈Txt.split x " ",¬32∈p.cps.toList:=fun p hp=>by
 rw [bl_eq] at hp
 exact StrLaws.split_free _ 32 p hp
theorem bsplit_eq {x:Str} {ps:List Str} (h0:ps≠[]) (h:∀p∈ps,¬32∈p.cps.toList) (e:Str.join " " ps=x):Txt.split x " "=ps:=by
 refine bjoin_inj (bsplit_ne x) h0 (bsplit_free x) h ?_
 rw [e]
 exact StrLaws.join_split _ _
theorem bjoin_app:∀{ps qs:List Str},ps≠[]→qs≠[]→Str.join " " (ps++qs)=(Str.join " " ps++" ")++Str.join " " qs
 | [],_,h,_=>absurd rfl h
 | [p],q :: qs,_,_=>rfl
 | [p],[],_,h=>absurd rfl h
 | p :: p' :: r,qs,_,hq=>by
   have ih:=bjoin_app (ps:=p' :: r) (qs:=qs) (by simp) hq
   apply str_ext
   show (Str.join " " (p :: p' :: (r++qs))).cps.toList=_
   rw [bjoin_cons2,cat_list,cat_list,bjoin_cons2,show p' :: (r++qs)=(p' :: r)++qs from rfl,ih,cat_list,cat_list]
   simp
def wsp (x:Str):List Str:=(Txt.split x " ").filter fun p=>!decide (p=("":Str))
theorem wsp_app (x y:Str):wsp ((x++" ")++y)=wsp x++wsp y:=by
 unfold wsp
 rw [←List.filter_append]
 congr 1
 refine bsplit_eq (by simp [bsplit_ne x]) (fun p hp=>?_) ?_
 ·rcases List.mem_append.mp hp with hp | hp
  ·exact bsplit_free x p hp
  ·exact bsplit_free y p hp
 ·rw [bjoin_app (bsplit_ne x) (bsplit_ne y),show Str.join " " (Txt.split x " ")=x from StrLaws.join_split _ _,show Str.join " " (Txt.split y " ")=y from StrLaws.join_split _ _]
theorem wsp_nil:wsp ""=[]:=by
 unfold wsp
 rw [bsplit_eq (x:="") (ps:=[""]) (by simp) (fun p hp=>by rw [List.mem_singleton.mp hp];decide +kernel) rfl]
 decide +kernel
theorem wsp_one {x:Str} (h:¬32∈x.cps.toList) (hn:x≠""):wsp x=[x]:=by
 unfold wsp
 rw [bsplit_eq (x:=x) (ps:=[x]) (by simp) (fun p hp=>by rw [List.mem_singleton.mp hp];exact h) rfl]
 simp [hn]
def expd (c:Nat) (z l:List Nat):List Nat:=l.flatMap fun d=>if d=c then z else [d]
theorem expd_free {c:Nat} {z:List Nat}:∀{l:List Nat},¬c∈l→expd c z l=l
 | [],_=>rfl
 | k :: r,h=>by
   have h1:¬k=c:=fun e=>h (e▸List.mem_cons_self ..)
   unfold expd
   rw [List.flatMap_cons,if_neg h1]
   show [k]++expd c z r=k :: r
   rw [expd_free fun m=>h (List.mem_cons_of_mem _ m)];rfl
theorem expd_app {c:Nat} {z a b:List Nat}:expd c z (a++b)=expd c z a++expd c z b:=by unfold expd;rw [List.flatMap_append]
theorem expd_join (c:Nat) (z:Str):∀parts:List Str,(∀p∈parts,c∉p.cps.toList)→expd c z.cps.toList (Str.join ⟨#[c]⟩ parts).cps.toList=(Str.join z parts).cps.toList
 | [],_=>rfl
 | [p],h=>expd_free (h p (List.mem_singleton.mpr rfl))
 | p :: q :: r,h=>by
   have ih:=expd_join c z (q :: r) fun a ha=>h a (List.mem_cons_of_mem _ ha)
   show expd c z.cps.toList ((p++⟨#[c]⟩)++Str.join ⟨#[c]⟩ (q :: r)).cps.toList=((p++z)++Str.join z (q :: r)).cps.toList
   rw [cat_list,cat_list,expd_app,expd_app,ih,expd_free (h p (List.mem_cons_self ..)),cat_list,cat_list]
   congr 2
   show expd c z.cps.toList [c]=_
   simp [expd]
theorem replace_expd (x z:Str) (c:Nat):(Txt.replace x ⟨#[c]⟩ z).cps.toList=expd c z.cps.toList x.cps.toList:=by
 rw [StrLaws.replace_one,←expd_join c z _ (StrLaws.split_free x c),StrLaws.join_split]
def e1 (d:Nat):List Nat:=if d=40∨d=41∨d=44 then [32,d,32] else [d]
theorem expd3 (l:List Nat):expd 44 [32,44,32] (expd 41 [32,41,32] (expd 40 [32,40,32] l))=l.flatMap e1:=by
 induction l with
 | nil=>rfl
 | cons d r ih =>
   rw [List.flatMap_cons,←ih]
   show expd 44 _ (expd 41 _ ((if d=40 then [32,40,32] else [d])++expd 40 _ r))=_
   rw [expd_app,expd_app]
   congr 1
   unfold e1
   by_cases h0:d=40
   ·subst h0;decide
   ·rw [if_neg h0]
    by_cases h1:d=41
    ·subst h1;decide
    ·by_cases h2:d=44
     ·subst h2;decide
     ·rw [if_neg (by omega)]
      simp [expd,h1,h2]
theorem rep3_list (x:Str):(rep3 x "(" ")" ",").cps.toList=x.cps.toList.flatMap e1:=by
 have p1:("(":Str)=⟨#[40]⟩:=by decide +kernel
 have p2:(")":Str)=⟨#[41]⟩:=by decide +kernel
 have p3:(",":Str)=⟨#[44]⟩:=by decide +kernel
 have q1:(padS ⟨#[40]⟩).cps.toList=[32,40,32]:=by decide +kernel
 have q2:(padS ⟨#[41]⟩).cps.toList=[32,41,32]:=by decide +kernel
 have q3:(padS ⟨#[44]⟩).cps.toList=[32,44,32]:=by decide +kernel
 unfold rep3
 rw [p1,p2,p3,replace_expd,replace_expd,replace_expd,q1,q2,q3,expd3]
theorem expd_len {c:Nat} {z:List Nat} (hz:z.length=3):∀l:List Nat,(expd c z l).length≤3*l.length
 | []=>Nat.le_refl _
 | k :: r=>by
   have ih:=expd_len (c:=c) hz r
   show ((if k=c then z else [k])++expd c z r).length≤_
   rw [List.length_append,List.length_cons]
   split <;> simp [hz] <;> omega
theorem rep3_len (x:Str):(rep3 x "(" ")" ",").length≤3*x.length:=by
 have key:∀l:List Nat,(l.flatMap e1).length≤3*l.length:=by
  intro l
  induction l with
  | nil=>exact Nat.le_refl _
  | cons d r ih =>
    rw [List.flatMap_cons,List.length_append,List.length_cons]
    have:(e1 d).length≤3:=by unfold e1;split <;> simp
    omega
 have h:=key x.cps.toList
 rw [←rep3_list] at h
 have q1:(rep3 x "(" ")" ",").cps.toList.length=(rep3 x "(" ")" ",").length:=Array.length_toList
 have q2:x.cps.toList.length=x.length:=Array.length_toList
 rw [q1,q2] at h
 exact h
def pcs (x:Str):List Str:=wsp (rep3 x "(" ")" ",")
theorem rep3_app (x y:Str):rep3 (x++y) "(" ")" ","=rep3 x "(" ")" ","++rep3 y "(" ")" ",":=str_ext (by rw [rep3_list,cat_list,cat_list,List.flatMap_append,rep3_list,rep3_list])
theorem rep3_free {x:Str} (h:∀c∈x.cps.toList,c≠40∧c≠41∧c≠44):rep3 x "(" ")" ","=x:=str_ext (by
 rw [rep3_list]
 generalize x.cps.toList=l at h
 induction l with
 | nil=>rfl
 | cons c r ih =>
   have hc:=h c List.mem_cons_self
   rw [List.flatMap_cons,ih fun d hd=>h d (List.mem_cons_of_mem _ hd)]
   unfold e1
   rw [if_neg (by omega)];rfl)
theorem rep3_bl:rep3 " " "(" ")" ","=" ":=rep3_free (by decide +kernel)
theorem pcs_app (x y:Str):pcs ((x++" ")++y)=pcs x++pcs y:=by
 unfold pcs
 rw [rep3_app,rep3_app,rep3_bl,wsp_app]
theorem pcs_nil:pcs ""=[]:=by
 unfold pcs
 rw [rep3_free (x:="") (by decide +kernel),wsp_nil]
theorem rep3_open:rep3 "(" "(" ")" ","=((("":Str)++" ")++"(")++" ":=str_ext (by rw [rep3_list];decide +kernel)
theorem rep3_close:rep3 ")" "(" ")" ","=((("":Str)++" ")++")")++" ":=str_ext (by rw [rep3_list];decide +kernel)
theorem str_assoc3 (x y z:Str):(x++y)++z=x++(y++z):=str_ext (by rw [cat_list,cat_list,cat_list,cat_list,List.append_assoc])
theorem str_nil1 (x:Str):("":Str)++x=x:=str_ext (by rw [cat_list];rfl)
theorem str_nil2 (x:Str):x++("":Str)=x:=str_ext (by rw [cat_list];exact List.append_nil _)
theorem pcs_open (x:Str):pcs (("(":Str)++x)=("(":Str) :: pcs x:=by
 unfold pcs
 rw [rep3_app,rep3_open,str_assoc3 (("":Str)++" ") "(" " ",str_assoc3 (("":Str)++" "),wsp_app,wsp_nil,wsp_app,wsp_one (by decide +kernel) (by decide +kernel)]
 rfl
theorem pcs_close (x:Str):pcs (x++(")":Str))=pcs x++[(")":Str)]:=by
 unfold pcs
 rw [rep3_app,rep3_close,str_nil1,←str_assoc3,←str_assoc3]
 have e:((rep3 x "(" ")" ","++" ")++")")++" "=(((rep3 x "(" ")" ","++" ")++")")++" ")++"":=(str_nil2 _).symm
 rw [e,wsp_app,wsp_app,wsp_nil,wsp_one (x:=")") (by decide +kernel) (by decide +kernel),List.append_nil]
theorem pcs_one {x:Str} (h:∀c∈x.cps.toList,c≠32∧c≠40∧c≠41∧c≠44) (hn:x≠""):pcs x=[x]:=by
 unfold pcs
 rw [rep3_free fun c hc=>(h c hc).2]
 exact wsp_one (fun z=>(h 32 z).1 rfl) hn
end L2
namespace L2
open PySem PySem.Spec PyProof.Rows
theorem comp_tupFG {K:PySem.W.Frag} {a:Addr} {α:Type} {xs:List α} {fr:List (Nat×Str)} {tt:TT} {te:TE} {σ:St} {H1:Hp} {Q:VK} (g:α→V) (pr:α→Bool) (f:α→V) (hz:xs.length≤sizeLine) (hS:SqT K H1 a (xs.map g))
 (htt:∀(x:α) (H3:Hp) (Q':Bool→Hp→Prop),x∈xs→Same H1 H3→(∀H4,Same H3 H4→Q' (pr x) H4)→tt (some (g x) :: frV σ fr) H3 Q')
 (hte:∀(x:α) (H3:Hp) (Q':VK),x∈xs→Same H1 H3→pr x=true→(∀H4,Same H3 H4→Q' (f x) H4)→te (some (g x) :: frV σ fr) H3 Q')
 (hQ:∀D H2,H1 D=none→Same H1 H2→H2 D=some (.lst ((xs.filter pr).map f))→Q (.ref D) H2) :
 compGoal (Itt K a) fr tt te σ H1 Q:=by
 intro D hD
 refine ⟨fun i m ys H2=>m=xs.length - i∧i≤xs.length∧ys=((xs.take i).filter pr).map f∧Same H1 H2∧H2 D=some (.lst ys),⟨xs.length,by simp,Nat.zero_le _,by simp,Same.upd_new hD,upd_same⟩,?_⟩
 rintro i m ys H2 ⟨rfl,hi,rfl,s2,d2⟩
 refine ⟨d2,?_⟩
 have hS2:=s2.tup hS
 by_cases hlt:i<xs.length
 ·have hx0:(xs.map g)[i]?=some (g xs[i]):=by rw [List.getElem?_map,List.getElem?_eq_getElem hlt];rfl
  refine .inr ⟨⟨xs.map g,g xs[i],hS2,hx0⟩,?_⟩
  rintro v H3 ⟨rfl,hv⟩
  have hx:(xs.map g)[i]?=some v:=hv _ hS2
  rw [hx0] at hx
  cases hx
  have hm:xs[i]∈xs:=List.getElem_mem hlt
  have et:xs.take (i+1)=xs.take i++[xs[i]]:=by rw [List.take_add_one,List.getElem?_eq_getElem hlt];rfl
  refine htt xs[i] _ _ hm s2 fun H4 s4=>?_
  cases hp:pr xs[i] with
  | false =>
    refine iteF ⟨xs.length - (i+1),by omega,rfl,hlt,?_,s2.trans s4,s4 _ _ d2⟩
    rw [et,List.filter_append,List.filter_cons,hp]
    simp
  | true =>
    refine iteT (hte xs[i] _ _ hm (s2.trans s4) hp fun H5 s5=>⟨s5 _ _ (s4 _ _ d2),?_,xs.length - (i+1),by omega,rfl,hlt,?_,((s2.trans s4).trans s5).upd_of hD,upd_same⟩)
    ·have:=List.length_filter_le pr (xs.take i)
     rw [List.length_take] at this
     rw [List.length_map]
     omega
    ·rw [et,List.filter_append,List.filter_cons,hp]
     simp
 ·have e:i=xs.length:=by omega
  subst e
  have e2:xs.take xs.length=xs:=List.take_of_length_le (Nat.le_refl _)
  rw [e2] at d2
  exact .inl ⟨⟨xs.map g,hS2,by rw [List.length_map];exact Nat.le_refl _⟩,hQ D H2 hD s2 d2⟩
theorem call_isinstK {X:Cx} (K:PySem.W.Frag) (hK:X.K=K:=by rfl):CallR X (.builtin "isinstance") (fun xs H Q=>∃x c cv t b,xs=[x,c]∧clsV c=some cv∧TyOf K H x t∧PySem.W.kitOne K t cv=some b∧Q (.bl b) H):=hK▸call_isinst
end L2
namespace L2
open PySem PySem.Spec PyProof.Rows
def Dk (e:Addr) (d:Option Addr) (h:Heap):Prop:=∃o,h.get? e=some o∧o.dict=d
def KD {α:Type}:Sem α→Prop
 | .pure _=>True
 | .raise _=>True
 | .unsupported _=>True
 | .finish _=>True
 | .rule _ k=>KD (k ())
 | .at _ k=>KD (k ())
 | .load _ _ k=>∀o,KD (k o)
 | .update _ _ f k=>(∀o,(f o).dict=o.dict∧(f o).isFreed=o.isFreed)∧KD (k ())
 | .loadIfAlive _ k=>∀o,KD (k o)
 | .alloc _ k=>∀a,KD (k a)
 | .stack k=>∀l,KD (k l)
 | _=>False
theorem KD.bind {α β:Type} (t:Sem α) {f:α→Sem β} (h:KD t) (hf:∀a,KD (f a)):KD (t.bind f):=by
 induction t with
 | pure a=>exact hf a
 | raise _=>trivial
 | unsupported _=>trivial
 | finish _=>trivial
 | rule _ k ih=>exact ih () h
 | «at» _ k ih=>exact ih () h
 | load _ _ k ih=>exact fun o=>ih o (h o)
 | update _ _ _ k ih=>exact ⟨h.1,ih () h.2⟩
 | loadIfAlive _ k ih=>exact fun o=>ih o (h o)
 | alloc _ k ih=>exact fun o=>ih o (h o)
 | stack k ih=>exact fun o=>ih o (h o)
 | _=>exact False.elim h
theorem Dk.update {e a:Addr} {d:Option Addr} {h:Heap} {f:Obj→Obj} (x:Dk e d h) (hf:∀o,(f o).dict=o.dict∧(f o).isFreed=o.isFreed):Dk e d (h.update a f):=by
 obtain ⟨o,e1,e2⟩:=x
 by_cases q:a=e
 ·subst q
  exact ⟨f o,Heap.get?_update_self f e1 ((hf o).2.trans (Heap.get?_some_iff.mp e1).2),(hf o).1.trans e2⟩
 ·exact ⟨o,(Heap.get?_update_other _ _ q).trans e1,e2⟩
theorem wp_dk {α:Type} {M:Model} {Γ:PySem.Ctx} {e:Addr} {d:Option Addr} (t:Sem α):∀{Q:α→Pos→Shared→Prop} {E:Value→Pos→Shared→Prop} {p:Pos} {s:Shared},KD t→Dk e d s.heap→Sem.wp M Γ t (fun a p' s'=>Dk e d s'.heap→Q a p' s') (fun x p' s'=>Dk e d s'.heap→E x p' s') p s→Sem.wp M Γ t Q E p s:=by
 induction t with
 | pure a=>intro Q E p s kd hn h;exact h hn
 | raise e=>intro Q E p s kd hn h;exact h hn
 | unsupported _=>intro Q E p s kd hn h;exact h
 | finish _=>intro Q E p s kd hn h;exact h
 | rule _ k ih=>intro Q E p s kd hn h;exact ih _ kd hn h
 | «at» _ k ih=>intro Q E p s kd hn h;exact ih _ kd hn h
 | load _ _ k ih=>intro Q E p s kd hn h;obtain ⟨o,e,h⟩:=h;exact ⟨o,e,ih _ (kd _) hn h⟩
 | update _ _ _ k ih=>intro Q E p s kd hn h;exact ⟨h.1,ih _ kd.2 (hn.update kd.1) h.2⟩
 | loadIfAlive _ k ih=>intro Q E p s kd hn h;exact ih _ (kd _) hn h
 | alloc _ k ih=>intro Q E p s kd hn h;exact ih _ (kd _) (by obtain ⟨o,e1,e2⟩:=hn;exact ⟨o,Heap.get?_push_of_some _ e1,e2⟩) h
 | stack k ih=>intro Q E p s kd hn h;exact ih _ (kd _) hn h
 | _=>intro Q E p s kd hn h;exact False.elim kd
theorem wpAny_dk {α:Type} {M:Model} {A:Around} {t:Sem α} {e:Addr} {d:Option Addr} {Q:α→Shared→Prop} {E:Value→Shared→Prop} {s:Shared} (kd:KD t) (hn:Dk e d s.heap) (h:wpAny M A t (fun a s'=>Dk e d s'.heap→Q a s') (fun x s'=>Dk e d s'.heap→E x s') s):wpAny M A t Q E s :=
 fun Γ p hΓ=>wp_dk t kd hn (h Γ p hΓ)
theorem kd_map {f:Array Value→Array Value} (o:Obj):(Obj.mapFields f o).dict=o.dict∧(Obj.mapFields f o).isFreed=o.isFreed:=by
 obtain ⟨c,d,dt,sl⟩:=o
 cases dt <;> exact ⟨rfl,rfl⟩
theorem KD.bnd {α β:Type} {t:Sem α} {f:α→Sem β} (h:KD t) (hf:∀a,KD (f a)):KD (t >>= f):=KD.bind t h hf
theorem kd_uns {α:Type} (w:String):KD (unsupported w:Sem α):=trivial
theorem kd_load (a:Addr):KD (load a):=fun _=>trivial
theorem kd_stack:KD stack:=fun _=>trivial
theorem kd_fieldsOf (v:Value):KD (fieldsOf v):=by
 unfold fieldsOf
 cases v with
 | ref a=>exact KD.bnd (kd_load a) fun o=>by split <;> trivial
 | _=>trivial
theorem kd_field (v:Value) (i:Nat):KD (field v i):=KD.bnd (kd_fieldsOf v) fun vs=>by split <;> trivial
theorem kd_setField (v:Value) (i:Nat) (x:Value):KD (setField v i x):=by
 unfold setField
 cases v with
 | ref a =>
   refine KD.bnd (kd_load a) fun o=>?_
   split
   ·split
    ·exact ⟨fun o=>kd_map o,trivial⟩
    ·trivial
   ·trivial
 | _=>trivial
theorem kd_setFlight (e:Value) (f:Option Addr):KD (setFlight e f):=KD.bnd (kd_field e 1) fun tb=>by
 split
 ·exact kd_setField _ _ _
 ·trivial
theorem kd_frameEnvs:KD frameEnvs:=KD.bnd kd_stack fun _=>trivial
theorem kd_behind (env:Env) (l:List Env):KD (behindIsImport env l):=by
 unfold behindIsImport
 split
 ·trivial
 ·split
  ·trivial
  ·exact KD.bnd (kd_field _ _) fun _=>trivial
theorem kd_kept (env:Env) (b:Bool) (l:List Env):KD (keptBack env b l):=by
 cases l with
 | nil =>
   show KD (if (env.scope.isGenerator || env.scope.isCoroutine)=true then pure Value.none else do let x ←underTheClaimsCaller;pure (if x=true then Value.notImplemented else Value.none))
   split
   ·trivial
   ·exact KD.bnd (t:=underTheClaimsCaller) (KD.bnd kd_stack fun _=>trivial) fun _=>trivial
 | cons c l=>trivial
theorem kd_ready:∀l:List Env,KD (readyFrames l)
 | []=>trivial
 | env :: outer=>by
   unfold readyFrames
   split
   ·refine KD.bnd (kd_load _) fun o=>?_
    split
    ·trivial
    ·refine KD.bnd (kd_behind _ _) fun b=>KD.bnd (kd_kept _ _ _) fun v=>?_
     exact KD.bnd (t:=update _ _) ⟨fun o=>⟨rfl,by obtain ⟨c,d,dt,sl⟩:=o;cases dt <;> rfl⟩,trivial⟩ fun _=>kd_ready outer
   ·trivial
theorem kd_frameOf (env:Env):KD (PySem.frameOf env):=by
 unfold PySem.frameOf
 refine KD.bnd kd_frameEnvs fun l=>KD.bnd ?_ fun r=>?_
 ·cases List.dropWhile (fun x=>x.frame != env.frame) l with
  | nil=>trivial
  | cons a t=>exact KD.bnd (kd_ready _) fun _=>trivial
 ·cases r <;> trivial
theorem kd_place (f:Addr) (b:Bool):KD (entryPlaceOf f b):=KD.bnd kd_stack fun l=>by split <;> trivial
theorem kd_asIs (c:String) (dt:Data) (d:Option Addr):KD (newObjAsIs (.type c) dt d):=fun _=>trivial
theorem kd_newFields (ty:String) (vs:List Value):KD (newFields ty vs):=by
 unfold newFields newObj
 dsimp only
 split
 ·exact KD.bnd (kd_uns _) fun _=>kd_asIs _ _ _
 ·exact kd_asIs _ _ _
theorem kd_newEntry (a b c d e:Value) (l:List Value):KD (EntryCells.newEntry a b c d e l):=kd_newFields _ _
theorem kd_note (e:Value) (env:Env):KD (noteFrame e env):=by
 have fin:∀(f:Addr) (hd:Value),KD (do let a ←PySem.frameOf env;let pl ←entryPlaceOf f (hd != .none);let b ←EntryCells.newEntry hd a .none (rawInt f) .none pl;setField e 1 b):=fun f hd =>
  KD.bnd (kd_frameOf env) fun _=>KD.bnd (kd_place _ _) fun _=>KD.bnd (kd_newEntry _ _ _ _ _ _) fun _=>kd_setField _ _ _
 unfold noteFrame
 split
 ·refine KD.bnd (kd_field _ _) fun hd=>?_
  split
  ·refine KD.bnd (kd_field _ _) fun x=>?_
   split
   ·trivial
   ·exact KD.bnd (kd_setField _ _ _) fun _=>fin _ _
  ·exact fin _ _
 ·trivial
theorem kd_leaving (env:Env) (e:Value):KD (leaving env e):=KD.bnd (kd_note e env) fun _=>kd_setFlight e none
end L2
namespace L2
open PySem PySem.Spec PyProof.Rows
inductive FlyD (P:Program) (w:World) (l:List Env) (H:Hp) (s:Shared) (E:XK) (ev:Value) (s':Shared):Prop
 | mk:∀e C H' d,ev=.ref e→Fly P w l H s e C H' s'→Dk e d s'.heap→E (.ref C) d H'→FlyD P w l H s E ev s'
def CXD (P:Program) (w:World):CXT:=fun l H s E ev s'=>FlyD P w l H s E ev s'
section
variable {P : Program} {w : World} {K : PySem.W.Frag} {mg : Str → Option Value} {base : Heap} {N : List Str} {qual : Str} {scope : Scope} {f : Addr} {cd : Value} {A : Around} {outer : List Env} {s : Shared} {H : Hp} {E : XK}
theorem passD:Passes (CXD P w) (cxOf (CXD P w) P w K mg base N qual scope f cd A outer s H E) E:=by
 intro pins σ Hc sc ev s1 I h
 obtain ⟨e,C,H',d,rfl,F,dk,q⟩:=h
 obtain ⟨B,a0,fl,cv,ct⟩:=F.fly
 refine wpAny_dk (kd_leaving _ _) dk (wpAny_mono (wpAny_leaves_onW (Q:=fun _ s2=>∃h2,s2={ s1 with heap:=h2 }∧Heap.FlyingW B (cxOf (CXD P w) P w K mg base N qual scope f cd A outer s H E).outer e (.ref C) a0 h2∧s1.heap.UpToSlots h2) (base:=B) I.ok.frames rfl fl fun h2 fl2 sl=>⟨h2,rfl,fl2,sl⟩) (fun _ s2 z dk2=>?_) fun _ _ z _=>z)
 obtain ⟨h2,rfl,fl2,sl⟩:=z
 have nf:∀b∈frs (cxOf (CXD P w) P w K mg base N qual scope f cd A outer s H E).stack,∀o,s1.heap.get? b=some o→∀vs,o.data≠.fields vs:=fun b hb o e=>by
  obtain ⟨_,o1,e1,d⟩:=fl.2.2.1.mem hb
  rw [e] at e1
  cases e1
  exact d
 exact ⟨e,C,H',d,rfl,fly_out I rfl F.un F.os F.bare F.hok F.fr F.nw fl2 cv ct sl nf,dk2,q⟩
end
def tryCxD (X:Cx) (pn:List (Addr×Obj)) (R:St→XK):Cx:={ X with pn:=X.pn++pn,xe:=fun ev s'=>∃(σ:St) (Hc:Hp) (sc:Shared),Inv X pn σ Hc sc∧FlyD X.prog X.w X.stack Hc sc (R σ) ev s' }
section
variable {X : Cx} {pins pins' : List (Addr × Obj)} {σ : St} {H : Hp} {s : Shared} {R : St → XK}
theorem Inv.intryD (I:Inv X pins σ H s):Inv (tryCxD X pins R) [] σ H s :=
 ⟨⟨I.ok.mod,I.ok.kind,I.ok.glob,I.ok.blt,I.ok.above,I.ok.inj,I.ok.has,I.ok.cab,I.ok.hd,I.ok.frames,I.ok.stk,I.ok.exf,I.ok.bs,I.ok.bsz,I.ok.noex,I.ok.exfs,I.ok.funs,I.ok.frf⟩,I.os,I.bare,I.base,I.loc,I.cell,I.free,I.freeC,fun p hp=>I.pin p (by
   rw [List.append_nil] at hp
   exact hp),I.hok,I.len⟩
theorem Inv.outtryD (I:Inv (tryCxD X pins R) pins' σ H s):Inv X pins σ H s :=
 ⟨⟨I.ok.mod,I.ok.kind,I.ok.glob,I.ok.blt,I.ok.above,I.ok.inj,I.ok.has,I.ok.cab,I.ok.hd,I.ok.frames,I.ok.stk,I.ok.exf,I.ok.bs,I.ok.bsz,I.ok.noex,I.ok.exfs,I.ok.funs,I.ok.frf⟩,I.os,I.bare,I.base,I.loc,I.cell,I.free,I.freeC,fun p hp=>I.pin p (List.mem_append_left _ hp),I.hok,I.len⟩
theorem SP.outtryD {D:Ends} {f:Flow} (h:SP (tryCxD X pins R) pins' D f s):SP X pins D f s:=by
 cases f with
 | ret u=>obtain ⟨v,σ',H',I,r,q⟩:=h;exact ⟨v,σ',H',I.outtryD,r,q⟩
 | _=>obtain ⟨σ',H',I,q⟩:=h;exact ⟨σ',H',I.outtryD,q⟩
theorem passTD {pn:List (Addr×Obj)}:PassesX (CXD X.prog X.w) (tryCxD X pn R) R:=by
 intro pins σ H s ev s' I h
 exact ⟨σ,H,s,I.outtryD,h⟩
end
end L2
namespace L2
open PySem PySem.Spec PyProof.Rows
inductive XObjC (h:Heap) (C D:Addr):Prop
 | mk:∀bm N nm q bs hdct sn sub ab col dd k0 k1 k2 k3 k5 nw,h.get? C=some (excClassObj nm q C N bs bm hdct sn sub ab col dd k0 k1 k2 k3 k5 nw)→(Value.ref C :: bm).contains (.ref D)=true→XObjC h C D
structure SubX (K:PySem.W.Frag) (C D:Addr):Prop where
 c:∀h:Heap,K.In h→XObjC h C D
section
variable {M : Model} {A : Around} {E : Value → Shared → Prop} {s : Shared} {B : Heap} {l : List Env} {e L : Addr} {cls a0 : Value} {d : Option Addr} {Q : Unit → Shared → Prop}
theorem looksD {env:Env} {outer:List Env} (hfr:A.frames=some (env :: outer)) (hf:env.frame=some L) (fl:Heap.FlyingW B (env :: outer) e cls a0 s.heap) (dk:Dk e d s.heap)
 (hQ:∀h',Heap.HeldW B (env :: outer) e cls a0 L h'→s.heap.UpToSlots h'→Dk e d h'→Q () { s with heap:=h' }):wpAny M A (noteFrame (.ref e) env) Q E s :=
 wpAny_dk (kd_note _ _) dk (wpAny_mono (wpAny_looks_onW (Q:=fun _ s2=>∃h2,s2={ s with heap:=h2 }∧Heap.HeldW B (env :: outer) e cls a0 L h2∧s.heap.UpToSlots h2) hfr hf fl fun h2 x y=>⟨h2,rfl,x,y⟩) (fun _ _ ⟨h2,q,x,y⟩ dk2=>by
  subst q
  exact hQ h2 x y dk2) fun _ _ z _=>z)
theorem landsD (hh:Heap.HeldW B l e cls a0 L s.heap) (dk:Dk e d s.heap) (hQ:∀h',Heap.FlyingW B l e cls a0 h'→s.heap.UpToSlots h'→Dk e d h'→Q () { s with heap:=h' }):wpAny M A (setFlight (.ref e) none) Q E s :=
 wpAny_dk (kd_setFlight _ _) dk (wpAny_mono (wpAny_landsW (Q:=fun _ s2=>∃h2,s2={ s with heap:=h2 }∧Heap.FlyingW B l e cls a0 h2∧s.heap.UpToSlots h2) hh fun h2 x y=>⟨h2,rfl,x,y⟩) (fun _ _ ⟨h2,q,x,y⟩ dk2=>by
  subst q
  exact hQ h2 x y dk2) fun _ _ z _=>z)
theorem landsAgainD (hh:Heap.FlyingW B l e cls a0 s.heap) (dk:Dk e d s.heap) (hQ:∀h',Heap.FlyingW B l e cls a0 h'→s.heap.UpToSlots h'→Dk e d h'→Q () { s with heap:=h' }):wpAny M A (setFlight (.ref e) none) Q E s :=
 wpAny_dk (kd_setFlight _ _) dk (wpAny_mono (lands_againW (Q:=fun _ s2=>∃h2,s2={ s with heap:=h2 }∧Heap.FlyingW B l e cls a0 h2∧s.heap.UpToSlots h2) hh fun h2 x y=>⟨h2,rfl,x,y⟩) (fun _ _ ⟨h2,q,x,y⟩ dk2=>by
  subst q
  exact hQ h2 x y dk2) fun _ _ z _=>z)
end
def XAtD (C:Addr) (d:Option Addr) (e:Addr) (h:Heap):Prop:=∃o,h.get? e=some o∧o.cls=.ref C∧o.dict=d∧∃vs,o.data=.fields vs
def ExcD (C:Addr) (d:Option Addr) (e:Addr):HO:=.ext (XAtD C d e)
theorem excD_ok {P:Program} {w:World} {H:Hp} {h:Heap} {C e:Addr} {d:Option Addr} (x:XAtD C d e h):ObjOk P w H h e (ExcD C d e):=⟨x,let ⟨o,h1,_⟩:=x;⟨o,h1⟩,fun _ _ y k=>let ⟨o,h1,h2⟩:=y;⟨o,k o h1,h2⟩⟩
theorem call_isexcD {X:Cx}:CallR X (.builtin "isinstance") (fun xs H Q=>∃e C d c cv b,xs=[.ref e,c]∧H e=some (ExcD C d e)∧XGet X.K C∧clsV c=some cv∧PySem.W.kitOne X.K (.ref C) cv=some b∧Q (.bl b) H):=by
 intro pins s σ H xs us Q I r h
 obtain ⟨e,C,d,c,cv,b,rfl,he,Z,hcv,hk,q⟩:=h
 obtain ⟨u,u',rfl,rx,rc⟩:=vals2 r
 have e':u'=cv:=by
  cases c with
  | ty n=>cases hcv;exact rc
  | ref a=>cases hcv;exact rc
  | _=>cases hcv
 subst e'
 obtain rfl:u=Value.ref e:=rx
 obtain ⟨x,_⟩:=(show ObjOk X.prog X.w H s.heap e (ExcD C d e) from I.hok e _ he)
 exact PySem.W.kia_one (kitx_exc Z) I.kIn (let ⟨o,h1,h2,_⟩:=x;⟨o,h1,h2⟩) hk (by intro q;cases q) fun tk=>⟨.bl b,H,I.tok tk,rfl,q⟩
def tTryAsD (i:Nat) (R:St→XK) (tb ts:TS):TS:=fun D σ H=>(∀σ' C d H' e,R σ' (.ref C) d H'→H' e=none→ts (unb i D) (σ'.set i (some (.ref e))) (upd H' e (ExcD C d e)))∧tb D σ H
theorem ps_tryAsD {X:Cx} {body:List Stmt} {x n:Str} {i:Nat} {D:Addr} {b₀:Stmt} {suite:List Stmt} {np hpos pos:Pos} {R:St→XK} {tb ts:TS} (hg:Gl X x) (hm:X.mg x=some (.ref D)) (d:Xcl X.K D) (hst:X.stack=X.env :: X.outer) (hf:X.env.frame=some X.env.locals) (hex:X.ex=[])
 (hN:X.N.Nodup) (hi:X.N[i]?=some n) (hloc:X.env.scope.names.lookup n=some .local)
 (hsub:∀σ C d H,R σ (.ref C) d H→SubX X.K C D) (hb:∀pn,PSs (tryCxD X pn R) body tb) (hs:∀ev,PSs (hnd X ev) (b₀ :: suite) ts) (hdb:(x == ("__debug__":Str))=false:=by decide) :
 PS X (.Try body [.ExceptHandler (some (.Name x np)) (some n) (b₀ :: suite) hpos] [] [] pos) (tTryAsD i R tb ts):=by
 intro pins s σ H Dd I h
 obtain ⟨hh,hq⟩:=h
 refine wpAny_Try_except (wpAny_mono (hb pins [] s σ H Dd I.intryD hq) (fun f s₁ h₁=>?_) fun ev s₁ h₁=>?_)
 ·have h2:SP X pins Dd f s₁:=SP.outtryD h₁
  cases f with
  | next=>rw [arm_execs_nil];exact wpAny_pure h2
  | _=>exact h2
 ·obtain ⟨σ',Hc,sc,Ic,e,C,H',dx,rfl,F,dk,q⟩:=h₁
  obtain ⟨B,a0,fl,cv,ct⟩:=F.fly
  have fr:X.A.frames=some (X.env :: X.outer):=by rw [I.ok.frames,hst]
  have fl':=fl
  rw [hst] at fl'
  refine looksD fr hf fl' dk fun h4 hheld hsm4 dk4=>?_
  refine landsD hheld dk4 fun h5 fl5 hsm5 dk5=>?_
  have J5:Inv X pins σ' H' { s₁ with heap:=h5 }:=F.inv (l:=X.stack) Ic fl cv ct fl5.1 (hsm4.trans hsm5)
  refine wpAny_handleBy_cons (codeAny_handlers_test ?_) (by intro q;cases q)
  refine Calls.Name_function_global I.ok.kind hg (Calls.loadGlobal_global (by rw [I.ok.glob];exact I.mod.glob.keeps J5.bk) hm ?_) hdb
  obtain ⟨bm,N,nm,qn,bs,hdct,sn,sub,ab,col,dd,k0,k1,k2,k3,k5,nw,hC,hsb⟩:=(hsub σ' C dx H' q).c _ J5.kIn
  obtain ⟨bm',N',nm',qn',bs',hdct',sn',sub',ab',col',dd',l0,l1,l2,l3,l5,mN',hD,hN'',hni',TL'⟩:=d.obj J5.kIn
  obtain ⟨ob,hob,hobc⟩:=fl5.there
  refine matches_own hC hD hob hobc (TL'.hasType PySem.F.excBase_ValueError.hasBase) hsb ?_
  refine codeAny_handlers_suite_as ?_
  refine landsAgainD fl5 dk5 fun h6 fl6 hsm6 dk6=>?_
  have J6:Inv X pins σ' H' { s₁ with heap:=h6 }:=F.inv (l:=X.stack) Ic fl cv ct fl6.1 ((hsm4.trans hsm5).trans hsm6)
  have base0:=Ic.base
  rw [hex] at base0
  have e0:X.s₀.heap.get? e=none:=by
   cases z:X.s₀.heap.get? e with
   | none=>rfl
   | some o =>
     obtain ⟨o',e'⟩:=base0.there e o z (fun z=>nomatch z)
     rw [F.nw] at e'
     cases e'
  obtain ⟨ob6,vs6,hob6,hobc6,hobv6,_⟩:=fl6.first
  obtain ⟨ob7,hob7,hobd7⟩:=dk6
  have eL:e≠X.env.locals:=fun z=>by
   obtain ⟨m,hn,_⟩:=Ic.loc
   obtain ⟨oL,_,_,hoL,_⟩:=hn
   rw [←z,F.nw] at hoL
   cases hoL
  have eC:∀x c,X.env.cells.lookup x=some c→c≠e:=fun x c hc z=>by
   obtain ⟨v,o,ho,_⟩:=Ic.cell x c hc
   rw [z,F.nw] at ho
   cases ho
  have eP:∀p∈X.pn++pins,p.1≠e:=fun p hp z=>by
   obtain ⟨z1,_⟩:=Ic.pin p hp
   rw [z,F.nw] at z1
   cases z1
  have J7:Inv X pins σ' (upd H' e (ExcD C dx e)) { s₁ with heap:=h6 }:=J6.track F.fr e0 eL eC eP (excD_ok ⟨ob6,hob6,hobc6,by
   rw [hob6] at hob7
   cases hob7
   exact hobd7,_,hobv6⟩)
  refine store_ok J7 hN hi (.inl hloc) (v:=.ref e) rfl (fun s2 J8=>?_) (.inr hloc)
  refine wpAny_mono (hs (.ref e) pins s2 _ _ (unb i Dd) (J8.inhnd _) (hh σ' C dx H' e q F.fr)) (fun f s3 z=>?_) (fun _ _ z=>z.elim)
  have z':SP X pins (unb i Dd) f s3:=SP.outhnd I.ok z
  cases f with
  | ret u =>
    obtain ⟨v,σ2,H2,I2,r,q2⟩:=z'
    exact goes_ok I2 hN hi hloc fun s4 I4=>⟨v,_,H2,I4,r,q2⟩
  | next =>
    obtain ⟨σ2,H2,I2,q2⟩:=z'
    exact goes_ok I2 hN hi hloc fun s4 I4=>⟨_,H2,I4,q2⟩
  | brk =>
    obtain ⟨σ2,H2,I2,q2⟩:=z'
    exact goes_ok I2 hN hi hloc fun s4 I4=>⟨_,H2,I4,q2⟩
  | cont =>
    obtain ⟨σ2,H2,I2,q2⟩:=z'
    exact goes_ok I2 hN hi hloc fun s4 I4=>⟨_,H2,I4,q2⟩
end L2
set_option maxHeartbeats 400000
namespace L2
open PySem PySem.Spec PyProof.Rows
open PySem.Builtin PySem.Builtin.ObjectAttr
section
variable {prog : Program} {w : World} {A : Around} {E : Value → Shared → Prop} {K : PySem.W.Frag} {x C dx : Addr} {h : Heap} {g : Array GenState} {d : Drawn} {t : Nat} {os : OsState} {name : Str} {mA : Str → Option Value} {v : Value}
theorem XAtD.at {d:Option Addr} (I:XAtD C d x h):XAt C x h:=let ⟨o,a,b,_⟩:=I;⟨o,a,b⟩
theorem looks_nsGet {M:Model} (n:h.Ns dx mA):PySem.W.Looks M h (nsGet dx name) (mA name):=fun A Q E s k q=>wpAny_nsGet (n.keeps k) q
theorem excd_dict {M:Model} (hd:PySem.W.hasDictIn K C=true) (X:K.In h) (I:XAtD C (some dx) x h):PySem.W.Looks M h (ownDict x) (some dx):=by
 obtain ⟨o,e,hc,hdx,vs,hv⟩:=I
 obtain ⟨cd,hcd,hcq⟩:=PySem.W.any_some hd
 have L:=PySem.W.looks_clsIn (M:=M) X hcd
 unfold ownDict
 refine (PySem.W.Looks.ld e).andThen ?_
 rw [hv]
 show PySem.W.Looks M h (instanceDict x false) _
 unfold instanceDict
 refine (PySem.W.Looks.ld e).andThen ?_
 rw [hc,hdx]
 refine L.andThen ?_
 rw [hcq]
 exact .now
theorem excd_find {M:Model} (hd:PySem.W.hasDictIn K C=true) (hf:PySem.W.findIn K (.ref C) name=some none) (X:K.In h) (I:XAtD C (some dx) x h) (n:h.Ns dx mA) (hv:mA name=some v):PySem.W.Looks M h (find (.ref x) (.ref C) name) (.value v):=by
 refine (PySem.W.looks_findIn X hf).andThen (PySem.W.Looks.now.andThen (PySem.W.Looks.now.andThen ?_))
 show PySem.W.Looks M h (ownThenClass (.ref x) name none none) _
 unfold ownThenClass
 refine PySem.W.Looks.andThen (a:=some v) ?_ (PySem.W.Looks.tag .now)
 show PySem.W.Looks M h (do inDict name (←ownDict x)) _
 exact (excd_dict hd X I).andThen (hv▸looks_nsGet n)
theorem excd_entry {tk:Tok} {Q:Fin→Shared→Prop} (hd:PySem.W.hasDictIn K C=true) (hf:PySem.W.findIn K (.ref C) name=some none) (X:K.In h) (I:XAtD C (some dx) x h) (n:h.Ns dx mA) (hv:mA name=some v) (hq:Q (.done (.ret v)) ⟨h,g,d,t,os⟩) :
 wpAny (model prog w) A (Builtin.«object.__getattribute__» ⟨[.ref x,.str name tk],[]⟩) Q E ⟨h,g,d,t,os⟩:=by
 have L0:=I.at.type (M:=model prog w)
 have L3:=excd_find hd hf X I n hv (M:=model prog w)
 refine wpAny_bind (wpAny_pure (wpAny_bind (wpAny_pure (wpAny_bind (L0.at (wpAny_bind (L3.at ?_)))))))
 exact wpAny_pure hq
theorem excd_call {tk:Tok} {R:Result→Shared→Prop} (Z:XGet K C) (hf:PySem.W.findIn K (.ref C) name=some none) (X:K.In h) (I:XAtD C (some dx) x h) (n:h.Ns dx mA) (hv:mA name=some v) (hq:R (.ok (.ret v)) ⟨h,g,d,t,os⟩) :
 codeAny (model prog w) A (.call (.builtin "BaseException.__getattribute__") ⟨[.ref x,.str name tk],[]⟩) R ⟨h,g,d,t,os⟩:=by
 have L:PySem.W.Looks (model prog w) h (isInstance (.ref x) (.type "BaseException")) true:=(I.at.type (M:=model prog w)).andThen (PySem.W.looks_mroIn (M:=model prog w) X Z.mb)
 exact codeAny_call_builtin F.excAttr_ValueError.ga.plain F.entry_bexc_ga (exc_check L (excd_entry Z.cl hf X I n hv hq))
theorem excd_by {tk:Tok} {fill expr:Bool} {Q:Value→Shared→Prop} (Z:XGet K C) (hf:PySem.W.findIn K (.ref C) name=some none) (X:K.In h) (I:XAtD C (some dx) x h) (n:h.Ns dx mA) (hv:mA name=some v) (hh:PySem.W.handedIn v=true) (hq:Q v ⟨h,g,d,t,os⟩) :
 wpAny (model prog w) A (getAttrBy (.ref x) (.str name tk) fill expr) Q E ⟨h,g,d,t,os⟩:=by
 have L0:=I.at.type (M:=model prog w)
 have L1:=PySem.W.looks_findIn (M:=model prog w) X Z.ga
 have L2:=PySem.W.looks_findIn (M:=model prog w) X Z.gt
 have f3:=F.excAttr_ValueError.ga.bind (.ref x)
 have hx2:(Value.builtin "BaseException.__getattribute__" == Value.builtin "object.__getattribute__")=false:=by decide +kernel
 have hx1:(onTheHeap (Value.ref C) && Value.builtin "BaseException.__getattribute__" == Value.builtin "object.__getattribute__")=false:=by rw [hx2];rfl
 refine wpAny_holding (wpAny_bind (L0.at (wpAny_bind (L1.at ?_))))
 refine wpAny_ite_f hx1 ?_
 refine wpAny_bind (L2.at ?_)
 refine wpAny_bind (wpAny_attempt (wpAny_holding ?_))
 have hx0:(expr && onTheHeap (Value.builtin "BaseException.__getattribute__"))=false:=by cases expr <;> rfl
 unfold callGetattribute
 refine wpAny_ite_f hx0 ?_
 unfold boundAndCalled
 rw [f3]
 refine wpAny_bind (wpAny_pure ?_)
 refine wpAny_call (excd_call Z hf X I n hv ?_)
 exact PySem.W.handed_on hh hq
theorem excd_attr {expr:Bool} {Q:Value→Shared→Prop} (Z:XGet K C) (hf:PySem.W.findIn K (.ref C) name=some none) (X:K.In h) (I:XAtD C (some dx) x h) (n:h.Ns dx mA) (hv:mA name=some v) (hh:PySem.W.handedIn v=true) (hq:Q v ⟨h,g,d,t+1,os⟩) :
 wpAny (model prog w) A (getAttr (.ref x) name expr) Q E ⟨h,g,d,t,os⟩:=by
 unfold getAttr
 exact wpAny_bind (wpAny_mkText (excd_by Z hf X I n hv hh hq))
end
end L2
namespace L2
open PySem PySem.Spec PyProof.Rows
inductive tFldX_I (K:PySem.W.Frag) (f:Str) (Q:VK) (x:V) (H1:Hp):Prop
 | mk:∀a C dx fs v,x=.ref a→H1 a=some (ExcD C (some dx) a)→H1 dx=some (.xd fs)→XGet K C→PySem.W.findIn K (.ref C) f=some none→fs.lookup f=some v→Q v H1→tFldX_I K f Q x H1
def tFldX (K:PySem.W.Frag) (ta:TE) (f:Str):TE:=fun σ H Q=>ta σ H fun x H1=>tFldX_I K f Q x H1
section
variable {X : Cx} {e : Expr} {f : Str} {pos : Pos} {ta : TE}
theorem pe_fldX (he:PE X e ta) (hb:attributeBase e f X.env (eval e X.env)=eval e X.env):PE X (.Attribute e f pos) (tFldX X.K ta f):=by
 intro pins s σ H Q I h
 refine attr_of hb (thn (he pins s σ H _ I h) fun u s1 ⟨x,H1,I1,rx,a,C,dx,fs,v,ex,ea,ed,Z,hf,l,q⟩=>?_)
 subst ex
 obtain rfl:u=Value.ref a:=rx
 obtain ⟨xa,_⟩:=(show ObjOk X.prog X.w H1 s1.heap a (ExcD C (some dx) a) from I1.hok a _ ea)
 obtain ⟨mA,ns,r⟩:=(show ObjOk X.prog X.w H1 s1.heap dx (.xd fs) from I1.hok dx _ ed)
 have rv:=r f
 rw [l] at rv
 cases hm:mA f with
 | none=>rw [hm] at rv;exact False.elim rv
 | some u' =>
   rw [hm] at rv
   obtain ⟨h1,g1,d1,t1,os1⟩:=s1
   exact excd_attr Z hf I1.kIn xa ns.ns hm (handed_of rv) ⟨v,H1,I1.tok _,rv,q⟩
end
end L2
namespace L2
open PySem PySem.Spec PyProof.Rows
open PySem.Builtin PySem.Builtin.ObjectAttr
def onlyVE:List Value→Bool
 | .ref _ :: r=>onlyVE r
 | l=>l == [.type "ValueError",.type "Exception",.type "BaseException",.type "object"]
theorem onlyVE_refuse (self:Value):∀{l:List Value},onlyVE l=true→refuseLoop self "__setattr__" l=pure ()
 | [],e=>by cases e
 | v :: r,e=>by
   cases v with
   | ref c=>rw [refuseLoop_ref];exact onlyVE_refuse self e
   | _=>have z:=beq_iff_eq.mp e;rw [z];exact PySem.F.store_ValueError.passes self
theorem onlyVE_has:∀{l:List Value},onlyVE l=true→l.contains (.type "object")=true
 | [],e=>by cases e
 | v :: r,e=>by
   cases v with
   | ref c=>rw [List.contains_cons,onlyVE_has (l:=r) e,Bool.or_true]
   | _=>have z:=beq_iff_eq.mp e;rw [z];rfl
def overVE (K:PySem.W.Frag) (C:Addr):Bool:=(PySem.W.clsIn K C).any fun cd=>onlyVE cd.mro
section
variable {prog : Program} {w : World} {A : Around} {E : Value → Shared → Prop} {K : PySem.W.Frag} {x C : Addr} {s : Shared} {name : Str} {v : Value}
theorem osaX_open {tk:Tok} {R:Result→Shared→Prop} {ox:Obj} (X:K.In s.heap) (I:PySem.W.InstAt s.heap x ox C none) (hp:overVE K C=true) (ha:PySem.W.findIn K (.ref C) name=some none)
 (h:wpAny (model prog w) A.in1 (storeInOwnDict (.ref x) (.ref C) (.str name tk) name v false)
   (fun fin s'=>match fin with | .done f=>R (.ok f) s' | .again c'=>c'.quiet=true∧codeAny (model prog w) A c' R s') (fun e s'=>R (.error e) s') s) :
 codeAny (model prog w) A (.call (.builtin "object.__setattr__") ⟨[.ref x,.str name tk,v],[]⟩) R s:=by
 have SF:=PySem.F.store_object
 obtain ⟨cd,hc,ho⟩:=PySem.W.any_some hp
 have ne:cd.mro.isEmpty=false:=by cases q:cd.mro with | nil=>rw [q] at ho;cases ho | cons _ _=>rfl
 have sub:PySem.W.Looks (model prog w) s.heap (isInstance (.ref x) (.type "object")) true:=I.type.andThen (PySem.W.looks_mroIn X (by unfold PySem.W.mroIn;rw [hc,Option.bind_some,if_neg (by rw [ne];decide),onlyVE_has ho]))
 have hm:PySem.W.Looks (model prog w) s.heap (mroOf (.ref C)) cd.mro:=(PySem.W.looks_clsIn X hc).andThen .now
 refine codeAny_call_builtin SF.slot.plain SF.entry (@PySem.W.check_slot (model prog w) _ _ s "object.__setattr__" "object" "__setattr__" (.ref x) [.str name tk,v] [] _ SF.kind SF.split sub (SF.args (.ref x) (.str name tk) v) ?_)
 rw [PySem.W.osa_eq,refuse_eq]
 refine wpAny_bind (wpAny_bind (I.type.here (wpAny_bind (hm.here ?_))))
 rw [onlyVE_refuse _ ho]
 exact wpAny_pure (wpAny_bind (I.type.here (wpAny_bind ((PySem.W.looks_findIn X ha).here (wpAny_bind (wpAny_pure h))))))
theorem storeX {Q:Unit→Shared→Prop} {o:Obj} {vs:Array Value} (X:K.In s.heap) (hx:s.heap.get? x=some o) (hc:o.cls=.ref C) (hdn:o.dict=none) (hv:o.data=.fields vs)
 (hs:PySem.W.findIn K (.ref C) "__setattr__"=some (some (.builtin "object.__setattr__"))) (hp:overVE K C=true) (ha:PySem.W.findIn K (.ref C) name=some none) (hh:PySem.W.hasDictIn K C=true)
 (h:∀h' n,s.heap.get? n=none→n≠x→h'.get? x=some { o with dict:=some n }→h'.Ns1 n (fun y=>if y=name then some v else none)→(∀b ob,b≠x→s.heap.get? b=some ob→h'.get? b=some ob)→Q () { s with heap:=h',toks:=s.toks+2 }) :
 wpAny (model prog w) A (setAttr (.ref x) name v) Q E s:=by
 have I:PySem.W.InstAt s.heap x o C none:=⟨hx,hc,by unfold PySem.W.notCls;rw [hv],by rw [hdn];trivial⟩
 refine PySem.W.set_plain X I hs (osaX_open (s:={ s with toks:=s.toks+1 }) X I hp ha ?_)
 obtain ⟨cd,hcd,hd'⟩:=PySem.W.any_some hh
 refine wpAny_bind (wpAny_pure (wpAny_bind (wpAny_bind (wpAny_loadPart hx ?_))))
 rw [hc]
 refine wpAny_bind (PySem.W.Looks.here (s:={ s with toks:=s.toks+1 }) (PySem.W.looks_clsIn X hcd) ?_)
 rw [hd',hdn,hv]
 have hxs:x≠s.heap.objs.size:=Nat.ne_of_lt (Heap.lt_size hx)
 have hx1:(s.heap.push { cls:=.type "dict",data:=.dict #[] }).get? x=some o:=Heap.get?_push_of_some _ hx
 refine wpAny_bind (wpAny_alloc' ?_)
 refine wpAny_bind (wpAny_update' hx1 ?_)
 refine wpAny_pure ?_
 have hgd:((s.heap.push { cls:=.type "dict",data:=.dict #[] }).update x fun o=>{ o with dict:=some s.heap.objs.size }).get? s.heap.objs.size=some { cls:=.type "dict",data:=.dict #[] } :=
  (Heap.get?_update_ne _ _ _ _ hxs.symm).trans (Heap.get?_push_at rfl rfl)
 have hnd:((s.heap.push { cls:=.type "dict",data:=.dict #[] }).update x fun o=>{ o with dict:=some s.heap.objs.size }).Ns s.heap.objs.size (fun _=>none):=⟨_,#[],_,hgd,rfl,fun e he=>absurd he (by simp),fun _=>rfl⟩
 refine wpAny_bind (wpAny_pure (wpAny_bind (wpAny_nsSet1 (Heap.Ns1.of_empty hnd) fun h' hn' hs2=>?_)))
 obtain ⟨oD,esD,epD,hoD,hdD,hcD⟩:=hn'.count (Within.cons name v Within.nil)
 refine wpAny_bind (wpAny_lookBehind hoD (by rw [hdD];exact pastItsLine_dict (Nat.le_trans hcD (by rw [List.length_cons,List.length_nil,sizeLine_eq];omega))) ?_)
 refine wpAny_pure (h h' s.heap.objs.size (Heap.get?_none_of_le (Nat.le_refl _)) hxs.symm ?_ hn' fun b ob hbx hb=>?_)
 ·refine (hs2.2 x hxs).trans (Heap.get?_update_self _ hx1 ?_)
  obtain ⟨oc,od,odt,osl⟩:=o
  dsimp only at hv
  subst hv
  rfl
 ·exact (hs2.2 b (Nat.ne_of_lt (Heap.lt_size hb))).trans ((Heap.get?_update_ne _ _ _ _ hbx).trans (Heap.get?_push_of_some _ hb))
end
end L2
namespace L2
open PySem PySem.Spec PyProof.Rows
structure XSet (K:PySem.W.Frag) (C:Addr) (f:Str):Prop where
 sa:PySem.W.findIn K (.ref C) "__setattr__"=some (some (.builtin "object.__setattr__"))
 ov:overVE K C=true
 no:PySem.W.findIn K (.ref C) f=some none
 hd:PySem.W.hasDictIn K C=true
def XAtN (C:Addr) (d:Option Addr) (e:Addr) (h:Heap):Prop:=∃(o:Obj) (vs:Array Value) (a0:Addr),h.get? e=some o∧o.cls=.ref C∧o.dict=d∧o.data=.fields vs∧vs[1]?=some .none∧vs[0]?=some (.ref a0)
def ExcN (C:Addr) (d:Option Addr) (e:Addr):HO:=.ext (XAtN C d e)
theorem excN_ok {P:Program} {w:World} {H:Hp} {h:Heap} {C e:Addr} {d:Option Addr} (x:XAtN C d e h):ObjOk P w H h e (ExcN C d e):=⟨x,let ⟨o,_,_,h1,_⟩:=x;⟨o,h1⟩,fun _ _ y k=>let ⟨o,vs,a0,h1,h2⟩:=y;⟨o,vs,a0,k o h1,h2⟩⟩
inductive sFldX_I (K:PySem.W.Frag) (f:Str) (D:Ends) (σ:St) (y:V) (x:V) (H1:Hp):Prop
 | mk:∀a C,x=.ref a→H1 a=some (ExcN C none a)→XSet K C f→(∀n,H1 n=none→n≠a→D.nx σ (upd (upd H1 a (ExcN C (some n) a)) n (.xd [(f,y)])))→sFldX_I K f D σ y x H1
def sFldX (K:PySem.W.Frag) (ta tv:TE) (f:Str):TS:=fun D σ H=>tv σ H fun y H1=>ta σ H1 fun x H2=>sFldX_I K f D σ y x H2
section
variable {X : Cx} {o value : Expr} {f : Str} {pos pos' : Pos} {ta tv : TE}
theorem ps_fldX (ha:PE X o ta) (hv:PE X value tv) (hs:swapsWith value (some (.Attribute o f pos')) pos.line X.env=pure false) (hex:X.ex=[]):PS X (.Assign [.Attribute o f pos'] value pos) (sFldX X.K ta tv f):=by
 intro pins s σ H D I h
 refine plainObj_wpAny_Assign_Attribute (thn (hv pins s σ H _ I h) fun u s1 ⟨y,H1,I1,ry,q⟩=>thn (ha pins s1 σ H1 _ I1 q) fun ov s2 ⟨x,H2,I2,rx,a,C,ex,ea,c,q2⟩=>?_) hs
 subst ex
 obtain rfl:ov=Value.ref a:=rx
 obtain ⟨⟨oa,vs,a0,xa,hc,hdn,hvs,v1,v0⟩,_⟩:=(show ObjOk X.prog X.w H2 s2.heap a (ExcN C none a) from I2.hok a _ ea)
 refine storeX I2.kIn xa hc hdn hvs c.sa c.ov c.no c.hd fun h' n nn na hx hn kp=>?_
 have Hn:H2 n=none:=by
  cases z:H2 n with
  | none=>rfl
  | some u =>
    obtain ⟨ob,eb⟩:=(I2.hok n u z).there
    rw [nn] at eb
    cases eb
 have I3:Inv X pins σ (upd H2 a (ExcN C (some n) a)) { s2 with heap:=h',toks:=s2.toks+2 } :=
  I2.write (x:=a) (e:=a) (by rw [ea];exact True.intro) (.inl rfl) kp ⟨_,hx⟩ (excN_ok ⟨_,vs,a0,hx,hc,rfl,hvs,v1,v0⟩)
 have n0:X.s₀.heap.get? n=none:=by
  cases z:X.s₀.heap.get? n with
  | none=>rfl
  | some o =>
    have base0:=I2.base
    rw [hex] at base0
    obtain ⟨o',e'⟩:=base0.there n o z (fun z=>nomatch z)
    rw [nn] at e'
    cases e'
 have nL:n≠X.env.locals:=fun z=>by
  obtain ⟨m,hn,_⟩:=I2.loc
  obtain ⟨oL,_,_,hoL,_⟩:=hn
  rw [←z,nn] at hoL
  cases hoL
 have nC:∀x c,X.env.cells.lookup x=some c→c≠n:=fun x c hc z=>by
  obtain ⟨v,o,ho,_⟩:=I2.cell x c hc
  rw [z,nn] at ho
  cases ho
 have nP:∀p∈X.pn++pins,p.1≠n:=fun p hp z=>by
  obtain ⟨z1,_⟩:=I2.pin p hp
  rw [z,nn] at z1
  cases z1
 refine ⟨σ,_,I3.track (by rw [upd_ne na];exact Hn) n0 nL nC nP ?_,q2 n Hn na⟩
 refine ⟨_,hn,fun g=>?_⟩
 by_cases q:g=f
 ·subst q
  show RelO (List.lookup g [(g,y)]) (if g=g then some u else none)
  rw [if_pos rfl,List.lookup_cons_self]
  exact ry
 ·show RelO (List.lookup g [(f,y)]) (if g=f then some u else none)
  rw [if_neg q,List.lookup_cons,show (g == f)=false from beq_eq_false_iff_ne.mpr q]
  trivial
end
end L2
namespace L2
open PySem PySem.Spec PyProof.Rows
section
variable {P : Program} {w : World} {K : PySem.W.Frag} {mg : Str → Option Value} {base : Heap} {N : List Str} {qual : Str} {f : Addr}
theorem Fun.okXD {x:Str} {st:Stmt} {fd:FuncData} {ps:List Str} {k:Nat} {sp:Sp} (F:Fun K x qual st f fd) (S:FnScope N ps (defScope st)) (len:∀vs H Q E,sp vs H Q E→vs.length=ps.length)
 (hbody:∀(cdv:Value) (A:Around) (outer:List Env) (s:Shared) (H:Hp) (vs:List V) (Q:VK) (E:XK),Room k (A.deeper (envOfC qual (defScope st) s.heap.objs.size f cdv))→sp vs H Q E →
   ∃t,PSs (cxOf (CXD P w) P w K mg base N qual (defScope st) f cdv A outer s H E) (defBody st) t∧t { nx:=fun _ H'=>Q .non H',rt:=Q } (start N vs) H):FnOk P w K mg base (CXD P w) (k+1) f fd ps sp:=by
 obtain ⟨oc,od,kV,doc,pm,an,cdv,ct,osl,rfl,lk,hcd⟩:=F.ex
 exact fn_of lk hcd S len fun A outer s H vs Q E hr hsp=>hbody cdv A outer s H vs Q E hr hsp
end
def subXIn (K:PySem.W.Frag) (C D:Addr):Bool:=match K.lookup C with
 | some ⟨.type "type",_,.cls cd,sl⟩=>(match cd.mro,sl.toList with
   | .ref C' :: bm,[_,_,_,_,some (.builtin _),_]=>C' == C && !cd.hasDel && (Value.ref C :: bm).contains (.ref D)
   | _,_=>false)
 | _=>false
theorem SubX.of {K:PySem.W.Frag} {C D:Addr} (q:subXIn K C D=true):SubX K C D:=⟨fun h X=>by
 unfold subXIn at q
 split at q
 ·rename_i dd cd sl ho
  split at q
  ·rename_i C' bm k0 k1 k2 k3 n k5 hm hs
   rw [Bool.and_eq_true,Bool.and_eq_true] at q
   obtain ⟨⟨q1,q3⟩,q4⟩:=q
   have q1:=beq_iff_eq.mp q1
   rw [Bool.not_eq_true'] at q3
   obtain ⟨a1,a2,a3,a4,a5,a6,a7,a8,a9,a10,a11⟩:=cd
   obtain ⟨ls⟩:=sl
   dsimp only at hm q3 hs
   subst hm q3 hs q1
   exact ⟨bm,a4,a1,a5,a2,a6,a7,a8,a9,a10,dd,k0,k1,k2,k3,k5,_,X _ _ ho,q4⟩
  ·cases q
 ·cases q⟩
end L2
namespace L2
open PySem PySem.Spec PyProof.Rows
def excInI (K:PySem.W.Frag) (C:Addr):Bool:=match K.lookup C with
 | some ⟨.type "type",_,.cls cd,sl⟩=>(match cd.mro,sl.toList with
   | .ref C' :: bm,[_,_,_,_,some (.builtin n),_]=>C' == C && n == "ValueError.__new__" && !cd.hasDel && PySem.W.tailIn K mroVE bm
   | _,_=>false)
 | _=>false
inductive XObjI (h:Heap) (C:Addr):Prop
 | mk:∀bm N nm q bs hdct sn sub ab col dd k0 k1 k2 k3 k5,h.get? C=some (excClassObj nm q C N bs bm hdct sn sub ab col dd k0 k1 k2 k3 k5 "ValueError.__new__")→OwnTail h mroVE bm→XObjI h C
structure XclI (K:PySem.W.Frag) (C:Addr):Prop where
 q:excInI K C=true
theorem XclI.obj {K:PySem.W.Frag} {h:Heap} {C:Addr} (x:XclI K C) (X:K.In h):XObjI h C:=by
 have q:=x.q
 unfold excInI at q
 split at q
 ·rename_i dd cd sl ho
  split at q
  ·rename_i C' bm k0 k1 k2 k3 n k5 hm hs
   rw [Bool.and_eq_true,Bool.and_eq_true,Bool.and_eq_true] at q
   obtain ⟨⟨⟨q1,q2⟩,q3⟩,q4⟩:=q
   have q1:=beq_iff_eq.mp q1
   have q2:=beq_iff_eq.mp q2
   rw [Bool.not_eq_true'] at q3
   obtain ⟨a1,a2,a3,a4,a5,a6,a7,a8,a9,a10,a11⟩:=cd
   obtain ⟨ls⟩:=sl
   dsimp only at hm q3 hs
   subst hm q3 hs q1 q2
   exact ⟨bm,a4,a1,a5,a2,a6,a7,a8,a9,a10,dd,k0,k1,k2,k3,k5,X _ _ ho,PySem.W.tail_of_in X q4⟩
  ·cases q
 ·cases q
structure CIni (K:PySem.W.Frag) (C:Addr):Prop where
 ga:PySem.W.specialIn K (.ref C) "__getattribute__"=some (some (.builtin "type.__getattribute__"))
 rd:PySem.W.readsIn K C (.type "type")=true
 fc:PySem.W.findCls K (.ref C) (.type "type") "__init__"=some (.val (.builtin "ValueError.__init__"))
section
variable {prog : Program} {w : World} {A : Around} {E : Value → Shared → Prop} {h : Heap} {g : Array GenState} {d : Drawn} {t : Nat} {os : OsState} {K : PySem.W.Frag} {C f : Addr}
theorem call_xinit {e:Addr} {oe:Obj} {vs:Array Value} {rest:List Value} {Q:Value→Shared→Prop} (x:XclI K C) (X:K.In h) (he:h.get? e=some oe) (hc:oe.cls=.ref C) (hd:oe.data=.fields vs) {a0:Addr} (h0:vs[0]?=some (.ref a0)) (hl:rest.length≤sizeLine)
 (hq:∀h' tp,(∀b o,b≠e→h.get? b=some o→h'.get? b=some o)→h'.get? e=some (Obj.mapFields (·.setIfInBounds 0 (.ref tp)) oe)→Q .none ⟨h',g,d,t,os⟩) :
 wpAny (model prog w) A (call (.builtin "ValueError.__init__") (.ref e :: rest)) Q E ⟨h,g,d,t,os⟩:=by
 obtain ⟨bm,N,nm,q,bs,hdct,sn,sub,ab,col,dd,k0,k1,k2,k3,k5,hC,T⟩:=x.obj X
 have F:=PySem.F.excBase_ValueError
 refine wpAny_call (codeAny_call_builtin F.init.plain F.initEntry (wpAny_check_init_subU F T hC he hc ?_))
 have hn:=Heap.get?_push_of_some (h:=h) { cls:=.type "tuple",data:=.seq rest.toArray } he
 have hz:0<vs.size:=(Array.getElem?_eq_some_iff.mp h0).1
 repeat (first | with_reducible refine wpAny_field hn hd h0 ?_ | with_reducible refine wpAny_setField hn hd hz ?_ | with_reducible refine wpAny_letGo ?_ | wp_step)
 refine hq _ h.objs.size (fun b o hb q=>?_) ?_
 ·rw [Heap.get?_update_other _ _ (Ne.symm hb)]
  exact Heap.get?_push_of_some _ q
 ·exact Heap.get?_update_self _ hn (Obj.isFreed_of_fields (Obj.data_mapFields hd _))
end
inductive tXIni_I (K:PySem.W.Frag) (Q:VK) (vs:List V) (H1:Hp):Prop
 | mk:∀a v C d,vs=[.ref a,v]→H1 a=some (ExcN C d a)→XclI K C→Q .non H1→tXIni_I K Q vs H1
def tXIni (K:PySem.W.Frag) (t:TA):TE:=fun σ H Q=>t σ H fun vs H1=>tXIni_I K Q vs H1
section
variable {X : Cx} {e : Expr} {es : List Expr} {t : TA} {apos pos np : Pos} {x : Str} {B : Addr}
theorem pe_xinit {pl:Sem Bool} (hg:Gl X x) (hmx:X.mg x=some (.ref B)) (c:CIni X.K B) (ha:PA X (e :: es) t)
 (hdb:(x == ("__debug__":Str))=false:=by decide)
 (hst:starEach (e :: es) X.env=(false,eval e X.env) :: starEach es X.env:=by rfl) (hpl:(backTo pos (starEach es X.env)).any (·.1)=false:=by rfl)
 (ht:eval (.Call (.Attribute (.Name x np) "__init__" apos) (e :: es) [] pos) X.env=(do
   let ov ←eval (.Name x np) X.env
   standAt apos.atName
   let (f,first) ←holding [ov] (getMethod ov "__init__" pl)
   callWith pos f first (backTo pos (starEach (e :: es) X.env)) (backToKw pos (keywordEach [] X.env))):=by rfl) :
 PE X (.Call (.Attribute (.Name x np) "__init__" apos) (e :: es) [] pos) (tXIni X.K t):=by
 intro pins s σ H Q I h
 refine PySem.W.methodCall_KW (pl:=pl) (thn (pe_glob (v:=.ref B) hg hmx rfl hdb pins s σ H (fun v H1=>v=.ref B∧H1=H) I ⟨rfl,rfl⟩) fun u s1 ⟨y,H1,I1,rx,ey,eH⟩=>?_) ht
 subst ey eH
 obtain rfl:u=Value.ref B:=rx
 refine PySem.W.method_cls I1.kIn c.ga (PySem.W.cls_value I1.kIn c.rd c.fc rfl ?_)
 have I2:Inv X pins σ H1 { s1 with toks:=s1.toks+1 }:=I1.tok _
 refine PyProof.Rows.callWith_builtin1 (thn (ha pos pins _ σ H1 _ I2 h) fun us s2 ⟨vs,H2,I3,r,a,v,C,d,ev,ea,xc,q⟩=>?_) hst hpl
 subst ev
 obtain ⟨u0,u1,rfl,r0,r1⟩:=vals2 r
 obtain rfl:u0=Value.ref a:=r0
 obtain ⟨⟨o,fs,a0,e1,e2,e3,e4,e5,e6⟩,_⟩:=(show ObjOk X.prog X.w H2 s2.heap a (ExcN C d a) from I3.hok a _ ea)
 obtain ⟨h3,g3,d3,t3,os3⟩:=s2
 refine call_xinit (rest:=[u1]) xc I3.kIn e1 e2 e4 e6 (by show 1≤sizeLine;decide) fun h' tp kp hx=>?_
 have eH:upd H2 a (ExcN C d a)=H2:=by
  funext b
  by_cases z:b=a
  ·subst z;rw [upd_same,ea]
  ·rw [upd_ne z]
 have hsz:0<fs.size:=(Array.getElem?_eq_some_iff.mp e6).1
 have I4:Inv X pins σ (upd H2 a (ExcN C d a)) { ({ heap:=h3,gens:=g3,drawn:=d3,toks:=t3,os:=os3 }:Shared) with heap:=h',toks:=t3 } :=
  I3.write (x:=a) (e:=a) (by rw [ea];exact True.intro) (.inl rfl) kp ⟨_,hx⟩ (excN_ok ⟨_,_,tp,hx,(Obj.cls_mapFields _ _).trans e2,(kd_map o).1.trans e3,Obj.data_mapFields e4 _,by
   rw [Array.getElem?_setIfInBounds_ne (by decide)];exact e5,by simp [hsz]⟩)
 rw [eH] at I4
 exact ⟨.non,H2,I4,rfl,q⟩
end
end L2
namespace L2
open PySem PySem.Spec PyProof.Rows
section
variable {prog : Program} {w : World} {A : Around} {E : Value → Shared → Prop} {h : Heap} {g : Array GenState} {d : Drawn} {t : Nat} {os : OsState} {K : PySem.W.Frag} {C f : Addr}
theorem type_call_own {rest:List Value} {Q:Fin→Shared→Prop} (x:XclI K C) (X:K.In h) (m:Meth K C "__init__" f) (hrest:rest.length≤sizeLine)
 (hq:∀h' e,Heap.MadeExcOf h h' e (.ref C) rest→wpAny (model prog w) A (call (.ref f) (.ref e :: rest)) (fun r s'=>r=.none∧Q (.done (.ret (.ref e))) s') E ⟨h',g,d,t,os⟩) :
 wpAny (model prog w) A (Builtin.«type.__call__» ⟨.ref C :: rest,[]⟩) Q E ⟨h,g,d,t,os⟩:=by
 obtain ⟨bm,N,nm,q,bs,hdct,sn,sub,ab,col,dd,k0,k1,k2,k3,k5,hC,T⟩:=x.obj X
 have F:=PySem.F.excBase_ValueError
 repeat (first | with_reducible refine wpAny_loadPart_at hC ?_ | with_reducible refine wpAny_madeBy_exc hC ?_ | wp_step)
 refine codeAny_call_builtin_code (Code.quiet_builtin _ F.quiet) (wpAny_check_new_subU F F.hasB T hC ?_)
 refine codeAny_exc_new_subU F F.hasB F T hC ?_ hrest
 show wpAny _ _ _ _ _ _
 have hC₁:=Heap.get?_push_of_some { cls:=.ref C,data:=.fields #[.ref h.objs.size,.none,.none,.none,.bool false,.none] }
  (Heap.get?_push_of_some { cls:=.type "tuple",data:=.seq rest.toArray } hC)
 have X₁:K.In ((h.push { cls:=.type "tuple",data:=.seq rest.toArray }).push { cls:=.ref C,data:=.fields #[.ref h.objs.size,.none,.none,.none,.bool false,.none] }) :=
  X.keeps fun b o e=>Heap.get?_push_of_some _ (Heap.get?_push_of_some _ e)
 have hget:((h.push { cls:=.type "tuple",data:=.seq rest.toArray }).push
  { cls:=.ref C,data:=.fields #[.ref h.objs.size,.none,.none,.none,.bool false,.none] }).get? (h.objs.size+1)=some
  { cls:=.ref C,data:=.fields #[.ref h.objs.size,.none,.none,.none,.bool false,.none] }:=by heap_get
 have hcC:(Value.ref C :: bm).contains (.ref C)=true:=by simp
 unfold isInstance
 repeat (first | with_reducible refine wpAny_loadPart_at hget ?_ | (with_reducible refine wpAny_isSubtype_exc hC₁ ?_;rw [hcC]) | wp_step)
 show wpAny _ _ (typeLookup (.ref C) _) _ _ _
 refine (PySem.W.looks_findIn X₁ m.at_).at ?_
 refine wpAny_holding (wpAny_bind ?_)
 unfold bindSpecial
 refine wpAny_bind ((PySem.W.looks_typeIn X₁ (beq_iff_eq.mp m.fn)).at ?_)
 rw [if_pos (by decide)]
 refine wpAny_pure (wpAny_bind (wpAny_mono (hq _ (h.objs.size+1) ⟨fun b o hb=>Heap.get?_push_of_some _ (Heap.get?_push_of_some _ hb),Heap.get?_none_of_le (Nat.le_succ _),h.objs.size,hget,Heap.get?_none_of_le (Nat.le_refl _),?_⟩) (fun r s' hr=>?_) fun _ _ x=>x))
 ·exact Heap.get?_push_of_some _ (Heap.get?_push_at rfl rfl)
 ·obtain ⟨rfl,hQ⟩:=hr
  wp_walk
  exact hQ
theorem call_own {rest:List Value} {Q:Value→Shared→Prop} (x:XclI K C) (X:K.In h) (m:Meth K C "__init__" f) (hrest:rest.length≤sizeLine)
 (hq:∀h' e,Heap.MadeExcOf h h' e (.ref C) rest→wpAny (model prog w) (A.under (.builtin "type.__call__" ⟨.ref C :: rest,[]⟩)) (call (.ref f) (.ref e :: rest)) (fun r s'=>r=.none∧Q (.ref e) s') E ⟨h',g,d,t,os⟩) :
 wpAny (model prog w) A (call (.ref C) rest) Q E ⟨h,g,d,t,os⟩:=by
 obtain ⟨bm,N,nm,q,bs,hdct,sn,sub,ab,col,dd,k0,k1,k2,k3,k5,hC,T⟩:=x.obj X
 have f1:=tc_lookup
 have f2:=tc_bind (.ref C)
 have hT:(⟨h,g,d,t,os⟩:Shared).TypeIs (.ref C) "type":=⟨_,hC,rfl⟩
 refine wpAny_call (codeAny_of_tree ?_)
 show wpAny _ _ (callAny (.ref C) _) _ _ _
 repeat (any_goals (first | assumption | with_reducible refine wpAny_loadPart_at hC ?_ | wp_step))
 refine ⟨rfl,?_⟩
 refine codeAny_call_builtin_at (Code.quiet_builtin _ (by decide +kernel)) entry_typeCall (wpAny_check_type_call_sub hC (type_call_own x X m hrest fun h' e hm=>?_))
 exact hq h' e hm
theorem raise_new {M:Model} {s:Shared} {env:Env} {y:Sem Value} {Q:Flow→Shared→Prop} (x:XclI K C) (hh:A.handled=none)
 (h:wpAny M A y (fun v s₁=>∃e oe vs,v=.ref e∧K.In s₁.heap∧s₁.heap.get? e=some oe∧oe.cls=.ref C∧oe.data=.fields vs∧vs[1]?=some .none∧E (.ref e) s₁) E s) :
 wpAny M A (raiseStmt env (some y) none) Q E s:=by
 unfold raiseStmt
 refine wpAny_bind (wpAny_mono h (fun v s₁ h₁=>?_) fun _ _ x=>x)
 obtain ⟨e,oe,vs,rfl,X,he,hc,hd,h1,hE⟩:=h₁
 obtain ⟨bm,N,nm,q,bs,hdct,sn,sub,ab,col,dd,k0,k1,k2,k3,k5,hC,T⟩:=x.obj X
 have hcB:(Value.ref C :: bm).contains (.type "BaseException")=true:=by rw [List.contains_cons,T.hasType PySem.F.excBase_ValueError.hasBase,Bool.or_true]
 obtain ⟨hp,g,d,tk,os⟩:=s₁
 repeat (first | with_reducible refine wpAny_field he hd h1 ?_ | (with_reducible refine wpAny_loadPart_at he ?_;first | rw [hc] | rw [hd]) | with_reducible refine wpAny_loadPart_at hC ?_ | (with_reducible refine wpAny_isSubtype_exc hC ?_;rw [hcB]) | wp_step)
 exact wpAny_raiseNew_none hh hE
end
end L2
namespace L2
open PySem PySem.Spec PyProof.Rows
def tMakeN (C:Addr) (sp:Sp) (t:TA):TE:=fun σ H Q=>t σ H fun vs H1=>vs.length≤sizeLine∧∀e,H1 e=none→sp (.ref e :: vs) (upd H1 e (ExcN C none e)) (fun v H2=>v=.non∧Q (.ref e) H2) E0
section
variable {X : Cx} {k : Nat} {f C : Addr} {fd : FuncData} {ps : List Str} {sp : Sp} {x : Str} {p pos : Pos} {e : Expr} {es : List Expr} {t : TA}
theorem run_makeN {pins:List (Addr×Obj)} {σ:St} {H:Hp} {s:Shared} {Q:VK} {us:List Value} {vs:List V} (xc:XclI X.K C) (m:Meth X.K C "__init__" f) (F:FnOk X.prog X.w X.K X.mg X.base CX0 k f fd ps sp) (hr:Room (k+1) X.A) (hb:Binds X.K fd ps []) (hex:X.ex=[])
 (I:Inv X pins σ H s) (r:Vals vs us) (hl:vs.length≤sizeLine) (h:∀e,H e=none→sp (.ref e :: vs) (upd H e (ExcN C none e)) (fun v H2=>v=.non∧Q (.ref e) H2) E0) :
 wpAny (model X.prog X.w) X.A (call (.ref C) us) (EP X pins σ Q) X.xe s:=by
 obtain ⟨hh,g,d,t,os⟩:=s
 refine call_own xc I.kIn m (by rw [←r.length];exact hl) fun h' e hm=>?_
 have Hn:H e=none:=by
  cases z:H e with
  | none=>rfl
  | some u =>
    obtain ⟨ob,eb⟩:=(I.hok e u z).there
    rw [hm.new] at eb
    cases eb
 have base0:=I.base
 rw [hex] at base0
 have e0:X.s₀.heap.get? e=none:=by
  cases z:X.s₀.heap.get? e with
  | none=>rfl
  | some o =>
    obtain ⟨o',e'⟩:=base0.there e o z (fun z=>nomatch z)
    rw [hm.new] at e'
    cases e'
 have eL:e≠X.env.locals:=fun z=>by
  obtain ⟨m1,hn,_⟩:=I.loc
  obtain ⟨oL,_,_,hoL,_⟩:=hn
  rw [←z,hm.new] at hoL
  cases hoL
 have eC:∀x c,X.env.cells.lookup x=some c→c≠e:=fun x c hc z=>by
  obtain ⟨v,o,ho,_⟩:=I.cell x c hc
  rw [z,hm.new] at ho
  cases ho
 have eP:∀p∈X.pn++pins,p.1≠e:=fun p hp z=>by
  obtain ⟨z1,_⟩:=I.pin p hp
  rw [z,hm.new] at z1
  cases z1
 have I1:Inv X pins σ H ⟨h',g,d,t,os⟩:=I.call' (s':=⟨h',g,d,t,os⟩) (ch:=[]) rfl (Un.kept hm.keeps) (I.hok.kept hm.keeps) I.bare (fun b z=>nomatch z)
 obtain ⟨tp,he,_,_⟩:=hm.there
 have I2:Inv X pins σ (upd H e (ExcN C none e)) ⟨h',g,d,t,os⟩:=I1.track Hn e0 eL eC eP (excN_ok ⟨_,_,tp,he,rfl,rfl,rfl,rfl,rfl⟩)
 have hq:=h e Hn
 have r2:Vals (V.ref e :: vs) (Value.ref e :: us):=.cons rfl r
 have hl2:(Value.ref e :: us++[]).length=ps.length:=by
  have e:=r2.length
  rw [F.len _ _ _ _ hq] at e
  rw [List.append_nil]
  exact e.symm
 have bb:=hb _ (Value.ref e :: us) I2.kIn hl2
 rw [List.append_nil] at bb
 refine wpAny_call (codeAny_mono (F.run _ X.stack _ _ ⟨Value.ref e :: us,[]⟩ (Value.ref e :: us) _ _ E0 (hr.make C us []) (I2.env0.make C us []) bb r2 hq) fun r s' hq'=>?_)
 cases r with
 | error e=>exact False.elim hq'
 | ok fl =>
   cases fl with
   | ret u =>
     obtain ⟨v,H',I3,rv,ev,q3⟩:=I2.after hq'
     subst ev
     exact ⟨rv,⟨V.ref e,H',I3,rfl,q3⟩⟩
   | next=>exact False.elim hq'
   | brk=>exact False.elim hq'
   | cont=>exact False.elim hq'
theorem pe_makeN (xc:XclI X.K C) (m:Meth X.K C "__init__" f) (kp:PySem.W.keepIn X.K (.ref C)=true) (F:FnOk X.prog X.w X.K X.mg X.base CX0 k f fd ps sp) (hr:Room (k+1) X.A) (hg:Gl X x) (hm:X.mg x=some (.ref C)) (hb:Binds X.K fd ps []) (hex:X.ex=[])
 (ha:PA X (e :: es) t) (hdb:(x == ("__debug__":Str))=false:=by decide) (he:starEach (e :: es) X.env=(false,eval e X.env) :: starEach es X.env:=by rfl) (hpl:(backTo pos (starEach es X.env)).any (·.1)=false:=by rfl) :
 PE X (.Call (.Name x p) (e :: es) [] pos) (tMakeN C sp t):=by
 intro pins s σ H Q I h
 refine wpAny_Call_Name_kw (ld_glob I hg hm ?_ hdb)
 refine PySem.W.callWith_K (h₀:=X.base) I.ok.mod.kin kp (thn (ha pos pins s σ H _ I h) fun us s1 ⟨vs,H1,I1,r,q1,q2⟩=>⟨I1.kIn,?_⟩) he hpl
 exact run_makeN xc m F hr hb hex I1 r q1 q2
end
def drp (H:Hp) (e:Addr):Hp:=fun b=>if b=e then none else H b
theorem drp_self (H:Hp) (e:Addr):drp H e e=none:=by unfold drp;rw [if_pos rfl]
theorem drp_ne (H:Hp) {e b:Addr} (n:b≠e):drp H e b=H b:=by unfold drp;rw [if_neg n]
inductive tRaiseN_I (C:Addr) (H₀:Hp) (E:XK) (v:V) (H1:Hp):Prop
 | mk:∀e d,v=.ref e→H1 e=some (ExcN C d e)→H₀ e=none→E (.ref C) d (drp H1 e)→tRaiseN_I C H₀ E v H1
def tRaiseN (C:Addr) (H₀:Hp) (E:XK) (te:TE):TS:=fun _ σ H=>te σ H fun v H1=>tRaiseN_I C H₀ E v H1
section
variable {P : Program} {w : World} {K : PySem.W.Frag} {mg : Str → Option Value} {base : Heap} {N : List Str} {qual : Str} {scope : Scope} {f : Addr} {cd : Value} {A : Around} {outer : List Env} {s : Shared} {H : Hp} {E : XK}
theorem HOk.drp {h:Heap} {H:Hp} {e:Addr} {C:Addr} {d:Option Addr} (x:HOk P w H h) (he:H e=some (ExcN C d e)):HOk P w (drp H e) h:=fun a o q=>by
 have n:a≠e:=fun z=>by rw [z,drp_self] at q;cases q
 rw [drp_ne H n] at q
 refine (x a o q).stay (fun _ _ _ z=>z) (fun b z=>?_) fun b xs z=>?_
 ·rw [drp_ne H (fun y=>by rw [y,he] at z;cases z)];exact z
 ·rw [drp_ne H (fun y=>by rw [y,he] at z;cases z)];exact z
theorem fly_new {pins:List (Addr×Obj)} {σ:St} {H1:Hp} {s2:Shared} {e C:Addr} {d:Option Addr} (eH:H e=none) (I:Inv (cxOf (CXD P w) P w K mg base N qual scope f cd A outer s H E) pins σ H1 s2) (he:H1 e=some (ExcN C d e)) (q:E (.ref C) d (drp H1 e)) :
 (cxOf (CXD P w) P w K mg base N qual scope f cd A outer s H E).xe (.ref e) s2:=by
 obtain ⟨⟨oe,vs,a0,x1,x2,x3,x4,x5,x6⟩,_⟩:=(show ObjOk P w H1 s2.heap e (ExcN C d e) from I.hok e _ he)
 have eF:e∉frs (cxOf (CXD P w) P w K mg base N qual scope f cd A outer s H E).stack:=fun z=>by
  have:=I.stkFree e z
  rw [he] at this
  cases this
 have hB:(PySem.W.hideAll s2.heap (e :: frs (cxOf (CXD P w) P w K mg base N qual scope f cd A outer s H E).stack)).StaysIn s2.heap:=fun b o q=>PySem.W.of_hideAll _ q
 have ff:=PySem.W.funFrames_hide (as:=e :: frs (cxOf (CXD P w) P w K mg base N qual scope f cd A outer s H E).stack) I.stack fun env he b hb=>List.mem_cons_of_mem _ (List.mem_filterMap.mpr ⟨env,he,hb⟩)
 refine wpAny_dk (d:=d) (kd_leaving _ _) ⟨oe,x1,x3⟩ (wpAny_mono (wpAny_leaving_firstW (Q:=fun _ s3=>∃h3,s3={ s2 with heap:=h3 }∧Heap.LeftW (PySem.W.hideAll s2.heap (e :: frs (cxOf (CXD P w) P w K mg base N qual scope f cd A outer s H E).stack)) (cxOf (CXD P w) P w K mg base N qual scope f cd A outer s H E).stack e oe.cls (.ref a0) s2.heap h3) I.ok.frames ff rfl x1 hB (PySem.W.hideAll_none _ (.head _)) x4 x5 x6 fun h' z=>⟨h',rfl,z⟩) (fun _ s3 z dk=>?_) fun _ _ z _=>z)
 obtain ⟨h3,rfl,k1,⟨_,_,k2⟩,k3,k4⟩:=z
 rw [x2] at k3
 have base0:Un (frs outer) [] H H1 s.heap s2.heap:=I.base
 have e0:s.heap.get? e=none:=by
  cases z:s.heap.get? e with
  | none=>rfl
  | some o =>
    have:=base0.free e o z eH (fun z=>nomatch z)
    rw [he] at this
    cases this
 have un0:Un (frs outer) [] H (drp H1 e) s.heap s2.heap:=by
  have nH:∀b o,H1 b=some o→(∀φ,o≠.ext φ)→b≠e:=fun b o q hn z=>by
   rw [z,he] at q
   injection q with q
   exact hn _ q.symm
  exact ⟨base0.keep,base0.slot,fun b o q n hx=>by
   have:=base0.free b o q n hx
   by_cases z:b=e
   ·rw [z,drp_self]
   ·rw [drp_ne _ z];exact this,base0.there,fun b xs q=>by rw [drp_ne _ (nH b _ (base0.tups b xs q) fun _ z=>nomatch z)];exact base0.tups b xs q,fun b o u q=>by rw [drp_ne _ (nH b _ (base0.frzs b o u q) fun _ z=>nomatch z)];exact base0.frzs b o u q,fun b ps q=>by
    obtain ⟨more,q2⟩:=base0.tbls b ps q
    exact ⟨more,by rw [drp_ne _ (nH b _ q2 fun _ z=>nomatch z)];exact q2⟩⟩
 have nof:∀b,b∈frs outer→b∈frs (cxOf (CXD P w) P w K mg base N qual scope f cd A outer s H E).stack:=fun b hb=>by
  obtain ⟨env,h1,h2⟩:=List.mem_filterMap.mp hb
  exact List.mem_filterMap.mpr ⟨env,List.mem_cons_of_mem _ h1,h2⟩
 have ct:Trk (drp H1 e) s2.heap (PySem.W.hideAll s2.heap (e :: frs (cxOf (CXD P w) P w K mg base N qual scope f cd A outer s H E).stack)):=fun b o n q=>PySem.W.hideAll_get _ q fun z=>by
  rcases List.mem_cons.mp z with z | z
  ·exact n (by rw [z,drp_self])
  ·refine n ?_
   by_cases y:b=e
   ·rw [y,drp_self]
   ·rw [drp_ne _ y];exact I.stkFree b z
 have cv:Cov (frs outer) H s.heap (PySem.W.hideAll s2.heap (e :: frs (cxOf (CXD P w) P w K mg base N qual scope f cd A outer s H E).stack)):=fun b o q nb=>by
  obtain ⟨o1,e1⟩:=base0.there b o q (fun z=>nomatch z)
  have be:b≠e:=fun z=>by rw [z,e0] at q;cases q
  have nb2:b∉e :: frs (cxOf (CXD P w) P w K mg base N qual scope f cd A outer s H E).stack:=fun z=>by
   rcases List.mem_cons.mp z with z | z
   ·exact be z
   ·exact (List.mem_cons.mp (I.stkSub b z)).elim (fun z=>absurd (Nat.lt_of_lt_of_le (Heap.lt_size q) I.ok.above) (by rw [z];exact Nat.lt_irrefl _)) nb
  refine ⟨o1,PySem.W.hideAll_get _ e1 nb2,fun n=>?_⟩
  have:=base0.keep b o q n nb (fun z=>nomatch z)
  rw [e1] at this
  cases this
  rfl
 have hok:=I.hok.drp he
 exact ⟨e,C,drp H1 e,d,rfl,⟨I.os,I.bare,un0.flown cv k1 k4 fun b hb=>I.nofr b (nof b hb),hok.flown ct k1,drp_self _ _,e0,_,_,⟨k1,PySem.W.hideAll_none _ (.head _),k2,k3⟩,cv,ct.flown hok k1⟩,dk,q⟩
theorem ps_raiseN {exc:Expr} {pos:Pos} {C:Addr} {te:TE} (xc:XclI K C) (hh:A.handled=none) (he:PE (cxOf (CXD P w) P w K mg base N qual scope f cd A outer s H E) exc te):PS (cxOf (CXD P w) P w K mg base N qual scope f cd A outer s H E) (.Raise (some exc) none pos) (tRaiseN C H E te):=by
 intro pins s0 σ H0 D I h
 rw [arm_exec_Raise]
 refine wpAny_bind (wpAny_standAt (raise_new xc hh (wpAny_bind (wpAny_mono (he pins s0 σ H0 _ I h) (fun v s₃ h₃=>wpAny_bind (wpAny_standAt (wpAny_pure ?_))) fun _ _ x=>x))))
 obtain ⟨v',H1,I1,rx,e,d,ev,ee,en,q⟩:=h₃
 subst ev
 obtain rfl:v=Value.ref e:=rx
 obtain ⟨⟨oe,vs,a0,x1,x2,x3,x4,x5,x6⟩,_⟩:=(show ObjOk P w H1 s₃.heap e (ExcN C d e) from I1.hok e _ ee)
 exact ⟨e,oe,vs,rfl,I1.kIn,x1,x2,x4,x5,fly_new en I1 ee q⟩
end
end L2
namespace L2
open PySem PySem.Spec PyProof.Rows
inductive tFmtR_I (Q:VK) (v:V) (H1:Hp):Prop
 | mk:∀y:Str,v=.str y→(reprText y).length≤sizeLine→Q (.str (reprText y)) H1→tFmtR_I Q v H1
def tFmtR (te:TE):TE:=fun σ H Q=>te σ H fun v H1=>tFmtR_I Q v H1
theorem pe_fmtR {X:Cx} {e:Expr} {te:TE} {pos:Pos} (he:PE X e te):PE X (.FormattedValue e 114 none pos) (tFmtR te):=by
 intro pins s σ H Q I q
 refine wpAny_FormattedValue_repr (thn (he pins s σ H _ I q) fun u s1 ⟨v,H1,I1,r,y,ev,hz,q1⟩=>?_)
 subst ev
 obtain ⟨tk,rfl⟩:=r
 exact wpAny_pyReprObj_str (wpAny_formatField_str ⟨.str _,H1,I1.tok _,⟨_,rfl⟩,q1⟩ ⟨.str _,H1,(I1.tok _).tok _,⟨_,rfl⟩,q1⟩ hz) hz
end L2
namespace L2
open PySem PySem.Spec PyProof.Rows
open Builtin Builtin.Str
def PAT (X:Cx) (es:List Expr) (t:TA):Prop :=
 ∀(pos:Pos) (pins:List (Addr×Obj)) (s:Shared) (σ:St) (H:Hp) (Q:List V→Hp→Prop),Inv X pins σ H s→0<s.toks→t σ H Q→wpAny (model X.prog X.w) X.A (spliced (backTo pos (starEach es X.env))) (AP X pins σ Q) X.xe s
def PEz (X:Cx) (e:Expr) (t:TE):Prop :=
 ∀(pins:List (Addr×Obj)) (s:Shared) (σ:St) (H:Hp) (Q:VK),Inv X pins σ H s→t σ H Q→wpAny (model X.prog X.w) X.A (eval e X.env) (fun u s'=>EP X pins σ Q u s'∧0<s'.toks) X.xe s
def PAz (X:Cx) (es:List Expr) (t:TA):Prop :=
 ∀(pos:Pos) (pins:List (Addr×Obj)) (s:Shared) (σ:St) (H:Hp) (Q:List V→Hp→Prop),Inv X pins σ H s→t σ H Q→wpAny (model X.prog X.w) X.A (spliced (backTo pos (starEach es X.env))) (fun us s'=>AP X pins σ Q us s'∧0<s'.toks) X.xe s
def tRs (x:Str):TE:=fun _ H Q=>∀t,t≠0→Q (.rstr x t) H
inductive tAddR_I (Q:VK) (x y:V) (H2:Hp):Prop
 | mk:∀i j:Str,x=.str i→y=.str j→i.length≠0→j.length≠0→i.length+j.length≤sizeLine→(∀t,t≠0→Q (.rstr (i++j) t) H2)→tAddR_I Q x y H2
def tAddR (ta tb:TE):TE:=fun σ H Q=>ta σ H fun x H1=>tb σ H1 fun y H2=>tAddR_I Q x y H2
section
variable {X : Cx} {e o a b : Expr} {es : List Expr} {te ta tb to : TE} {t : TA} {pos p apos cpos : Pos} {x name : Str} {st : Stmt} {rest : List Stmt} {ts u : TS}
theorem pet_strR {j}:PET X (.Constant (.str x) j pos) (tRs x):=fun _ s _ H _ I h0 h=>Calls.Constant_str ⟨.rstr x s.toks,H,I.tok _,rfl,h _ (Nat.pos_iff_ne_zero.mp h0)⟩
theorem PE.toT (h:PE X e te):PET X e te:=fun pins s σ H Q I _ q=>h pins s σ H Q I q
theorem PA.toT (h:PA X es t):PAT X es t:=fun pos pins s σ H Q I _ q=>h pos pins s σ H Q I q
theorem pet_addR (ha:PE X a ta) (hb:PE X b tb):PET X (.BinOp a .Add b pos) (tAddR ta tb):=by
 intro pins s σ H Q I h0 h
 refine wpAny_BinOp (thn_tk (ha pins s σ H _ I h) fun v s1 k1 ⟨y,H1,I1,r1,q1⟩=>thn_tk (hb pins s1 σ H1 _ I1 q1) fun u s2 k2 ⟨z,H2,I2,r2,i,j,e1,e2,n1,n2,hz,q⟩=>?_)
 subst e1 e2
 obtain ⟨t1,rfl⟩:=r1
 obtain ⟨t2,rfl⟩:=r2
 refine PySem.P.add_str ?_
 rw [if_neg (by simp [n1]),if_neg (by simp [n2])]
 exact ⟨by rw [strLen_append];exact hz,⟨.rstr (i++j) s2.toks,H2,I2.tok _,rfl,q _ (by omega)⟩⟩
theorem pat_cons (ha:PET X e te) (hr:PAT X es t) (hs:starEach (e :: es) X.env=(false,eval e X.env) :: starEach es X.env:=by rfl):PAT X (e :: es) (tCons te t):=by
 intro pos pins s σ H Q I h0 h
 rw [hs]
 show wpAny _ _ (spliced ((false,eval e X.env) :: backTo pos (starEach es X.env))) _ _ s
 refine Calls.spliced_cons (thn_tk (ha pins s σ H _ I h0 h) fun u s1 k1 ⟨x,H1,I1,r1,q1⟩=>?_)
 exact thn (hr pos pins s1 σ H1 _ I1 (Nat.lt_of_lt_of_le h0 k1) q1) fun us s2 ⟨xs,H2,I2,r2,q2⟩=>⟨x :: xs,H2,I2,.cons r1 r2,q2⟩
theorem pet_lst (h:PAT X es t):PET X (.List es pos) (tLst t):=by
 intro pins s σ H Q I h0 hq
 refine wpAny_List_spliced (thn (h pos pins s σ H _ I h0 hq) fun us s1 ⟨xs,H1,I1,r,z,q⟩=>⟨by rw [←r.length];exact z,?_⟩)
 have hf:H1 s1.heap.objs.size=none:=I1.hok.fresh (Nat.le_refl _)
 refine ⟨.ref s1.heap.objs.size,upd H1 s1.heap.objs.size (.lst xs),I1.laid (t':=s1.toks) (fun b u e=>Heap.get?_push_of_some _ e) (Nat.le_refl _) ?_,rfl,q _ hf⟩
 exact ⟨z,us,0,r,Heap.get?_push_size _ rfl⟩
theorem pet_ix {r:R2} (hr:IxR X r) (ha:PET X a ta) (hb:PE X b tb) (hs:PlainIx b):PET X (.Subscript a b pos) (tOp r ta tb):=by
 intro pins s σ H Q I h0 h
 refine Subscript_ (thn (ha pins s σ H _ I h0 h) fun v s1 ⟨x,H1,I1,r1,q1⟩=>thn (hb pins s1 σ H1 _ I1 q1) fun u s2 ⟨y,H2,I2,r2,q2⟩=>?_)
 exact hr a b pins s2 σ H2 x y v u Q I2 r1 r2 q2 (hs _ _)
theorem pst_ret (he:PET X e te):PST X (.Return (some e) pos) (tRet te):=by
 intro pins s σ H D I h0 h
 exact wpAny_Return_some (thn (he pins s σ H _ I h0 h) fun v s1 ⟨x,H1,I1,r1,q1⟩=>⟨x,σ,H1,I1,r1,q1⟩)
theorem pst_set {i:Nat} {pos':Pos} (hN:X.N.Nodup) (hi:X.N[i]?=some x) (hx:Loc X.env.scope x) (he:PET X e te) (hs:swapsWith e (some (.Name x pos')) pos.line X.env=pure false:=by rfl) (hf:X.fn x=true∨X.env.scope.names.lookup x=some .local:=by first | exact .inl rfl | exact .inr rfl | assumption) :
 PST X (.Assign [.Name x pos'] e pos) (tAsg te (gName i)):=by
 intro pins s σ H D I h0 h
 refine wpAny_Assign_Name (thn (he pins s σ H _ I h0 h) fun v s1 ⟨y,H1,I1,r1,q1⟩=>?_) hs
 exact store_ok I1 hN hi hx r1 (fun s2 I2=>⟨_,H1,I2,q1⟩) hf
theorem psst_one (h:PST X st ts):PSsT X [st] (tSeq ts tNext):=psst_cons h pss_nil
theorem psst_more (h1:PS X st ts) (h2:PSsT X rest u):PSsT X (st :: rest) (tSeq ts u):=by
 intro pins s σ H D I htk h
 refine wpAny_execs_cons (thn_tk (h1 pins s σ H { D with nx:=u D } I h) fun f s1 k1 q=>?_)
 cases f with
 | next =>
   obtain ⟨σ',H',I',q⟩:=q
   exact h2 pins s1 σ' H' D I' (Nat.lt_of_lt_of_le htk k1) q
 | ret v=>exact q
 | brk=>exact q
 | cont=>exact q
theorem pet_bm {T id:String} {r:V→List V→Hp→VK→Prop} (pa:PlainAttrs T) (slot:Slot T name id) (hty:typeOf (.builtin id)=pure (.type "method_descriptor")) (hm:MtR X id r) (ho:PE X o to) (ha:PAT X (e :: es) t)
 (hbase:attributeBase o name X.env (eval o X.env)=eval o X.env:=by rfl)
 (hfew:((backTo cpos (starEach (e :: es) X.env)).all (fun x=>!x.1) && (backToKw cpos (keywordEach [] X.env)).all (fun x=>x.1.isSome)
   && decide ((e :: es).length+([]:List Keyword).length+(if ([]:List Keyword).isEmpty then 0 else 1)<30))=true:=by rfl)
 (hline:(apos.endLine == cpos.line)=true:=by rfl) (hs:starEach (e :: es) X.env=(false,eval e X.env) :: starEach es X.env:=by rfl) (hplain:(backTo cpos (starEach es X.env)).any (·.1)=false:=by rfl) :
 PET X (.Call (.Attribute o name apos) (e :: es) [] cpos) (tBM X.K T r to t):=by
 intro pins s σ H Q I h0 h
 refine wpAny_Call_method_late hbase hfew hline rfl (thn_tk (ho pins s σ H _ I h) fun v s1 k1 ⟨x,H1,I1,r1,ty,q1⟩=>?_)
 obtain ⟨h1,h2⟩:=tyV_is I1 r1 ty
 refine ⟨T,id,pa,slot,hty,h1,h2,?_⟩
 have hA:=ha cpos pins s1 σ H1 _ I1 (Nat.lt_of_lt_of_le h0 k1) q1
 rw [hs] at hA ⊢
 refine Calls.callWith_builtin (by show (false || (backTo cpos (starEach es X.env)).any (·.1))=false;rw [hplain] <;> rfl) (Calls.evalArgs_plain ?_)
 exact thn hA fun us s2 ⟨vs,H2,I2,r2,q2⟩=>hm pins s2 σ H2 x vs v us Q I2 r1 r2 q2
end
theorem isSame_one (y z:Str) (u:Tok) (h0:u≠0):isSame (.str y u) (.str z u)=pure true:=by
 show (if (u == 0 || u == 0)=true then _ else if (u == u)=true then pure true else _:Sem Bool)=_
 rw [if_neg (by simp [h0]),if_pos (by simp)]
theorem rep_call {prog:Program} {w:World} {A:Around} {E:Value→Shared→Prop} {s:Shared} {x y z:Str} {t u v:Tok} {Q:Value→Shared→Prop} (hu:u≠0) (hv:v≠0) (hyz:(y == z)=false) (hb:x.length+(x.length+1)*z.length≤16777216)
 (hq:∀t' k,Q (.str (Txt.replace x y z) t') { s with toks:=k }) (hx:Q (.str x t) s):wpAny (model prog w) A (call (.builtin "str.replace") [.str x t,.str y u,.str z v]) Q E s:=by
 by_cases huv:u=v
 ·subst huv
  have g:Gives (Builtin.«str.replace» ⟨[.str x t,.str y u,.str z u],[]⟩) (.val (.str x t)):=by
   show Gives (if ((occurrences x y 0 x.length (x.length+1)).isEmpty || (y.length == 0 && z.length == 0))=true then (do rule "str.replace.nothing";ret (.str x t)) else
    (do let same ←isSame (.str y u) (.str z u)
        if same=true then (do rule "str.replace.old-is-new";ret (.str x t)) else
        if tooLong (x.length+(occurrences x y 0 x.length (x.length+1)).length*z.length)=true then unsupported "str.replace:memory" else
        retStr (glued z (partsBetween x (occurrences x y 0 x.length (x.length+1)) y.length)))) _
   cases hc:((occurrences x y 0 x.length (x.length+1)).isEmpty || (y.length == 0 && z.length == 0))
   ·rw [isSame_one y z u hu]
    exact .rule (.of_eq rfl)
   ·exact .rule (.of_eq rfl)
  exact call_gives F.slot_str_replace (typeIs_str _ _ _) F.entry_str_replace (F.args_str_replace_3 _ _ _) g hx
 ·exact SC.replace hu hv huv hyz hb hq
inductive rReplR_I (x:V) (xs:List V) (H:Hp) (Q:VK):Prop
 | mk:∀(a y z:Str) (u v:Nat),x=.str a→xs=[.rstr y u,.rstr z v]→u≠0→v≠0→y≠z→a.length+(a.length+1)*z.length≤16777216→Q (.str (Txt.replace a y z)) H→Q (.str a) H→rReplR_I x xs H Q
def rReplR:V→List V→Hp→VK→Prop:=fun x xs H Q=>rReplR_I x xs H Q
theorem mt_replR {X:Cx}:MtR X "str.replace" rReplR:=by
 intro pins s σ H x xs v us Q I rx rv h
 obtain ⟨a,y,z,u1,v1,rfl,rfl,hu,hv,hyz,hb,q1,q2⟩:=h
 obtain ⟨t,rfl⟩:=rx
 obtain ⟨w1,w2,rfl,r1,r2⟩:=vals2 rv
 cases r1
 cases r2
 exact rep_call hu hv (beq_eq_false_iff_ne.mpr hyz) hb (fun t' k=>⟨.str _,H,I.tok k,⟨_,rfl⟩,q1⟩) ⟨.str a,H,I,⟨t,rfl⟩,q2⟩
section
variable {X : Cx} {CX : CXT} {k : Nat} {f : Addr} {fd : FuncData} {ps : List Str} {ds : List Value} {dvs : List V} {sp : Sp} {E : XK} {x : Str} {p pos : Pos} {e a b : Expr} {es : List Expr} {te ta tb : TE} {t : TA}
theorem pet_callT (F:FnOkT X.prog X.w X.K X.mg X.base CX k f fd ps sp) (hr:Room k X.A) (hg:Gl X x) (hm:X.mg x=some (.ref f)) (hk:PySem.W.keepIn X.K (.ref f)=true) (hb:Binds X.K fd ps ds) (hd:Vals dvs ds) (hx:Passes CX X E)
 (ha:PAT X (e :: es) t) (hdb:(x == ("__debug__":Str))=false:=by decide) (he:starEach (e :: es) X.env=(false,eval e X.env) :: starEach es X.env:=by rfl) (hpl:(backTo pos (starEach es X.env)).any (·.1)=false:=by rfl) :
 PET X (.Call (.Name x p) (e :: es) [] pos) (tCall sp dvs E t):=by
 intro pins s σ H Q I htk h
 refine wpAny_Call_Name_kw (ld_glob I hg hm ?_ hdb)
 refine PySem.W.callWith_K (h₀:=X.base) I.ok.mod.kin hk (thn_tk (ha pos pins s σ H _ I htk h) fun us s1 h1 ⟨vs,H1,I1,r,q⟩=>⟨I1.kIn,?_⟩) he hpl
 have r2:Vals (vs++dvs) (us++ds):=r.append hd
 have hl:(us++ds).length=ps.length:=by rw [←r2.length];exact F.len _ _ _ _ q
 refine wpAny_call (codeAny_mono (F.run X.A X.stack s1 H1 ⟨us,[]⟩ (us++ds) (vs++dvs) Q E hr I1.env0 (Nat.lt_of_lt_of_le htk h1) (hb s1 us I1.kIn hl) r2 q) fun r s' hq=>?_)
 cases r with
 | error e=>exact hx pins σ H1 s1 e s' I1 hq
 | ok fl =>
   cases fl with
   | ret u=>exact I1.after hq
   | next=>exact False.elim hq
   | brk=>exact False.elim hq
   | cont=>exact False.elim hq
theorem pez_int {i j}:PEz X (.Constant (.int i) j pos) (tC (.int i)):=fun _ _ _ H _ I h=>wpAny_Constant_int ⟨⟨.int i,H,I.tok _,⟨_,rfl⟩,h⟩,Nat.succ_pos _⟩
theorem pez_op {op:Operator} {r:R2} (ho:OpR X (binaryOp op) r) (ha:PE X a ta) (hb:PEz X b tb):PEz X (.BinOp a op b pos) (tOp r ta tb):=by
 intro pins s σ H Q I h
 refine wpAny_BinOp (thn (ha pins s σ H _ I h) fun v s1 ⟨y,H1,I1,r1,q1⟩=>thn (hb pins s1 σ H1 _ I1 q1) fun u s2 ⟨⟨z,H2,I2,r2,q2⟩,h2⟩=>?_)
 exact thn_tk (ho pins s2 σ H2 y z v u Q I2 r1 r2 q2) fun u' s3 k3 q3=>⟨q3,Nat.lt_of_lt_of_le h2 k3⟩
theorem paz_here (ha:PEz X e te) (hr:PA X es t) (hs:starEach (e :: es) X.env=(false,eval e X.env) :: starEach es X.env:=by rfl):PAz X (e :: es) (tCons te t):=by
 intro pos pins s σ H Q I h
 rw [hs]
 show wpAny _ _ (spliced ((false,eval e X.env) :: backTo pos (starEach es X.env))) _ _ s
 refine Calls.spliced_cons (thn (ha pins s σ H _ I h) fun u s1 ⟨⟨x,H1,I1,r1,q1⟩,h1⟩=>?_)
 exact thn_tk (hr pos pins s1 σ H1 _ I1 q1) fun us s2 k2 ⟨xs,H2,I2,r2,q2⟩=>⟨⟨x :: xs,H2,I2,.cons r1 r2,q2⟩,Nat.lt_of_lt_of_le h1 k2⟩
theorem paz_later (ha:PE X e te) (hr:PAz X es t) (hs:starEach (e :: es) X.env=(false,eval e X.env) :: starEach es X.env:=by rfl):PAz X (e :: es) (tCons te t):=by
 intro pos pins s σ H Q I h
 rw [hs]
 show wpAny _ _ (spliced ((false,eval e X.env) :: backTo pos (starEach es X.env))) _ _ s
 refine Calls.spliced_cons (thn (ha pins s σ H _ I h) fun u s1 ⟨x,H1,I1,r1,q1⟩=>?_)
 exact thn (hr pos pins s1 σ H1 _ I1 q1) fun us s2 ⟨⟨xs,H2,I2,r2,q2⟩,h2⟩=>⟨⟨x :: xs,H2,I2,.cons r1 r2,q2⟩,h2⟩
theorem pe_callZ (F:FnOkT X.prog X.w X.K X.mg X.base CX k f fd ps sp) (hr:Room k X.A) (hg:Gl X x) (hm:X.mg x=some (.ref f)) (hk:PySem.W.keepIn X.K (.ref f)=true) (hb:Binds X.K fd ps ds) (hd:Vals dvs ds) (hx:Passes CX X E)
 (ha:PAz X (e :: es) t) (hdb:(x == ("__debug__":Str))=false:=by decide) (he:starEach (e :: es) X.env=(false,eval e X.env) :: starEach es X.env:=by rfl) (hpl:(backTo pos (starEach es X.env)).any (·.1)=false:=by rfl) :
 PE X (.Call (.Name x p) (e :: es) [] pos) (tCall sp dvs E t):=by
 intro pins s σ H Q I h
 refine wpAny_Call_Name_kw (ld_glob I hg hm ?_ hdb)
 refine PySem.W.callWith_K (h₀:=X.base) I.ok.mod.kin hk (thn (ha pos pins s σ H _ I h) fun us s1 ⟨⟨vs,H1,I1,r,q⟩,h1⟩=>⟨I1.kIn,?_⟩) he hpl
 have r2:Vals (vs++dvs) (us++ds):=r.append hd
 have hl:(us++ds).length=ps.length:=by rw [←r2.length];exact F.len _ _ _ _ q
 refine wpAny_call (codeAny_mono (F.run X.A X.stack s1 H1 ⟨us,[]⟩ (us++ds) (vs++dvs) Q E hr I1.env0 h1 (hb s1 us I1.kIn hl) r2 q) fun r s' hq=>?_)
 cases r with
 | error e=>exact hx pins σ H1 s1 e s' I1 hq
 | ok fl =>
   cases fl with
   | ret u=>exact I1.after hq
   | next=>exact False.elim hq
   | brk=>exact False.elim hq
   | cont=>exact False.elim hq
end
end L2
namespace L2
open PySem PySem.Spec PyProof.Rows
def rIsExcD (K:PySem.W.Frag):List V→Hp→VK→Prop:=fun xs H Q=>∃e C d c cv b,xs=[.ref e,c]∧H e=some (ExcD C d e)∧XGet K C∧clsV c=some cv∧PySem.W.kitOne K (.ref C) cv=some b∧Q (.bl b) H
theorem call_isexcDK {X:Cx} (K:PySem.W.Frag) (hK:X.K=K:=by rfl):CallR X (.builtin "isinstance") (rIsExcD K):=hK▸call_isexcD
theorem pe_fldXK {X:Cx} {e:Expr} {f:Str} {pos:Pos} {ta:TE} (K:PySem.W.Frag) (he:PE X e ta) (hb:attributeBase e f X.env (eval e X.env)=eval e X.env) (hK:X.K=K:=by rfl):PE X (.Attribute e f pos) (tFldX K ta f):=hK▸pe_fldX he hb
end L2
set_option maxHeartbeats 4000000
namespace K15
open PySem L2
def top (i:Nat):Stmt:=PySem.Challenge.pw_mailroom_k15_conditions_refused.main.body.getD i (.Pass ⟨0,0,0,0⟩)
abbrev swall:Stmt:=top 0
abbrev scondition_of:Stmt:=top 25
abbrev sall_among:Stmt:=top 30
abbrev sis_word:Stmt:=top 31
abbrev spieces_of:Stmt:=top 42
abbrev sdeep:Stmt:=top 43
abbrev sread_condition:Stmt:=top 45
abbrev sl_cell_at:Stmt:=top 47
abbrev sl_whole:Stmt:=top 48
abbrev sl_mixed:Stmt:=top 49
abbrev sl_word_by:Stmt:=top 50
abbrev sl_leaf_by:Stmt:=top 54
abbrev sl_threads:Stmt:=top 55
abbrev sl_tree_by:Stmt:=top 56
abbrev sl_written:Stmt:=top 57
abbrev sl_refused:Stmt:=top 58
abbrev sl_places:Stmt:=top 59
abbrev sl_odd_word:Stmt:=top 60
abbrev sl_leaf:Stmt:=top 61
abbrev sl_faulty:Stmt:=top 62
abbrev sl_long:Stmt:=top 63
abbrev slaw:Stmt:=top 64
abbrev sNoRule_init:Stmt:=inClass (top 5) 0
abbrev sCondition_init:Stmt:=inClass (top 10) 0
abbrev sCondition_holds:Stmt:=inClass (top 10) 1
abbrev sCondition_truths:Stmt:=inClass (top 10) 2
abbrev sCondition_tree:Stmt:=inClass (top 10) 3
abbrev sCondition_written:Stmt:=inClass (top 10) 4
abbrev sHasWord_holds:Stmt:=inClass (top 12) 0
abbrev sHasTitleWord_holds:Stmt:=inClass (top 13) 0
abbrev sIsFrom_holds:Stmt:=inClass (top 14) 0
abbrev sIsOfDays_holds:Stmt:=inClass (top 15) 0
abbrev sIsOfDays_written:Stmt:=inClass (top 15) 1
abbrev sIsIn_holds:Stmt:=inClass (top 16) 0
abbrev sIsMarked_holds:Stmt:=inClass (top 17) 0
abbrev sDoesAnswer_holds:Stmt:=inClass (top 18) 0
abbrev sWrapped_init:Stmt:=inClass (top 19) 0
abbrev sWrapped_written:Stmt:=inClass (top 19) 1
abbrev sNot_holds:Stmt:=inClass (top 20) 0
abbrev sNot_truths:Stmt:=inClass (top 20) 1
abbrev sInThread_holds:Stmt:=inClass (top 21) 0
abbrev sInThread_truths:Stmt:=inClass (top 21) 1
abbrev sJoined_init:Stmt:=inClass (top 22) 0
abbrev sJoined_written_with:Stmt:=inClass (top 22) 1
abbrev sBoth_holds:Stmt:=inClass (top 23) 0
abbrev sBoth_truths:Stmt:=inClass (top 23) 1
abbrev sBoth_written:Stmt:=inClass (top 23) 2
abbrev sEither_holds:Stmt:=inClass (top 24) 0
abbrev sEither_truths:Stmt:=inClass (top 24) 1
abbrev sEither_written:Stmt:=inClass (top 24) 2
abbrev sReader_init:Stmt:=inClass (top 44) 0
abbrev sReader_ahead:Stmt:=inClass (top 44) 1
abbrev sReader_step:Stmt:=inClass (top 44) 2
abbrev sReader_passes:Stmt:=inClass (top 44) 3
abbrev sReader_expect:Stmt:=inClass (top 44) 4
abbrev sReader_read_word:Stmt:=inClass (top 44) 5
abbrev sReader_read_number:Stmt:=inClass (top 44) 6
abbrev sReader_read_leaf:Stmt:=inClass (top 44) 7
abbrev sReader_checked:Stmt:=inClass (top 44) 8
abbrev sReader_read_single:Stmt:=inClass (top 44) 9
abbrev sReader_read_both:Stmt:=inClass (top 44) 10
abbrev sReader_read_either:Stmt:=inClass (top 44) 11
abbrev sReader_read_whole:Stmt:=inClass (top 44) 12
abbrev sReader_read_act:Stmt:=inClass (top 44) 13
abbrev n_condition_of:List Str:=["tree","kind"]
theorem sc_condition_of:FnScope n_condition_of ["tree"] (defScope scondition_of):=⟨rfl,rfl,rfl,by decide +kernel,rfl,by decide +kernel,by decide +kernel⟩
abbrev n_all_among:List Str:=["text","signs"]
theorem sc_all_among:FnScope n_all_among ["text","signs"] (defScope sall_among):=⟨rfl,rfl,rfl,by decide +kernel,rfl,by decide +kernel,by decide +kernel⟩
abbrev n_is_word:List Str:=["thing"]
theorem sc_is_word:FnScope n_is_word ["thing"] (defScope sis_word):=⟨rfl,rfl,rfl,by decide +kernel,rfl,by decide +kernel,by decide +kernel⟩
abbrev n_pieces_of:List Str:=["text","sign"]
theorem sc_pieces_of:FnScope n_pieces_of ["text"] (defScope spieces_of):=⟨rfl,rfl,rfl,by decide +kernel,rfl,by decide +kernel,by decide +kernel⟩
abbrev n_deep:List Str:=["tree"]
theorem sc_deep:FnScope n_deep ["tree"] (defScope sdeep):=⟨rfl,rfl,rfl,by decide +kernel,rfl,by decide +kernel,by decide +kernel⟩
abbrev n_read_condition:List Str:=["text","reader","condition"]
theorem sc_read_condition:FnScope n_read_condition ["text"] (defScope sread_condition):=⟨rfl,rfl,rfl,by decide +kernel,rfl,by decide +kernel,by decide +kernel⟩
abbrev n_l_cell_at:List Str:=["_law_script","_law_k"]
theorem sc_l_cell_at:FnScope n_l_cell_at ["_law_script","_law_k"] (defScope sl_cell_at):=⟨rfl,rfl,rfl,by decide +kernel,rfl,by decide +kernel,by decide +kernel⟩
abbrev n_l_whole:List Str:=["_law_found"]
theorem sc_l_whole:FnScope n_l_whole ["_law_found"] (defScope sl_whole):=⟨rfl,rfl,rfl,by decide +kernel,rfl,by decide +kernel,by decide +kernel⟩
abbrev n_l_mixed:List Str:=["_law_script","_law_start","_law_many","_law_found","_law_more","_law_k"]
theorem sc_l_mixed:FnScope n_l_mixed ["_law_script","_law_start","_law_many"] (defScope sl_mixed):=⟨rfl,rfl,rfl,by decide +kernel,rfl,by decide +kernel,by decide +kernel⟩
abbrev n_l_word_by:List Str:=["_law_shape","_law_k","_law_own","_law_place","_law_word","_law_turn"]
theorem sc_l_word_by:FnScope n_l_word_by ["_law_shape","_law_k"] (defScope sl_word_by):=⟨rfl,rfl,rfl,by decide +kernel,rfl,by decide +kernel,by decide +kernel⟩
abbrev n_l_leaf_by:List Str:=["_law_shape","_law_cell","_law_word","_law_kind","_law_low"]
theorem sc_l_leaf_by:FnScope n_l_leaf_by ["_law_shape","_law_cell"] (defScope sl_leaf_by):=⟨rfl,rfl,rfl,by decide +kernel,rfl,by decide +kernel,by decide +kernel⟩
abbrev n_l_threads:List Str:=["_law_tree","_law_most","_law_part"]
theorem sc_l_threads:FnScope n_l_threads ["_law_tree"] (defScope sl_threads):=⟨rfl,rfl,rfl,by decide +kernel,rfl,by decide +kernel,by decide +kernel⟩
abbrev n_l_tree_by:List Str:=["_law_shape","_law_cells","_law_pile","_law_cell","_law_kind"]
theorem sc_l_tree_by:FnScope n_l_tree_by ["_law_shape","_law_cells"] (defScope sl_tree_by):=⟨rfl,rfl,rfl,by decide +kernel,rfl,by decide +kernel,by decide +kernel⟩
abbrev n_l_written:List Str:=["_law_tree"]
theorem sc_l_written:FnScope n_l_written ["_law_tree"] (defScope sl_written):=⟨rfl,rfl,rfl,by decide +kernel,rfl,by decide +kernel,by decide +kernel⟩
abbrev n_l_refused:List Str:=["_law_text","e"]
theorem sc_l_refused:FnScope n_l_refused ["_law_text"] (defScope sl_refused):=⟨rfl,rfl,rfl,by decide +kernel,rfl,by decide +kernel,by decide +kernel⟩
abbrev n_l_places:List Str:=["_law_text","_law_signs"]
theorem sc_l_places:FnScope n_l_places ["_law_text","_law_signs"] (defScope sl_places):=⟨rfl,rfl,rfl,by decide +kernel,rfl,by decide +kernel,by decide +kernel⟩
abbrev n_l_odd_word:List Str:=["_law_word","_law_cell"]
theorem sc_l_odd_word:FnScope n_l_odd_word ["_law_word","_law_cell"] (defScope sl_odd_word):=⟨rfl,rfl,rfl,by decide +kernel,rfl,by decide +kernel,by decide +kernel⟩
abbrev n_l_leaf:List Str:=["_law_word","_law_cell","_law_some"]
theorem sc_l_leaf:FnScope n_l_leaf ["_law_word","_law_cell"] (defScope sl_leaf):=⟨rfl,rfl,rfl,by decide +kernel,rfl,by decide +kernel,by decide +kernel⟩
abbrev n_l_faulty:List Str:=["_law_text","_law_way","_law_cell","_law_word","_law_odd","_law_many","_law_places_here","_law_at"]
theorem sc_l_faulty:FnScope n_l_faulty ["_law_text","_law_way","_law_cell","_law_word"] (defScope sl_faulty):=⟨rfl,rfl,rfl,by decide +kernel,rfl,by decide +kernel,by decide +kernel⟩
abbrev n_l_long:List Str:=["_law_sign","_law_tree","_law_turn"]
theorem sc_l_long:FnScope n_l_long ["_law_sign"] (defScope sl_long):=⟨rfl,rfl,rfl,by decide +kernel,rfl,by decide +kernel,by decide +kernel⟩
abbrev n_law:List Str:=["_law_script","_law_cells","_law_shape","_law_tree","_law_text","_law_sign","_law_faulty_here"]
theorem sc_law:FnScope n_law ["_law_script"] (defScope slaw):=⟨rfl,rfl,rfl,by decide +kernel,rfl,by decide +kernel,by decide +kernel⟩
abbrev n_NoRule_init:List Str:=["self","words","row"]
theorem sc_NoRule_init:FnScope n_NoRule_init ["self","words","row"] (defScope sNoRule_init):=⟨rfl,rfl,rfl,by decide +kernel,rfl,by decide +kernel,by decide +kernel⟩
abbrev n_Condition_init:List Str:=["self","tree"]
theorem sc_Condition_init:FnScope n_Condition_init ["self","tree"] (defScope sCondition_init):=⟨rfl,rfl,rfl,by decide +kernel,rfl,by decide +kernel,by decide +kernel⟩
abbrev n_Condition_tree:List Str:=["self"]
theorem sc_Condition_tree:FnScope n_Condition_tree ["self"] (defScope sCondition_tree):=⟨rfl,rfl,rfl,by decide +kernel,rfl,by decide +kernel,by decide +kernel⟩
abbrev n_Wrapped_init:List Str:=["self","tree"]
theorem sc_Wrapped_init:FnScope n_Wrapped_init ["self","tree"] (defScope sWrapped_init):=⟨rfl,rfl,rfl,by decide +kernel,rfl,by decide +kernel,by decide +kernel⟩
abbrev n_Joined_init:List Str:=["self","tree"]
theorem sc_Joined_init:FnScope n_Joined_init ["self","tree"] (defScope sJoined_init):=⟨rfl,rfl,rfl,by decide +kernel,rfl,by decide +kernel,by decide +kernel⟩
abbrev n_Reader_init:List Str:=["self","text","row"]
theorem sc_Reader_init:FnScope n_Reader_init ["self","text","row"] (defScope sReader_init):=⟨rfl,rfl,rfl,by decide +kernel,rfl,by decide +kernel,by decide +kernel⟩
abbrev n_Reader_ahead:List Str:=["self"]
theorem sc_Reader_ahead:FnScope n_Reader_ahead ["self"] (defScope sReader_ahead):=⟨rfl,rfl,rfl,by decide +kernel,rfl,by decide +kernel,by decide +kernel⟩
abbrev n_Reader_step:List Str:=["self","piece"]
theorem sc_Reader_step:FnScope n_Reader_step ["self"] (defScope sReader_step):=⟨rfl,rfl,rfl,by decide +kernel,rfl,by decide +kernel,by decide +kernel⟩
abbrev n_Reader_passes:List Str:=["self","wanted"]
theorem sc_Reader_passes:FnScope n_Reader_passes ["self","wanted"] (defScope sReader_passes):=⟨rfl,rfl,rfl,by decide +kernel,rfl,by decide +kernel,by decide +kernel⟩
abbrev n_Reader_expect:List Str:=["self","wanted","piece"]
theorem sc_Reader_expect:FnScope n_Reader_expect ["self","wanted"] (defScope sReader_expect):=⟨rfl,rfl,rfl,by decide +kernel,rfl,by decide +kernel,by decide +kernel⟩
abbrev n_Reader_read_word:List Str:=["self","piece"]
theorem sc_Reader_read_word:FnScope n_Reader_read_word ["self"] (defScope sReader_read_word):=⟨rfl,rfl,rfl,by decide +kernel,rfl,by decide +kernel,by decide +kernel⟩
abbrev n_Reader_read_number:List Str:=["self","least","most","piece","number"]
theorem sc_Reader_read_number:FnScope n_Reader_read_number ["self","least","most"] (defScope sReader_read_number):=⟨rfl,rfl,rfl,by decide +kernel,rfl,by decide +kernel,by decide +kernel⟩
abbrev n_Reader_read_leaf:List Str:=["self","kind","first","last"]
theorem sc_Reader_read_leaf:FnScope n_Reader_read_leaf ["self","kind"] (defScope sReader_read_leaf):=⟨rfl,rfl,rfl,by decide +kernel,rfl,by decide +kernel,by decide +kernel⟩
abbrev n_Reader_checked:List Str:=["self","tree"]
theorem sc_Reader_checked:FnScope n_Reader_checked ["self","tree"] (defScope sReader_checked):=⟨rfl,rfl,rfl,by decide +kernel,rfl,by decide +kernel,by decide +kernel⟩
abbrev n_Reader_read_single:List Str:=["self","within","threads","opening","tree"]
theorem sc_Reader_read_single:FnScope n_Reader_read_single ["self","within","threads"] (defScope sReader_read_single):=⟨rfl,rfl,rfl,by decide +kernel,rfl,by decide +kernel,by decide +kernel⟩
abbrev n_Reader_read_both:List Str:=["self","within","threads","tree"]
theorem sc_Reader_read_both:FnScope n_Reader_read_both ["self","within","threads"] (defScope sReader_read_both):=⟨rfl,rfl,rfl,by decide +kernel,rfl,by decide +kernel,by decide +kernel⟩
abbrev n_Reader_read_either:List Str:=["self","within","threads","tree"]
theorem sc_Reader_read_either:FnScope n_Reader_read_either ["self","within","threads"] (defScope sReader_read_either):=⟨rfl,rfl,rfl,by decide +kernel,rfl,by decide +kernel,by decide +kernel⟩
abbrev n_Reader_read_whole:List Str:=["self"]
theorem sc_Reader_read_whole:FnScope n_Reader_read_whole ["self"] (defScope sReader_read_whole):=⟨rfl,rfl,rfl,by decide +kernel,rfl,by decide +kernel,by decide +kernel⟩
set_option genInjectivity false in
structure Adr where
 f_wall:Addr
 f_condition_of:Addr
 f_all_among:Addr
 f_is_word:Addr
 f_pieces_of:Addr
 f_deep:Addr
 f_read_condition:Addr
 f_l_cell_at:Addr
 f_l_whole:Addr
 f_l_mixed:Addr
 f_l_word_by:Addr
 f_l_leaf_by:Addr
 f_l_threads:Addr
 f_l_tree_by:Addr
 f_l_written:Addr
 f_l_refused:Addr
 f_l_places:Addr
 f_l_odd_word:Addr
 f_l_leaf:Addr
 f_l_faulty:Addr
 f_l_long:Addr
 f_law:Addr
 f_NoRule_init:Addr
 f_Condition_init:Addr
 f_Condition_holds:Addr
 f_Condition_truths:Addr
 f_Condition_tree:Addr
 f_Condition_written:Addr
 f_HasWord_holds:Addr
 f_HasTitleWord_holds:Addr
 f_IsFrom_holds:Addr
 f_IsOfDays_holds:Addr
 f_IsOfDays_written:Addr
 f_IsIn_holds:Addr
 f_IsMarked_holds:Addr
 f_DoesAnswer_holds:Addr
 f_Wrapped_init:Addr
 f_Wrapped_written:Addr
 f_Not_holds:Addr
 f_Not_truths:Addr
 f_InThread_holds:Addr
 f_InThread_truths:Addr
 f_Joined_init:Addr
 f_Joined_written_with:Addr
 f_Both_holds:Addr
 f_Both_truths:Addr
 f_Both_written:Addr
 f_Either_holds:Addr
 f_Either_truths:Addr
 f_Either_written:Addr
 f_Reader_init:Addr
 f_Reader_ahead:Addr
 f_Reader_step:Addr
 f_Reader_passes:Addr
 f_Reader_expect:Addr
 f_Reader_read_word:Addr
 f_Reader_read_number:Addr
 f_Reader_read_leaf:Addr
 f_Reader_checked:Addr
 f_Reader_read_single:Addr
 f_Reader_read_both:Addr
 f_Reader_read_either:Addr
 f_Reader_read_whole:Addr
 f_Reader_read_act:Addr
 C_Condition:Addr
 C_Always:Addr
 C_HasWord:Addr
 C_HasTitleWord:Addr
 C_IsFrom:Addr
 C_IsOfDays:Addr
 C_IsIn:Addr
 C_IsMarked:Addr
 C_DoesAnswer:Addr
 C_Wrapped:Addr
 C_Not:Addr
 C_InThread:Addr
 C_Joined:Addr
 C_Both:Addr
 C_Either:Addr
 C_Reader:Addr
 C_MailError:Addr
 C_NoRule:Addr
 C_NoWord:Addr
 C_NoLetter:Addr
 C_NoName:Addr
 C_NoParcel:Addr
 C_NoRow:Addr
 dummy:Nat:=0
structure Txt (K:PySem.W.Frag) (mg:Str→Option Value) (a:Adr):Prop where
 m_wall:mg "_wall"=some (.ref a.f_wall)
 m_condition_of:mg "condition_of"=some (.ref a.f_condition_of)
 m_all_among:mg "all_among"=some (.ref a.f_all_among)
 m_is_word:mg "is_word"=some (.ref a.f_is_word)
 m_pieces_of:mg "pieces_of"=some (.ref a.f_pieces_of)
 m_deep:mg "deep"=some (.ref a.f_deep)
 m_read_condition:mg "read_condition"=some (.ref a.f_read_condition)
 m_l_cell_at:mg "_law_cell_at"=some (.ref a.f_l_cell_at)
 m_l_whole:mg "_law_whole"=some (.ref a.f_l_whole)
 m_l_mixed:mg "_law_mixed"=some (.ref a.f_l_mixed)
 m_l_word_by:mg "_law_word_by"=some (.ref a.f_l_word_by)
 m_l_leaf_by:mg "_law_leaf_by"=some (.ref a.f_l_leaf_by)
 m_l_threads:mg "_law_threads"=some (.ref a.f_l_threads)
 m_l_tree_by:mg "_law_tree_by"=some (.ref a.f_l_tree_by)
 m_l_written:mg "_law_written"=some (.ref a.f_l_written)
 m_l_refused:mg "_law_refused"=some (.ref a.f_l_refused)
 m_l_places:mg "_law_places"=some (.ref a.f_l_places)
 m_l_odd_word:mg "_law_odd_word"=some (.ref a.f_l_odd_word)
 m_l_leaf:mg "_law_leaf"=some (.ref a.f_l_leaf)
 m_l_faulty:mg "_law_faulty"=some (.ref a.f_l_faulty)
 m_l_long:mg "_law_long"=some (.ref a.f_l_long)
 m_law:mg "law"=some (.ref a.f_law)
 g_FIGURES:∃u,mg "FIGURES"=some u∧RelV (.str "0123456789") u
 g_WORD_SIGNS:∃u,mg "WORD_SIGNS"=some u∧RelV (.str "abcdefghijklmnopqrstuvwxyz0123456789") u
 g_MOST_WORD:∃u,mg "MOST_WORD"=some u∧RelV (.int 20) u
 g_LAST_DAY:∃u,mg "LAST_DAY"=some u∧RelV (.int 9999) u
 g_DAY_FIGURES:∃u,mg "DAY_FIGURES"=some u∧RelV (.int 4) u
 g_MOST_DEEP:∃u,mg "MOST_DEEP"=some u∧RelV (.int 30) u
 g_MOST_WITHIN:∃u,mg "MOST_WITHIN"=some u∧RelV (.int 40) u
 g_MOST_THREADS:∃u,mg "MOST_THREADS"=some u∧RelV (.int 2) u
 g_END:∃u,mg "END"=some u∧RelV (.str "") u
 gt_BARE:∃p,mg "BARE"=some (.ref p)∧∀H,SqT K H p ((["any","answers"]:List Str).map V.str)
 gt_WORDED:∃p,mg "WORDED"=some (.ref p)∧∀H,SqT K H p ((["word","title","from","in","marked"]:List Str).map V.str)
 gt_OPENING:∃p,mg "OPENING"=some (.ref p)∧∀H,SqT K H p ((["(","not","thread"]:List Str).map V.str)
 b_len:mg "len"=none
 b_range:mg "range"=none
 b_isinstance:mg "isinstance"=none
 b_str:mg "str"=none
 b_int:mg "int"=none
 b_bool:mg "bool"=none
 b_tuple:mg "tuple"=none
 b_max:mg "max"=none
 b_all:mg "all"=none
 b_sorted:mg "sorted"=none
 mc_Condition:mg "Condition"=some (.ref a.C_Condition)
 c_Condition:Cls K a.C_Condition
 k_Condition:Mk K a.C_Condition a.f_Condition_init
 M_Condition_holds:Meth K a.C_Condition "holds" a.f_Condition_holds
 M_Condition_truths:Meth K a.C_Condition "truths" a.f_Condition_truths
 M_Condition_tree:Meth K a.C_Condition "tree" a.f_Condition_tree
 M_Condition_written:Meth K a.C_Condition "written" a.f_Condition_written
 n_Condition_shape:NoAttr K a.C_Condition "shape"
 mc_Always:mg "Always"=some (.ref a.C_Always)
 c_Always:Cls K a.C_Always
 k_Always:Mk K a.C_Always a.f_Condition_init
 M_Always_holds:Meth K a.C_Always "holds" a.f_Condition_holds
 M_Always_truths:Meth K a.C_Always "truths" a.f_Condition_truths
 M_Always_tree:Meth K a.C_Always "tree" a.f_Condition_tree
 M_Always_written:Meth K a.C_Always "written" a.f_Condition_written
 n_Always_shape:NoAttr K a.C_Always "shape"
 mc_HasWord:mg "HasWord"=some (.ref a.C_HasWord)
 c_HasWord:Cls K a.C_HasWord
 k_HasWord:Mk K a.C_HasWord a.f_Condition_init
 M_HasWord_holds:Meth K a.C_HasWord "holds" a.f_HasWord_holds
 M_HasWord_truths:Meth K a.C_HasWord "truths" a.f_Condition_truths
 M_HasWord_tree:Meth K a.C_HasWord "tree" a.f_Condition_tree
 M_HasWord_written:Meth K a.C_HasWord "written" a.f_Condition_written
 n_HasWord_shape:NoAttr K a.C_HasWord "shape"
 mc_HasTitleWord:mg "HasTitleWord"=some (.ref a.C_HasTitleWord)
 c_HasTitleWord:Cls K a.C_HasTitleWord
 k_HasTitleWord:Mk K a.C_HasTitleWord a.f_Condition_init
 M_HasTitleWord_holds:Meth K a.C_HasTitleWord "holds" a.f_HasTitleWord_holds
 M_HasTitleWord_truths:Meth K a.C_HasTitleWord "truths" a.f_Condition_truths
 M_HasTitleWord_tree:Meth K a.C_HasTitleWord "tree" a.f_Condition_tree
 M_HasTitleWord_written:Meth K a.C_HasTitleWord "written" a.f_Condition_written
 n_HasTitleWord_shape:NoAttr K a.C_HasTitleWord "shape"
 mc_IsFrom:mg "IsFrom"=some (.ref a.C_IsFrom)
 c_IsFrom:Cls K a.C_IsFrom
 k_IsFrom:Mk K a.C_IsFrom a.f_Condition_init
 M_IsFrom_holds:Meth K a.C_IsFrom "holds" a.f_IsFrom_holds
 M_IsFrom_truths:Meth K a.C_IsFrom "truths" a.f_Condition_truths
 M_IsFrom_tree:Meth K a.C_IsFrom "tree" a.f_Condition_tree
 M_IsFrom_written:Meth K a.C_IsFrom "written" a.f_Condition_written
 n_IsFrom_shape:NoAttr K a.C_IsFrom "shape"
 mc_IsOfDays:mg "IsOfDays"=some (.ref a.C_IsOfDays)
 c_IsOfDays:Cls K a.C_IsOfDays
 k_IsOfDays:Mk K a.C_IsOfDays a.f_Condition_init
 M_IsOfDays_holds:Meth K a.C_IsOfDays "holds" a.f_IsOfDays_holds
 M_IsOfDays_truths:Meth K a.C_IsOfDays "truths" a.f_Condition_truths
 M_IsOfDays_tree:Meth K a.C_IsOfDays "tree" a.f_Condition_tree
 M_IsOfDays_written:Meth K a.C_IsOfDays "written" a.f_IsOfDays_written
 n_IsOfDays_shape:NoAttr K a.C_IsOfDays "shape"
 mc_IsIn:mg "IsIn"=some (.ref a.C_IsIn)
 c_IsIn:Cls K a.C_IsIn
 k_IsIn:Mk K a.C_IsIn a.f_Condition_init
 M_IsIn_holds:Meth K a.C_IsIn "holds" a.f_IsIn_holds
 M_IsIn_truths:Meth K a.C_IsIn "truths" a.f_Condition_truths
 M_IsIn_tree:Meth K a.C_IsIn "tree" a.f_Condition_tree
 M_IsIn_written:Meth K a.C_IsIn "written" a.f_Condition_written
 n_IsIn_shape:NoAttr K a.C_IsIn "shape"
 mc_IsMarked:mg "IsMarked"=some (.ref a.C_IsMarked)
 c_IsMarked:Cls K a.C_IsMarked
 k_IsMarked:Mk K a.C_IsMarked a.f_Condition_init
 M_IsMarked_holds:Meth K a.C_IsMarked "holds" a.f_IsMarked_holds
 M_IsMarked_truths:Meth K a.C_IsMarked "truths" a.f_Condition_truths
 M_IsMarked_tree:Meth K a.C_IsMarked "tree" a.f_Condition_tree
 M_IsMarked_written:Meth K a.C_IsMarked "written" a.f_Condition_written
 n_IsMarked_shape:NoAttr K a.C_IsMarked "shape"
 mc_DoesAnswer:mg "DoesAnswer"=some (.ref a.C_DoesAnswer)
 c_DoesAnswer:Cls K a.C_DoesAnswer
 k_DoesAnswer:Mk K a.C_DoesAnswer a.f_Condition_init
 M_DoesAnswer_holds:Meth K a.C_DoesAnswer "holds" a.f_DoesAnswer_holds
 M_DoesAnswer_truths:Meth K a.C_DoesAnswer "truths" a.f_Condition_truths
 M_DoesAnswer_tree:Meth K a.C_DoesAnswer "tree" a.f_Condition_tree
 M_DoesAnswer_written:Meth K a.C_DoesAnswer "written" a.f_Condition_written
 n_DoesAnswer_shape:NoAttr K a.C_DoesAnswer "shape"
 mc_Wrapped:mg "Wrapped"=some (.ref a.C_Wrapped)
 c_Wrapped:Cls K a.C_Wrapped
 k_Wrapped:Mk K a.C_Wrapped a.f_Wrapped_init
 M_Wrapped_holds:Meth K a.C_Wrapped "holds" a.f_Condition_holds
 M_Wrapped_truths:Meth K a.C_Wrapped "truths" a.f_Condition_truths
 M_Wrapped_tree:Meth K a.C_Wrapped "tree" a.f_Condition_tree
 M_Wrapped_written:Meth K a.C_Wrapped "written" a.f_Wrapped_written
 n_Wrapped_shape:NoAttr K a.C_Wrapped "shape"
 n_Wrapped_inner:NoAttr K a.C_Wrapped "inner"
 mc_Not:mg "Not"=some (.ref a.C_Not)
 c_Not:Cls K a.C_Not
 k_Not:Mk K a.C_Not a.f_Wrapped_init
 M_Not_holds:Meth K a.C_Not "holds" a.f_Not_holds
 M_Not_truths:Meth K a.C_Not "truths" a.f_Not_truths
 M_Not_tree:Meth K a.C_Not "tree" a.f_Condition_tree
 M_Not_written:Meth K a.C_Not "written" a.f_Wrapped_written
 n_Not_shape:NoAttr K a.C_Not "shape"
 n_Not_inner:NoAttr K a.C_Not "inner"
 mc_InThread:mg "InThread"=some (.ref a.C_InThread)
 c_InThread:Cls K a.C_InThread
 k_InThread:Mk K a.C_InThread a.f_Wrapped_init
 M_InThread_holds:Meth K a.C_InThread "holds" a.f_InThread_holds
 M_InThread_truths:Meth K a.C_InThread "truths" a.f_InThread_truths
 M_InThread_tree:Meth K a.C_InThread "tree" a.f_Condition_tree
 M_InThread_written:Meth K a.C_InThread "written" a.f_Wrapped_written
 n_InThread_shape:NoAttr K a.C_InThread "shape"
 n_InThread_inner:NoAttr K a.C_InThread "inner"
 mc_Joined:mg "Joined"=some (.ref a.C_Joined)
 c_Joined:Cls K a.C_Joined
 k_Joined:Mk K a.C_Joined a.f_Joined_init
 M_Joined_holds:Meth K a.C_Joined "holds" a.f_Condition_holds
 M_Joined_truths:Meth K a.C_Joined "truths" a.f_Condition_truths
 M_Joined_tree:Meth K a.C_Joined "tree" a.f_Condition_tree
 M_Joined_written:Meth K a.C_Joined "written" a.f_Condition_written
 M_Joined_written_with:Meth K a.C_Joined "written_with" a.f_Joined_written_with
 n_Joined_shape:NoAttr K a.C_Joined "shape"
 n_Joined_one:NoAttr K a.C_Joined "one"
 n_Joined_other:NoAttr K a.C_Joined "other"
 mc_Both:mg "Both"=some (.ref a.C_Both)
 c_Both:Cls K a.C_Both
 k_Both:Mk K a.C_Both a.f_Joined_init
 M_Both_holds:Meth K a.C_Both "holds" a.f_Both_holds
 M_Both_truths:Meth K a.C_Both "truths" a.f_Both_truths
 M_Both_tree:Meth K a.C_Both "tree" a.f_Condition_tree
 M_Both_written:Meth K a.C_Both "written" a.f_Both_written
 M_Both_written_with:Meth K a.C_Both "written_with" a.f_Joined_written_with
 n_Both_shape:NoAttr K a.C_Both "shape"
 n_Both_one:NoAttr K a.C_Both "one"
 n_Both_other:NoAttr K a.C_Both "other"
 mc_Either:mg "Either"=some (.ref a.C_Either)
 c_Either:Cls K a.C_Either
 k_Either:Mk K a.C_Either a.f_Joined_init
 M_Either_holds:Meth K a.C_Either "holds" a.f_Either_holds
 M_Either_truths:Meth K a.C_Either "truths" a.f_Either_truths
 M_Either_tree:Meth K a.C_Either "tree" a.f_Condition_tree
 M_Either_written:Meth K a.C_Either "written" a.f_Either_written
 M_Either_written_with:Meth K a.C_Either "written_with" a.f_Joined_written_with
 n_Either_shape:NoAttr K a.C_Either "shape"
 n_Either_one:NoAttr K a.C_Either "one"
 n_Either_other:NoAttr K a.C_Either "other"
 mc_Reader:mg "Reader"=some (.ref a.C_Reader)
 c_Reader:Cls K a.C_Reader
 k_Reader:Mk K a.C_Reader a.f_Reader_init
 M_Reader_ahead:Meth K a.C_Reader "ahead" a.f_Reader_ahead
 M_Reader_step:Meth K a.C_Reader "step" a.f_Reader_step
 M_Reader_passes:Meth K a.C_Reader "passes" a.f_Reader_passes
 M_Reader_expect:Meth K a.C_Reader "expect" a.f_Reader_expect
 M_Reader_read_word:Meth K a.C_Reader "read_word" a.f_Reader_read_word
 M_Reader_read_number:Meth K a.C_Reader "read_number" a.f_Reader_read_number
 M_Reader_read_leaf:Meth K a.C_Reader "read_leaf" a.f_Reader_read_leaf
 M_Reader_checked:Meth K a.C_Reader "checked" a.f_Reader_checked
 M_Reader_read_single:Meth K a.C_Reader "read_single" a.f_Reader_read_single
 M_Reader_read_both:Meth K a.C_Reader "read_both" a.f_Reader_read_both
 M_Reader_read_either:Meth K a.C_Reader "read_either" a.f_Reader_read_either
 M_Reader_read_whole:Meth K a.C_Reader "read_whole" a.f_Reader_read_whole
 M_Reader_read_act:Meth K a.C_Reader "read_act" a.f_Reader_read_act
 n_Reader_pieces:NoAttr K a.C_Reader "pieces"
 n_Reader_at:NoAttr K a.C_Reader "at"
 n_Reader_row:NoAttr K a.C_Reader "row"
 cf_Condition_init:CFn K a.C_Condition a.f_Condition_init "__init__"
 mx_MailError:mg "MailError"=some (.ref a.C_MailError)
 x_MailError:Xcl K a.C_MailError
 mx_NoRule:mg "NoRule"=some (.ref a.C_NoRule)
 xi_NoRule:XclI K a.C_NoRule
 M_NoRule_init:Meth K a.C_NoRule "__init__" a.f_NoRule_init
 kp_NoRule:PySem.W.keepIn K (.ref a.C_NoRule)=true
 xs_NoRule_row:XSet K a.C_NoRule "row"
 sx_NoRule_MailError:SubX K a.C_NoRule a.C_MailError
 ci_MailError:CIni K a.C_MailError
 mx_NoWord:mg "NoWord"=some (.ref a.C_NoWord)
 mx_NoLetter:mg "NoLetter"=some (.ref a.C_NoLetter)
 mx_NoName:mg "NoName"=some (.ref a.C_NoName)
 mx_NoParcel:mg "NoParcel"=some (.ref a.C_NoParcel)
 mx_NoRow:mg "NoRow"=some (.ref a.C_NoRow)
 xg_NoRule:XGet K a.C_NoRule
 ki_NoRule_NoLetter:PySem.W.kitOne K (.ref a.C_NoRule) (.ref a.C_NoLetter)=some false
 ki_NoRule_NoName:PySem.W.kitOne K (.ref a.C_NoRule) (.ref a.C_NoName)=some false
 ki_NoRule_NoParcel:PySem.W.kitOne K (.ref a.C_NoRule) (.ref a.C_NoParcel)=some false
 ki_NoRule_NoRow:PySem.W.kitOne K (.ref a.C_NoRule) (.ref a.C_NoRow)=some false
 ki_NoRule_NoWord:PySem.W.kitOne K (.ref a.C_NoRule) (.ref a.C_NoWord)=some false
 ki_NoRule_NoRule:PySem.W.kitOne K (.ref a.C_NoRule) (.ref a.C_NoRule)=some true
 ki_NoRule_ValueError:PySem.W.kitOne K (.ref a.C_NoRule) (.type "ValueError")=some true
 b_ValueError:mg "ValueError"=none
 top_:True
structure Funs (K:PySem.W.Frag) (a:Adr):Prop where
 F_wall:∃fd,Fun K "_wall" "_wall" swall a.f_wall fd∧Binds K fd ["k"] []
 F_condition_of:∃fd,Fun K "condition_of" "condition_of" scondition_of a.f_condition_of fd∧Binds K fd ["tree"] []
 F_all_among:∃fd,Fun K "all_among" "all_among" sall_among a.f_all_among fd∧Binds K fd ["text","signs"] []
 F_is_word:∃fd,Fun K "is_word" "is_word" sis_word a.f_is_word fd∧Binds K fd ["thing"] []
 F_pieces_of:∃fd,Fun K "pieces_of" "pieces_of" spieces_of a.f_pieces_of fd∧Binds K fd ["text"] []
 F_deep:∃fd,Fun K "deep" "deep" sdeep a.f_deep fd∧Binds K fd ["tree"] []
 F_read_condition:∃fd,Fun K "read_condition" "read_condition" sread_condition a.f_read_condition fd∧Binds K fd ["text"] []
 F_l_cell_at:∃fd,Fun K "_law_cell_at" "_law_cell_at" sl_cell_at a.f_l_cell_at fd∧Binds K fd ["_law_script","_law_k"] []
 F_l_whole:∃fd,Fun K "_law_whole" "_law_whole" sl_whole a.f_l_whole fd∧Binds K fd ["_law_found"] []
 F_l_mixed:∃fd,Fun K "_law_mixed" "_law_mixed" sl_mixed a.f_l_mixed fd∧Binds K fd ["_law_script","_law_start","_law_many"] []
 F_l_word_by:∃fd,Fun K "_law_word_by" "_law_word_by" sl_word_by a.f_l_word_by fd∧Binds K fd ["_law_shape","_law_k"] []
 F_l_leaf_by:∃fd,Fun K "_law_leaf_by" "_law_leaf_by" sl_leaf_by a.f_l_leaf_by fd∧Binds K fd ["_law_shape","_law_cell"] []
 F_l_threads:∃fd,Fun K "_law_threads" "_law_threads" sl_threads a.f_l_threads fd∧Binds K fd ["_law_tree"] []
 F_l_tree_by:∃fd,Fun K "_law_tree_by" "_law_tree_by" sl_tree_by a.f_l_tree_by fd∧Binds K fd ["_law_shape","_law_cells"] []
 F_l_written:∃fd,Fun K "_law_written" "_law_written" sl_written a.f_l_written fd∧Binds K fd ["_law_tree"] []
 F_l_refused:∃fd,Fun K "_law_refused" "_law_refused" sl_refused a.f_l_refused fd∧Binds K fd ["_law_text"] []
 F_l_places:∃fd,Fun K "_law_places" "_law_places" sl_places a.f_l_places fd∧Binds K fd ["_law_text","_law_signs"] []
 F_l_odd_word:∃fd,Fun K "_law_odd_word" "_law_odd_word" sl_odd_word a.f_l_odd_word fd∧Binds K fd ["_law_word","_law_cell"] []
 F_l_leaf:∃fd,Fun K "_law_leaf" "_law_leaf" sl_leaf a.f_l_leaf fd∧Binds K fd ["_law_word","_law_cell"] []
 F_l_faulty:∃fd,Fun K "_law_faulty" "_law_faulty" sl_faulty a.f_l_faulty fd∧Binds K fd ["_law_text","_law_way","_law_cell","_law_word"] []
 F_l_long:∃fd,Fun K "_law_long" "_law_long" sl_long a.f_l_long fd∧Binds K fd ["_law_sign"] []
 F_law:∃fd,Fun K "law" "law" slaw a.f_law fd∧Binds K fd ["_law_script"] []
 F_NoRule_init:∃fd,FunD K "__init__" "NoRule.__init__" sNoRule_init a.f_NoRule_init fd∧Binds K fd ["self","words","row"] []∧(∃ds,Vals [.str "",.int 0] ds∧Binds K fd ["self","words","row"] ds)∧(∃ds,Vals [.int 0] ds∧Binds K fd ["self","words","row"] ds)
 F_Condition_init:∃fd,Fun K "__init__" "Condition.__init__" sCondition_init a.f_Condition_init fd∧Binds K fd ["self","tree"] []
 F_Condition_holds:∃fd,Fun K "holds" "Condition.holds" sCondition_holds a.f_Condition_holds fd∧Binds K fd ["self","card","others"] []
 F_Condition_truths:∃fd,Fun K "truths" "Condition.truths" sCondition_truths a.f_Condition_truths fd∧Binds K fd ["self","cards"] []
 F_Condition_tree:∃fd,Fun K "tree" "Condition.tree" sCondition_tree a.f_Condition_tree fd∧Binds K fd ["self"] []
 F_Condition_written:∃fd,Fun K "written" "Condition.written" sCondition_written a.f_Condition_written fd∧Binds K fd ["self"] []
 F_HasWord_holds:∃fd,Fun K "holds" "HasWord.holds" sHasWord_holds a.f_HasWord_holds fd∧Binds K fd ["self","card","others"] []
 F_HasTitleWord_holds:∃fd,Fun K "holds" "HasTitleWord.holds" sHasTitleWord_holds a.f_HasTitleWord_holds fd∧Binds K fd ["self","card","others"] []
 F_IsFrom_holds:∃fd,Fun K "holds" "IsFrom.holds" sIsFrom_holds a.f_IsFrom_holds fd∧Binds K fd ["self","card","others"] []
 F_IsOfDays_holds:∃fd,Fun K "holds" "IsOfDays.holds" sIsOfDays_holds a.f_IsOfDays_holds fd∧Binds K fd ["self","card","others"] []
 F_IsOfDays_written:∃fd,Fun K "written" "IsOfDays.written" sIsOfDays_written a.f_IsOfDays_written fd∧Binds K fd ["self"] []
 F_IsIn_holds:∃fd,Fun K "holds" "IsIn.holds" sIsIn_holds a.f_IsIn_holds fd∧Binds K fd ["self","card","others"] []
 F_IsMarked_holds:∃fd,Fun K "holds" "IsMarked.holds" sIsMarked_holds a.f_IsMarked_holds fd∧Binds K fd ["self","card","others"] []
 F_DoesAnswer_holds:∃fd,Fun K "holds" "DoesAnswer.holds" sDoesAnswer_holds a.f_DoesAnswer_holds fd∧Binds K fd ["self","card","others"] []
 F_Wrapped_init:∃fd,Fun K "__init__" "Wrapped.__init__" sWrapped_init a.f_Wrapped_init fd∧Binds K fd ["self","tree"] []
 F_Wrapped_written:∃fd,Fun K "written" "Wrapped.written" sWrapped_written a.f_Wrapped_written fd∧Binds K fd ["self"] []
 F_Not_holds:∃fd,Fun K "holds" "Not.holds" sNot_holds a.f_Not_holds fd∧Binds K fd ["self","card","others"] []
 F_Not_truths:∃fd,Fun K "truths" "Not.truths" sNot_truths a.f_Not_truths fd∧Binds K fd ["self","cards"] []
 F_InThread_holds:∃fd,Fun K "holds" "InThread.holds" sInThread_holds a.f_InThread_holds fd∧Binds K fd ["self","card","others"] []
 F_InThread_truths:∃fd,Fun K "truths" "InThread.truths" sInThread_truths a.f_InThread_truths fd∧Binds K fd ["self","cards"] []
 F_Joined_init:∃fd,Fun K "__init__" "Joined.__init__" sJoined_init a.f_Joined_init fd∧Binds K fd ["self","tree"] []
 F_Joined_written_with:∃fd,Fun K "written_with" "Joined.written_with" sJoined_written_with a.f_Joined_written_with fd∧Binds K fd ["self","between"] []
 F_Both_holds:∃fd,Fun K "holds" "Both.holds" sBoth_holds a.f_Both_holds fd∧Binds K fd ["self","card","others"] []
 F_Both_truths:∃fd,Fun K "truths" "Both.truths" sBoth_truths a.f_Both_truths fd∧Binds K fd ["self","cards"] []
 F_Both_written:∃fd,Fun K "written" "Both.written" sBoth_written a.f_Both_written fd∧Binds K fd ["self"] []
 F_Either_holds:∃fd,Fun K "holds" "Either.holds" sEither_holds a.f_Either_holds fd∧Binds K fd ["self","card","others"] []
 F_Either_truths:∃fd,Fun K "truths" "Either.truths" sEither_truths a.f_Either_truths fd∧Binds K fd ["self","cards"] []
 F_Either_written:∃fd,Fun K "written" "Either.written" sEither_written a.f_Either_written fd∧Binds K fd ["self"] []
 F_Reader_init:∃fd,Fun K "__init__" "Reader.__init__" sReader_init a.f_Reader_init fd∧Binds K fd ["self","text","row"] []
 F_Reader_ahead:∃fd,Fun K "ahead" "Reader.ahead" sReader_ahead a.f_Reader_ahead fd∧Binds K fd ["self"] []
 F_Reader_step:∃fd,Fun K "step" "Reader.step" sReader_step a.f_Reader_step fd∧Binds K fd ["self"] []
 F_Reader_passes:∃fd,Fun K "passes" "Reader.passes" sReader_passes a.f_Reader_passes fd∧Binds K fd ["self","wanted"] []
 F_Reader_expect:∃fd,Fun K "expect" "Reader.expect" sReader_expect a.f_Reader_expect fd∧Binds K fd ["self","wanted"] []
 F_Reader_read_word:∃fd,Fun K "read_word" "Reader.read_word" sReader_read_word a.f_Reader_read_word fd∧Binds K fd ["self"] []
 F_Reader_read_number:∃fd,Fun K "read_number" "Reader.read_number" sReader_read_number a.f_Reader_read_number fd∧Binds K fd ["self","least","most"] []
 F_Reader_read_leaf:∃fd,Fun K "read_leaf" "Reader.read_leaf" sReader_read_leaf a.f_Reader_read_leaf fd∧Binds K fd ["self","kind"] []
 F_Reader_checked:∃fd,Fun K "checked" "Reader.checked" sReader_checked a.f_Reader_checked fd∧Binds K fd ["self","tree"] []
 F_Reader_read_single:∃fd,Fun K "read_single" "Reader.read_single" sReader_read_single a.f_Reader_read_single fd∧Binds K fd ["self","within","threads"] []
 F_Reader_read_both:∃fd,Fun K "read_both" "Reader.read_both" sReader_read_both a.f_Reader_read_both fd∧Binds K fd ["self","within","threads"] []
 F_Reader_read_either:∃fd,Fun K "read_either" "Reader.read_either" sReader_read_either a.f_Reader_read_either fd∧Binds K fd ["self","within","threads"] []
 F_Reader_read_whole:∃fd,Fun K "read_whole" "Reader.read_whole" sReader_read_whole a.f_Reader_read_whole fd∧Binds K fd ["self"] []
 F_Reader_read_act:∃fd,Fun K "read_act" "Reader.read_act" sReader_read_act a.f_Reader_read_act fd∧Binds K fd ["self"] []
def isW (x:Str):Bool:=decide (1≤(x.length:Int)) && (decide ((x.length:Int)≤20) && x.cps.toList.all fun c=>decide (c∈aZ.cps.toList))
theorem kitSS {K:PySem.W.Frag}:PySem.W.kitOne K (.type "str") (.type "str")=some true:=by unfold PySem.W.kitOne;rw [if_pos (beq_self_eq_true _)]
inductive spAmong_I (vs:List V) (H:Hp) (Q:VK):Prop
 | mk:∀x y:Str,vs=[.str x,.str y]→x.length≤300000→(∀H',Same H H'→Q (.bl (x.cps.toList.all fun c=>decide (c∈y.cps.toList))) H')→spAmong_I vs H Q
def spAmong:Sp:=fun vs H Q _=>spAmong_I vs H Q
def spIsWord (K:PySem.W.Frag):Sp:=fun vs H Q _=>(∃x:Str,vs=[.str x]∧x.length≤300000∧∀H',Same H H'→Q (.bl (isW x)) H') ∨
 ∃v t,vs=[v]∧TyOf K H v t∧PySem.W.kitOne K t (.type "str")=some false∧Q (.bl false) H
section
variable {P : Program} {w : World} {K : PySem.W.Frag} {mg : Str → Option Value} {base : Heap} {a : Adr}
theorem ok_among {fd:FuncData} (F:Fun K "all_among" "all_among" sall_among a.f_all_among fd) (T:Txt K mg a):FnOk P w K mg base CX0 1 a.f_all_among fd ["text","signs"] spAmong:=by
 refine F.ok sc_all_among (fun vs H Q E h=>?_) (fun cdv A outer s H vs Q E hr h=>?_)
 ·obtain ⟨x,y,rfl,_⟩:=h;rfl
 ·obtain ⟨x,y,rfl,hx,k⟩:=h
  refine ⟨_,pss_one (ps_ret (pe_callB (call_all rfl) rfl T.b_all PyProof.Rows.boot_all (pac (pe_comp (sc:=defScope sall_among) (N:=n_all_among) (fr:=[(1,"signs")]) ⟨rfl,rfl,by decide +kernel,by decide +kernel,by decide +kernel,by decide +kernel,by decide +kernel⟩ rfl rfl rfl (pi_str (pv 0))
   (fun _ _ _ _=>pts_nil) (fun _ _ _ _=>pe_cmpR op_in_str (pv 0) (pv 1) (by with_unfolding_all rfl))) pa_nil))),?_⟩
  refine ⟨_,rfl,x,rfl,comp_str (fun c=>.bl (decide (c∈y.cps.toList))) ((Nat.le_trans hx (by rw [sizeLine_eq];decide))) ?_ ?_⟩
  ·intro c H3 Q' hc q
   refine ⟨_,rfl,_,rfl,_,_,rfl,rfl,?_⟩
   rw [StrLaws.found_one]
   exact q
  ·intro D hD
   refine ⟨D,x.cps.toList.map fun c=>decide (c∈y.cps.toList),rfl,SqL.of (by rw [List.map_map];exact upd_same),?_⟩
   rw [List.all_map]
   exact k _ (Same.upd_new hD)
theorem ok_isword {fd:FuncData} (F:Fun K "is_word" "is_word" sis_word a.f_is_word fd) (T:Txt K mg a) (FF:Funs K a):FnOk P w K mg base CX0 2 a.f_is_word fd ["thing"] (spIsWord K):=by
 obtain ⟨fdA,FA,bA⟩:=FF.F_all_among
 have GA:FnOk P w K mg base CX0 1 a.f_all_among fdA ["text","signs"] spAmong:=ok_among FA T
 refine F.ok sc_is_word (fun vs H Q E h=>?_) (fun cdv A outer s H vs Q E hr h=>?_)
 ·rcases h with ⟨x,rfl,_⟩ | ⟨v,t,rfl,_⟩ <;> rfl
 ·refine ⟨_,pss_one (ps_ret (pe_and (pe_callB call_isinst rfl T.b_isinstance PyProof.Rows.boot_isinstance (pac (pv 0) (pac (pe_bltn (v:=.ty "str") rfl T.b_str PyProof.Rows.boot_str rfl) pa_nil)))
   (pe_and (pe_chain op_le op_le pe_int (pe_callB call_len_str rfl T.b_len PySem.boot_len (pac (pv 0) pa_nil)) (pe_gl rfl T.g_MOST_WORD))
   (pe_one (pe_call GA hr rfl T.m_all_among FA.kp bA .nil pass0 (pac (pv 0) (pac (pe_gl rfl T.g_WORD_SIGNS) pa_nil))))))),?_⟩
  rcases h with ⟨x,rfl,hx,k⟩ | ⟨v,t,rfl,ty,hk,k⟩
  ·refine ⟨_,rfl,_,_,_,_,_,rfl,rfl,TyOf.str x,kitSS,_,rfl,iteT ?_⟩
   refine ⟨_,rfl,x,rfl,(Nat.le_trans hx (by rw [sizeLine_eq];decide)),_,_,rfl,rfl,_,rfl,?_⟩
   have hdef:isW x=(decide (1≤(x.length:Int)) && (decide ((x.length:Int)≤20) && x.cps.toList.all fun c=>decide (c∈aZ.cps.toList))):=rfl
   by_cases h1:(1:Int)≤(x.length:Int)
   ·rw [decide_eq_true h1]
    rw [decide_eq_true h1,Bool.true_and] at hdef
    refine iteT ⟨_,_,rfl,rfl,_,rfl,?_⟩
    by_cases h2:(x.length:Int)≤20
    ·rw [decide_eq_true h2]
     rw [decide_eq_true h2,Bool.true_and] at hdef
     refine iteT ⟨_,rfl,x,aZ,rfl,hx,fun H' s'=>?_⟩
     rw [←hdef]
     exact k H' s'
    ·rw [decide_eq_false h2]
     rw [decide_eq_false h2,Bool.false_and] at hdef
     refine iteF ?_
     rw [←hdef]
     exact k H (Same.refl H)
   ·rw [decide_eq_false h1]
    rw [decide_eq_false h1,Bool.false_and] at hdef
    refine iteF ⟨_,rfl,iteF ?_⟩
    rw [←hdef]
    exact k H (Same.refl H)
  ·exact ⟨_,rfl,_,_,_,_,_,rfl,rfl,ty,hk,_,rfl,iteF k⟩
end
inductive spCell_I (K:PySem.W.Frag) (vs:List V) (H:Hp) (Q:VK):Prop
 | mk:∀(a:Addr) (ns:List Int) (k:Int),vs=[.ref a,.int k]→SqL K H a (ns.map V.int)→0≤k→(∀z:Int,Q (.int z) H)→spCell_I K vs H Q
def spCell (K:PySem.W.Frag):Sp:=fun vs H Q _=>spCell_I K vs H Q
inductive spMixed_I (K:PySem.W.Frag) (vs:List V) (H:Hp) (Q:VK):Prop
 | mk:∀(a:Addr) (ns:List Int) (st:Int) (n:Nat),vs=[.ref a,.int st,.int n]→SqL K H a (ns.map V.int)→0≤st→n≤1000→(∀(p:Addr) (rs:List Int) (H':Hp),rs.length=n→(∀r∈rs,0≤r∧r<2147483629)→H p=none→Same H H'→H' p=some (.lst (rs.map V.int))→Q (.ref p) H')→spMixed_I K vs H Q
def spMixed (K:PySem.W.Frag):Sp:=fun vs H Q _=>spMixed_I K vs H Q
inductive spWordBy_I (vs:List V) (H:Hp) (Q:VK):Prop
 | mk:∀(b k:Int),vs=[.int b,.int k]→0≤b→b<2147483647→0≤k→k<6→(∀H',Same H H'→Q (.str (wordBy b k)) H')→spWordBy_I vs H Q
def spWordBy:Sp:=fun vs H Q _=>spWordBy_I vs H Q
theorem ok_cell {P:Program} {w:World} {K:PySem.W.Frag} {mg:Str→Option Value} {base:Heap} {a:Adr} {fd:FuncData} (F:Fun K "_law_cell_at" "_law_cell_at" sl_cell_at a.f_l_cell_at fd) (T:Txt K mg a):FnOk P w K mg base CX0 1 a.f_l_cell_at fd ["_law_script","_law_k"] (spCell K):=by
 refine F.ok sc_l_cell_at (fun vs H Q E h=>?_) (fun cdv A outer s H vs Q E hr h=>?_)
 ·obtain ⟨x,ns,n,rfl,_⟩:=h;rfl
 ·obtain ⟨q,ns,i,rfl,hS,hi,k⟩:=h
  refine ⟨_,(pss_cons (ps_if (pt_cmpR op_lt (pv 1) (pe_callB call_len_seq rfl T.b_len PySem.boot_len (pac (pv 0) pa_nil)) (nomark _)) (pss_one (ps_ret (pe_ix ix_list (pv 0) (pv 1) (fun _ _=>rfl)))) pss_nil)
   (pss_one (ps_ret pe_int))),?_⟩
  refine ⟨_,rfl,_,rfl,q,_,rfl,.inl hS,_,_,rfl,rfl,_,rfl,?_⟩
  refine ite2 (fun h=>?_) (fun _=>k 0)
  obtain ⟨v,hv,hm,_⟩:=atI_some (xs:=ns.map V.int) hi (of_decide_eq_true h)
  obtain ⟨z,rfl,_⟩:=mem_map_int hm
  exact ⟨_,rfl,_,rfl,q,_,_,_,rfl,rfl,hS,hv,k z⟩
theorem ok_mixed {P:Program} {w:World} {K:PySem.W.Frag} {mg:Str→Option Value} {base:Heap} {a:Adr} {fd:FuncData} (F:Fun K "_law_mixed" "_law_mixed" sl_mixed a.f_l_mixed fd) (T:Txt K mg a) (FF:Funs K a):FnOk P w K mg base CX0 2 a.f_l_mixed fd ["_law_script","_law_start","_law_many"] (spMixed K):=by
 obtain ⟨fdC,F_l_cell_at,b_l_cell_at⟩:=FF.F_l_cell_at
 have G_l_cell_at:FnOk P w K mg base CX0 1 a.f_l_cell_at fdC ["_law_script","_law_k"] (spCell K):=ok_cell F_l_cell_at T
 refine F.ok sc_l_mixed (fun vs H Q E h=>?_) (fun cdv A outer s H vs Q E hr h=>?_)
 ·obtain ⟨x,ns,st,n,rfl,_⟩:=h;rfl
 ·obtain ⟨q,ns,st,n,rfl,hS,hst,hn,k⟩:=h
  have hr_l_cell_at:Room 1 _:=hr
  refine ⟨_,(pss_cons (ps_set (i:=3) sc_l_mixed.nd rfl (Or.inl rfl) (pe_lstS pas_nil))
   (pss_cons (ps_set (i:=4) sc_l_mixed.nd rfl (Or.inl rfl) pe_int)
   (pss_cons (ps_for PassesOwn.never rfl (pi_range1 rfl T.b_range (pac (pv 2) pa_nil)) (pg_name (i:=5) sc_l_mixed.nd rfl (Or.inl rfl)) (pss_cons (ps_set (i:=4) sc_l_mixed.nd rfl (Or.inl rfl) (pe_op op_mod (pe_op op_add (pe_op op_add (pe_op op_add (pe_op op_mul (pv 4) pe_int) (pe_call G_l_cell_at hr_l_cell_at rfl T.m_l_cell_at F_l_cell_at.kp b_l_cell_at .nil pass0 (pac (pv 0) (pac (pe_op op_add (pv 1) (pv 5)) pa_nil)))) (pe_op op_mul pe_int (pv 5))) pe_int) pe_int))
   (pss_one (ps_expr (pe_bm PySem.F.plainAttrs_list PySem.F.slot_list_append PySem.F.type_list_append mt_append (pv 3) (pac (pe_op op_mod (pe_op op_mul (pv 4) (pv 4)) pe_int) pa_nil))))))
   (pss_one (ps_ret (pv 3)))))),?_⟩
  refine ⟨Nat.zero_le _,fun p hp=>?_⟩
  refine ⟨_,rfl,(n:Int),rfl,by omega,by omega,for_range (n:=(n:Int).toNat) (fun i σ H2=>∃(rs:List Int) (more:Int) (c1:Option V),σ=[some (.ref q),some (.int st),some (.int n),some (.ref p),some (.int more),c1]∧0≤more∧more<2147483647 ∧
   rs.length=i∧(∀r∈rs,0≤r∧r<2147483629)∧H2 p=some (.lst (rs.map V.int))∧Same H H2)
   ⟨[],7,none,rfl,by decide,by decide,rfl,(fun _ h=>nomatch h),upd_same,Same.upd_new hp⟩ ?_ ?_⟩
  ·rintro i σ H2 hi ⟨rs,more,c1,rfl,h0,h1,hl,hb,hp2,hs⟩
   have hS2:=hs.seq hS
   have hin:i<n:=by omega
   refine ⟨_,rfl,_,_,rfl,rfl,.inl ⟨by omega,by omega⟩,_,rfl,_,rfl,_,rfl,_,_,rfl,rfl,q,ns,_,rfl,hS2,by omega,fun z=>?_⟩
   refine ⟨_,_,rfl,rfl,_,rfl,_,_,rfl,rfl,.inl ⟨by decide,by decide⟩,_,_,rfl,rfl,_,_,rfl,rfl,_,_,rfl,rfl,(by show (0:Int)<2147483647;decide),?_⟩
   have b0:0≤(more*48271+z+31*(0+(i:Int))+1) % 2147483647:=Int.emod_nonneg _ (by decide)
   have b1:(more*48271+z+31*(0+(i:Int))+1) % 2147483647<2147483647:=Int.emod_lt_of_pos _ (by decide)
   refine ⟨_,rfl,.inl ⟨rfl,_,SqL.of hp2⟩,_,rfl,_,rfl,_,_,rfl,rfl,.inl ⟨by omega,by omega⟩,_,_,rfl,rfl,(by show (0:Int)<2147483629;decide),p,_,_,rfl,rfl,hp2,(by rw [List.length_map];exact small1000 (by omega)),?_⟩
   refine ⟨rs++[_],_,_,rfl,b0,b1,by rw [List.length_append,hl];rfl,fun r hr=>?_,by rw [List.map_append];exact upd_same,hs.upd_of hp⟩
   rcases List.mem_append.mp hr with hr | hr
   ·exact hb r hr
   ·rw [List.mem_singleton.mp hr]
    exact ⟨Int.emod_nonneg _ (by decide),Int.emod_lt_of_pos _ (by decide)⟩
  ·rintro σ H2 ⟨rs,more,c1,rfl,h0,h1,hl,hb,hp2,hs⟩
   exact ⟨_,rfl,k p rs H2 (by omega) hb hp hs hp2⟩
theorem ok_wordBy {P:Program} {w:World} {K:PySem.W.Frag} {mg:Str→Option Value} {base:Heap} {a:Adr} {fd:FuncData} (F:Fun K "_law_word_by" "_law_word_by" sl_word_by a.f_l_word_by fd) (T:Txt K mg a):FnOk P w K mg base CX0 1 a.f_l_word_by fd ["_law_shape","_law_k"] spWordBy:=by
 refine F.ok sc_l_word_by (fun vs H Q E h=>?_) (fun cdv A outer s H vs Q E hr h=>?_)
 ·obtain ⟨b,k,rfl,_⟩:=h;rfl
 ·obtain ⟨b,i,rfl,hb0,hb1,hi0,hi1,k⟩:=h
  have hsm:∀n:Nat,n≤1000→n≤sizeLine:=fun n h=>Nat.le_of_lt (small1000 h)
  obtain ⟨t1,h1,sp1⟩:∃t,PSs (cxOf CX0 P w K mg base n_l_word_by "_law_word_by" (defScope sl_word_by) a.f_l_word_by cdv A outer s H E).nox ((defBody sl_word_by).drop 1) t ∧
   (¬b % 4=1→t { nx:=fun _ H'=>Q .non H',rt:=Q } [some (.int b),some (.int i),none,none,none,none] H):=by
   refine ⟨_,(pss_cons (ps_set (i:=3) sc_l_word_by.nd rfl (Or.inl rfl) (pe_op op_mod (pe_op op_fdiv (pv 0) pe_int) pe_int))
    (pss_cons (ps_set (i:=4) sc_l_word_by.nd rfl (Or.inl rfl) pe_str)
    (pss_cons (ps_for PassesOwn.never rfl (pi_range1 rfl T.b_range (pac (pe_op op_add (pe_op op_add (pv 3) pe_int) (pe_op op_mod (pe_op op_fdiv (pv 0) pe_int) (pe_op op_sub pe_int (pv 3)))) pa_nil)) (pg_name (i:=5) sc_l_word_by.nd rfl (Or.inl rfl)) (pss_one (ps_if (pt_cmpR op_eq (pv 5) (pv 3) (nomark _)) (pss_one (ps_set (i:=4) sc_l_word_by.nd rfl (Or.inl rfl) (pe_op op_add_str (pv 4) (pe_ix ix_str pe_str (pv 1) (fun _ _=>rfl))))) (pss_one (ps_set (i:=4) sc_l_word_by.nd rfl (Or.inl rfl) (pe_op op_add_str (pv 4) (pe_ix ix_str pe_str (pe_op op_mod (pe_op op_add (pe_op op_fdiv (pv 0) pe_int) (pe_op op_mul pe_int (pv 5))) pe_int) (fun _ _=>rfl))))))))
    (pss_one (ps_ret (pv 4)))))),fun hne=>?_⟩
   have p0:0≤b / 4 % 6:=Int.emod_nonneg _ (by decide)
   have p1:b / 4 % 6<6:=Int.emod_lt_of_pos _ (by decide)
   have q0:0≤b / 24 % (20 - b / 4 % 6):=Int.emod_nonneg _ (by omega)
   have q1:b / 24 % (20 - b / 4 % 6)<20 - b / 4 % 6:=Int.emod_lt_of_pos _ (by omega)
   refine ⟨_,rfl,_,_,rfl,rfl,⟨by decide,by decide⟩,_,_,rfl,rfl,(by show (0:Int)<6;decide),?_⟩
   refine ⟨_,rfl,_,_,rfl,rfl,_,rfl,_,_,rfl,rfl,⟨by decide,by decide⟩,_,rfl,_,_,rfl,rfl,_,_,rfl,rfl,(by show (0:Int)<20 - b / 4 % 6;omega),_,_,rfl,rfl,_,rfl,(by show -2 ^ 62≤b / 4 % 6+1+b / 24 % (20 - b / 4 % 6);omega),(by show b / 4 % 6+1+b / 24 % (20 - b / 4 % 6)<2 ^ 62;omega),for_range (n:=(b / 4 % 6+1+b / 24 % (20 - b / 4 % 6)).toNat)
    (fun j σ H2=>∃(o:Option V),σ=[some (.int b),some (.int i),none,some (.int (b / 4 % 6)),some (.str ⟨((List.range j).map (wordSign b i)).toArray⟩),o]∧H2=H) ⟨none,rfl,rfl⟩ ?_ ?_⟩
   ·rintro j σ H2 hj ⟨o,rfl,rfl⟩
    have hj20:j<20:=by omega
    have fit:∀c:Nat,(⟨((List.range j).map (wordSign b i)).toArray⟩:Str).length+(⟨#[c]⟩:Str).length≤sizeLine:=fun c=>hsm _ (by
     rw [one_len,len_list,List.length_map,List.length_range];omega)
    have app:∀c:Nat,wordSign b i j=c→(⟨((List.range j).map (wordSign b i)).toArray⟩:Str)++(⟨#[c]⟩:Str)=⟨((List.range (j+1)).map (wordSign b i)).toArray⟩:=fun c hc=>by
     rw [List.range_succ,List.map_append,List.map_singleton,hc]
     refine Str.ext' ?_
     rw [Str.cps_append]
     simp
    refine ⟨_,rfl,_,rfl,rfl,_,rfl,?_⟩
    refine ite2 (fun h=>?_) (fun h=>?_)
    ·have he:(0:Int)+(j:Int)=b / 4 % 6:=by
      have:=of_decide_eq_true h
      exact V.int.inj this
     obtain ⟨c,hc,_⟩:=pick_sign (z:=abS) (i:=i) hi0 (by rw [ab_len];exact hi1)
     refine ⟨_,rfl,_,rfl,abS,_,c,rfl,rfl,ab_small,hc,_,_,rfl,rfl,fit c,?_⟩
     refine ⟨some (.int (0+(j:Int))),?_,rfl⟩
     rw [app c (by unfold wordSign;rw [if_pos (by omega),hc];rfl)]
     rfl
    ·have he:¬(0:Int)+(j:Int)=b / 4 % 6:=fun z=>h (decide_eq_true (by rw [z]))
     obtain ⟨c,hc,_⟩:=pick_sign (z:=aZ) (i:=(b / 500+7*(0+(j:Int))) % 36) (Int.emod_nonneg _ (by decide)) (by rw [aZ_len];exact Int.emod_lt_of_pos _ (by decide))
     refine ⟨_,rfl,_,rfl,_,_,rfl,rfl,⟨by decide,by decide⟩,_,rfl,_,_,rfl,rfl,.inl ⟨by decide,by decide⟩,_,_,rfl,rfl,_,_,rfl,rfl,(by show (0:Int)<36;decide),aZ,_,c,rfl,rfl,aZ_small,hc,_,_,rfl,rfl,fit c,?_⟩
     refine ⟨some (.int (0+(j:Int))),?_,rfl⟩
     rw [app c (by unfold wordSign;rw [if_neg (by omega),show (7*(j:Int))=7*(0+(j:Int)) by omega,hc];rfl)]
     rfl
   ·rintro σ H2 ⟨o,rfl,rfl⟩
    refine ⟨_,rfl,?_⟩
    have e:wordBy b i=⟨((List.range (b / 4 % 6+1+b / 24 % (20 - b / 4 % 6)).toNat).map (wordSign b i)).toArray⟩:=by
     unfold wordBy;rw [if_neg hne]
    rw [←e]
    exact k _ (Same.refl _)
  refine ⟨_,(qss_cons (qs_if (pt_cmpR op_eq (pe_op op_mod (pv 0) pe_int) pe_int (nomark _)) (qss_cons (qs_set (i:=2) sc_l_word_by.nd rfl (Or.inl rfl) (qe_lst (pas_cons pe_str (pas_cons pe_str (pas_cons pe_str (pas_cons pe_str (pas_cons pe_str (pas_cons pe_str (pas_cons pe_str (pas_cons pe_str (pas_cons pe_str (pas_cons pe_str (pas_cons pe_str (pas_cons pe_str pas_nil))))))))))))))
   (qss_cons (qs_set (i:=2) sc_l_word_by.nd rfl (Or.inl rfl) (qe_op op_cat (pv 2) (qe_lst (pas_cons pe_str (pas_cons pe_str (pas_cons pe_str (pas_cons pe_str (pas_cons pe_str (pas_cons pe_str (pas_cons pe_str (pas_cons pe_str (pas_cons pe_str pas_nil))))))))))))
   (qss_one (qs_of (ps_ret (pe_ix ix_list (pv 2) (pe_op op_mod (pe_op op_add (pe_op op_fdiv (pv 0) pe_int) (pe_op op_mul pe_int (pv 1))) pe_int) (fun _ _=>rfl))))))) pss_nil)
   (qss_of h1)).h,?_⟩
  refine ⟨_,rfl,_,_,rfl,rfl,(by show (0:Int)<4;decide),rfl,_,rfl,?_⟩
  refine ite2 (fun h=>?_) (fun h=>sp1 fun z=>h (decide_eq_true (congrArg V.int z)))
  have he:b % 4=1:=by
   have:=of_decide_eq_true h
   exact V.int.inj this
  obtain ⟨v,hv,hvm,_⟩:=atI_some (xs:=ownWords) (i:=(b / 4+5*i) % 21) (Int.emod_nonneg _ (by decide)) (by rw [own_len];exact Int.emod_lt_of_pos _ (by decide))
  have hv':atI (ownWords.map V.str) ((b / 4+5*i) % 21)=some (V.str v):=by
   rw [atI_map,hv];rfl
  refine ⟨(by show 12≤sizeLine;decide),fun l1 n1=>?_⟩
  refine ⟨_,rfl,(by show 9≤sizeLine;decide),fun l2 n2=>⟨l1,l2,_,_,rfl,rfl,(by rw [upd_ne (ne_of_none upd_same n2)];exact upd_same),upd_same,(by show 12+9≤sizeLine;decide),fun l3 n3=>?_⟩⟩
  refine ⟨_,rfl,_,rfl,_,_,rfl,rfl,⟨by decide,by decide⟩,_,rfl,_,_,rfl,rfl,.inl ⟨by decide,by decide⟩,_,_,rfl,rfl,_,_,rfl,rfl,(by show (0:Int)<21;decide),l3,ownWords.map V.str,_,_,rfl,rfl,SqL.of upd_same,hv',?_⟩
  have e:wordBy b i=v:=by unfold wordBy;rw [if_pos he,hv];rfl
  rw [←e]
  exact k _ (((Same.upd_new n1).trans (Same.upd_new n2)).trans (Same.upd_new n3))
inductive spPcs_I (vs:List V) (H:Hp) (Q:VK):Prop
 | mk:∀x:Str,vs=[.str x]→x.length≤100000→(∀D H',H D=none→Same H H'→H' D=some (.lst ((pcs x).map V.str))→Q (.ref D) H')→spPcs_I vs H Q
def spPcs:Sp:=fun vs H Q _=>spPcs_I vs H Q
theorem rep1_len (x:Str) (c:Nat):(Txt.replace x ⟨#[c]⟩ (padS ⟨#[c]⟩)).length≤3*x.length:=by
 have h:=expd_len (c:=c) (z:=(padS ⟨#[c]⟩).cps.toList) (by rfl) x.cps.toList
 rw [←replace_expd] at h
 have e1:(Txt.replace x ⟨#[c]⟩ (padS ⟨#[c]⟩)).cps.toList.length=(Txt.replace x ⟨#[c]⟩ (padS ⟨#[c]⟩)).length:=Array.length_toList
 have e2:x.cps.toList.length=x.length:=Array.length_toList
 rw [e1,e2] at h
 exact h
section
variable {P : Program} {w : World} {K : PySem.W.Frag} {mg : Str → Option Value} {base : Heap} {a : Adr}
theorem ok_pcs {fd:FuncData} (F:Fun K "pieces_of" "pieces_of" spieces_of a.f_pieces_of fd) (T:Txt K mg a):FnOkT P w K mg base CX0 1 a.f_pieces_of fd ["text"] spPcs:=by
 refine F.okT sc_pieces_of (fun vs H Q E h=>?_) (fun cdv A outer st H vs Q E hr h=>?_)
 ·obtain ⟨x,rfl,_⟩:=h;rfl
 ·obtain ⟨x,rfl,hx,k⟩:=h
  have p1:("(":Str)=⟨#[40]⟩:=by decide +kernel
  have p2:(")":Str)=⟨#[41]⟩:=by decide +kernel
  have p3:(",":Str)=⟨#[44]⟩:=by decide +kernel
  have l1:=rep1_len x 40
  have l2:=rep1_len (Txt.replace x ⟨#[40]⟩ (padS ⟨#[40]⟩)) 41
  refine ⟨_,(psst_cons (ps_rep (txt:="text") (sg:="sign") (a:="(") (b:=")") (c:=",") rfl (by decide +kernel) rfl rfl rfl (by decide +kernel) (by decide +kernel) (by decide +kernel) PassesOwn.never (by decide) (by decide) rfl rfl rfl rfl (fun _=>rfl))
   (pss_one (ps_ret (pe_comp (sc:=defScope spieces_of) (N:=n_pieces_of) (fr:=[]) ⟨rfl,rfl,by decide +kernel,by decide +kernel,by decide +kernel,by decide +kernel,by decide +kernel⟩ rfl rfl rfl (pi_list (pe_bm PySem.F.plainAttrs_str PySem.F.slot_str_split PySem.F.type_str_split mt_splitG (pv 0) (pac pe_str pa_nil))) (fun _ _ _ _=>pts_one (pt_cmpR op_ne (pv 0) pe_str (nomark _))) (fun _ _ _ _=>(pv 0)))))),?_⟩
  refine ⟨x,none,rfl,by omega,by rw [p1];omega,by rw [p1,p2];omega,?_⟩
  have hr3:=rep3_len x
  refine ⟨_,rfl,rfl,_," ",rfl,rfl,by decide +kernel,by omega,fun L H1 nL s1 eL=>?_⟩
  have hsl:=PyProof.Rows.split_le (rep3 x "(" ")" ",") " "
  refine ⟨L,rfl,⟨_,SqL.of eL⟩,comp_listFG (xs:=Txt.split (rep3 x "(" ")" ",") " ") V.str (fun p=>!decide (p=("":Str))) V.str (by rw [sizeLine_eq];omega) (SqL.of eL) (fun y H3 Q' hy s3 kq=>⟨_,rfl,rfl,_,rfl,by rw [str_ne];exact kq H3 (Same.refl _)⟩) (fun y H3 Q' hy s3 _ kq=>⟨_,rfl,kq H3 (Same.refl _)⟩) fun D H2 nD s2 eD=>k D H2 (s1.free nD) (s1.trans s2) eD⟩
end
inductive Tr where
 | any
 | ans
 | word (w:Str)
 | title (w:Str)
 | frm (w:Str)
 | days (l h:Int)
 | inn (w:Str)
 | mrk (w:Str)
 | nt (t:Tr)
 | thr (t:Tr)
 | bth (u v:Tr)
 | eth (u v:Tr)
def Tr.dp:Tr→Nat
 | .nt t=>t.dp+1
 | .thr t=>t.dp+1
 | .bth u v=>max u.dp v.dp+1
 | .eth u v=>max u.dp v.dp+1
 | _=>0
def DayB (l h:Int):Prop:=0≤l∧l≤9999∧0≤h∧h≤9999
inductive TAt (H:Hp):Addr→Tr→Prop
 | any {p:Addr}:H p=some (.tup [.str "any"])→TAt H p .any
 | ans {p:Addr}:H p=some (.tup [.str "answers"])→TAt H p .ans
 | word {p:Addr} {w:Str}:H p=some (.tup [.str "word",.str w])→WordS w→TAt H p (.word w)
 | title {p:Addr} {w:Str}:H p=some (.tup [.str "title",.str w])→WordS w→TAt H p (.title w)
 | frm {p:Addr} {w:Str}:H p=some (.tup [.str "from",.str w])→WordS w→TAt H p (.frm w)
 | days {p:Addr} {l h:Int}:H p=some (.tup [.str "day",.int l,.int h])→DayB l h→TAt H p (.days l h)
 | inn {p:Addr} {w:Str}:H p=some (.tup [.str "in",.str w])→WordS w→TAt H p (.inn w)
 | mrk {p:Addr} {w:Str}:H p=some (.tup [.str "marked",.str w])→WordS w→TAt H p (.mrk w)
 | nt {p q:Addr} {t:Tr}:H p=some (.tup [.str "not",.ref q])→TAt H q t→TAt H p (.nt t)
 | thr {p q:Addr} {t:Tr}:H p=some (.tup [.str "thread",.ref q])→TAt H q t→TAt H p (.thr t)
 | bth {p q r:Addr} {u v:Tr}:H p=some (.tup [.str "both",.ref q,.ref r])→TAt H q u→TAt H r v→TAt H p (.bth u v)
 | eth {p q r:Addr} {u v:Tr}:H p=some (.tup [.str "either",.ref q,.ref r])→TAt H q u→TAt H r v→TAt H p (.eth u v)
theorem TAt.mono {H H':Hp} {p:Addr} {t:Tr} (h:TAt H p t) (k:Same H H'):TAt H' p t:=by
 induction h with
 | any e=>exact .any (k _ _ e)
 | ans e=>exact .ans (k _ _ e)
 | word e w=>exact .word (k _ _ e) w
 | title e w=>exact .title (k _ _ e) w
 | frm e w=>exact .frm (k _ _ e) w
 | days e b=>exact .days (k _ _ e) b
 | inn e w=>exact .inn (k _ _ e) w
 | mrk e w=>exact .mrk (k _ _ e) w
 | nt e _ ih=>exact .nt (k _ _ e) ih
 | thr e _ ih=>exact .thr (k _ _ e) ih
 | bth e _ _ i1 i2=>exact .bth (k _ _ e) i1 i2
 | eth e _ _ i1 i2=>exact .eth (k _ _ e) i1 i2
theorem TAt.tups {H H':Hp} {p:Addr} {t:Tr} (h:TAt H p t) (k:∀c xs,H c=some (.tup xs)→H' c=some (.tup xs)):TAt H' p t:=by
 induction h with
 | any e=>exact .any (k _ _ e)
 | ans e=>exact .ans (k _ _ e)
 | word e w=>exact .word (k _ _ e) w
 | title e w=>exact .title (k _ _ e) w
 | frm e w=>exact .frm (k _ _ e) w
 | days e b=>exact .days (k _ _ e) b
 | inn e w=>exact .inn (k _ _ e) w
 | mrk e w=>exact .mrk (k _ _ e) w
 | nt e _ ih=>exact .nt (k _ _ e) ih
 | thr e _ ih=>exact .thr (k _ _ e) ih
 | bth e _ _ i1 i2=>exact .bth (k _ _ e) i1 i2
 | eth e _ _ i1 i2=>exact .eth (k _ _ e) i1 i2
def clsOf (a:Adr):Tr→Addr
 | .any=>a.C_Always
 | .ans=>a.C_DoesAnswer
 | .word _=>a.C_HasWord
 | .title _=>a.C_HasTitleWord
 | .frm _=>a.C_IsFrom
 | .days _ _=>a.C_IsOfDays
 | .inn _=>a.C_IsIn
 | .mrk _=>a.C_IsMarked
 | .nt _=>a.C_Not
 | .thr _=>a.C_InThread
 | .bth _ _=>a.C_Both
 | .eth _ _=>a.C_Either
def isLeaf:Tr→Bool
 | .nt _ | .thr _ | .bth _ _ | .eth _ _=>false
 | _=>true
inductive CondAt (a:Adr) (H:Hp):Addr→Tr→Prop
 | lf {x dx p:Addr} {t:Tr}:isLeaf t=true→H x=some (.ins (clsOf a t) dx [("shape",.ref p)])→TAt H p t→CondAt a H x t
 | nt {x dx p y:Addr} {u:Tr}:H x=some (.ins a.C_Not dx [("shape",.ref p),("inner",.ref y)])→TAt H p (.nt u)→CondAt a H y u→CondAt a H x (.nt u)
 | thr {x dx p y:Addr} {u:Tr}:H x=some (.ins a.C_InThread dx [("shape",.ref p),("inner",.ref y)])→TAt H p (.thr u)→CondAt a H y u→CondAt a H x (.thr u)
 | bth {x dx p y z:Addr} {u v:Tr}:H x=some (.ins a.C_Both dx [("shape",.ref p),("one",.ref y),("other",.ref z)])→TAt H p (.bth u v)→CondAt a H y u→CondAt a H z v→CondAt a H x (.bth u v)
 | eth {x dx p y z:Addr} {u v:Tr}:H x=some (.ins a.C_Either dx [("shape",.ref p),("one",.ref y),("other",.ref z)])→TAt H p (.eth u v)→CondAt a H y u→CondAt a H z v→CondAt a H x (.eth u v)
def Tr.sz:Tr→Nat
 | .nt t=>t.sz+1
 | .thr t=>t.sz+1
 | .bth u v=>u.sz+v.sz+1
 | .eth u v=>u.sz+v.sz+1
 | _=>1
def Tr.th:Tr→Nat
 | .nt t=>t.th
 | .thr t=>t.th+1
 | .bth u v=>max u.th v.th
 | .eth u v=>max u.th v.th
 | _=>0
theorem sz_pow:∀t:Tr,t.sz+1≤2 ^ (t.dp+1)
 | .nt u=>by have:=sz_pow u;show u.sz+1+1≤2 ^ (u.dp+1+1);rw [Nat.pow_succ];omega
 | .thr u=>by have:=sz_pow u;show u.sz+1+1≤2 ^ (u.dp+1+1);rw [Nat.pow_succ];omega
 | .bth u v=>by
   have h1:=sz_pow u;have h2:=sz_pow v
   have p1:2 ^ (u.dp+1)≤2 ^ (max u.dp v.dp+1):=Nat.pow_le_pow_right (by decide) (by omega)
   have p2:2 ^ (v.dp+1)≤2 ^ (max u.dp v.dp+1):=Nat.pow_le_pow_right (by decide) (by omega)
   show u.sz+v.sz+1+1≤2 ^ (max u.dp v.dp+1+1);rw [Nat.pow_succ];omega
 | .eth u v=>by
   have h1:=sz_pow u;have h2:=sz_pow v
   have p1:2 ^ (u.dp+1)≤2 ^ (max u.dp v.dp+1):=Nat.pow_le_pow_right (by decide) (by omega)
   have p2:2 ^ (v.dp+1)≤2 ^ (max u.dp v.dp+1):=Nat.pow_le_pow_right (by decide) (by omega)
   show u.sz+v.sz+1+1≤2 ^ (max u.dp v.dp+1+1);rw [Nat.pow_succ];omega
 | .any=>by decide
 | .ans=>by decide
 | .word _=>by show 1+1≤2 ^ 1;decide
 | .title _=>by show 1+1≤2 ^ 1;decide
 | .frm _=>by show 1+1≤2 ^ 1;decide
 | .days _ _=>by show 1+1≤2 ^ 1;decide
 | .inn _=>by show 1+1≤2 ^ 1;decide
 | .mrk _=>by show 1+1≤2 ^ 1;decide
theorem CondAt.obj {a:Adr} {H:Hp} {x:Addr} {t:Tr} (h:CondAt a H x t):∃dx fs,H x=some (.ins (clsOf a t) dx fs)∧fs.lookup ("holds":Str)=none∧fs.lookup ("truths":Str)=none∧fs.lookup ("tree":Str)=none∧∃p,fs.lookup ("shape":Str)=some (.ref p)∧TAt H p t:=by
 cases h with
 | lf l e t=>exact ⟨_,_,e,rfl,rfl,rfl,_,rfl,t⟩
 | nt e t _=>exact ⟨_,_,e,rfl,rfl,rfl,_,rfl,t⟩
 | thr e t _=>exact ⟨_,_,e,rfl,rfl,rfl,_,rfl,t⟩
 | bth e t _ _=>exact ⟨_,_,e,rfl,rfl,rfl,_,rfl,t⟩
 | eth e t _ _=>exact ⟨_,_,e,rfl,rfl,rfl,_,rfl,t⟩
theorem Txt.cls {K:PySem.W.Frag} {mg:Str→Option Value} {a:Adr} (T:Txt K mg a):∀t:Tr,Cls K (clsOf a t)
 | .any=>T.c_Always
 | .ans=>T.c_DoesAnswer
 | .word _=>T.c_HasWord
 | .title _=>T.c_HasTitleWord
 | .frm _=>T.c_IsFrom
 | .days _ _=>T.c_IsOfDays
 | .inn _=>T.c_IsIn
 | .mrk _=>T.c_IsMarked
 | .nt _=>T.c_Not
 | .thr _=>T.c_InThread
 | .bth _ _=>T.c_Both
 | .eth _ _=>T.c_Either
theorem Txt.noshape {K:PySem.W.Frag} {mg:Str→Option Value} {a:Adr} (T:Txt K mg a):∀t:Tr,NoAttr K (clsOf a t) "shape"
 | .any=>T.n_Always_shape
 | .ans=>T.n_DoesAnswer_shape
 | .word _=>T.n_HasWord_shape
 | .title _=>T.n_HasTitleWord_shape
 | .frm _=>T.n_IsFrom_shape
 | .days _ _=>T.n_IsOfDays_shape
 | .inn _=>T.n_IsIn_shape
 | .mrk _=>T.n_IsMarked_shape
 | .nt _=>T.n_Not_shape
 | .thr _=>T.n_InThread_shape
 | .bth _ _=>T.n_Both_shape
 | .eth _ _=>T.n_Either_shape
inductive spTree_I (a:Adr) (vs:List V) (H:Hp) (Q:VK):Prop
 | mk:∀x t,vs=[.ref x]→CondAt a H x t→(∀p,TAt H p t→Q (.ref p) H)→spTree_I a vs H Q
def spTree (a:Adr):Sp:=fun vs H Q _=>spTree_I a vs H Q
section
variable {P : Program} {w : World} {K : PySem.W.Frag} {mg : Str → Option Value} {base : Heap} {a : Adr}
theorem ok_tree {fd:FuncData} (F:Fun K "tree" "Condition.tree" sCondition_tree a.f_Condition_tree fd) (T:Txt K mg a):FnOk P w K mg base CX0 1 a.f_Condition_tree fd ["self"] (spTree a):=by
 refine F.ok sc_Condition_tree (fun vs H Q E h=>?_) (fun cdv A outer s H vs Q E hr h=>?_)
 ·obtain ⟨x,t,rfl,_⟩:=h;rfl
 ·obtain ⟨x,t,rfl,hx,k⟩:=h
  obtain ⟨dx,fs,ex,l1,l2,l3,p,lp,ht⟩:=hx.obj
  exact ⟨_,(pss_one (ps_ret (pe_fld (pv 0) rfl))),⟨_,rfl,x,_,dx,fs,_,rfl,ex,T.cls t,T.noshape t,lp,k p ht⟩⟩
end
def subs:Tr→List Tr
 | .nt u=>[u]
 | .thr u=>[u]
 | .bth u v=>[u,v]
 | .eth u v=>[u,v]
 | _=>[]
def nm1:Tr→Str
 | .any=>"any"
 | .ans=>"answers"
 | .word _=>"word"
 | .title _=>"title"
 | .frm _=>"from"
 | .days _ _=>"day"
 | .inn _=>"in"
 | .mrk _=>"marked"
 | .nt _=>"not"
 | .thr _=>"thread"
 | .bth _ _=>"both"
 | .eth _ _=>"either"
def Kid (H:Hp) (t:Tr) (k:V×Option Tr):Prop:=match k.2 with
 | none=>(∃z,k.1=.str z)∨∃i,k.1=.int i
 | some u=>∃q,k.1=.ref q∧TAt H q u∧u.dp<t.dp∧u.sz<t.sz
theorem TAt.kids {H:Hp} {p:Addr} {t:Tr} (h:TAt H p t):∃ks:List (V×Option Tr),H p=some (.tup (V.str (nm1 t) :: ks.map (·.1)))∧ks.length≤2∧subs t=ks.filterMap (·.2)∧∀k∈ks,Kid H t k:=by
 have one:∀{k:V×Option Tr} {t:Tr},Kid H t k→∀k'∈[k],Kid H t k':=fun h k' hk=>by rw [List.mem_singleton.mp hk];exact h
 have two:∀{k1 k2:V×Option Tr} {t:Tr},Kid H t k1→Kid H t k2→∀k'∈[k1,k2],Kid H t k':=fun h1 h2 k' hk=>by
  rcases List.mem_cons.mp hk with rfl | hk
  ·exact h1
  ·rw [List.mem_singleton.mp hk];exact h2
 cases h with
 | any e=>exact ⟨[],e,by simp,rfl,fun k hk=>nomatch hk⟩
 | ans e=>exact ⟨[],e,by simp,rfl,fun k hk=>nomatch hk⟩
 | word e w=>exact ⟨[(_,none)],e,by simp,rfl,one (.inl ⟨_,rfl⟩)⟩
 | title e w=>exact ⟨[(_,none)],e,by simp,rfl,one (.inl ⟨_,rfl⟩)⟩
 | frm e w=>exact ⟨[(_,none)],e,by simp,rfl,one (.inl ⟨_,rfl⟩)⟩
 | days e b=>exact ⟨[(_,none),(_,none)],e,by simp,rfl,two (.inr ⟨_,rfl⟩) (.inr ⟨_,rfl⟩)⟩
 | inn e w=>exact ⟨[(_,none)],e,by simp,rfl,one (.inl ⟨_,rfl⟩)⟩
 | mrk e w=>exact ⟨[(_,none)],e,by simp,rfl,one (.inl ⟨_,rfl⟩)⟩
 | nt e h=>exact ⟨[(_,some _)],e,by simp,rfl,one ⟨_,rfl,h,Nat.lt_succ_self _,Nat.lt_succ_self _⟩⟩
 | thr e h=>exact ⟨[(_,some _)],e,by simp,rfl,one ⟨_,rfl,h,Nat.lt_succ_self _,Nat.lt_succ_self _⟩⟩
 | bth e h1 h2=>exact ⟨[(_,some _),(_,some _)],e,by simp,rfl,two ⟨_,rfl,h1,(by show _<max _ _+1;omega),(by show _<_+_+1;omega)⟩ ⟨_,rfl,h2,(by show _<max _ _+1;omega),(by show _<_+_+1;omega)⟩⟩
 | eth e h1 h2=>exact ⟨[(_,some _),(_,some _)],e,by simp,rfl,two ⟨_,rfl,h1,(by show _<max _ _+1;omega),(by show _<_+_+1;omega)⟩ ⟨_,rfl,h2,(by show _<max _ _+1;omega),(by show _<_+_+1;omega)⟩⟩
theorem Kid.mono {H H':Hp} {t:Tr} {k:V×Option Tr} (h:Kid H t k) (s:Same H H'):Kid H' t k:=by
 obtain ⟨v,o⟩:=k
 cases o with
 | none=>exact h
 | some u=>obtain ⟨q,e,ht,l⟩:=h;exact ⟨q,e,ht.mono s,l⟩
theorem pss_never {X:Cx} {ss:List Stmt}:PSs X ss (fun _ _ _=>False):=fun _ _ _ _ _ _ h=>h.elim
theorem skS {x y:Str} {A B:Prop} (h:decide (x=y)=false) (k:B):if decide (V.str x=V.str y)=true then A else B:=by
 rw [str_eq,h];exact iteF k
theorem hitS {x:Str} {A B:Prop} (k:A):if decide (V.str x=V.str x)=true then A else B:=by
 rw [decide_eq_true rfl];exact iteT k
theorem TAt.nin {H H':Hp} {p:Addr} {t:Tr} (h:TAt H p t) (k:∀c o,H c=some o→nIns o=true→H' c=some o):TAt H' p t:=by
 induction h with
 | any e=>exact .any (k _ _ e rfl)
 | ans e=>exact .ans (k _ _ e rfl)
 | word e w=>exact .word (k _ _ e rfl) w
 | title e w=>exact .title (k _ _ e rfl) w
 | frm e w=>exact .frm (k _ _ e rfl) w
 | days e b=>exact .days (k _ _ e rfl) b
 | inn e w=>exact .inn (k _ _ e rfl) w
 | mrk e w=>exact .mrk (k _ _ e rfl) w
 | nt e _ ih=>exact .nt (k _ _ e rfl) ih
 | thr e _ ih=>exact .thr (k _ _ e rfl) ih
 | bth e _ _ i1 i2=>exact .bth (k _ _ e rfl) i1 i2
 | eth e _ _ i1 i2=>exact .eth (k _ _ e rfl) i1 i2
def CNew (a:Adr) (H H':Hp) (y:Addr) (t:Tr):Prop:=∀H'',(∀c o,H' c=some o→(H c=none∨nIns o=true)→H'' c=some o)→CondAt a H'' y t
theorem CNew.at {a:Adr} {H H':Hp} {y:Addr} {t:Tr} (h:CNew a H H' y t):CondAt a H' y t:=h H' fun _ _ e _=>e
def spCI (K:PySem.W.Frag):Sp:=fun vs H Q _=>∃x dx C p,vs=[.ref x,p]∧Cls K C∧NoAttr K C "shape"∧H x=some (.ins C dx [])∧Q .non (upd H x (.ins C dx [("shape",p)]))
def spCond (a:Adr) (n:Nat):Sp:=fun vs H Q _=>∃p t,vs=[.ref p]∧TAt H p t∧t.dp<n∧∀y H',Same H H'→CNew a H H' y t→Q (.ref y) H'
def spWI (K:PySem.W.Frag) (a:Adr) (n:Nat):Sp:=fun vs H Q _=>∃x dx C p s q u,vs=[.ref x,.ref p]∧Cls K C∧NoAttr K C "shape"∧NoAttr K C "inner"∧H x=some (.ins C dx [])∧H p=some (.tup [.str s,.ref q])∧TAt H q u∧u.dp<n ∧
 ∀y H',(∀c o,c≠x→H c=some o→H' c=some o)→H' x=some (.ins C dx [("shape",.ref p),("inner",.ref y)])→CNew a H H' y u→Q .non H'
def spJI (K:PySem.W.Frag) (a:Adr) (n:Nat):Sp:=fun vs H Q _=>∃x dx C p s q u r v,vs=[.ref x,.ref p]∧Cls K C∧NoAttr K C "shape"∧NoAttr K C "one"∧NoAttr K C "other"∧H x=some (.ins C dx [])∧H p=some (.tup [.str s,.ref q,.ref r])∧TAt H q u∧TAt H r v∧u.dp<n∧v.dp<n ∧
 ∀y z H',(∀c o,c≠x→H c=some o→H' c=some o)→H' x=some (.ins C dx [("shape",.ref p),("one",.ref y),("other",.ref z)])→CNew a H H' y u→CNew a H H' z v→Q .non H'
theorem CNew.back {a:Adr} {H H1 H2:Hp} {y:Addr} {t:Tr} (h:CNew a H1 H2 y t) (e0:∀c,H1 c=none→H c=none):CNew a H H2 y t:=fun H'' k=>h H'' fun c u e hc=>k c u e (hc.imp (e0 c) id)
theorem CNew.fwd {a:Adr} {H H1 H2:Hp} {y x:Addr} {t:Tr} (h:CNew a H H1 y t) (k1:∀c o,c≠x→H1 c=some o→H2 c=some o) (hx:∀o,H1 x=some o→nIns o=false) (hn:H x≠none):CNew a H H2 y t:=fun H'' k=>h H'' fun c u e hc=>by
 have cx:c≠x:=fun z=>by
  subst z
  rcases hc with hc | hc
  ·exact hn hc
  ·rw [hx u e] at hc;cases hc
 exact k c u (k1 c u cx e) hc
theorem made_same {H:Hp} {x dx C:Addr} (nx:H x=none) (nd:H dx=none):Same H (upd (upd H dx (.own x)) x (.ins C dx [])):=fun c o e=>by rw [upd_ne (ne_of_none e nx),upd_ne (ne_of_none e nd)];exact e
theorem new_leaf {K:PySem.W.Frag} {a:Adr} {t:Tr} {H:Hp} {p:Addr} {R:VK} {E:XK} (c:Cls K (clsOf a t)) (n:NoAttr K (clsOf a t) "shape") (l:isLeaf t=true) (tt:TAt H p t) (k:∀y H',Same H H'→CNew a H H' y t→R (.ref y) H') (x dx:Addr) (nx:H x=none) (nd:H dx=none) (ne:dx≠x) :
 spCI K [.ref x,.ref p] (upd (upd H dx (.own x)) x (.ins (clsOf a t) dx [])) (fun v H2=>v=.non∧R (.ref x) H2) E:=by
 have s1:=made_same (C:=clsOf a t) nx nd
 refine ⟨x,dx,_,_,rfl,c,n,upd_same,rfl,k x _ (s1.upd_of nx) fun H'' kk=>?_⟩
 refine .lf l (kk x _ upd_same (.inl nx)) (tt.nin fun c o e z=>kk c o (s1.upd_of nx _ _ e) (.inr z))
theorem new_wrap {K:PySem.W.Frag} {a:Adr} {n:Nat} {t u:Tr} {C:Addr} {s:Str} {H:Hp} {p q:Addr} {R:VK} {E:XK} (c:Cls K C) (n1:NoAttr K C "shape") (n2:NoAttr K C "inner") (tt:TAt H p t) (e:H p=some (.tup [.str s,.ref q])) (hq:TAt H q u) (hd:u.dp<n) (k:∀y H',Same H H'→CNew a H H' y t→R (.ref y) H')
 (mk:∀x dx p y H',H' x=some (.ins C dx [("shape",.ref p),("inner",.ref y)])→TAt H' p t→CondAt a H' y u→CondAt a H' x t) (x dx:Addr) (nx:H x=none) (nd:H dx=none) (ne:dx≠x) :
 spWI K a n [.ref x,.ref p] (upd (upd H dx (.own x)) x (.ins C dx [])) (fun v H2=>v=.non∧R (.ref x) H2) E:=by
 have s1:=made_same (C:=C) nx nd
 refine ⟨x,dx,C,p,s,q,u,rfl,c,n1,n2,upd_same,s1 _ _ e,hq.mono s1,hd,fun y H' kp ex cn=>⟨rfl,?_⟩⟩
 have s2:Same H H':=fun c o z=>kp c o (ne_of_none z nx) (s1 _ _ z)
 refine k x H' s2 fun H'' kk=>mk x dx p y H'' (kk x _ ex (.inl nx)) (tt.nin fun c o z w=>kk c o (s2 _ _ z) (.inr w)) (cn H'' fun c o z w=>kk c o z (w.imp s1.free id))
theorem new_join {K:PySem.W.Frag} {a:Adr} {n:Nat} {t u v:Tr} {C:Addr} {s:Str} {H:Hp} {p q r:Addr} {R:VK} {E:XK} (c:Cls K C) (n1:NoAttr K C "shape") (n2:NoAttr K C "one") (n3:NoAttr K C "other") (tt:TAt H p t) (e:H p=some (.tup [.str s,.ref q,.ref r])) (hq:TAt H q u) (hr:TAt H r v) (hd:u.dp<n) (hd2:v.dp<n) (k:∀y H',Same H H'→CNew a H H' y t→R (.ref y) H')
 (mk:∀x dx p y z H',H' x=some (.ins C dx [("shape",.ref p),("one",.ref y),("other",.ref z)])→TAt H' p t→CondAt a H' y u→CondAt a H' z v→CondAt a H' x t) (x dx:Addr) (nx:H x=none) (nd:H dx=none) (ne:dx≠x) :
 spJI K a n [.ref x,.ref p] (upd (upd H dx (.own x)) x (.ins C dx [])) (fun v H2=>v=.non∧R (.ref x) H2) E:=by
 have s1:=made_same (C:=C) nx nd
 refine ⟨x,dx,C,p,s,q,u,r,v,rfl,c,n1,n2,n3,upd_same,s1 _ _ e,hq.mono s1,hr.mono s1,hd,hd2,fun y z H' kp ex cn cn2=>⟨rfl,?_⟩⟩
 have s2:Same H H':=fun c o z=>kp c o (ne_of_none z nx) (s1 _ _ z)
 refine k x H' s2 fun H'' kk=>mk x dx p y z H'' (kk x _ ex (.inl nx)) (tt.nin fun c o z w=>kk c o (s2 _ _ z) (.inr w)) (cn H'' fun c o z w=>kk c o z (w.imp s1.free id)) (cn2 H'' fun c o z w=>kk c o z (w.imp s1.free id))
section
variable {P : Program} {w : World} {K : PySem.W.Frag} {mg : Str → Option Value} {base : Heap} {a : Adr}
theorem ok_ci {fd:FuncData} (F:Fun K "__init__" "Condition.__init__" sCondition_init a.f_Condition_init fd) (T:Txt K mg a):FnOk P w K mg base CX0 1 a.f_Condition_init fd ["self","tree"] (spCI K):=by
 refine F.ok sc_Condition_init (fun vs H Q E h=>?_) (fun cdv A outer s H vs Q E hr h=>?_)
 ·obtain ⟨x,dx,C,p,rfl,_⟩:=h;rfl
 ·obtain ⟨x,dx,C,p,rfl,c,n,e,k⟩:=h
  exact ⟨_,(pss_one (ps_fld (pv 0) (pv 1) rfl)),⟨_,rfl,_,rfl,x,_,dx,_,rfl,e,c,n,(by show 0<1000;decide),k⟩⟩
theorem ok_wi {fd fdc:FuncData} {n:Nat} (F:Fun K "__init__" "Wrapped.__init__" sWrapped_init a.f_Wrapped_init fd) (T:Txt K mg a) (FF:Funs K a) (F_co:Fun K "condition_of" "condition_of" scondition_of a.f_condition_of fdc) (b_co:Binds K fdc ["tree"] []) (G_co:FnOk P w K mg base CX0 (3*n+3) a.f_condition_of fdc ["tree"] (spCond a n)):FnOk P w K mg base CX0 (3*n+4) a.f_Wrapped_init fd ["self","tree"] (spWI K a n):=by
 obtain ⟨fdA,F_C,b_C⟩:=FF.F_Condition_init
 have G_C:FnOk P w K mg base CX0 1 a.f_Condition_init fdA ["self","tree"] (spCI K):=ok_ci F_C T
 refine F.ok sc_Wrapped_init (fun vs H Q E h=>?_) (fun cdv A outer st H vs Q E hr h=>?_)
 ·obtain ⟨x,dx,C,p,s,q,u,rfl,_⟩:=h;rfl
 ·obtain ⟨x,dx,C,p,s,q,u,rfl,c,n1,n2,ex,ep,hq,hd,k⟩:=h
  have hr_co:Room (3*n+3) _:=hr
  have hr_C:Room 1 _:=hr_co.mono (by omega)
  refine ⟨_,(pss_cons (ps_expr (pe_clsfn rfl T.mc_Condition T.cf_Condition_init G_C hr_C b_C (pac (pv 0) (pac (pv 1) pa_nil))))
   (pss_one (ps_fld (pv 0) (pe_call G_co hr_co rfl T.m_condition_of F_co.kp b_co .nil pass0 (pac (pe_ix ix_tup (pv 1) pe_int (fun _ _=>rfl)) pa_nil)) rfl))),?_⟩
  refine ⟨_,rfl,_,rfl,x,dx,C,_,rfl,c,n1,ex,?_⟩
  have kp1:∀b o,b≠x→H b=some o→(upd H x (.ins C dx [("shape",.ref p)])) b=some o:=fun b o z e=>by rw [upd_ne z];exact e
  have kn1:∀b o,H b=some o→nIns o=true→(upd H x (.ins C dx [("shape",.ref p)])) b=some o:=fun b o e z=>kp1 b o (fun y=>by rw [y,ex] at e;cases e;cases z) e
  have ex1:(upd H x (.ins C dx [("shape",.ref p)])) x=some (.ins C dx [("shape",.ref p)]):=upd_same
  generalize upd H x (.ins C dx [("shape",.ref p)])=H1 at kp1 kn1 ex1 ⊢
  refine ⟨_,rfl,p,_,_,_,rfl,rfl,SqT.of (kn1 _ _ ep rfl),rfl,q,u,rfl,hq.nin kn1,hd,fun y H2 s2 cn=>?_⟩
  have ex2:=s2 _ _ ex1
  refine ⟨_,rfl,x,_,dx,_,rfl,ex2,c,n2,(by show 1<1000;decide),?_⟩
  refine k y _ (fun b o z e=>by rw [upd_ne z];exact s2 _ _ (kp1 b o z e)) upd_same ?_
  refine (cn.fwd (x:=x) (H2:=upd H2 x _) (fun b o z e=>by rw [upd_ne z];exact e) (fun o z=>by rw [ex2] at z;cases z;rfl) (by rw [ex1];exact fun z=>nomatch z)).back fun b e=>?_
  cases z:H b with
  | none=>rfl
  | some o =>
    have bx:b≠x:=fun y=>by rw [y,ex1] at e;cases e
    rw [kp1 b o bx z] at e;cases e
theorem ok_ji {fd fdc:FuncData} {n:Nat} (F:Fun K "__init__" "Joined.__init__" sJoined_init a.f_Joined_init fd) (T:Txt K mg a) (FF:Funs K a) (F_co:Fun K "condition_of" "condition_of" scondition_of a.f_condition_of fdc) (b_co:Binds K fdc ["tree"] []) (G_co:FnOk P w K mg base CX0 (3*n+3) a.f_condition_of fdc ["tree"] (spCond a n)):FnOk P w K mg base CX0 (3*n+4) a.f_Joined_init fd ["self","tree"] (spJI K a n):=by
 obtain ⟨fdA,F_C,b_C⟩:=FF.F_Condition_init
 have G_C:FnOk P w K mg base CX0 1 a.f_Condition_init fdA ["self","tree"] (spCI K):=ok_ci F_C T
 refine F.ok sc_Joined_init (fun vs H Q E h=>?_) (fun cdv A outer st H vs Q E hr h=>?_)
 ·obtain ⟨x,dx,C,p,s,q,u,r,v,rfl,_⟩:=h;rfl
 ·obtain ⟨x,dx,C,p,s,q,u,r,v,rfl,c,n1,n2,n3,ex,ep,hq,hr2,hd,hd2,k⟩:=h
  have hr_co:Room (3*n+3) _:=hr
  have hr_C:Room 1 _:=hr_co.mono (by omega)
  refine ⟨_,(pss_cons (ps_expr (pe_clsfn rfl T.mc_Condition T.cf_Condition_init G_C hr_C b_C (pac (pv 0) (pac (pv 1) pa_nil))))
   (pss_cons (ps_fld (pv 0) (pe_call G_co hr_co rfl T.m_condition_of F_co.kp b_co .nil pass0 (pac (pe_ix ix_tup (pv 1) pe_int (fun _ _=>rfl)) pa_nil)) rfl)
   (pss_one (ps_fld (pv 0) (pe_call G_co hr_co rfl T.m_condition_of F_co.kp b_co .nil pass0 (pac (pe_ix ix_tup (pv 1) pe_int (fun _ _=>rfl)) pa_nil)) rfl)))),?_⟩
  refine ⟨_,rfl,_,rfl,x,dx,C,_,rfl,c,n1,ex,?_⟩
  have kp1:∀b o,b≠x→H b=some o→(upd H x (.ins C dx [("shape",.ref p)])) b=some o:=fun b o z e=>by rw [upd_ne z];exact e
  have kn1:∀b o,H b=some o→nIns o=true→(upd H x (.ins C dx [("shape",.ref p)])) b=some o:=fun b o e z=>kp1 b o (fun y=>by rw [y,ex] at e;cases e;cases z) e
  have ex1:(upd H x (.ins C dx [("shape",.ref p)])) x=some (.ins C dx [("shape",.ref p)]):=upd_same
  generalize upd H x (.ins C dx [("shape",.ref p)])=H1 at kp1 kn1 ex1 ⊢
  have fr1:∀b,H1 b=none→H b=none:=fun b e=>by
   cases z:H b with
   | none=>rfl
   | some o =>
     have bx:b≠x:=fun y=>by rw [y,ex1] at e;cases e
     rw [kp1 b o bx z] at e;cases e
  refine ⟨_,rfl,p,_,_,_,rfl,rfl,SqT.of (kn1 _ _ ep rfl),rfl,q,u,rfl,hq.nin kn1,hd,fun y H2 s2 cn=>?_⟩
  have ex2:=s2 _ _ ex1
  refine ⟨_,rfl,x,_,dx,_,rfl,ex2,c,n2,(by show 1<1000;decide),?_⟩
  have kp3:∀b o,b≠x→H2 b=some o→(upd H2 x (.ins C dx (putF "one" (.ref y) [("shape",.ref p)]))) b=some o:=fun b o z e=>by rw [upd_ne z];exact e
  have kn3:∀b o,H2 b=some o→nIns o=true→(upd H2 x (.ins C dx (putF "one" (.ref y) [("shape",.ref p)]))) b=some o:=fun b o e z=>kp3 b o (fun y=>by rw [y,ex2] at e;cases e;cases z) e
  have ex3:(upd H2 x (.ins C dx (putF "one" (.ref y) [("shape",.ref p)]))) x=some (.ins C dx [("shape",.ref p),("one",.ref y)]):=upd_same
  generalize upd H2 x (.ins C dx (putF "one" (.ref y) [("shape",.ref p)]))=H3 at kp3 kn3 ex3 ⊢
  have cn3:CNew a H1 H3 y u:=cn.fwd (x:=x) kp3 (fun o z=>by rw [ex2] at z;cases z;rfl) (by rw [ex1];exact fun z=>nomatch z)
  have kn13:∀b o,H b=some o→nIns o=true→H3 b=some o:=fun b o e z=>kn3 b o (s2 _ _ (kn1 b o e z)) z
  refine ⟨_,rfl,p,_,_,_,rfl,rfl,SqT.of (kn13 _ _ ep rfl),rfl,r,v,rfl,hr2.nin kn13,hd2,fun y2 H4 s4 cn4=>?_⟩
  have ex4:=s4 _ _ ex3
  refine ⟨_,rfl,x,_,dx,_,rfl,ex4,c,n3,(by show 2<1000;decide),?_⟩
  refine k y y2 _ (fun b o z e=>by rw [upd_ne z];exact s4 _ _ (kp3 b o z (s2 _ _ (kp1 b o z e)))) upd_same ?_ ?_
  ·refine CNew.back (H1:=H1) ?_ fr1
   have c4:CNew a H1 H4 y u:=fun H'' kk=>cn3 H'' fun c o e z=>kk c o (s4 _ _ e) z
   exact c4.fwd (x:=x) (fun b o z e=>by rw [upd_ne z];exact e) (fun o z=>by rw [ex4] at z;cases z;rfl) (by rw [ex1];exact fun z=>nomatch z)
  ·refine CNew.back (H1:=H3) (cn4.fwd (x:=x) (fun b o z e=>by rw [upd_ne z];exact e) (fun o z=>by rw [ex4] at z;cases z;rfl) (by rw [ex3];exact fun z=>nomatch z)) fun b e=>?_
   have bx:b≠x:=fun y=>by rw [y,ex3] at e;cases e
   cases z:H b with
   | none=>rfl
   | some o=>rw [kp3 b o bx (s2 _ _ (kp1 b o bx z))] at e;cases e
theorem ok_co {fd:FuncData} (F:Fun K "condition_of" "condition_of" scondition_of a.f_condition_of fd) (b_co:Binds K fd ["tree"] []) (T:Txt K mg a) (FF:Funs K a):∀n,FnOk P w K mg base CX0 (3*n+3) a.f_condition_of fd ["tree"] (spCond a n)
 | 0=>by
   refine F.ok sc_condition_of (fun vs H Q E h=>?_) (fun cdv A outer st H vs Q E hr h=>?_)
   ·obtain ⟨p,t,rfl,_⟩:=h;rfl
   ·obtain ⟨p,t,_,_,h,_⟩:=h;exact absurd h (Nat.not_lt_zero _)
 | n+1=>by
   have G:=ok_co F b_co T FF n
   obtain ⟨fdA,F_C,b_C⟩:=FF.F_Condition_init
   have G_C:FnOk P w K mg base CX0 1 a.f_Condition_init fdA ["self","tree"] (spCI K):=ok_ci F_C T
   obtain ⟨fdB,F_W,b_W⟩:=FF.F_Wrapped_init
   have G_W:FnOk P w K mg base CX0 (3*n+4) a.f_Wrapped_init fdB ["self","tree"] (spWI K a n):=ok_wi F_W T FF F b_co G
   obtain ⟨fdJ,F_J,b_J⟩:=FF.F_Joined_init
   have G_J:FnOk P w K mg base CX0 (3*n+4) a.f_Joined_init fdJ ["self","tree"] (spJI K a n):=ok_ji F_J T FF F b_co G
   refine F.ok sc_condition_of (fun vs H Q E h=>?_) (fun cdv A outer st H vs Q E hr h=>?_)
   ·obtain ⟨p,t,rfl,_⟩:=h;rfl
   obtain ⟨p,t,rfl,tt,hd,k⟩:=h
   have hr_W:Room (3*n+4+1) _:=hr
   have hr_J:=hr_W
   have hr_C:Room (1+1) _:=hr_W.mono (by omega)
   refine ⟨_,(pss_cons (ps_set (i:=1) sc_condition_of.nd rfl (Or.inl rfl) (pe_ix ix_tup (pv 0) pe_int (fun _ _=>rfl)))
    (pss_cons (ps_if (pt_cmpR op_eq (pv 1) pe_str (nomark _)) (pss_one (ps_ret (pe_make T.k_Always G_C hr_C rfl T.mc_Always b_C .nil pass0 (pac (pv 0) pa_nil)))) pss_nil)
    (pss_cons (ps_if (pt_cmpR op_eq (pv 1) pe_str (nomark _)) (pss_one (ps_ret (pe_make T.k_HasWord G_C hr_C rfl T.mc_HasWord b_C .nil pass0 (pac (pv 0) pa_nil)))) pss_nil)
    (pss_cons (ps_if (pt_cmpR op_eq (pv 1) pe_str (nomark _)) (pss_one (ps_ret (pe_make T.k_HasTitleWord G_C hr_C rfl T.mc_HasTitleWord b_C .nil pass0 (pac (pv 0) pa_nil)))) pss_nil)
    (pss_cons (ps_if (pt_cmpR op_eq (pv 1) pe_str (nomark _)) (pss_one (ps_ret (pe_make T.k_IsFrom G_C hr_C rfl T.mc_IsFrom b_C .nil pass0 (pac (pv 0) pa_nil)))) pss_nil)
    (pss_cons (ps_if (pt_cmpR op_eq (pv 1) pe_str (nomark _)) (pss_one (ps_ret (pe_make T.k_IsOfDays G_C hr_C rfl T.mc_IsOfDays b_C .nil pass0 (pac (pv 0) pa_nil)))) pss_nil)
    (pss_cons (ps_if (pt_cmpR op_eq (pv 1) pe_str (nomark _)) (pss_one (ps_ret (pe_make T.k_IsIn G_C hr_C rfl T.mc_IsIn b_C .nil pass0 (pac (pv 0) pa_nil)))) pss_nil)
    (pss_cons (ps_if (pt_cmpR op_eq (pv 1) pe_str (nomark _)) (pss_one (ps_ret (pe_make T.k_IsMarked G_C hr_C rfl T.mc_IsMarked b_C .nil pass0 (pac (pv 0) pa_nil)))) pss_nil)
    (pss_cons (ps_if (pt_cmpR op_eq (pv 1) pe_str (nomark _)) (pss_one (ps_ret (pe_make T.k_DoesAnswer G_C hr_C rfl T.mc_DoesAnswer b_C .nil pass0 (pac (pv 0) pa_nil)))) pss_nil)
    (pss_cons (ps_if (pt_cmpR op_eq (pv 1) pe_str (nomark _)) (pss_one (ps_ret (pe_make T.k_Not G_W hr_W rfl T.mc_Not b_W .nil pass0 (pac (pv 0) pa_nil)))) pss_nil)
    (pss_cons (ps_if (pt_cmpR op_eq (pv 1) pe_str (nomark _)) (pss_one (ps_ret (pe_make T.k_Both G_J hr_J rfl T.mc_Both b_J .nil pass0 (pac (pv 0) pa_nil)))) pss_nil)
    (pss_cons (ps_if (pt_cmpR op_eq (pv 1) pe_str (nomark _)) (pss_one (ps_ret (pe_make T.k_Either G_J hr_J rfl T.mc_Either b_J .nil pass0 (pac (pv 0) pa_nil)))) pss_nil)
    (pss_cons (ps_if (pt_cmpR op_eq (pv 1) pe_str (nomark _)) (pss_one (ps_ret (pe_make T.k_InThread G_W hr_W rfl T.mc_InThread b_W .nil pass0 (pac (pv 0) pa_nil)))) pss_nil)
    pss_never))))))))))))),?_⟩
   have tt':=tt
   cases tt' with
   | any e =>
     refine ⟨_,rfl,p,_,_,_,rfl,rfl,SqT.of e,rfl,?_⟩
     refine ⟨_,rfl,rfl,_,rfl,hitS ?_⟩
     exact ⟨_,rfl,new_leaf (a:=a) (t:=.any) T.c_Always T.n_Always_shape rfl tt k⟩
   | word e hw =>
     refine ⟨_,rfl,p,_,_,_,rfl,rfl,SqT.of e,rfl,?_⟩
     refine ⟨_,rfl,rfl,_,rfl,skS (by decide +kernel) ?_⟩
     refine ⟨_,rfl,rfl,_,rfl,hitS ?_⟩
     exact ⟨_,rfl,new_leaf (a:=a) (t:=.word _) T.c_HasWord T.n_HasWord_shape rfl tt k⟩
   | title e hw =>
     refine ⟨_,rfl,p,_,_,_,rfl,rfl,SqT.of e,rfl,?_⟩
     refine ⟨_,rfl,rfl,_,rfl,skS (by decide +kernel) ?_⟩
     refine ⟨_,rfl,rfl,_,rfl,skS (by decide +kernel) ?_⟩
     refine ⟨_,rfl,rfl,_,rfl,hitS ?_⟩
     exact ⟨_,rfl,new_leaf (a:=a) (t:=.title _) T.c_HasTitleWord T.n_HasTitleWord_shape rfl tt k⟩
   | frm e hw =>
     refine ⟨_,rfl,p,_,_,_,rfl,rfl,SqT.of e,rfl,?_⟩
     refine ⟨_,rfl,rfl,_,rfl,skS (by decide +kernel) ?_⟩
     refine ⟨_,rfl,rfl,_,rfl,skS (by decide +kernel) ?_⟩
     refine ⟨_,rfl,rfl,_,rfl,skS (by decide +kernel) ?_⟩
     refine ⟨_,rfl,rfl,_,rfl,hitS ?_⟩
     exact ⟨_,rfl,new_leaf (a:=a) (t:=.frm _) T.c_IsFrom T.n_IsFrom_shape rfl tt k⟩
   | days e hb =>
     refine ⟨_,rfl,p,_,_,_,rfl,rfl,SqT.of e,rfl,?_⟩
     refine ⟨_,rfl,rfl,_,rfl,skS (by decide +kernel) ?_⟩
     refine ⟨_,rfl,rfl,_,rfl,skS (by decide +kernel) ?_⟩
     refine ⟨_,rfl,rfl,_,rfl,skS (by decide +kernel) ?_⟩
     refine ⟨_,rfl,rfl,_,rfl,skS (by decide +kernel) ?_⟩
     refine ⟨_,rfl,rfl,_,rfl,hitS ?_⟩
     exact ⟨_,rfl,new_leaf (a:=a) (t:=.days _ _) T.c_IsOfDays T.n_IsOfDays_shape rfl tt k⟩
   | inn e hw =>
     refine ⟨_,rfl,p,_,_,_,rfl,rfl,SqT.of e,rfl,?_⟩
     refine ⟨_,rfl,rfl,_,rfl,skS (by decide +kernel) ?_⟩
     refine ⟨_,rfl,rfl,_,rfl,skS (by decide +kernel) ?_⟩
     refine ⟨_,rfl,rfl,_,rfl,skS (by decide +kernel) ?_⟩
     refine ⟨_,rfl,rfl,_,rfl,skS (by decide +kernel) ?_⟩
     refine ⟨_,rfl,rfl,_,rfl,skS (by decide +kernel) ?_⟩
     refine ⟨_,rfl,rfl,_,rfl,hitS ?_⟩
     exact ⟨_,rfl,new_leaf (a:=a) (t:=.inn _) T.c_IsIn T.n_IsIn_shape rfl tt k⟩
   | mrk e hw =>
     refine ⟨_,rfl,p,_,_,_,rfl,rfl,SqT.of e,rfl,?_⟩
     refine ⟨_,rfl,rfl,_,rfl,skS (by decide +kernel) ?_⟩
     refine ⟨_,rfl,rfl,_,rfl,skS (by decide +kernel) ?_⟩
     refine ⟨_,rfl,rfl,_,rfl,skS (by decide +kernel) ?_⟩
     refine ⟨_,rfl,rfl,_,rfl,skS (by decide +kernel) ?_⟩
     refine ⟨_,rfl,rfl,_,rfl,skS (by decide +kernel) ?_⟩
     refine ⟨_,rfl,rfl,_,rfl,skS (by decide +kernel) ?_⟩
     refine ⟨_,rfl,rfl,_,rfl,hitS ?_⟩
     exact ⟨_,rfl,new_leaf (a:=a) (t:=.mrk _) T.c_IsMarked T.n_IsMarked_shape rfl tt k⟩
   | ans e =>
     refine ⟨_,rfl,p,_,_,_,rfl,rfl,SqT.of e,rfl,?_⟩
     refine ⟨_,rfl,rfl,_,rfl,skS (by decide +kernel) ?_⟩
     refine ⟨_,rfl,rfl,_,rfl,skS (by decide +kernel) ?_⟩
     refine ⟨_,rfl,rfl,_,rfl,skS (by decide +kernel) ?_⟩
     refine ⟨_,rfl,rfl,_,rfl,skS (by decide +kernel) ?_⟩
     refine ⟨_,rfl,rfl,_,rfl,skS (by decide +kernel) ?_⟩
     refine ⟨_,rfl,rfl,_,rfl,skS (by decide +kernel) ?_⟩
     refine ⟨_,rfl,rfl,_,rfl,skS (by decide +kernel) ?_⟩
     refine ⟨_,rfl,rfl,_,rfl,hitS ?_⟩
     exact ⟨_,rfl,new_leaf (a:=a) (t:=.ans) T.c_DoesAnswer T.n_DoesAnswer_shape rfl tt k⟩
   | nt e hq =>
     refine ⟨_,rfl,p,_,_,_,rfl,rfl,SqT.of e,rfl,?_⟩
     refine ⟨_,rfl,rfl,_,rfl,skS (by decide +kernel) ?_⟩
     refine ⟨_,rfl,rfl,_,rfl,skS (by decide +kernel) ?_⟩
     refine ⟨_,rfl,rfl,_,rfl,skS (by decide +kernel) ?_⟩
     refine ⟨_,rfl,rfl,_,rfl,skS (by decide +kernel) ?_⟩
     refine ⟨_,rfl,rfl,_,rfl,skS (by decide +kernel) ?_⟩
     refine ⟨_,rfl,rfl,_,rfl,skS (by decide +kernel) ?_⟩
     refine ⟨_,rfl,rfl,_,rfl,skS (by decide +kernel) ?_⟩
     refine ⟨_,rfl,rfl,_,rfl,skS (by decide +kernel) ?_⟩
     refine ⟨_,rfl,rfl,_,rfl,hitS ?_⟩
     exact ⟨_,rfl,new_wrap (a:=a) (n:=n) T.c_Not T.n_Not_shape T.n_Not_inner tt e hq (by simp only [Tr.dp] at hd;omega) k fun x dx p' y H' h1 h2 h3=>.nt h1 h2 h3⟩
   | bth e hq hr2 =>
     refine ⟨_,rfl,p,_,_,_,rfl,rfl,SqT.of e,rfl,?_⟩
     refine ⟨_,rfl,rfl,_,rfl,skS (by decide +kernel) ?_⟩
     refine ⟨_,rfl,rfl,_,rfl,skS (by decide +kernel) ?_⟩
     refine ⟨_,rfl,rfl,_,rfl,skS (by decide +kernel) ?_⟩
     refine ⟨_,rfl,rfl,_,rfl,skS (by decide +kernel) ?_⟩
     refine ⟨_,rfl,rfl,_,rfl,skS (by decide +kernel) ?_⟩
     refine ⟨_,rfl,rfl,_,rfl,skS (by decide +kernel) ?_⟩
     refine ⟨_,rfl,rfl,_,rfl,skS (by decide +kernel) ?_⟩
     refine ⟨_,rfl,rfl,_,rfl,skS (by decide +kernel) ?_⟩
     refine ⟨_,rfl,rfl,_,rfl,skS (by decide +kernel) ?_⟩
     refine ⟨_,rfl,rfl,_,rfl,hitS ?_⟩
     exact ⟨_,rfl,new_join (a:=a) (n:=n) T.c_Both T.n_Both_shape T.n_Both_one T.n_Both_other tt e hq hr2 (by simp only [Tr.dp] at hd;omega) (by simp only [Tr.dp] at hd;omega) k fun x dx p' y z H' h1 h2 h3 h4=>.bth h1 h2 h3 h4⟩
   | eth e hq hr2 =>
     refine ⟨_,rfl,p,_,_,_,rfl,rfl,SqT.of e,rfl,?_⟩
     refine ⟨_,rfl,rfl,_,rfl,skS (by decide +kernel) ?_⟩
     refine ⟨_,rfl,rfl,_,rfl,skS (by decide +kernel) ?_⟩
     refine ⟨_,rfl,rfl,_,rfl,skS (by decide +kernel) ?_⟩
     refine ⟨_,rfl,rfl,_,rfl,skS (by decide +kernel) ?_⟩
     refine ⟨_,rfl,rfl,_,rfl,skS (by decide +kernel) ?_⟩
     refine ⟨_,rfl,rfl,_,rfl,skS (by decide +kernel) ?_⟩
     refine ⟨_,rfl,rfl,_,rfl,skS (by decide +kernel) ?_⟩
     refine ⟨_,rfl,rfl,_,rfl,skS (by decide +kernel) ?_⟩
     refine ⟨_,rfl,rfl,_,rfl,skS (by decide +kernel) ?_⟩
     refine ⟨_,rfl,rfl,_,rfl,skS (by decide +kernel) ?_⟩
     refine ⟨_,rfl,rfl,_,rfl,hitS ?_⟩
     exact ⟨_,rfl,new_join (a:=a) (n:=n) T.c_Either T.n_Either_shape T.n_Either_one T.n_Either_other tt e hq hr2 (by simp only [Tr.dp] at hd;omega) (by simp only [Tr.dp] at hd;omega) k fun x dx p' y z H' h1 h2 h3 h4=>.eth h1 h2 h3 h4⟩
   | thr e hq =>
     refine ⟨_,rfl,p,_,_,_,rfl,rfl,SqT.of e,rfl,?_⟩
     refine ⟨_,rfl,rfl,_,rfl,skS (by decide +kernel) ?_⟩
     refine ⟨_,rfl,rfl,_,rfl,skS (by decide +kernel) ?_⟩
     refine ⟨_,rfl,rfl,_,rfl,skS (by decide +kernel) ?_⟩
     refine ⟨_,rfl,rfl,_,rfl,skS (by decide +kernel) ?_⟩
     refine ⟨_,rfl,rfl,_,rfl,skS (by decide +kernel) ?_⟩
     refine ⟨_,rfl,rfl,_,rfl,skS (by decide +kernel) ?_⟩
     refine ⟨_,rfl,rfl,_,rfl,skS (by decide +kernel) ?_⟩
     refine ⟨_,rfl,rfl,_,rfl,skS (by decide +kernel) ?_⟩
     refine ⟨_,rfl,rfl,_,rfl,skS (by decide +kernel) ?_⟩
     refine ⟨_,rfl,rfl,_,rfl,skS (by decide +kernel) ?_⟩
     refine ⟨_,rfl,rfl,_,rfl,skS (by decide +kernel) ?_⟩
     refine ⟨_,rfl,rfl,_,rfl,hitS ?_⟩
     exact ⟨_,rfl,new_wrap (a:=a) (n:=n) T.c_InThread T.n_InThread_shape T.n_InThread_inner tt e hq (by simp only [Tr.dp] at hd;omega) k fun x dx p' y H' h1 h2 h3=>.thr h1 h2 h3⟩
end
def KR (R:Addr) (H H':Hp):Prop:=∀c o,c≠R→H c=some o→H' c=some o
theorem KR.of {R:Addr} {H H':Hp} (h:Same H H'):KR R H H':=fun c o _ e=>h c o e
theorem KR.refl (R:Addr) (H:Hp):KR R H H:=fun _ _ _ e=>e
theorem KR.trans {R:Addr} {H H1 H2:Hp} (a:KR R H H1) (b:KR R H1 H2):KR R H H2:=fun c o n e=>b c o n (a c o n e)
theorem KR.upd {R:Addr} {H H':Hp} {o:HO} (k:KR R H H'):KR R H (upd H' R o):=fun c u n e=>by rw [upd_ne n];exact k c u n e
def PcOk (p:Str):Prop:=p.length≤300000∧∀c∈p.cps.toList,c<1114112
theorem PcOk.rp {p:Str} (h:PcOk p):(reprText p).length≤3000002:=by
 have h1:=PySem.StrLaws.reprText_len p fun c hc=>Nat.lt_trans (h.2 c hc) (by decide)
 have:=h.1
 omega
structure RwAt (a:Adr) (H:Hp) (R:Addr) (row:V):Prop where
 ex:∃(dx:Addr) (v1 v2:V),H R=some (.ins a.C_Reader dx [("pieces",v1),("at",v2),("row",row)])
structure RdAt (a:Adr) (H:Hp) (R:Addr) (row:V) (rs:List Str):Prop where
 ex:∃(dx l:Addr) (ps:List Str) (k:Nat),H R=some (.ins a.C_Reader dx [("pieces",.ref l),("at",.int (k:Int)),("row",row)])∧H l=some (.lst (ps.map V.str))∧ps.drop k=rs∧k≤ps.length∧ps.length≤1000000∧∀p∈ps,PcOk p∧p≠""
theorem RdAt.mono {a:Adr} {H H':Hp} {R:Addr} {row:V} {rs:List Str} (h:RdAt a H R row rs) (s:Same H H'):RdAt a H' R row rs:=by
 obtain ⟨dx,l,ps,k,e1,e2,r⟩:=h.ex
 exact ⟨dx,l,ps,k,s _ _ e1,s _ _ e2,r⟩
theorem RdAt.rw {a:Adr} {H:Hp} {R:Addr} {row:V} {rs:List Str} (h:RdAt a H R row rs):RwAt a H R row:=by
 obtain ⟨dx,l,ps,k,e1,_⟩:=h.ex
 exact ⟨dx,_,_,e1⟩
theorem RwAt.mono {a:Adr} {H H':Hp} {R:Addr} {row:V} (h:RwAt a H R row) (s:Same H H'):RwAt a H' R row:=by
 obtain ⟨dx,v1,v2,e1⟩:=h.ex
 exact ⟨dx,_,_,s _ _ e1⟩
theorem RdAt.pc {a:Adr} {H:Hp} {R:Addr} {row:V} {rs:List Str} (h:RdAt a H R row rs):∀p∈rs,PcOk p∧p≠"":=by
 obtain ⟨dx,l,ps,k,e1,e2,e3,_,_,r⟩:=h.ex
 intro p hp
 rw [←e3] at hp
 exact r p (List.mem_of_mem_drop hp)
theorem TAt.krw {a:Adr} {H H':Hp} {R p:Addr} {t:Tr} {row:V} (h:TAt H p t) (r:RwAt a H R row) (k:KR R H H'):TAt H' p t:=by
 obtain ⟨dx,v1,v2,e1⟩:=r.ex
 exact h.tups fun c xs e=>k c _ (ne_of e e1 (fun z=>nomatch z)) e
theorem TAt.kr {a:Adr} {H H':Hp} {R p:Addr} {t:Tr} {row:V} {rs:List Str} (h:TAt H p t) (r:RdAt a H R row rs) (k:KR R H H'):TAt H' p t:=h.krw r.rw k
def hd1:List Str→Str
 | []=>""
 | p :: _=>p
theorem hd1_ok {rs:List Str} (h:∀p∈rs,PcOk p∧p≠""):PcOk (hd1 rs):=by
 cases rs with
 | nil=>exact ⟨by decide +kernel,fun c hc=>nomatch hc⟩
 | cons p r=>exact (h p List.mem_cons_self).1
def Rfs (a:Adr) (E:XK) (R:Addr) (row:V) (H:Hp):Prop:=∀H' n,KR R H H'→H' n=some (.xd [("row",row)])→E (.ref a.C_NoRule) (some n) H'
theorem Rfs.step {a:Adr} {E:XK} {R:Addr} {row:V} {H H1:Hp} (h:Rfs a E R row H) (k:KR R H H1):Rfs a E R row H1:=fun H' n k1 e=>h H' n (k.trans k1) e
inductive spNR_I (a:Adr) (vs:List V) (H:Hp) (Q:VK):Prop
 | mk:∀e w row,vs=[.ref e,w,row]→H e=some (ExcN a.C_NoRule none e)→(∀n,H n=none→n≠e→Q .non (upd (upd H e (ExcN a.C_NoRule (some n) e)) n (.xd [("row",row)])))→spNR_I a vs H Q
def spNR (a:Adr):Sp:=fun vs H Q _=>spNR_I a vs H Q
section
variable {P : Program} {w : World} {K : PySem.W.Frag} {mg : Str → Option Value} {base : Heap} {a : Adr}
theorem ok_nr {fd:FuncData} (F:FunD K "__init__" "NoRule.__init__" sNoRule_init a.f_NoRule_init fd) (T:Txt K mg a):FnOk P w K mg base CX0 1 a.f_NoRule_init fd ["self","words","row"] (spNR a):=by
 refine F.ok sc_NoRule_init (fun vs H Q E h=>?_) (fun cdv A outer st H vs Q E hr h=>?_)
 ·obtain ⟨e,w,row,rfl,_⟩:=h;rfl
 ·obtain ⟨e,w,row,rfl,he,k⟩:=h
  refine ⟨_,(pss_cons (ps_expr (pe_xinit rfl T.mx_MailError T.ci_MailError (pac (pv 0) (pac (pv 1) pa_nil)))) (pss_one (ps_fldX (pv 0) (pv 2) rfl rfl))),?_⟩
  refine ⟨_,rfl,_,rfl,e,w,_,_,rfl,he,T.xi_NoRule,?_⟩
  exact ⟨_,rfl,_,rfl,e,_,rfl,he,T.xs_NoRule_row,fun n hn hne=>k n hn hne⟩
end
theorem rfs_close {a:Adr} {E:XK} {R:Addr} {row:V} {H0 H1:Hp} {msg:Str} (k:KR R H0 H1) (hR:RwAt a H1 R row) (rf:Rfs a E R row H0) :
 [V.str msg,row].length≤sizeLine∧∀e,H1 e=none→spNR a (.ref e :: [.str msg,row]) (upd H1 e (ExcN a.C_NoRule none e)) (fun v H2=>v=.non∧tRaiseN_I a.C_NoRule H0 E (.ref e) H2) E0:=by
 refine ⟨by show 2≤sizeLine;decide,fun e he=>⟨e,_,_,rfl,upd_same,fun n hn hne=>⟨rfl,e,some n,rfl,?_,?_,?_⟩⟩⟩
 ·rw [upd_ne hne.symm,upd_same]
 ·cases z:H0 e with
  | none=>rfl
  | some o =>
    by_cases y:e=R
    ·obtain ⟨dx,v1,v2,eR⟩:=hR.ex
     rw [←y,he] at eR
     cases eR
    ·have:=k e o y z
     rw [he] at this
     cases this
 ·have hn1:H1 n=none:=by rw [upd_ne hne] at hn;exact hn
  refine rf _ n (fun c o hc ho=>?_) ?_
  ·have h1:=k c o hc ho
   have ce:c≠e:=fun z=>by rw [z,he] at h1;cases h1
   have cn:c≠n:=fun z=>by rw [z,hn1] at h1;cases h1
   rw [drp_ne _ ce,upd_ne cn,upd_ne ce,upd_ne ce]
   exact h1
  ·rw [drp_ne _ hne,upd_same]
inductive spAhead_I (a:Adr) (vs:List V) (H:Hp) (Q:VK):Prop
 | mk:∀R row (rs:List Str),vs=[.ref R]→RdAt a H R row rs→Q (.str (hd1 rs)) H→spAhead_I a vs H Q
def spAhead (a:Adr):Sp:=fun vs H Q _=>spAhead_I a vs H Q
inductive spStep_I (a:Adr) (vs:List V) (H:Hp) (Q:VK):Prop
 | mk:∀R row p rs,vs=[.ref R]→RdAt a H R row (p :: rs)→(∀H',KR R H H'→RdAt a H' R row rs→Q (.str p) H')→spStep_I a vs H Q
 | fin:∀R row,vs=[.ref R]→RdAt a H R row []→(∀H',KR R H H'→RwAt a H' R row→Q (.str "") H')→spStep_I a vs H Q
def spStep (a:Adr):Sp:=fun vs H Q _=>spStep_I a vs H Q
inductive spPass_I (a:Adr) (vs:List V) (H:Hp) (Q:VK):Prop
 | yes:∀R row p rs,vs=[.ref R,.str p]→RdAt a H R row (p :: rs)→(∀H',KR R H H'→RdAt a H' R row rs→Q (.bl true) H')→spPass_I a vs H Q
 | no:∀R row p rs,vs=[.ref R,.str p]→RdAt a H R row rs→hd1 rs≠p→Q (.bl false) H→spPass_I a vs H Q
 | fin:∀R row,vs=[.ref R,.str ""]→RdAt a H R row []→(∀H',KR R H H'→Q (.bl true) H')→spPass_I a vs H Q
def spPass (a:Adr):Sp:=fun vs H Q _=>spPass_I a vs H Q
inductive spExp_I (a:Adr) (vs:List V) (H:Hp) (Q:VK) (E:XK):Prop
 | yes:∀R row p rs,vs=[.ref R,.str p]→RdAt a H R row (p :: rs)→(∀H',KR R H H'→RdAt a H' R row rs→Q .non H')→spExp_I a vs H Q E
 | fin:∀R row,vs=[.ref R,.str ""]→RdAt a H R row []→(∀H',KR R H H'→Q .non H')→spExp_I a vs H Q E
 | no:∀R row p rs,vs=[.ref R,.str p]→RdAt a H R row rs→hd1 rs≠p→PcOk p→Rfs a E R row H→spExp_I a vs H Q E
def spExp (a:Adr):Sp:=fun vs H Q E=>spExp_I a vs H Q E
theorem RdAt.go {a:Adr} {H:Hp} {R dx l:Addr} {ps:List Str} {k:Nat} {row:V} {p:Str} {rs:List Str} (eR:H R=some (.ins a.C_Reader dx [("pieces",.ref l),("at",.int (k:Int)),("row",row)])) (el:H l=some (.lst (ps.map V.str))) (hd:ps.drop k=p :: rs) (hn:k≤ps.length) (hl:ps.length≤1000000) (hp:∀p∈ps,PcOk p∧p≠"") :
 RdAt a (upd H R (.ins a.C_Reader dx (putF "at" (.int ((k:Int)+1)) [("pieces",.ref l),("at",.int (k:Int)),("row",row)]))) R row rs:=by
 have hlt:k<ps.length:=by
  have e:=congrArg List.length hd
  rw [List.length_drop,List.length_cons] at e
  omega
 refine ⟨dx,l,ps,k+1,?_,?_,?_,hlt,hl,hp⟩
 ·rw [upd_same];rfl
 ·rw [upd_ne (ne_of el eR (fun z=>nomatch z))];exact el
 ·have e:=congrArg (List.drop 1) hd
  rw [List.drop_drop] at e
  exact e
section
variable {P : Program} {w : World} {K : PySem.W.Frag} {mg : Str → Option Value} {base : Heap} {a : Adr}
theorem ok_ahead {fd:FuncData} (F:Fun K "ahead" "Reader.ahead" sReader_ahead a.f_Reader_ahead fd) (T:Txt K mg a):FnOk P w K mg base CX0 1 a.f_Reader_ahead fd ["self"] (spAhead a):=by
 refine F.ok sc_Reader_ahead (fun vs H Q E h=>?_) (fun cdv A outer st H vs Q E hr h=>?_)
 ·obtain ⟨R,row,rs,rfl,_⟩:=h;rfl
 ·obtain ⟨R,row,rs,rfl,hR,k⟩:=h
  obtain ⟨dx,l,ps,n,eR,el,hd,hn,hl,_⟩:=hR.ex
  refine ⟨_,(pss_one (ps_ret (pe_ifExp (pt_cmpR op_lt (pe_fld (pv 0) rfl) (pe_callB call_len_seq rfl T.b_len PySem.boot_len (pac (pe_fld (pv 0) rfl) pa_nil)) (nomark _)) (pe_ix ix_list (pe_fld (pv 0) rfl) (pe_fld (pv 0) rfl) (fun _ _=>rfl)) (pe_gl rfl T.g_END)))),?_⟩
  refine ⟨_,rfl,R,_,dx,_,_,rfl,eR,T.c_Reader,T.n_Reader_at,rfl,_,rfl,R,_,dx,_,_,rfl,eR,T.c_Reader,T.n_Reader_pieces,rfl,l,_,rfl,.inl (SqL.of el),_,_,rfl,rfl,_,rfl,?_⟩
  rw [List.length_map]
  cases rs with
  | nil =>
    have:¬((n:Int)<(ps.length:Int)):=fun z=>by
     have e:=congrArg List.length hd
     rw [List.length_drop,List.length_nil] at e
     omega
    rw [decide_eq_false this]
    exact iteF k
  | cons p r =>
    have hlt:n<ps.length:=by
     have e:=congrArg List.length hd
     rw [List.length_drop,List.length_cons] at e
     omega
    have hp:ps[n]?=some p:=by
     have e:=congrArg (fun z:List Str=>z[0]?) hd
     rw [List.getElem?_drop,Nat.add_zero] at e
     exact e
    rw [decide_eq_true (by omega)]
    exact iteT ⟨_,rfl,R,_,dx,_,_,rfl,eR,T.c_Reader,T.n_Reader_pieces,rfl,_,rfl,R,_,dx,_,_,rfl,eR,T.c_Reader,T.n_Reader_at,rfl,l,_,_,V.str p,rfl,rfl,SqL.of el,atI_nat (by rw [List.getElem?_map,hp];rfl),k⟩
theorem ok_step {fd:FuncData} (F:Fun K "step" "Reader.step" sReader_step a.f_Reader_step fd) (T:Txt K mg a) (FF:Funs K a):FnOk P w K mg base CX0 2 a.f_Reader_step fd ["self"] (spStep a):=by
 obtain ⟨fd1,F1,b_Reader_ahead⟩:=FF.F_Reader_ahead
 have G_Reader_ahead:FnOk P w K mg base CX0 1 a.f_Reader_ahead fd1 ["self"] (spAhead a):=ok_ahead F1 T
 refine F.ok sc_Reader_step (fun vs H Q E h=>?_) (fun cdv A outer st H vs Q E hr h=>?_)
 ·cases h with
  | mk R row p rs e=>rw [e];rfl
  | fin R row e=>rw [e];rfl
 ·have hr_Reader_ahead:Room 1 _:=hr
  refine ⟨_,(pss_cons (ps_set (i:=1) sc_Reader_step.nd rfl (Or.inl rfl) (pe_meth0 (pv 0) T.c_Reader T.M_Reader_ahead G_Reader_ahead hr_Reader_ahead b_Reader_ahead .nil pass0))
   (pss_cons (ps_fldaug (pv 0) pe_int in_add) (pss_one (ps_ret (pv 1))))),?_⟩
  cases h with
  | mk R row p rs e hR k =>
    subst e
    obtain ⟨dx,l,ps,n,eR,el,hd,hn,hl,hp⟩:=id hR.ex
    refine ⟨_,rfl,R,dx,_,rfl,eR,rfl,R,row,_,rfl,hR,?_⟩
    refine ⟨_,rfl,R,_,dx,_,_,rfl,eR,T.c_Reader,T.n_Reader_at,rfl,_,_,rfl,rfl,dx,_,eR,(by show 3<1000;decide),?_⟩
    exact ⟨_,rfl,k _ (KR.refl R H).upd (RdAt.go eR el hd hn hl hp)⟩
  | fin R row e hR k =>
    subst e
    obtain ⟨dx,l,ps,n,eR,el,hd,hn,hl,hp⟩:=id hR.ex
    refine ⟨_,rfl,R,dx,_,rfl,eR,rfl,R,row,_,rfl,hR,?_⟩
    refine ⟨_,rfl,R,_,dx,_,_,rfl,eR,T.c_Reader,T.n_Reader_at,rfl,_,_,rfl,rfl,dx,_,eR,(by show 3<1000;decide),?_⟩
    exact ⟨_,rfl,k _ (KR.refl R H).upd ⟨dx,_,_,upd_same⟩⟩
theorem ok_pass {fd:FuncData} (F:Fun K "passes" "Reader.passes" sReader_passes a.f_Reader_passes fd) (T:Txt K mg a) (FF:Funs K a):FnOk P w K mg base CX0 2 a.f_Reader_passes fd ["self","wanted"] (spPass a):=by
 obtain ⟨fd1,F1,b_Reader_ahead⟩:=FF.F_Reader_ahead
 have G_Reader_ahead:FnOk P w K mg base CX0 1 a.f_Reader_ahead fd1 ["self"] (spAhead a):=ok_ahead F1 T
 refine F.ok sc_Reader_passes (fun vs H Q E h=>?_) (fun cdv A outer st H vs Q E hr h=>?_)
 ·cases h with
  | yes R row p rs e=>rw [e];rfl
  | no R row p rs e=>rw [e];rfl
  | fin R row e=>rw [e];rfl
 ·have hr_Reader_ahead:Room 1 _:=hr
  refine ⟨_,(pss_cons (ps_if (pt_cmpR op_ne (pe_meth0 (pv 0) T.c_Reader T.M_Reader_ahead G_Reader_ahead hr_Reader_ahead b_Reader_ahead .nil pass0) (pv 1) (nomark _)) (pss_one (ps_ret pe_bl)) pss_nil)
   (pss_cons (ps_fldaug (pv 0) pe_int in_add) (pss_one (ps_ret pe_bl)))),?_⟩
  cases h with
  | yes R row p rs e hR k =>
    subst e
    obtain ⟨dx,l,ps,n,eR,el,hd,hn,hl,hp⟩:=id hR.ex
    refine ⟨_,rfl,R,dx,_,rfl,eR,rfl,R,row,_,rfl,hR,_,rfl,rfl,_,rfl,?_⟩
    rw [str_ne,decide_eq_true (show hd1 (p :: rs)=p from rfl)]
    refine iteF ⟨_,rfl,R,_,dx,_,_,rfl,eR,T.c_Reader,T.n_Reader_at,rfl,_,_,rfl,rfl,dx,_,eR,(by show 3<1000;decide),?_⟩
    exact k _ (KR.refl R H).upd (RdAt.go eR el hd hn hl hp)
  | no R row p rs e hR hne k =>
    subst e
    obtain ⟨dx,l,ps,n,eR,el,hd,hn,hl,hp⟩:=id hR.ex
    refine ⟨_,rfl,R,dx,_,rfl,eR,rfl,R,row,_,rfl,hR,_,rfl,rfl,_,rfl,?_⟩
    rw [str_ne,decide_eq_false hne]
    exact iteT k
  | fin R row e hR k =>
    subst e
    obtain ⟨dx,l,ps,n,eR,el,hd,hn,hl,hp⟩:=id hR.ex
    refine ⟨_,rfl,R,dx,_,rfl,eR,rfl,R,row,_,rfl,hR,_,rfl,rfl,_,rfl,?_⟩
    rw [str_ne,decide_eq_true (show hd1 []=("":Str) from rfl)]
    refine iteF ⟨_,rfl,R,_,dx,_,_,rfl,eR,T.c_Reader,T.n_Reader_at,rfl,_,_,rfl,rfl,dx,_,eR,(by show 3<1000;decide),?_⟩
    exact k _ (KR.refl R H).upd
theorem ok_exp {fd:FuncData} (F:Fun K "expect" "Reader.expect" sReader_expect a.f_Reader_expect fd) (T:Txt K mg a) (FF:Funs K a):FnOk P w K mg base (CXD P w) 3 a.f_Reader_expect fd ["self","wanted"] (spExp a):=by
 obtain ⟨fd1,F1,b_Reader_passes⟩:=FF.F_Reader_passes
 have G_Reader_passes:FnOk P w K mg base CX0 2 a.f_Reader_passes fd1 ["self","wanted"] (spPass a):=ok_pass F1 T FF
 obtain ⟨fd2,F2,b_Reader_ahead⟩:=FF.F_Reader_ahead
 have G_Reader_ahead:FnOk P w K mg base CX0 1 a.f_Reader_ahead fd2 ["self"] (spAhead a):=ok_ahead F2 T
 obtain ⟨fdn,Fn,bn,_⟩:=FF.F_NoRule_init
 have Gn:FnOk P w K mg base CX0 1 a.f_NoRule_init fdn ["self","words","row"] (spNR a):=ok_nr Fn T
 refine F.okXD sc_Reader_expect (fun vs H Q E h=>?_) (fun cdv A outer st H vs Q E hr h=>?_)
 ·cases h with
  | yes R row p rs e=>rw [e];rfl
  | fin R row e=>rw [e];rfl
  | no R row p rs e=>rw [e];rfl
 ·have hr2:Room 2 _:=hr
  have hr1:Room 1 _:=hr2.mono (by decide)
  refine ⟨_,(pss_one (ps_if (pt_not (pt_val (pe_meth (pv 0) T.c_Reader T.M_Reader_passes G_Reader_passes hr2 b_Reader_passes .nil pass0 (pac (pv 1) pa_nil)))) (pss_cons (ps_set (i:=2) sc_Reader_expect.nd rfl (Or.inl rfl) (pe_meth0 (pv 0) T.c_Reader T.M_Reader_ahead G_Reader_ahead hr1 b_Reader_ahead .nil pass0)) (pss_one (ps_raiseN T.xi_NoRule hr.hd (pe_makeN T.xi_NoRule T.M_NoRule_init T.kp_NoRule Gn hr2 rfl T.mx_NoRule bn rfl (pac (pe_fs (pf_cons (pe_fmtR (pv 1)) (pf_cons pe_str (pf_cons (pe_fmtR (pv 2)) pf_nil)))) (pac (pe_fld (pv 0) rfl) pa_nil)))))) pss_nil)),?_⟩
  cases h with
  | yes R row p rs e hR k =>
    subst e
    obtain ⟨dx,l,ps,n,eR,_⟩:=id hR.ex
    exact ⟨_,rfl,R,dx,_,rfl,eR,rfl,_,rfl,.yes R row p rs rfl hR fun H' k1 r1=>⟨_,rfl,iteF (k H' k1 r1)⟩⟩
  | fin R row e hR k =>
    subst e
    obtain ⟨dx,l,ps,n,eR,_⟩:=id hR.ex
    exact ⟨_,rfl,R,dx,_,rfl,eR,rfl,_,rfl,.fin R row rfl hR fun H' k1=>⟨_,rfl,iteF (k H' k1)⟩⟩
  | no R row p rs e hR hne hp rf =>
    subst e
    obtain ⟨dx,l,ps,n,eR,_⟩:=id hR.ex
    have q1:=hp.rp
    have q2:=(hd1_ok hR.pc).rp
    refine ⟨_,rfl,R,dx,_,rfl,eR,rfl,_,rfl,.no R row p rs rfl hR hne ⟨_,rfl,iteT ?_⟩⟩
    refine ⟨_,rfl,R,dx,_,rfl,eR,rfl,R,row,rs,rfl,hR,?_⟩
    have q3:(Str.ofString " is wanted, not ").length≤100:=by decide +kernel
    have q0:Str.empty.length≤0:=Nat.le_refl _
    refine ⟨_,rfl,p,rfl,(by rw [sizeLine_eq];(try simp only [strLen_append]);omega),_,rfl,(by rw [sizeLine_eq];(try simp only [strLen_append]);omega),_,rfl,(by rw [sizeLine_eq];(try simp only [strLen_append]);omega),_,rfl,_,rfl,(by rw [sizeLine_eq];(try simp only [strLen_append]);omega),_,rfl,(by rw [sizeLine_eq];(try simp only [strLen_append]);omega),(by rw [sizeLine_eq];(try simp only [strLen_append]);omega),?_⟩
    exact ⟨_,rfl,R,_,dx,_,_,rfl,eR,T.c_Reader,T.n_Reader_row,rfl,rfs_close (KR.refl R H) hR.rw rf⟩
end
def isNum (x:Str):Bool:=decide (1≤x.length) && (decide (x.length≤4) && x.cps.toList.all fun c=>decide (c∈("0123456789":Str).cps.toList))
def valN (x:Str):Int:=(PySem.NumText.digitsVal x.cps.toList:Nat)
def wdF:List Str→Option (Str×List Str)
 | []=>none
 | p :: r=>if isW p=true then some (p,r) else none
def nmF (lo hi:Int):List Str→Option (Int×List Str)
 | []=>none
 | p :: r=>if isNum p=true∧lo≤valN p∧valN p≤hi then some (valN p,r) else none
theorem fig_le:∀c∈("0123456789":Str).cps.toList,48≤c∧c≤57:=by decide +kernel
theorem isNum_v {x:Str} (h:isNum x=true):PySem.intText? x=some (valN x):=by
 unfold isNum at h
 rw [Bool.and_eq_true,Bool.and_eq_true,decide_eq_true_eq,decide_eq_true_eq,List.all_eq_true] at h
 have hl:x.cps.toList.length=x.length:=Array.length_toList
 refine PySem.intText_digits (fun c hc=>fig_le c (of_decide_eq_true (h.2.2 c hc))) (fun z=>?_) (by omega)
 rw [z] at hl
 have:=h.1
 rw [←hl] at this
 exact absurd this (by decide)
theorem dig_small:∀l:List Nat,(∀c∈l,48≤c∧c≤57)→l.length≤4→PySem.NumText.digitsVal l≤9999
 | [],_,_=>by decide
 | [a],h,_=>by have h1:=h a (by simp);show 0*10+(a - 48)≤9999;omega
 | [a,b],h,_=>by have h1:=h a (by simp);have h2:=h b (by simp);show (0*10+(a - 48))*10+(b - 48)≤9999;omega
 | [a,b,c],h,_=>by have h1:=h a (by simp);have h2:=h b (by simp);have h3:=h c (by simp);show ((0*10+(a - 48))*10+(b - 48))*10+(c - 48)≤9999;omega
 | [a,b,c,d],h,_=>by have h1:=h a (by simp);have h2:=h b (by simp);have h3:=h c (by simp);have h4:=h d (by simp);show (((0*10+(a - 48))*10+(b - 48))*10+(c - 48))*10+(d - 48)≤9999;omega
 | _ :: _ :: _ :: _ :: _ :: r,_,h=>absurd h (by simp only [List.length_cons];omega)
theorem valN_b {x:Str} (h:isNum x=true):0≤valN x∧valN x≤9999:=by
 unfold isNum at h
 rw [Bool.and_eq_true,Bool.and_eq_true,decide_eq_true_eq,decide_eq_true_eq,List.all_eq_true] at h
 have hl:x.cps.toList.length=x.length:=Array.length_toList
 have:=dig_small x.cps.toList (fun c hc=>fig_le c (of_decide_eq_true (h.2.2 c hc))) (by omega)
 unfold valN
 omega
theorem log_day {d:Int} (h0:0≤d) (h1:d≤9999):d.natAbs.log2<1920:=by
 by_cases h:d.natAbs=0
 ·rw [h];decide
 ·exact Nat.lt_of_lt_of_le ((Nat.log2_lt h).mpr (Nat.lt_of_le_of_lt (show d.natAbs≤9999 by omega) (by decide:9999<2 ^ 14))) (by decide)
theorem pc0:PcOk "":=⟨by decide +kernel,fun c hc=>nomatch hc⟩
theorem bad1 {K:PySem.W.Frag} {mg:Str→Option Value} {a:Adr} (T:Txt K mg a) {E:XK} {H0 H1:Hp} {R:Addr} {row:V} {σ:St} {D:Ends} {i:Nat} {p msg:Str} (h0:σ[0]?=some (some (.ref R))) (hi:σ[i]?=some (some (.str p))) (k:KR R H0 H1) (hR:RwAt a H1 R row) (hp:PcOk p) (hm:msg.length≤100) (rf:Rfs a E R row H0) :
 tRaiseN a.C_NoRule H0 E (tMakeN a.C_NoRule (spNR a) (tCons (tFs (tfCons (tFmtR (tVar i)) (tfCons (tC (.str msg)) tfNil))) (tCons (tFld K (tVar 0) "row") tNil))) D σ H1:=by
 have q1:=hp.rp
 have q0:Str.empty.length≤0:=Nat.le_refl _
 obtain ⟨dx,v1,v2,eR⟩:=id hR.ex
 refine ⟨_,hi,p,rfl,(by rw [sizeLine_eq];omega),_,rfl,(by rw [sizeLine_eq];(try simp only [strLen_append]);omega),_,rfl,(by rw [sizeLine_eq];(try simp only [strLen_append]);omega),(by rw [sizeLine_eq];(try simp only [strLen_append]);omega),?_⟩
 exact ⟨_,h0,R,_,dx,_,_,rfl,eR,T.c_Reader,T.n_Reader_row,rfl,rfs_close k hR rf⟩
theorem bad0 {K:PySem.W.Frag} {mg:Str→Option Value} {a:Adr} (T:Txt K mg a) {E:XK} {H0 H1:Hp} {R:Addr} {row:V} {σ:St} {D:Ends} {msg:Str} (h0:σ[0]?=some (some (.ref R))) (k:KR R H0 H1) (hR:RwAt a H1 R row) (rf:Rfs a E R row H0) :
 tRaiseN a.C_NoRule H0 E (tMakeN a.C_NoRule (spNR a) (tCons (tC (.str msg)) (tCons (tFld K (tVar 0) "row") tNil))) D σ H1:=by
 obtain ⟨dx,v1,v2,eR⟩:=id hR.ex
 exact ⟨_,h0,R,_,dx,_,_,rfl,eR,T.c_Reader,T.n_Reader_row,rfl,rfs_close k hR rf⟩
theorem badN {K:PySem.W.Frag} {mg:Str→Option Value} {a:Adr} (T:Txt K mg a) {E:XK} {H0 H1:Hp} {R:Addr} {row:V} {σ:St} {D:Ends} {i:Nat} {n:Int} {msg:Str} (h0:σ[0]?=some (some (.ref R))) (hi:σ[i]?=some (some (.int n))) (k:KR R H0 H1) (hR:RwAt a H1 R row) (hn:0≤n∧n≤9999) (hm:msg.length≤100) (rf:Rfs a E R row H0) :
 tRaiseN a.C_NoRule H0 E (tMakeN a.C_NoRule (spNR a) (tCons (tFs (tfCons (tFmt (tVar i)) (tfCons (tC (.str msg)) tfNil))) (tCons (tFld K (tVar 0) "row") tNil))) D σ H1:=by
 have q0:Str.empty.length≤0:=Nat.le_refl _
 have q1:(Str.ofString (toString n)).length≤100:=Nat.le_trans (num_le4 hn.1 hn.2) (by decide)
 obtain ⟨dx,v1,v2,eR⟩:=id hR.ex
 refine ⟨_,hi,.int n rfl (log_day hn.1 hn.2) ⟨_,rfl,(by rw [sizeLine_eq];(try simp only [strLen_append]);omega),_,rfl,(by rw [sizeLine_eq];(try simp only [strLen_append]);omega),(by rw [sizeLine_eq];(try simp only [strLen_append]);omega),?_⟩⟩
 exact ⟨_,h0,R,_,dx,_,_,rfl,eR,T.c_Reader,T.n_Reader_row,rfl,rfs_close k hR rf⟩
inductive spRWd_I (a:Adr) (vs:List V) (H:Hp) (Q:VK) (E:XK):Prop
 | mk:∀R row rs,vs=[.ref R]→RdAt a H R row rs→(∀p r,wdF rs=some (p,r)→∀H',KR R H H'→RdAt a H' R row r→Q (.str p) H')→(wdF rs=none→Rfs a E R row H)→spRWd_I a vs H Q E
def spRWd (a:Adr):Sp:=fun vs H Q E=>spRWd_I a vs H Q E
inductive spRNm_I (a:Adr) (vs:List V) (H:Hp) (Q:VK) (E:XK):Prop
 | mk:∀R row rs (lo hi:Int),vs=[.ref R,.int lo,.int hi]→RdAt a H R row rs→(∀n r,nmF lo hi rs=some (n,r)→∀H',KR R H H'→RdAt a H' R row r→Q (.int n) H')→(nmF lo hi rs=none→Rfs a E R row H)→spRNm_I a vs H Q E
def spRNm (a:Adr):Sp:=fun vs H Q E=>spRNm_I a vs H Q E
section
variable {P : Program} {w : World} {K : PySem.W.Frag} {mg : Str → Option Value} {base : Heap} {a : Adr}
theorem ok_rwd {fd:FuncData} (F:Fun K "read_word" "Reader.read_word" sReader_read_word a.f_Reader_read_word fd) (T:Txt K mg a) (FF:Funs K a):FnOk P w K mg base (CXD P w) 3 a.f_Reader_read_word fd ["self"] (spRWd a):=by
 obtain ⟨fd1,F1,b_Reader_step⟩:=FF.F_Reader_step
 have G_Reader_step:FnOk P w K mg base CX0 2 a.f_Reader_step fd1 ["self"] (spStep a):=ok_step F1 T FF
 obtain ⟨fd2,F_is_word,b_is_word⟩:=FF.F_is_word
 have G_is_word:FnOk P w K mg base CX0 2 a.f_is_word fd2 ["thing"] (spIsWord K):=ok_isword F_is_word T FF
 obtain ⟨fdn,Fn,bn,_⟩:=FF.F_NoRule_init
 have Gn:FnOk P w K mg base CX0 1 a.f_NoRule_init fdn ["self","words","row"] (spNR a):=ok_nr Fn T
 refine F.okXD sc_Reader_read_word (fun vs H Q E h=>?_) (fun cdv A outer st H vs Q E hr h=>?_)
 ·obtain ⟨R,row,rs,rfl,_⟩:=h;rfl
 ·obtain ⟨R,row,rs,rfl,hR,k,rf⟩:=h
  have hr2:Room 2 _:=hr
  obtain ⟨dx,l,ps,n,eR,_⟩:=id hR.ex
  refine ⟨_,(pss_cons (ps_set (i:=1) sc_Reader_read_word.nd rfl (Or.inl rfl) (pe_meth0 (pv 0) T.c_Reader T.M_Reader_step G_Reader_step hr2 b_Reader_step .nil pass0))
   (pss_cons (ps_if (pt_not (pt_val (pe_call G_is_word hr2 rfl T.m_is_word F_is_word.kp b_is_word .nil pass0 (pac (pv 1) pa_nil)))) (pss_one (ps_raiseN T.xi_NoRule hr.hd (pe_makeN T.xi_NoRule T.M_NoRule_init T.kp_NoRule Gn hr2 rfl T.mx_NoRule bn rfl (pac (pe_fs (pf_cons (pe_fmtR (pv 1)) (pf_cons pe_str pf_nil))) (pac (pe_fld (pv 0) rfl) pa_nil))))) pss_nil)
   (pss_one (ps_ret (pv 1))))),?_⟩
  have pc:=hR.pc
  refine ⟨_,rfl,R,dx,_,rfl,eR,rfl,?_⟩
  cases rs with
  | nil =>
    refine .fin R row rfl hR fun H1 k1 r1=>⟨_,rfl,.inl ⟨"",rfl,by decide +kernel,fun H2 s2=>⟨_,rfl,?_⟩⟩⟩
    rw [show isW ""=false by decide +kernel]
    exact iteT (bad1 T rfl rfl (k1.trans (KR.of s2)) (r1.mono s2) ⟨by decide +kernel,fun c hc=>nomatch hc⟩ (by decide +kernel) (rf rfl))
  | cons p r =>
    have hp:=(pc p List.mem_cons_self).1
    refine .mk R row p r rfl hR fun H1 k1 r1=>⟨_,rfl,.inl ⟨p,rfl,hp.1,fun H2 s2=>⟨_,rfl,?_⟩⟩⟩
    cases z:isW p with
    | true=>exact iteF ⟨_,rfl,k p r (if_pos z) H2 (k1.trans (KR.of s2)) (r1.mono s2)⟩
    | false=>exact iteT (bad1 T rfl rfl (k1.trans (KR.of s2)) (r1.rw.mono s2) hp (by decide +kernel) (rf (if_neg (by rw [z];decide))))
end
section
variable {P : Program} {w : World} {K : PySem.W.Frag} {mg : Str → Option Value} {base : Heap} {a : Adr}
theorem ok_rnm {fd:FuncData} (F:Fun K "read_number" "Reader.read_number" sReader_read_number a.f_Reader_read_number fd) (T:Txt K mg a) (FF:Funs K a):FnOk P w K mg base (CXD P w) 3 a.f_Reader_read_number fd ["self","least","most"] (spRNm a):=by
 obtain ⟨fd1,F1,b_Reader_step⟩:=FF.F_Reader_step
 have G_Reader_step:FnOk P w K mg base CX0 2 a.f_Reader_step fd1 ["self"] (spStep a):=ok_step F1 T FF
 obtain ⟨fd2,F_all_among,b_all_among⟩:=FF.F_all_among
 have G_all_among:FnOk P w K mg base CX0 1 a.f_all_among fd2 ["text","signs"] spAmong:=ok_among F_all_among T
 obtain ⟨fdn,Fn,bn,_⟩:=FF.F_NoRule_init
 have Gn:FnOk P w K mg base CX0 1 a.f_NoRule_init fdn ["self","words","row"] (spNR a):=ok_nr Fn T
 refine F.okXD sc_Reader_read_number (fun vs H Q E h=>?_) (fun cdv A outer st H vs Q E hr h=>?_)
 ·obtain ⟨R,row,rs,lo,hi,rfl,_⟩:=h;rfl
 ·obtain ⟨R,row,rs,lo,hi,rfl,hR,k,rf⟩:=h
  have hr2:Room 2 _:=hr
  have hr1:Room 1 _:=hr2.mono (by decide)
  obtain ⟨dx,l,ps,m,eR,_⟩:=id hR.ex
  refine ⟨_,(pss_cons (ps_set (i:=3) sc_Reader_read_number.nd rfl (Or.inl rfl) (pe_meth0 (pv 0) T.c_Reader T.M_Reader_step G_Reader_step hr2 b_Reader_step .nil pass0))
   (pss_cons (ps_if (PW.pt (pw_or (pt_not (pt_chain op_le op_le pe_int (pe_callB call_len_str rfl T.b_len PySem.boot_len (pac (pv 3) pa_nil)) (pe_gl rfl T.g_DAY_FIGURES))) (pw_or1 (pt_not (pt_val (pe_call G_all_among hr1 rfl T.m_all_among F_all_among.kp b_all_among .nil pass0 (pac (pv 3) (pac (pe_gl rfl T.g_FIGURES) pa_nil))))))))
     (pss_one (ps_raiseN T.xi_NoRule hr.hd (pe_makeN T.xi_NoRule T.M_NoRule_init T.kp_NoRule Gn hr2 rfl T.mx_NoRule bn rfl (pac (pe_fs (pf_cons (pe_fmtR (pv 3)) (pf_cons pe_str pf_nil))) (pac (pe_fld (pv 0) rfl) pa_nil))))) pss_nil)
   (pss_cons (ps_set (i:=4) sc_Reader_read_number.nd rfl (Or.inl rfl) (pe_callTy call_int_text rfl T.b_int PyProof.Rows.boot_int (pac (pv 3) pa_nil)))
   (pss_cons (ps_if (pt_not (pt_chain op_le op_le (pv 1) (pv 4) (pv 2))) (pss_one (ps_raiseN T.xi_NoRule hr.hd (pe_makeN T.xi_NoRule T.M_NoRule_init T.kp_NoRule Gn hr2 rfl T.mx_NoRule bn rfl (pac (pe_fs (pf_cons (pe_fmt (pv 4)) (pf_cons pe_str pf_nil))) (pac (pe_fld (pv 0) rfl) pa_nil))))) pss_nil)
   (pss_one (ps_ret (pv 4))))))),?_⟩
  have pc:=hR.pc
  refine ⟨_,rfl,R,dx,_,rfl,eR,rfl,?_⟩
  cases rs with
  | nil =>
    refine .fin R row rfl hR fun H1 k1 r1=>?_
    refine ⟨_,rfl,"",rfl,by decide +kernel,_,_,rfl,rfl,_,rfl,?_⟩
    rw [show decide ((1:Int)≤((("":Str).length:Nat):Int))=false by decide +kernel]
    exact iteF ⟨_,rfl,iteT (bad1 (D:={ nx:=fun _ H'=>Q .non H',rt:=Q }) T rfl rfl k1 r1 pc0 (by decide +kernel) (rf rfl))⟩
  | cons p r =>
    have hp:=(pc p List.mem_cons_self).1
    have hp1:=hp.1
    refine .mk R row p r rfl hR fun H1 k1 r1=>?_
    refine ⟨_,rfl,p,rfl,(by rw [sizeLine_eq];omega),_,_,rfl,rfl,_,rfl,?_⟩
    by_cases l1:1≤p.length
    ·rw [decide_eq_true (by omega)]
     refine iteT ⟨_,_,rfl,rfl,_,rfl,?_⟩
     by_cases l2:p.length≤4
     ·rw [decide_eq_true (by omega)]
      refine iteF ⟨_,rfl,p,_,rfl,by omega,fun H2 s2=>⟨_,rfl,?_⟩⟩
      cases z:(p.cps.toList.all fun c=>decide (c∈("0123456789":Str).cps.toList)) with
      | false =>
        have zn:¬isNum p=true:=by unfold isNum;rw [z,Bool.and_false,Bool.and_false];decide
        exact iteT (bad1 (D:={ nx:=fun _ H'=>Q .non H',rt:=Q }) T rfl rfl (k1.trans (KR.of s2)) (r1.rw.mono s2) hp (by decide +kernel) (rf (if_neg fun y=>zn y.1)))
      | true =>
        have zn:isNum p=true:=by unfold isNum;rw [z,decide_eq_true l1,decide_eq_true l2];rfl
        have hb:=valN_b zn
        refine iteF ⟨_,rfl,p,valN p,rfl,by omega,isNum_v zn,?_⟩
        refine ⟨_,rfl,_,rfl,_,_,rfl,rfl,_,rfl,?_⟩
        by_cases h1:lo≤valN p
        ·rw [decide_eq_true h1]
         refine iteT ⟨_,rfl,_,_,rfl,rfl,_,rfl,?_⟩
         by_cases h2:valN p≤hi
         ·rw [decide_eq_true h2]
          exact iteF ⟨_,rfl,k _ r (if_pos ⟨zn,h1,h2⟩) H2 (k1.trans (KR.of s2)) (r1.mono s2)⟩
         ·rw [decide_eq_false h2]
          exact iteT (badN (D:={ nx:=fun _ H'=>Q .non H',rt:=Q }) T rfl rfl (k1.trans (KR.of s2)) (r1.rw.mono s2) hb (by decide +kernel) (rf (if_neg fun y=>h2 y.2.2)))
        ·rw [decide_eq_false h1]
         exact iteF ⟨_,rfl,iteT (badN (D:={ nx:=fun _ H'=>Q .non H',rt:=Q }) T rfl rfl (k1.trans (KR.of s2)) (r1.rw.mono s2) hb (by decide +kernel) (rf (if_neg fun y=>h1 y.2.1)))⟩
     ·rw [decide_eq_false (by omega)]
      have zn:¬isNum p=true:=by unfold isNum;rw [decide_eq_false l2];simp
      exact iteT (bad1 (D:={ nx:=fun _ H'=>Q .non H',rt:=Q }) T rfl rfl k1 r1.rw hp (by decide +kernel) (rf (if_neg fun y=>zn y.1)))
    ·rw [decide_eq_false (by omega)]
     have zn:¬isNum p=true:=by unfold isNum;rw [decide_eq_false l1];simp
     exact iteF ⟨_,rfl,iteT (bad1 (D:={ nx:=fun _ H'=>Q .non H',rt:=Q }) T rfl rfl k1 r1.rw hp (by decide +kernel) (rf (if_neg fun y=>zn y.1)))⟩
end
def mkB (p:Str):Tr:=if p="any" then .any else .ans
def mkW (p w:Str):Tr:=if p="word" then .word w else if p="title" then .title w else if p="from" then .frm w else if p="in" then .inn w else .mrk w
def dyF (x:Int×List Str):Option (Tr×List Str):=if hd1 x.2="to" then (nmF 0 9999 (x.2.drop 1)).map fun y=>(.days x.1 y.1,y.2) else some (.days x.1 x.1,x.2)
def lfF (p:Str) (r:List Str):Option (Tr×List Str) :=
 if p∈(["any","answers"]:List Str) then some (mkB p,r)
 else if p∈(["word","title","from","in","marked"]:List Str) then (wdF r).map fun x=>(mkW p x.1,x.2)
 else if p="day" then (nmF 0 9999 r).bind dyF
 else if p="before" then (nmF 1 9999 r).map fun x=>(.days 0 (x.1 - 1),x.2)
 else if p="after" then (nmF 0 9998 r).map fun x=>(.days (x.1+1) 9999,x.2)
 else none
theorem wordS_of {x:Str} (h:isW x=true):WordS x:=by
 unfold isW at h
 rw [Bool.and_eq_true,Bool.and_eq_true,decide_eq_true_eq,decide_eq_true_eq,List.all_eq_true] at h
 exact ⟨by have:=h.1;omega,by have:=h.2.1;omega,fun c hc=>of_decide_eq_true (h.2.2 c hc)⟩
theorem wdF_some {rs r:List Str} {p:Str} (h:wdF rs=some (p,r)):rs=p :: r∧isW p=true:=by
 cases rs with
 | nil=>cases h
 | cons q s =>
   have h:(if isW q=true then some (q,s) else none)=some (p,r):=h
   split at h
   ·rename_i z;injection h with h;injection h with h1 h2;subst h1 h2;exact ⟨rfl,z⟩
   ·cases h
theorem nmF_some {rs r:List Str} {lo hi n:Int} (h:nmF lo hi rs=some (n,r)):∃p,rs=p :: r∧isNum p=true∧n=valN p∧lo≤n∧n≤hi:=by
 cases rs with
 | nil=>cases h
 | cons q s =>
   have h:(if isNum q=true∧lo≤valN q∧valN q≤hi then some (valN q,s) else none)=some (n,r):=h
   split at h
   ·rename_i z;injection h with h;injection h with h1 h2;subst h1 h2;exact ⟨q,rfl,z.1,rfl,z.2⟩
   ·cases h
theorem tat_b {H:Hp} {q:Addr} {p:Str} (h:p∈(["any","answers"]:List Str)) (e:H q=some (.tup [.str p])):TAt H q (mkB p):=by
 simp only [List.mem_cons,List.not_mem_nil,or_false] at h
 rcases h with rfl | rfl
 ·exact .any e
 ·exact .ans e
theorem tat_w {H:Hp} {q:Addr} {p x:Str} (h:p∈(["word","title","from","in","marked"]:List Str)) (hx:isW x=true) (e:H q=some (.tup [.str p,.str x])):TAt H q (mkW p x):=by
 simp only [List.mem_cons,List.not_mem_nil,or_false] at h
 have w:=wordS_of hx
 rcases h with rfl | rfl | rfl | rfl | rfl
 ·exact .word e w
 ·exact .title e w
 ·exact .frm e w
 ·exact .inn e w
 ·exact .mrk e w
inductive spRLf_I (a:Adr) (vs:List V) (H:Hp) (Q:VK) (E:XK):Prop
 | mk:∀R row p rs,vs=[.ref R,.str p]→RdAt a H R row rs→PcOk p→(∀t rest,lfF p rs=some (t,rest)→∀q H',KR R H H'→RdAt a H' R row rest→TAt H' q t→Q (.ref q) H')→(lfF p rs=none→Rfs a E R row H)→spRLf_I a vs H Q E
 | fin:∀R row,vs=[.ref R,.str ""]→RwAt a H R row→Rfs a E R row H→spRLf_I a vs H Q E
def spRLf (a:Adr):Sp:=fun vs H Q E=>spRLf_I a vs H Q E
theorem in_yes {p:Str} {xs:List Str} {A B:Prop} (e:decide (p∈xs)=true) (h:A):if (if false=true then !inV (.str p) (xs.map V.str) else inV (.str p) (xs.map V.str))=true then A else B:=by
 have e2:(if false=true then !inV (.str p) (xs.map V.str) else inV (.str p) (xs.map V.str))=true:=by rw [if_neg Bool.false_ne_true,inV_strs,e]
 rw [if_pos e2];exact h
theorem in_no {p:Str} {xs:List Str} {A B:Prop} (e:decide (p∈xs)=false) (h:B):if (if false=true then !inV (.str p) (xs.map V.str) else inV (.str p) (xs.map V.str))=true then A else B:=by
 have e2:¬(if false=true then !inV (.str p) (xs.map V.str) else inV (.str p) (xs.map V.str))=true:=by rw [if_neg Bool.false_ne_true,inV_strs,e];exact Bool.false_ne_true
 rw [if_neg e2];exact h
theorem skS' {x y:Str} {A B:Prop} (h:decide (x=y)=false) (k:B):if decide (V.str x=V.str y)=true then A else B:=by
 rw [str_eq,h];exact iteF k
theorem hitS' {x:Str} {A B:Prop} (k:A):if decide (V.str x=V.str x)=true then A else B:=by
 rw [decide_eq_true rfl];exact iteT k
section
variable {P : Program} {w : World} {K : PySem.W.Frag} {mg : Str → Option Value} {base : Heap} {a : Adr}
theorem ok_rlf {fd:FuncData} (F:Fun K "read_leaf" "Reader.read_leaf" sReader_read_leaf a.f_Reader_read_leaf fd) (T:Txt K mg a) (FF:Funs K a):FnOk P w K mg base (CXD P w) 4 a.f_Reader_read_leaf fd ["self","kind"] (spRLf a):=by
 obtain ⟨fd1,F1,b_Reader_read_word⟩:=FF.F_Reader_read_word
 have G_Reader_read_word:FnOk P w K mg base (CXD P w) 3 a.f_Reader_read_word fd1 ["self"] (spRWd a):=ok_rwd F1 T FF
 obtain ⟨fd2,F2,b_Reader_read_number⟩:=FF.F_Reader_read_number
 have G_Reader_read_number:FnOk P w K mg base (CXD P w) 3 a.f_Reader_read_number fd2 ["self","least","most"] (spRNm a):=ok_rnm F2 T FF
 obtain ⟨fd3,F3,b_Reader_passes⟩:=FF.F_Reader_passes
 have G_Reader_passes:FnOk P w K mg base CX0 2 a.f_Reader_passes fd3 ["self","wanted"] (spPass a):=ok_pass F3 T FF
 obtain ⟨fdn,Fn,bn,_⟩:=FF.F_NoRule_init
 have Gn:FnOk P w K mg base CX0 1 a.f_NoRule_init fdn ["self","words","row"] (spNR a):=ok_nr Fn T
 obtain ⟨SB,mB,hB⟩:=T.gt_BARE
 obtain ⟨SW,mW,hW⟩:=T.gt_WORDED
 refine F.okXD sc_Reader_read_leaf (fun vs H Q E h=>?_) (fun cdv A outer st H vs Q E hr h=>?_)
 ·cases h with
  | mk R row p rs e=>rw [e];rfl
  | fin R row e=>rw [e];rfl
 ·have hr3:Room 3 _:=hr
  have hr2:Room 2 _:=hr3.mono (by decide)
  have reR:∀{H1:Hp} {R:Addr} {row:V} {rs1:List Str},RdAt a H1 R row rs1→∃dx fs,H1 R=some (.ins a.C_Reader dx fs)∧fs.lookup ("read_word":Str)=none∧fs.lookup ("read_number":Str)=none∧fs.lookup ("passes":Str)=none:=fun r=>by
   obtain ⟨dx,l,ps,m,e,_⟩:=r.ex
   exact ⟨dx,_,e,rfl,rfl,rfl⟩
  refine ⟨_,(pss_cons (ps_if (pt_cmpR op_in_seq (pv 1) (pe_gl (v:=.ref SB) rfl ⟨_,mB,rfl⟩) (by with_unfolding_all rfl)) (pss_one (ps_ret (pe_tupG (pas_cons (pv 1) pas_nil)))) pss_nil)
   (pss_cons (ps_if (pt_cmpR op_in_seq (pv 1) (pe_gl (v:=.ref SW) rfl ⟨_,mW,rfl⟩) (by with_unfolding_all rfl)) (pss_one (ps_ret (pe_tupG (pas_cons (pv 1) (pas_cons (pe_meth0 (pv 0) T.c_Reader T.M_Reader_read_word G_Reader_read_word hr3 b_Reader_read_word .nil passD) pas_nil))))) pss_nil)
   (pss_cons (ps_if (pt_cmpR op_eq (pv 1) pe_str (nomark _)) (pss_cons (ps_set (i:=2) sc_Reader_read_leaf.nd rfl (Or.inl rfl) (pe_meth (pv 0) T.c_Reader T.M_Reader_read_number G_Reader_read_number hr3 b_Reader_read_number .nil passD (pac pe_int (pac (pe_gl rfl T.g_LAST_DAY) pa_nil))))
     (pss_cons (ps_set (i:=3) sc_Reader_read_leaf.nd rfl (Or.inl rfl) (pe_ifExp (pt_val (pe_meth (pv 0) T.c_Reader T.M_Reader_passes G_Reader_passes hr2 b_Reader_passes .nil pass0 (pac pe_str pa_nil))) (pe_meth (pv 0) T.c_Reader T.M_Reader_read_number G_Reader_read_number hr3 b_Reader_read_number .nil passD (pac pe_int (pac (pe_gl rfl T.g_LAST_DAY) pa_nil))) (pv 2)))
     (pss_one (ps_ret (pe_tupG (pas_cons pe_str (pas_cons (pv 2) (pas_cons (pv 3) pas_nil)))))))) pss_nil)
   (pss_cons (ps_if (pt_cmpR op_eq (pv 1) pe_str (nomark _)) (pss_one (ps_ret (pe_tupG (pas_cons pe_str (pas_cons pe_int (pas_cons (pe_op op_sub (pe_meth (pv 0) T.c_Reader T.M_Reader_read_number G_Reader_read_number hr3 b_Reader_read_number .nil passD (pac pe_int (pac (pe_gl rfl T.g_LAST_DAY) pa_nil))) pe_int) pas_nil)))))) pss_nil)
   (pss_cons (ps_if (pt_cmpR op_eq (pv 1) pe_str (nomark _)) (pss_one (ps_ret (pe_tupG (pas_cons pe_str (pas_cons (pe_op op_add (pe_meth (pv 0) T.c_Reader T.M_Reader_read_number G_Reader_read_number hr3 b_Reader_read_number .nil passD (pac pe_int (pac (pe_op op_sub (pe_gl rfl T.g_LAST_DAY) pe_int) pa_nil))) pe_int) (pas_cons (pe_gl rfl T.g_LAST_DAY) pas_nil)))))) pss_nil)
   (pss_one (ps_raiseN T.xi_NoRule hr.hd (pe_makeN T.xi_NoRule T.M_NoRule_init T.kp_NoRule Gn hr2 rfl T.mx_NoRule bn rfl (pac (pe_fs (pf_cons (pe_fmtR (pv 1)) (pf_cons pe_str pf_nil))) (pac (pe_fld (pv 0) rfl) pa_nil)))))))))),?_⟩
  cases h with
  | fin R row e hR rf =>
    subst e
    exact ⟨_,rfl,SB,_,rfl,.inr (hB H),rfl,flat_strs _,_,rfl,in_no (by decide +kernel) ⟨_,rfl,SW,_,rfl,.inr (hW H),rfl,flat_strs _,_,rfl,in_no (by decide +kernel) ⟨_,rfl,rfl,_,rfl,skS' (by decide +kernel) ⟨_,rfl,rfl,_,rfl,skS' (by decide +kernel) ⟨_,rfl,rfl,_,rfl,skS' (by decide +kernel) (bad1 (D:={ nx:=fun _ H'=>Q .non H',rt:=Q }) T rfl rfl (KR.refl R H) hR pc0 (by decide +kernel) rf)⟩⟩⟩⟩⟩
  | mk R row p rs e hR hp k rf =>
    subst e
    obtain ⟨dx,l,ps,m,eR,_⟩:=id hR.ex
    refine ⟨_,rfl,SB,_,rfl,.inr (hB H),rfl,flat_strs _,_,rfl,?_⟩
    by_cases c1:p∈(["any","answers"]:List Str)
    ·exact in_yes (decide_eq_true c1) ⟨_,rfl,(by show 1≤sizeLine;decide),fun q H2 nq s2 e2=>k _ _ (if_pos c1) q H2 (KR.of s2) (hR.mono s2) (tat_b c1 e2)⟩
    refine in_no (decide_eq_false c1) ⟨_,rfl,SW,_,rfl,.inr (hW H),rfl,flat_strs _,_,rfl,?_⟩
    by_cases c2:p∈(["word","title","from","in","marked"]:List Str)
    ·have ef:lfF p rs=(wdF rs).map fun x=>(mkW p x.1,x.2):=by unfold lfF;rw [if_neg c1,if_pos c2]
     rw [ef] at k rf
     refine in_yes (decide_eq_true c2) ⟨_,rfl,_,rfl,R,dx,_,rfl,eR,rfl,R,row,rs,rfl,hR,fun x r hw H1 k1 r1=>⟨(by show 2≤sizeLine;decide),fun q H2 nq s2 e2=>?_⟩,fun hw=>rf (by rw [hw];rfl)⟩
     exact k _ _ (by rw [hw];rfl) q H2 (k1.trans (KR.of s2)) (r1.mono s2) (tat_w c2 (wdF_some hw).2 e2)
    refine in_no (decide_eq_false c2) ⟨_,rfl,rfl,_,rfl,?_⟩
    by_cases c3:p="day"
    ·subst c3
     have ef:lfF "day" rs=(nmF 0 9999 rs).bind dyF:=by unfold lfF;rw [if_neg c1,if_neg c2,if_pos rfl]
     rw [ef] at k rf
     refine hitS' ⟨_,rfl,R,dx,_,rfl,eR,rfl,R,row,rs,0,9999,rfl,hR,fun x r hx H1 k1 r1=>?_,fun hx=>rf (by rw [hx];rfl)⟩
     rw [hx,Option.bind_some] at k rf
     obtain ⟨px,_,nx,ex,lx,hx2⟩:=nmF_some hx
     obtain ⟨d1,f1,eR1,z1,z2,z3⟩:=reR r1
     by_cases ht:hd1 r="to"
     ·cases r with
      | nil=>exact absurd ht (by decide +kernel)
      | cons y r2 =>
        obtain rfl:y="to":=ht
        refine ⟨_,rfl,R,d1,_,rfl,eR1,z3,.yes R row "to" _ rfl r1 fun H2 k2 r2'=>⟨_,rfl,iteT ?_⟩⟩
        obtain ⟨d2,f2,eR2,z1,z2,z3⟩:=reR r2'
        refine ⟨_,rfl,R,d2,_,rfl,eR2,z2,R,row,r2,0,9999,rfl,r2',fun y r3 hy H3 k3 r3'=>?_,fun hy=>(rf ((if_pos rfl).trans (Option.map_eq_none_iff.mpr hy))).step (k1.trans k2)⟩
        obtain ⟨py,_,ny,ey,ly,hy2⟩:=nmF_some hy
        exact ⟨_,rfl,_,rfl,(by show 3≤sizeLine;decide),fun q H4 nq s4 e4=>k _ _ ((if_pos rfl).trans (congrArg (Option.map _) hy)) q H4 (((k1.trans k2).trans k3).trans (KR.of s4)) (r3'.mono s4) (.days e4 ⟨lx,hx2,ly,hy2⟩)⟩
     ·refine ⟨_,rfl,R,d1,_,rfl,eR1,z3,.no R row "to" _ rfl r1 ht ⟨_,rfl,iteF ⟨_,rfl,?_⟩⟩⟩
      exact ⟨_,rfl,_,rfl,(by show 3≤sizeLine;decide),fun q H4 nq s4 e4=>k _ _ (if_neg ht) q H4 (k1.trans (KR.of s4)) (r1.mono s4) (.days e4 ⟨lx,hx2,lx,hx2⟩)⟩
    refine skS' (decide_eq_false c3) ⟨_,rfl,rfl,_,rfl,?_⟩
    by_cases c4:p="before"
    ·subst c4
     have ef:lfF "before" rs=(nmF 1 9999 rs).map fun x=>(.days 0 (x.1 - 1),x.2):=by unfold lfF;rw [if_neg c1,if_neg c2,if_neg c3,if_pos rfl]
     rw [ef] at k rf
     refine hitS' ⟨_,rfl,R,dx,_,rfl,eR,rfl,R,row,rs,1,9999,rfl,hR,fun x r hx H1 k1 r1=>?_,fun hx=>rf (by rw [hx];rfl)⟩
     obtain ⟨px,_,nx,ex,lx,hx2⟩:=nmF_some hx
     exact ⟨_,_,rfl,rfl,(by show 3≤sizeLine;decide),fun q H4 nq s4 e4=>k _ _ (by rw [hx];rfl) q H4 (k1.trans (KR.of s4)) (r1.mono s4) (.days e4 ⟨by omega,by omega,by omega,by omega⟩)⟩
    refine skS' (decide_eq_false c4) ⟨_,rfl,rfl,_,rfl,?_⟩
    by_cases c5:p="after"
    ·subst c5
     have ef:lfF "after" rs=(nmF 0 9998 rs).map fun x=>(.days (x.1+1) 9999,x.2):=by unfold lfF;rw [if_neg c1,if_neg c2,if_neg c3,if_neg c4,if_pos rfl]
     rw [ef] at k rf
     refine hitS' ⟨_,rfl,R,dx,_,rfl,eR,rfl,_,_,rfl,rfl,R,row,rs,0,9999 - 1,rfl,hR,fun x r hx H1 k1 r1=>?_,fun hx=>rf (by rw [show (9998:Int)=9999 - 1 from rfl,hx];rfl)⟩
     obtain ⟨px,_,nx,ex,lx,hx2⟩:=nmF_some hx
     exact ⟨_,_,rfl,rfl,(by show 3≤sizeLine;decide),fun q H4 nq s4 e4=>k _ _ (by rw [show (9998:Int)=9999 - 1 from rfl,hx];rfl) q H4 (k1.trans (KR.of s4)) (r1.mono s4) (.days e4 ⟨by omega,by omega,by omega,by omega⟩)⟩
    exact skS' (decide_eq_false c5) (bad1 (D:={ nx:=fun _ H'=>Q .non H',rt:=Q }) T rfl rfl (KR.refl R H) hR.rw hp (by decide +kernel) (rf (by unfold lfF;rw [if_neg c1,if_neg c2,if_neg c3,if_neg c4,if_neg c5])))
end
theorem kitTT {K:PySem.W.Frag}:PySem.W.kitOne K (.type "tuple") (.type "tuple")=some true:=by unfold PySem.W.kitOne;rw [if_pos (beq_self_eq_true _)]
theorem kitST {K:PySem.W.Frag}:PySem.W.kitOne K (.type "str") (.type "tuple")=some false:=by kernel_rfl
theorem kitIT {K:PySem.W.Frag}:PySem.W.kitOne K (.type "int") (.type "tuple")=some false:=by kernel_rfl
theorem cut1 (x:V) (xs:List V):cutV (x :: xs) (some 1) none=xs:=by
 have h:=cut_from (fun v:V=>v) (x :: xs) 1 (by decide)
 simpa using h
theorem dp_subs (t:Tr):(1:Int)+mxd 0 ((subs t).map fun u=>(u.dp:Int)+1)=(t.dp:Int)+1:=by
 cases t with
 | nt u=>show (1:Int)+((u.dp:Int)+1)=((u.dp+1:Nat):Int)+1;omega
 | thr u=>show (1:Int)+((u.dp:Int)+1)=((u.dp+1:Nat):Int)+1;omega
 | bth u v=>show (1:Int)+max ((u.dp:Int)+1) ((v.dp:Int)+1)=((max u.dp v.dp+1:Nat):Int)+1;omega
 | eth u v=>show (1:Int)+max ((u.dp:Int)+1) ((v.dp:Int)+1)=((max u.dp v.dp+1:Nat):Int)+1;omega
 | any=>rfl
 | ans=>rfl
 | word _=>rfl
 | title _=>rfl
 | frm _=>rfl
 | days _ _=>rfl
 | inn _=>rfl
 | mrk _=>rfl
def kdp (k:V×Option Tr):V:=match k.2 with
 | none=>.int 0
 | some u=>.int ((u.dp:Int)+1)
theorem kdp_map:∀ks:List (V×Option Tr),(ks.filter fun k=>k.2.isSome).map kdp=((ks.filterMap (·.2)).map fun u=>(u.dp:Int)+1).map V.int
 | []=>rfl
 | (v,none) :: ks=>kdp_map ks
 | (v,some u) :: ks=>by
   show kdp (v,some u) :: (ks.filter fun k=>k.2.isSome).map kdp=V.int ((u.dp:Int)+1) :: ((ks.filterMap (·.2)).map fun u=>(u.dp:Int)+1).map V.int
   rw [kdp_map ks];rfl
inductive spDeep_I (n:Nat) (vs:List V) (H:Hp) (Q:VK):Prop
 | mk:∀p t,vs=[.ref p]→TAt H p t→t.dp<n→(∀H',Same H H'→Q (.int ((t.dp:Int)+1)) H')→spDeep_I n vs H Q
def spDeep (n:Nat):Sp:=fun vs H Q _=>spDeep_I n vs H Q
section
variable {P : Program} {w : World} {K : PySem.W.Frag} {mg : Str → Option Value} {base : Heap} {a : Adr}
theorem ok_deep {fd:FuncData} (F:Fun K "deep" "deep" sdeep a.f_deep fd) (b_deep:Binds K fd ["tree"] []) (T:Txt K mg a):∀n,FnOk P w K mg base CX0 (n+1) a.f_deep fd ["tree"] (spDeep n)
 | 0=>by
   refine F.ok sc_deep (fun vs H Q E h=>?_) (fun cdv A outer st H vs Q E hr h=>?_)
   ·obtain ⟨p,t,rfl,_⟩:=h;rfl
   ·obtain ⟨p,t,_,_,h,_⟩:=h;exact absurd h (Nat.not_lt_zero _)
 | n+1=>by
   have G_deep:=ok_deep F b_deep T n
   refine F.ok sc_deep (fun vs H Q E h=>?_) (fun cdv A outer st H vs Q E hr h=>?_)
   ·obtain ⟨p,t,rfl,_⟩:=h;rfl
   obtain ⟨p,t,rfl,tt,hd,k⟩:=h
   have hr_deep:Room (n+1) _:=hr
   refine ⟨_,(pss_one (ps_ret (pe_op op_add pe_int (pe_maxd rfl rfl T.b_max (pe_comp (sc:=defScope sdeep) (N:=n_deep) (fr:=[]) ⟨rfl,rfl,by decide +kernel,by decide +kernel,by decide +kernel,by decide +kernel,by decide +kernel⟩ rfl rfl rfl (pi_tup (pe_slice sl_tupG (pv 0) (po_some pe_int) po_none)) (fun _ _ _ _=>pts_one (pt_val (pe_callB (call_isinstK K) rfl T.b_isinstance PyProof.Rows.boot_isinstance (pac (pv 0) (pac (pe_bltn (v:=.ty "tuple") rfl T.b_tuple PyProof.Rows.boot_tuple rfl) pa_nil))))) (fun _ _ _ _=>(pe_call G_deep hr_deep rfl T.m_deep F.kp b_deep .nil pass0 (pac (pv 0) pa_nil)))))))),?_⟩
   obtain ⟨ks,e,hl,hsub,hm⟩:=tt.kids
   refine ⟨_,rfl,_,rfl,p,_,rfl,e,fun q H1 s1 e1=>?_⟩
   rw [cut1] at e1
   refine ⟨q,rfl,⟨_,SqT.of e1⟩,comp_tupFG (xs:=ks) (fun k=>k.1) (fun k=>k.2.isSome) kdp (Nat.le_of_lt (small1000 (by omega))) (SqT.of e1) (fun kd H3 Q' hk s3 kq=>?_) (fun kd H3 Q' hk s3 hp kq=>?_) fun D H2 nD s2 eD=>?_⟩
   ·have hkd:=(hm kd hk).mono (s1.trans s3)
    obtain ⟨v,ou⟩:=kd
    cases ou with
    | none =>
      rcases hkd with ⟨y,rfl⟩ | ⟨y,rfl⟩
      ·exact ⟨_,rfl,_,_,_,_,_,rfl,rfl,TyOf.str _,kitST,_,rfl,kq H3 (Same.refl _)⟩
      ·exact ⟨_,rfl,_,_,_,_,_,rfl,rfl,TyOf.int _,kitIT,_,rfl,kq H3 (Same.refl _)⟩
    | some u =>
      obtain ⟨r,rfl,hu,_⟩:=hkd
      obtain ⟨ks',er,_⟩:=hu.kids
      exact ⟨_,rfl,_,_,_,_,_,rfl,rfl,TyOf.tup er,kitTT,_,rfl,kq H3 (Same.refl _)⟩
   ·have hkd:=(hm kd hk).mono (s1.trans s3)
    obtain ⟨v,ou⟩:=kd
    cases ou with
    | none=>cases hp
    | some u =>
      obtain ⟨r,rfl,hu,hud,_⟩:=hkd
      exact ⟨_,rfl,r,u,rfl,hu,by omega,fun H4 s4=>kq H4 s4⟩
   ·rw [kdp_map,←hsub] at eD
    refine ⟨D,_,rfl,SqL.of eD,_,_,rfl,rfl,?_⟩
    rw [dp_subs]
    exact k H2 (s1.trans s2)
end
inductive spChk_I (a:Adr) (vs:List V) (H:Hp) (Q:VK) (E:XK):Prop
 | mk:∀R row p t,vs=[.ref R,.ref p]→RwAt a H R row→TAt H p t→t.dp≤30→(t.dp<30→∀H',Same H H'→Q (.ref p) H')→(¬t.dp<30→Rfs a E R row H)→spChk_I a vs H Q E
def spChk (a:Adr):Sp:=fun vs H Q E=>spChk_I a vs H Q E
section
variable {P : Program} {w : World} {K : PySem.W.Frag} {mg : Str → Option Value} {base : Heap} {a : Adr}
theorem ok_chk {fd:FuncData} (F:Fun K "checked" "Reader.checked" sReader_checked a.f_Reader_checked fd) (T:Txt K mg a) (FF:Funs K a):FnOk P w K mg base (CXD P w) 33 a.f_Reader_checked fd ["self","tree"] (spChk a):=by
 obtain ⟨fd1,F1,b_deep⟩:=FF.F_deep
 have G_deep:FnOk P w K mg base CX0 32 a.f_deep fd1 ["tree"] (spDeep 31):=ok_deep F1 b_deep T 31
 obtain ⟨fdn,Fn,bn,_⟩:=FF.F_NoRule_init
 have Gn:FnOk P w K mg base CX0 1 a.f_NoRule_init fdn ["self","words","row"] (spNR a):=ok_nr Fn T
 refine F.okXD sc_Reader_checked (fun vs H Q E h=>?_) (fun cdv A outer st H vs Q E hr h=>?_)
 ·obtain ⟨R,row,p,t,rfl,_⟩:=h;rfl
 ·obtain ⟨R,row,p,t,rfl,hR,ht,hd,k,rf⟩:=h
  have hr_deep:Room 32 _:=hr
  have hr2:Room 2 _:=hr_deep.mono (by decide)
  refine ⟨_,(pss_cons (ps_if (pt_cmpR op_gt (pe_call G_deep hr_deep rfl T.m_deep F1.kp b_deep .nil pass0 (pac (pv 1) pa_nil)) (pe_gl rfl T.g_MOST_DEEP) (nomark _)) (pss_one (ps_raiseN T.xi_NoRule hr.hd (pe_makeN T.xi_NoRule T.M_NoRule_init T.kp_NoRule Gn hr2 rfl T.mx_NoRule bn rfl (pac pe_str (pac (pe_fld (pv 0) rfl) pa_nil))))) pss_nil) (pss_one (ps_ret (pv 1)))),?_⟩
  refine ⟨_,rfl,p,t,rfl,ht,by omega,fun H1 s1=>⟨_,_,rfl,rfl,_,rfl,?_⟩⟩
  by_cases z:t.dp<30
  ·rw [decide_eq_false (by omega)]
   exact iteF ⟨_,rfl,k z H1 s1⟩
  ·rw [decide_eq_true (by omega)]
   exact iteT (bad0 (D:={ nx:=fun _ H'=>Q .non H',rt:=Q }) T rfl (KR.of s1) (hR.mono s1) (rf z))
end
def blF (w:Str) (mk:Tr→Tr→Tr) (S:List Str→Option (Tr×List Str)):Nat→Tr→List Str→Option (Tr×List Str)
 | 0,t,rs=>if hd1 rs=w then none else some (t,rs)
 | n+1,t,rs=>if hd1 rs=w then (S (rs.drop 1)).bind (fun x=>if (mk t x.1).dp<30 then blF w mk S n (mk t x.1) x.2 else none) else some (t,rs)
def rbF (S:List Str→Option (Tr×List Str)) (rs:List Str):Option (Tr×List Str):=(S rs).bind fun x=>blF "and" .bth S x.2.length x.1 x.2
def roF (S:List Str→Option (Tr×List Str)) (rs:List Str):Option (Tr×List Str):=(S rs).bind fun x=>blF "or" .eth S x.2.length x.1 x.2
def reF (S:List Str→Option (Tr×List Str)):List Str→Option (Tr×List Str):=roF (rbF S)
def clF (x:Tr×List Str):Option (Tr×List Str):=if hd1 x.2=")" then some (x.1,x.2.drop 1) else none
def mkN (p:Str) (t:Tr):Tr:=if p="not" then .nt t else .thr t
def ntF (p:Str) (x:Tr×List Str):Option (Tr×List Str):=if (mkN p x.1).dp<30 then some (mkN p x.1,x.2) else none
def thF (p:Str):Nat:=if p="thread" then 1 else 0
def sF:Nat→Nat→List Str→Option (Tr×List Str)
 | 0,_,_=>none
 | _+1,_,[]=>none
 | m+1,th,p :: r =>
   if p∈(["(","not","thread"]:List Str) then
    if m=0∨2<th+thF p then none
    else if p="(" then (reF (sF m (th+thF p)) r).bind clF
    else (sF m (th+thF p) r).bind (ntF p)
   else lfF p r
def rcF (ps:List Str):Option Tr:=(reF (sF 41 0) ps).bind fun x=>if x.2=[] then some x.1 else none
structure Good (S:List Str→Option (Tr×List Str)):Prop where
 shr:∀{rs t rest},S rs=some (t,rest)→rest.length≤rs.length
 low:∀{rs t rest},S rs=some (t,rest)→t.dp<30
theorem blF_good {w:Str} {mk:Tr→Tr→Tr} {S:List Str→Option (Tr×List Str)} (g:Good S):∀{n t rs t' rest},t.dp<30→blF w mk S n t rs=some (t',rest)→rest.length≤rs.length∧t'.dp<30
 | 0,t,rs,t',rest,hd,h=>by
   unfold blF at h
   split at h
   ·cases h
   ·injection h with h;injection h with h1 h2;subst h1 h2;exact ⟨Nat.le_refl _,hd⟩
 | n+1,t,rs,t',rest,hd,h=>by
   unfold blF at h
   split at h
   ·obtain ⟨x,h1,h2⟩:=Option.bind_eq_some_iff.mp h
    split at h2
    ·rename_i z
     have h3:=blF_good g z h2
     have h4:=g.shr h1
     rw [List.length_drop] at h4
     exact ⟨by have:=h3.1;omega,h3.2⟩
    ·cases h2
   ·injection h with h;injection h with h1 h2;subst h1 h2;exact ⟨Nat.le_refl _,hd⟩
theorem rbF_good {S:List Str→Option (Tr×List Str)} (g:Good S):Good (rbF S) where
 shr:=fun h=>by
  obtain ⟨x,h1,h2⟩:=Option.bind_eq_some_iff.mp h
  have:=(blF_good g (g.low h1) h2).1
  have:=g.shr h1
  omega
 low:=fun h=>by
  obtain ⟨x,h1,h2⟩:=Option.bind_eq_some_iff.mp h
  exact (blF_good g (g.low h1) h2).2
theorem roF_good {S:List Str→Option (Tr×List Str)} (g:Good S):Good (roF S) where
 shr:=fun h=>by
  obtain ⟨x,h1,h2⟩:=Option.bind_eq_some_iff.mp h
  have:=(blF_good g (g.low h1) h2).1
  have:=g.shr h1
  omega
 low:=fun h=>by
  obtain ⟨x,h1,h2⟩:=Option.bind_eq_some_iff.mp h
  exact (blF_good g (g.low h1) h2).2
theorem lfF_good {p:Str} {r:List Str} {t:Tr} {rest:List Str} (h:lfF p r=some (t,rest)):rest.length≤r.length∧t.dp=0:=by
 have wd:∀{x:Str×List Str},wdF r=some x→x.2.length≤r.length:=fun {x} hx=>by
  obtain ⟨e,_⟩:=wdF_some (p:=x.1) (r:=x.2) hx
  rw [e,List.length_cons];omega
 have nm:∀{lo hi:Int} {r:List Str} {x:Int×List Str},nmF lo hi r=some x→x.2.length≤r.length:=fun {lo hi r x} hx=>by
  obtain ⟨p,e,_⟩:=nmF_some (n:=x.1) (r:=x.2) hx
  rw [e,List.length_cons];omega
 unfold lfF at h
 split at h
 ·injection h with h;injection h with h1 h2;subst h1 h2;exact ⟨Nat.le_refl _,by unfold mkB;split <;> rfl⟩
 ·split at h
  ·obtain ⟨x,h1,h2⟩:=Option.map_eq_some_iff.mp h
   injection h2 with h2 h3;subst h2 h3
   exact ⟨wd h1,by unfold mkW;repeat' (first | rfl | split)⟩
  ·split at h
   ·obtain ⟨x,h1,h2⟩:=Option.bind_eq_some_iff.mp h
    have l1:=nm h1
    unfold dyF at h2
    split at h2
    ·obtain ⟨y,h3,h4⟩:=Option.map_eq_some_iff.mp h2
     injection h4 with h4 h5;subst h4 h5
     have l2:=nm h3
     rw [List.length_drop] at l2
     exact ⟨by omega,rfl⟩
    ·injection h2 with h2;injection h2 with h2 h3;subst h2 h3;exact ⟨l1,rfl⟩
   ·split at h
    ·obtain ⟨x,h1,h2⟩:=Option.map_eq_some_iff.mp h
     injection h2 with h2 h3;subst h2 h3;exact ⟨nm h1,rfl⟩
    ·split at h
     ·obtain ⟨x,h1,h2⟩:=Option.map_eq_some_iff.mp h
      injection h2 with h2 h3;subst h2 h3;exact ⟨nm h1,rfl⟩
     ·cases h
theorem sF_good:∀m th,Good (sF m th)
 | 0,_=>⟨(fun h=>nomatch h),(fun h=>nomatch h)⟩
 | m+1,th=>by
   have key:∀{rs t rest},sF (m+1) th rs=some (t,rest)→rest.length≤rs.length∧t.dp<30:=fun {rs t rest} h=>by
    cases rs with
    | nil=>cases h
    | cons p r =>
      unfold sF at h
      split at h
      ·split at h
       ·cases h
       ·split at h
        ·obtain ⟨x,h1,h2⟩:=Option.bind_eq_some_iff.mp h
         have g:=roF_good (rbF_good (sF_good m (th+thF p)))
         have l1:=g.shr h1
         have l2:=g.low h1
         unfold clF at h2
         split at h2
         ·injection h2 with h2;injection h2 with h2 h3;subst h2 h3
          refine ⟨?_,l2⟩
          rw [List.length_drop,List.length_cons];omega
         ·cases h2
        ·obtain ⟨x,h1,h2⟩:=Option.bind_eq_some_iff.mp h
         have l1:=(sF_good m (th+thF p)).shr h1
         unfold ntF at h2
         split at h2
         ·rename_i z
          injection h2 with h2;injection h2 with h2 h3;subst h2 h3
          exact ⟨by rw [List.length_cons];omega,z⟩
         ·cases h2
      ·have:=lfF_good h
       exact ⟨by rw [List.length_cons];omega,by omega⟩
   exact ⟨fun h=>(key h).1,fun h=>(key h).2⟩
theorem RdAt.at {a:Adr} {H:Hp} {R:Addr} {row:V} {rs:List Str} (r:RdAt a H R row rs):∃dx fs,H R=some (.ins a.C_Reader dx fs)∧fs.lookup ("passes":Str)=none∧fs.lookup ("checked":Str)=none∧fs.lookup ("read_single":Str)=none∧fs.lookup ("read_both":Str)=none∧fs.lookup ("read_either":Str)=none∧fs.lookup ("read_leaf":Str)=none∧fs.lookup ("expect":Str)=none∧fs.lookup ("step":Str)=none∧fs.lookup ("read_whole":Str)=none:=by
 obtain ⟨dx,l,ps,m,e,_⟩:=r.ex
 exact ⟨dx,_,e,rfl,rfl,rfl,rfl,rfl,rfl,rfl,rfl,rfl⟩
def remOf (H:Hp) (R:Addr):Nat:=match H R with
 | some (.ins _ _ [(_,.ref l),(_,.int k),_])=>(match H l with | some (.lst xs)=>xs.length - k.toNat | _=>0)
 | _=>0
theorem RdAt.rem {a:Adr} {H:Hp} {R:Addr} {row:V} {rs:List Str} (h:RdAt a H R row rs):remOf H R=rs.length:=by
 obtain ⟨dx,l,ps,k,eR,el,hd,hn,_⟩:=h.ex
 unfold remOf
 rw [eR]
 show (match H l with | some (.lst xs)=>xs.length - (k:Int).toNat | _=>0)=_
 rw [el,←hd]
 show (ps.map V.str).length - (k:Int).toNat=_
 rw [List.length_map,List.length_drop,Int.toNat_natCast]
theorem spPass_I.mono {a:Adr} {vs:List V} {H:Hp} {Q Q':VK} (h:spPass_I a vs H Q) (k:∀v H',Q v H'→Q' v H'):spPass_I a vs H Q':=by
 cases h with
 | yes R row p rs e r q=>exact .yes R row p rs e r fun H' k1 r1=>k _ _ (q H' k1 r1)
 | no R row p rs e r n q=>exact .no R row p rs e r n (k _ _ q)
 | fin R row e r q=>exact .fin R row e r fun H' k1=>k _ _ (q H' k1)
inductive spRd_I (a:Adr) (c:Prop) (S:List Str→Option (Tr×List Str)) (w th:Int) (vs:List V) (H:Hp) (Q:VK) (E:XK):Prop
 | mk:∀R row rs,c→vs=[.ref R,.int w,.int th]→RdAt a H R row rs→(∀t rest,S rs=some (t,rest)→∀q H',KR R H H'→RdAt a H' R row rest→TAt H' q t→Q (.ref q) H')→(S rs=none→Rfs a E R row H)→spRd_I a c S w th vs H Q E
def spRd (a:Adr) (c:Prop) (S:List Str→Option (Tr×List Str)) (w th:Int):Sp:=fun vs H Q E=>spRd_I a c S w th vs H Q E
theorem hd1_eq {rs:List Str} {w:Str} (h:hd1 rs=w) (hw:w≠""):rs=w :: rs.drop 1:=by
 cases rs with
 | nil=>exact absurd h.symm hw
 | cons p r=>rw [show p=w from h];rfl
section
variable {P : Program} {w : World} {K : PySem.W.Frag} {mg : Str → Option Value} {base : Heap} {a : Adr}
theorem ok_both {fd fds:FuncData} {c:Prop} {k:Nat} {S:List Str→Option (Tr×List Str)} {wi th:Int} (F:Fun K "read_both" "Reader.read_both" sReader_read_both a.f_Reader_read_both fd) (T:Txt K mg a) (FF:Funs K a) (hk:33≤k) (hS:Good S) (b_s:Binds K fds ["self","within","threads"] []) (G:FnOk P w K mg base (CXD P w) k a.f_Reader_read_single fds ["self","within","threads"] (spRd a c S wi th)):FnOk P w K mg base (CXD P w) (k+1) a.f_Reader_read_both fd ["self","within","threads"] (spRd a c (rbF S) wi th):=by
 obtain ⟨fd1,F1,b_p⟩:=FF.F_Reader_passes
 have Gp:FnOk P w K mg base CX0 2 a.f_Reader_passes fd1 ["self","wanted"] (spPass a):=ok_pass F1 T FF
 obtain ⟨fd2,F2,b_c⟩:=FF.F_Reader_checked
 have Gc:FnOk P w K mg base (CXD P w) 33 a.f_Reader_checked fd2 ["self","tree"] (spChk a):=ok_chk F2 T FF
 refine F.okXD sc_Reader_read_both (fun vs H Q E h=>?_) (fun cdv A outer st H vs Q E hr h=>?_)
 ·obtain ⟨R,row,rs,hc,rfl,_⟩:=h;rfl
 ·obtain ⟨R,row,rs,hc,rfl,hR,kk,rf⟩:=h
  have hrk:Room k _:=hr
  have hr2:Room 2 _:=hrk.mono (by omega)
  have hr32:Room 33 _:=hrk.mono hk
  refine ⟨_,(pss_cons (ps_set (i:=3) sc_Reader_read_both.nd rfl (Or.inl rfl) (pe_meth (pv 0) T.c_Reader T.M_Reader_read_single G hrk b_s .nil passD (pac (pv 1) (pac (pv 2) pa_nil))))
   (pss_cons (ps_while PassesOwn.leaving (pt_val (pe_meth (pv 0) T.c_Reader T.M_Reader_passes Gp hr2 b_p .nil pass0 (pac pe_str pa_nil))) (pss_one (ps_set (i:=3) sc_Reader_read_both.nd rfl (Or.inl rfl) (pe_meth (pv 0) T.c_Reader T.M_Reader_checked Gc hr32 b_c .nil passD (pac (pe_tupG (pas_cons pe_str (pas_cons (pv 3) (pas_cons (pe_meth (pv 0) T.c_Reader T.M_Reader_read_single G hrk b_s .nil passD (pac (pv 1) (pac (pv 2) pa_nil))) pas_nil)))) pa_nil)))))
   (pss_one (ps_ret (pv 3))))),?_⟩
  obtain ⟨dx,fs,eR,z1,z2,z3,z4,z5,z6,z7,z8,z9⟩:=hR.at
  refine ⟨_,rfl,R,dx,_,rfl,eR,z3,_,rfl,_,rfl,R,row,rs,hc,rfl,hR,fun t0 r0 s0 q0 H1 k1 r1 ht1=>?_,fun s0=>rf (by unfold rbF;rw [s0];rfl)⟩
  have e0:rbF S rs=blF "and" .bth S r0.length t0 r0:=by unfold rbF;rw [s0];rfl
  refine while_by (fun σ H2=>∃q t1 rs1 n,σ=[some (.ref R),some (.int wi),some (.int th),some (.ref q)]∧KR R H H2∧RdAt a H2 R row rs1∧TAt H2 q t1∧t1.dp<30∧rs1.length≤n∧rbF S rs=blF "and" .bth S n t1 rs1) (fun σ H2=>remOf H2 R) ⟨q0,t0,r0,_,rfl,k1,r1,ht1,hS.low s0,Nat.le_refl _,e0⟩ ?_ ?_
  ·rintro σ H2 ⟨q,t1,rs1,n,rfl,k2,r2,ht2,d2,l2,b2⟩
   obtain ⟨dx2,fs2,eR2,y1,y2,y3,_⟩:=r2.at
   by_cases hh:hd1 rs1="and"
   ·have er:=hd1_eq hh (by decide +kernel)
    cases n with
    | zero=>rw [er,List.length_cons] at l2;exact absurd l2 (by omega)
    | succ n =>
      have eb:rbF S rs=(S (rs1.drop 1)).bind (fun x=>if (Tr.bth t1 x.1).dp<30 then blF "and" .bth S n (.bth t1 x.1) x.2 else none):=by rw [b2];exact if_pos hh
      rw [er] at r2
      refine ⟨_,rfl,R,dx2,_,rfl,eR2,y1,.yes R row "and" _ rfl r2 fun H3 k3 r3=>⟨_,rfl,iteT ?_⟩⟩
      obtain ⟨dx3,fs3,eR3,x1,x2,x3,_⟩:=r3.at
      have ht3:=ht2.kr r2 k3
      refine ⟨_,rfl,R,dx3,_,rfl,eR3,x2,_,rfl,_,rfl,R,dx3,_,rfl,eR3,x3,_,rfl,_,rfl,R,row,_,hc,rfl,r3,fun u r' s q2 H4 k4 r4 ht4=>⟨(by show 3≤sizeLine;decide),fun q3 H5 nq s5 e5=>?_⟩,fun s=>(rf (by rw [eb,s];rfl)).step (k2.trans k3)⟩
      rw [s,Option.bind_some] at eb
      have du:=hS.low s
      have ht5:TAt H5 q3 (.bth t1 u):=.bth e5 ((ht3.kr r3 k4).mono s5) (ht4.mono s5)
      refine ⟨R,row,q3,_,rfl,(r4.mono s5).rw,ht5,(by show max t1.dp u.dp+1≤30;omega),fun hdp H6 s6=>?_,fun hdp=>(rf (by rw [eb];exact if_neg hdp)).step (((k2.trans k3).trans k4).trans (KR.of s5))⟩
      have r6:=(r4.mono s5).mono s6
      have l4:=hS.shr s
      have l1:(rs1.drop 1).length+1=rs1.length:=by
       have:=congrArg List.length er
       rw [List.length_cons] at this
       exact this.symm
      refine ⟨⟨q3,_,_,n,rfl,((k2.trans k3).trans k4).trans (KR.of (s5.trans s6)),r6,ht5.mono s6,hdp,by omega,by rw [eb];exact if_pos hdp⟩,?_⟩
      show remOf H6 R<remOf H2 R
      rw [r6.rem,r2.rem,List.length_cons]
      omega
   ·have eb:rbF S rs=some (t1,rs1):=by
     rw [b2]
     cases n with
     | zero=>exact if_neg hh
     | succ n=>exact if_neg hh
    exact ⟨_,rfl,R,dx2,_,rfl,eR2,y1,.no R row "and" _ rfl r2 hh ⟨_,rfl,iteF ⟨_,rfl,kk t1 rs1 eb q H2 k2 r2 ht2⟩⟩⟩
  ·rintro σ H3 Q1 Q2 hq ⟨x,e,a1,dx1,fs1,e1,e2,e3,h⟩
   exact ⟨x,e,a1,dx1,fs1,e1,e2,e3,spPass_I.mono h fun v H' ⟨c,ec,q⟩=>⟨c,ec,hq _ _ q⟩⟩
theorem ok_eith {fd fds:FuncData} {c:Prop} {k:Nat} {S:List Str→Option (Tr×List Str)} {wi th:Int} (F:Fun K "read_either" "Reader.read_either" sReader_read_either a.f_Reader_read_either fd) (T:Txt K mg a) (FF:Funs K a) (hk:33≤k) (hS:Good S) (b_s:Binds K fds ["self","within","threads"] []) (G:FnOk P w K mg base (CXD P w) k a.f_Reader_read_both fds ["self","within","threads"] (spRd a c S wi th)):FnOk P w K mg base (CXD P w) (k+1) a.f_Reader_read_either fd ["self","within","threads"] (spRd a c (roF S) wi th):=by
 obtain ⟨fd1,F1,b_p⟩:=FF.F_Reader_passes
 have Gp:FnOk P w K mg base CX0 2 a.f_Reader_passes fd1 ["self","wanted"] (spPass a):=ok_pass F1 T FF
 obtain ⟨fd2,F2,b_c⟩:=FF.F_Reader_checked
 have Gc:FnOk P w K mg base (CXD P w) 33 a.f_Reader_checked fd2 ["self","tree"] (spChk a):=ok_chk F2 T FF
 refine F.okXD sc_Reader_read_either (fun vs H Q E h=>?_) (fun cdv A outer st H vs Q E hr h=>?_)
 ·obtain ⟨R,row,rs,hc,rfl,_⟩:=h;rfl
 ·obtain ⟨R,row,rs,hc,rfl,hR,kk,rf⟩:=h
  have hrk:Room k _:=hr
  have hr2:Room 2 _:=hrk.mono (by omega)
  have hr32:Room 33 _:=hrk.mono hk
  refine ⟨_,(pss_cons (ps_set (i:=3) sc_Reader_read_either.nd rfl (Or.inl rfl) (pe_meth (pv 0) T.c_Reader T.M_Reader_read_both G hrk b_s .nil passD (pac (pv 1) (pac (pv 2) pa_nil))))
   (pss_cons (ps_while PassesOwn.leaving (pt_val (pe_meth (pv 0) T.c_Reader T.M_Reader_passes Gp hr2 b_p .nil pass0 (pac pe_str pa_nil))) (pss_one (ps_set (i:=3) sc_Reader_read_either.nd rfl (Or.inl rfl) (pe_meth (pv 0) T.c_Reader T.M_Reader_checked Gc hr32 b_c .nil passD (pac (pe_tupG (pas_cons pe_str (pas_cons (pv 3) (pas_cons (pe_meth (pv 0) T.c_Reader T.M_Reader_read_both G hrk b_s .nil passD (pac (pv 1) (pac (pv 2) pa_nil))) pas_nil)))) pa_nil)))))
   (pss_one (ps_ret (pv 3))))),?_⟩
  obtain ⟨dx,fs,eR,z1,z2,z3,z4,z5,z6,z7,z8,z9⟩:=hR.at
  refine ⟨_,rfl,R,dx,_,rfl,eR,z4,_,rfl,_,rfl,R,row,rs,hc,rfl,hR,fun t0 r0 s0 q0 H1 k1 r1 ht1=>?_,fun s0=>rf (by unfold roF;rw [s0];rfl)⟩
  have e0:roF S rs=blF "or" .eth S r0.length t0 r0:=by unfold roF;rw [s0];rfl
  refine while_by (fun σ H2=>∃q t1 rs1 n,σ=[some (.ref R),some (.int wi),some (.int th),some (.ref q)]∧KR R H H2∧RdAt a H2 R row rs1∧TAt H2 q t1∧t1.dp<30∧rs1.length≤n∧roF S rs=blF "or" .eth S n t1 rs1) (fun σ H2=>remOf H2 R) ⟨q0,t0,r0,_,rfl,k1,r1,ht1,hS.low s0,Nat.le_refl _,e0⟩ ?_ ?_
  ·rintro σ H2 ⟨q,t1,rs1,n,rfl,k2,r2,ht2,d2,l2,b2⟩
   obtain ⟨dx2,fs2,eR2,y1,y2,y3,_⟩:=r2.at
   by_cases hh:hd1 rs1="or"
   ·have er:=hd1_eq hh (by decide +kernel)
    cases n with
    | zero=>rw [er,List.length_cons] at l2;exact absurd l2 (by omega)
    | succ n =>
      have eb:roF S rs=(S (rs1.drop 1)).bind (fun x=>if (Tr.eth t1 x.1).dp<30 then blF "or" .eth S n (.eth t1 x.1) x.2 else none):=by rw [b2];exact if_pos hh
      rw [er] at r2
      refine ⟨_,rfl,R,dx2,_,rfl,eR2,y1,.yes R row "or" _ rfl r2 fun H3 k3 r3=>⟨_,rfl,iteT ?_⟩⟩
      obtain ⟨dx3,fs3,eR3,x1,x2,_,x3,_⟩:=r3.at
      have ht3:=ht2.kr r2 k3
      refine ⟨_,rfl,R,dx3,_,rfl,eR3,x2,_,rfl,_,rfl,R,dx3,_,rfl,eR3,x3,_,rfl,_,rfl,R,row,_,hc,rfl,r3,fun u r' s q2 H4 k4 r4 ht4=>⟨(by show 3≤sizeLine;decide),fun q3 H5 nq s5 e5=>?_⟩,fun s=>(rf (by rw [eb,s];rfl)).step (k2.trans k3)⟩
      rw [s,Option.bind_some] at eb
      have du:=hS.low s
      have ht5:TAt H5 q3 (.eth t1 u):=.eth e5 ((ht3.kr r3 k4).mono s5) (ht4.mono s5)
      refine ⟨R,row,q3,_,rfl,(r4.mono s5).rw,ht5,(by show max t1.dp u.dp+1≤30;omega),fun hdp H6 s6=>?_,fun hdp=>(rf (by rw [eb];exact if_neg hdp)).step (((k2.trans k3).trans k4).trans (KR.of s5))⟩
      have r6:=(r4.mono s5).mono s6
      have l4:=hS.shr s
      have l1:(rs1.drop 1).length+1=rs1.length:=by
       have:=congrArg List.length er
       rw [List.length_cons] at this
       exact this.symm
      refine ⟨⟨q3,_,_,n,rfl,((k2.trans k3).trans k4).trans (KR.of (s5.trans s6)),r6,ht5.mono s6,hdp,by omega,by rw [eb];exact if_pos hdp⟩,?_⟩
      show remOf H6 R<remOf H2 R
      rw [r6.rem,r2.rem,List.length_cons]
      omega
   ·have eb:roF S rs=some (t1,rs1):=by
     rw [b2]
     cases n with
     | zero=>exact if_neg hh
     | succ n=>exact if_neg hh
    exact ⟨_,rfl,R,dx2,_,rfl,eR2,y1,.no R row "or" _ rfl r2 hh ⟨_,rfl,iteF ⟨_,rfl,kk t1 rs1 eb q H2 k2 r2 ht2⟩⟩⟩
  ·rintro σ H3 Q1 Q2 hq ⟨x,e,a1,dx1,fs1,e1,e2,e3,h⟩
   exact ⟨x,e,a1,dx1,fs1,e1,e2,e3,spPass_I.mono h fun v H' ⟨c,ec,q⟩=>⟨c,ec,hq _ _ q⟩⟩
end
theorem FnOk.ex {P:Program} {w:World} {K:PySem.W.Frag} {mg:Str→Option Value} {base:Heap} {CX:CXT} {k:Nat} {f:Addr} {fd:FuncData} {ps:List Str} {sps:Nat→Sp} (G:∀i,FnOk P w K mg base CX k f fd ps (sps i)):FnOk P w K mg base CX k f fd ps (fun vs H Q E=>∃i,sps i vs H Q E) :=
 ⟨fun vs H Q E ⟨i,h⟩=>(G i).len vs H Q E h,fun A outer s H args us vs Q E hr e0 hb r ⟨i,h⟩=>(G i).run A outer s H args us vs Q E hr e0 hb r h⟩
theorem nin_yes {p:Str} {xs:List Str} {A B:Prop} (e:decide (p∈xs)=true) (h:B):if (if true=true then !inV (.str p) (xs.map V.str) else inV (.str p) (xs.map V.str))=true then A else B:=by
 have e2:¬(if true=true then !inV (.str p) (xs.map V.str) else inV (.str p) (xs.map V.str))=true:=by rw [if_pos rfl,inV_strs,e];exact Bool.false_ne_true
 rw [if_neg e2];exact h
theorem nin_no {p:Str} {xs:List Str} {A B:Prop} (e:decide (p∈xs)=false) (h:A):if (if true=true then !inV (.str p) (xs.map V.str) else inV (.str p) (xs.map V.str))=true then A else B:=by
 have e2:(if true=true then !inV (.str p) (xs.map V.str) else inV (.str p) (xs.map V.str))=true:=by rw [if_pos rfl,inV_strs,e];rfl
 rw [if_pos e2];exact h
theorem tat_n {H:Hp} {q z:Addr} {p:Str} {u:Tr} (h:p∈(["(","not","thread"]:List Str)) (hn:p≠"(") (e:H q=some (.tup [.str p,.ref z])) (hu:TAt H z u):TAt H q (mkN p u):=by
 simp only [List.mem_cons,List.not_mem_nil,or_false] at h
 rcases h with rfl | rfl | rfl
 ·exact absurd rfl hn
 ·exact .nt e hu
 ·exact .thr e hu
theorem iteTh {p:Str} {σ:St} {H:Hp} {Q:VK} (h:Q (.int ((thF p:Nat):Int)) H):if decide (V.str p=V.str "thread")=true then tC (.int 1) σ H Q else tC (.int 0) σ H Q:=by
 by_cases z:p="thread"
 ·subst z;exact hitS' h
 ·refine skS' (decide_eq_false z) ?_
  have:thF p=0:=if_neg z
  rw [this] at h
  exact h
theorem mkN_dp (p:Str) (u:Tr):(mkN p u).dp=u.dp+1:=by unfold mkN;split <;> rfl
section
variable {P : Program} {w : World} {K : PySem.W.Frag} {mg : Str → Option Value} {base : Heap} {a : Adr}
theorem ok_sing {fd fdb fde:FuncData} (F:Fun K "read_single" "Reader.read_single" sReader_read_single a.f_Reader_read_single fd) (T:Txt K mg a) (FF:Funs K a) (b_s:Binds K fd ["self","within","threads"] []) (Fb:Fun K "read_both" "Reader.read_both" sReader_read_both a.f_Reader_read_both fdb) (b_b:Binds K fdb ["self","within","threads"] []) (Fe:Fun K "read_either" "Reader.read_either" sReader_read_either a.f_Reader_read_either fde) (b_e:Binds K fde ["self","within","threads"] []):∀(m th:Nat),FnOk P w K mg base (CXD P w) (3*m+40) a.f_Reader_read_single fd ["self","within","threads"] (spRd a (m≠0) (sF m th) (41 - (m:Int)) (th:Int))
 | 0,th=>⟨fun vs H Q E h=>(by obtain ⟨R,row,rs,hc,_⟩:=h;exact absurd rfl hc),fun A outer s H args us vs Q E hr e0 hb r h=>(by obtain ⟨R,row,rs,hc,_⟩:=h;exact absurd rfl hc)⟩
 | m+1,th=>by
   have G:=fun th=>ok_sing F T FF b_s Fb b_b Fe b_e m th
   have Gb:=fun th=>ok_both (k:=3*m+40) Fb T FF (by omega) (sF_good m th) b_s (G th)
   have Ge:=fun th=>ok_eith (k:=3*m+40+1) Fe T FF (by omega) (rbF_good (sF_good m th)) b_b (Gb th)
   have GA:=FnOk.ex G
   have GE:=FnOk.ex Ge
   obtain ⟨fd1,F1,b_st⟩:=FF.F_Reader_step
   have Gst:FnOk P w K mg base CX0 2 a.f_Reader_step fd1 ["self"] (spStep a):=ok_step F1 T FF
   obtain ⟨fd2,F2,b_c⟩:=FF.F_Reader_checked
   have Gc:FnOk P w K mg base (CXD P w) 33 a.f_Reader_checked fd2 ["self","tree"] (spChk a):=ok_chk F2 T FF
   obtain ⟨fd3,F3,b_x⟩:=FF.F_Reader_expect
   have Gx:FnOk P w K mg base (CXD P w) 3 a.f_Reader_expect fd3 ["self","wanted"] (spExp a):=ok_exp F3 T FF
   obtain ⟨fd4,F4,b_l⟩:=FF.F_Reader_read_leaf
   have Gl:FnOk P w K mg base (CXD P w) 4 a.f_Reader_read_leaf fd4 ["self","kind"] (spRLf a):=ok_rlf F4 T FF
   obtain ⟨fdn,Fn,bn,_⟩:=FF.F_NoRule_init
   have Gn:FnOk P w K mg base CX0 1 a.f_NoRule_init fdn ["self","words","row"] (spNR a):=ok_nr Fn T
   obtain ⟨SO,mO,hO⟩:=T.gt_OPENING
   refine F.okXD (k:=3*m+40+1+1) sc_Reader_read_single (fun vs H Q E h=>?_) (fun cdv A outer st H vs Q E hr h=>?_)
   ·obtain ⟨R,row,rs,hc,rfl,_⟩:=h;rfl
   ·obtain ⟨R,row,rs,hc,rfl,hR,kk,rf⟩:=h
    have hre:Room (3*m+40+1+1) _:=hr
    have hrs:Room (3*m+40) _:=hre.mono (by omega)
    have hr2:Room 2 _:=hre.mono (by omega)
    have hr3:Room 3 _:=hre.mono (by omega)
    have hr4:Room 4 _:=hre.mono (by omega)
    have hr32:Room 33 _:=hre.mono (by omega)
    refine ⟨_,(pss_cons (ps_set (i:=3) sc_Reader_read_single.nd rfl (Or.inl rfl) (pe_meth0 (pv 0) T.c_Reader T.M_Reader_step Gst hr2 b_st .nil pass0))
     (pss_cons (ps_if (pt_cmpR op_notIn_seq (pv 3) (pe_gl (v:=.ref SO) rfl ⟨_,mO,rfl⟩) (by with_unfolding_all rfl)) (pss_one (ps_ret (pe_meth (pv 0) T.c_Reader T.M_Reader_read_leaf Gl hr4 b_l .nil passD (pac (pv 3) pa_nil)))) pss_nil)
     (pss_cons (ps_aug (i:=1) sc_Reader_read_single.nd rfl (Or.inl rfl) pe_int ip_add)
     (pss_cons (ps_aug (i:=2) sc_Reader_read_single.nd rfl (Or.inl rfl) (pe_ifExp (pt_cmpR op_eq (pv 3) pe_str (nomark _)) pe_int pe_int) ip_add)
     (pss_cons (ps_if (PW.pt (pw_or (pt_cmpR op_gt (pv 1) (pe_gl rfl T.g_MOST_WITHIN) (nomark _)) (pw_or1 (pt_cmpR op_gt (pv 2) (pe_gl rfl T.g_MOST_THREADS) (nomark _))))) (pss_one (ps_raiseN T.xi_NoRule hr.hd (pe_makeN T.xi_NoRule T.M_NoRule_init T.kp_NoRule Gn hr2 rfl T.mx_NoRule bn rfl (pac pe_str (pac (pe_fld (pv 0) rfl) pa_nil))))) pss_nil)
     (pss_cons (ps_if (pt_cmpR op_ne (pv 3) pe_str (nomark _)) (pss_one (ps_ret (pe_meth (pv 0) T.c_Reader T.M_Reader_checked Gc hr32 b_c .nil passD (pac (pe_tupG (pas_cons (pv 3) (pas_cons (pe_meth (pv 0) T.c_Reader T.M_Reader_read_single GA hrs b_s .nil passD (pac (pv 1) (pac (pv 2) pa_nil))) pas_nil))) pa_nil)))) pss_nil)
     (pss_cons (ps_set (i:=4) sc_Reader_read_single.nd rfl (Or.inl rfl) (pe_meth (pv 0) T.c_Reader T.M_Reader_read_either GE hre b_e .nil passD (pac (pv 1) (pac (pv 2) pa_nil))))
     (pss_cons (ps_expr (pe_meth (pv 0) T.c_Reader T.M_Reader_expect Gx hr3 b_x .nil passD (pac pe_str pa_nil)))
     (pss_one (ps_ret (pv 4))))))))))),?_⟩
    obtain ⟨dx,fs,eR,z1,z2,z3,z4,z5,z6,z7,z8,z9⟩:=hR.at
    refine ⟨_,rfl,R,dx,_,rfl,eR,z8,?_⟩
    cases rs with
    | nil =>
      refine .fin R row rfl hR fun H1 k1 r1=>⟨_,rfl,SO,_,rfl,.inr (hO H1),rfl,flat_strs _,_,rfl,nin_no (by decide +kernel) ?_⟩
      obtain ⟨dx1,v1,v2,eR1⟩:=id r1.ex
      exact ⟨_,rfl,R,dx1,_,rfl,eR1,rfl,_,rfl,.fin R row rfl r1 ((rf rfl).step k1)⟩
    | cons p r =>
      have hp:=(hR.pc p List.mem_cons_self).1
      refine .mk R row p r rfl hR fun H1 k1 r1=>?_
      obtain ⟨dx1,fs1,eR1,y1,y2,y3,y4,y5,y6,y7,y8,y9⟩:=r1.at
      refine ⟨_,rfl,SO,_,rfl,.inr (hO H1),rfl,flat_strs _,_,rfl,?_⟩
      by_cases c1:p∈(["(","not","thread"]:List Str)
      ·refine nin_yes (decide_eq_true c1) ⟨_,rfl,_,_,rfl,rfl,?_⟩
       have e41:41 - ((m+1:Nat):Int)+1=41 - (m:Int):=by omega
       have eth:(th:Int)+((thF p:Nat):Int)=((th+thF p:Nat):Int):=by omega
       refine ⟨_,rfl,_,rfl,rfl,_,rfl,iteTh ⟨_,_,rfl,rfl,?_⟩⟩
       refine ⟨_,rfl,_,_,rfl,rfl,_,rfl,?_⟩
       by_cases hm:m=0
       ·subst hm
        have ef:sF (0+1) th (p :: r)=none:=by unfold sF;rw [if_pos c1,if_pos (.inl rfl)]
        rw [decide_eq_true (show (40:Int)<41 - ((0+1:Nat):Int)+1 by omega)]
        exact iteT (bad0 (D:={ nx:=fun _ H'=>Q .non H',rt:=Q }) T rfl k1 r1.rw (rf ef))
       rw [decide_eq_false (show ¬(40:Int)<41 - ((m+1:Nat):Int)+1 by omega)]
       refine iteF ⟨_,rfl,_,_,rfl,rfl,_,rfl,?_⟩
       by_cases ht:2<th+thF p
       ·have ef:sF (m+1) th (p :: r)=none:=by unfold sF;rw [if_pos c1,if_pos (.inr ht)]
        rw [decide_eq_true (show (2:Int)<(th:Int)+((thF p:Nat):Int) by omega)]
        exact iteT (bad0 (D:={ nx:=fun _ H'=>Q .non H',rt:=Q }) T rfl k1 r1.rw (rf ef))
       rw [decide_eq_false (show ¬(2:Int)<(th:Int)+((thF p:Nat):Int) by omega)]
       refine iteF ⟨_,rfl,rfl,_,rfl,?_⟩
       rw [str_ne]
       have nor:¬(m=0∨2<th+thF p):=fun z=>z.elim hm ht
       by_cases cp:p="("
       ·have ef:sF (m+1) th (p :: r)=(reF (sF m (th+thF p)) r).bind clF:=by show (if _ then if _ then none else if _ then _ else _ else _)=_;rw [if_pos c1,if_neg nor,if_pos cp]
        rw [ef] at kk rf
        rw [decide_eq_true cp]
        refine iteF ⟨_,rfl,R,dx1,_,rfl,eR1,y5,_,rfl,_,rfl,th+thF p,⟨R,row,r,hm,?_,r1,fun t rest hl q H2 k2 r2 hq=>?_,fun hl=>(rf (by rw [show reF (sF m (th+thF p)) r=none from hl];rfl)).step k1⟩⟩
        ·show [V.ref R,V.int (41 - ((m+1:Nat):Int)+1),V.int ((th:Int)+((thF p:Nat):Int))]=_
         rw [e41,eth]
        ·rw [show reF (sF m (th+thF p)) r=some (t,rest) from hl,Option.bind_some] at kk rf
         obtain ⟨dx2,fs2,eR2,x1,x2,x3,x4,x5,x6,x7,_⟩:=r2.at
         refine ⟨_,rfl,R,dx2,_,rfl,eR2,x7,?_⟩
         by_cases hc:hd1 rest=")"
         ·have er:=hd1_eq hc (by decide +kernel)
          rw [er] at r2
          exact .yes R row ")" _ rfl r2 fun H3 k3 r3=>⟨_,rfl,kk t _ (if_pos hc) q H3 ((k1.trans k2).trans k3) r3 (hq.kr r2 k3)⟩
         ·exact .no R row ")" rest rfl r2 hc ⟨by decide +kernel,by decide +kernel⟩ ((rf (if_neg hc)).step (k1.trans k2))
       ·have ef:sF (m+1) th (p :: r)=(sF m (th+thF p) r).bind (ntF p):=by show (if _ then if _ then none else if _ then _ else _ else _)=_;rw [if_pos c1,if_neg nor,if_neg cp]
        rw [ef] at kk rf
        rw [decide_eq_false cp]
        refine iteT ⟨_,rfl,R,dx1,_,rfl,eR1,y2,_,rfl,_,rfl,R,dx1,_,rfl,eR1,y3,_,rfl,_,rfl,th+thF p,⟨R,row,r,hm,?_,r1,fun u rest hl q H2 k2 r2 hq=>?_,fun hl=>(rf (by rw [hl];rfl)).step k1⟩⟩
        ·show [V.ref R,V.int (41 - ((m+1:Nat):Int)+1),V.int ((th:Int)+((thF p:Nat):Int))]=_
         rw [e41,eth]
        ·rw [hl,Option.bind_some] at kk rf
         have du:=(sF_good m (th+thF p)).low hl
         refine ⟨(by show 2≤sizeLine;decide),fun q3 H3 nq s3 e3=>?_⟩
         have t3:TAt H3 q3 (mkN p u):=tat_n c1 cp e3 (hq.mono s3)
         exact ⟨R,row,q3,_,rfl,(r2.mono s3).rw,t3,(by rw [mkN_dp];omega),fun hd H4 s4=>kk _ _ (if_pos hd) q3 H4 ((k1.trans k2).trans (KR.of (s3.trans s4))) ((r2.mono s3).mono s4) (t3.mono s4),fun hd=>(rf (if_neg hd)).step ((k1.trans k2).trans (KR.of s3))⟩
      ·refine nin_no (decide_eq_false c1) ?_
       have ef:sF (m+1) th (p :: r)=lfF p r:=by unfold sF;rw [if_neg c1]
       rw [ef] at kk rf
       exact ⟨_,rfl,R,dx1,_,rfl,eR1,y6,_,rfl,.mk R row p r rfl r1 hp (fun t rest hl q H2 k2 r2 ht=>kk t rest hl q H2 (k1.trans k2) r2 ht) fun hl=>(rf hl).step k1⟩
end
def TxOk (x:Str):Prop:=x.length≤100000∧∀c∈x.cps.toList,c<1114112
theorem mem_bjoin:∀{ps:List Str} {p:Str},p∈ps→(∀c∈p.cps.toList,c∈(Str.join " " ps).cps.toList)∧p.cps.toList.length≤(Str.join " " ps).cps.toList.length
 | [],p,h=>nomatch h
 | [q],p,h=>by rw [List.mem_singleton.mp h];exact ⟨fun c hc=>hc,Nat.le_refl _⟩
 | q :: q' :: r,p,h=>by
   rw [bjoin_cons2]
   rcases List.mem_cons.mp h with rfl | h
   ·exact ⟨fun c hc=>List.mem_append_left _ hc,by rw [List.length_append];omega⟩
   ·have ih:=mem_bjoin h
    exact ⟨fun c hc=>List.mem_append_right _ (List.mem_cons_of_mem _ (ih.1 c hc)),by rw [List.length_append,List.length_cons];have:=ih.2;omega⟩
theorem pcs_ok {x:Str} (h:TxOk x):∀p∈pcs x,PcOk p∧p≠"":=fun p hp=>by
 unfold pcs wsp at hp
 obtain ⟨h1,h2⟩:=List.mem_filter.mp hp
 have h3:=mem_bjoin h1
 rw [show Str.join " " (Txt.split (rep3 x "(" ")" ",") " ")=rep3 x "(" ")" "," from StrLaws.join_split _ _] at h3
 have hl:=rep3_len x
 have ql1:p.cps.toList.length=p.length:=Array.length_toList
 have ql2:(rep3 x "(" ")" ",").cps.toList.length=(rep3 x "(" ")" ",").length:=Array.length_toList
 refine ⟨⟨by have:=h.1;omega,fun c hc=>?_⟩,fun z=>by rw [decide_eq_true z] at h2;cases h2⟩
 have hc2:=h3.1 c hc
 rw [rep3_list] at hc2
 obtain ⟨d,hd,hc3⟩:=List.mem_flatMap.mp hc2
 unfold e1 at hc3
 split at hc3
 ·rename_i z
  simp only [List.mem_cons,List.not_mem_nil,or_false] at hc3
  omega
 ·rw [List.mem_singleton.mp hc3];exact h.2 d hd
inductive spRIn_I (a:Adr) (vs:List V) (H:Hp) (Q:VK):Prop
 | mk:∀x dx (txt:Str) (row:V),vs=[.ref x,.str txt,row]→H x=some (.ins a.C_Reader dx [])→TxOk txt→(∀H',(∀c o,c≠x→H c=some o→H' c=some o)→RdAt a H' x row (pcs txt)→Q .non H')→spRIn_I a vs H Q
def spRIn (a:Adr):Sp:=fun vs H Q _=>spRIn_I a vs H Q
theorem pcs_count {x:Str} (h:x.length≤100000):(pcs x).length≤1000000:=by
 have hsl:=PyProof.Rows.split_le (rep3 x "(" ")" ",") " "
 have hr3:=rep3_len x
 have hf:=List.length_filter_le (fun p=>!decide (p=("":Str))) (Txt.split (rep3 x "(" ")" ",") " ")
 show ((Txt.split (rep3 x "(" ")" ",") " ").filter _).length≤_
 omega
inductive spWh_I (a:Adr) (vs:List V) (H:Hp) (Q:VK) (E:XK):Prop
 | mk:∀R row rs,vs=[.ref R]→RdAt a H R row rs→(∀t rest,reF (sF 41 0) rs=some (t,rest)→∀y H',KR R H H'→RdAt a H' R row rest→CondAt a H' y t→Q (.ref y) H')→(reF (sF 41 0) rs=none→Rfs a E R row H)→spWh_I a vs H Q E
def spWh (a:Adr):Sp:=fun vs H Q E=>spWh_I a vs H Q E
inductive spRC_I (a:Adr) (vs:List V) (H:Hp) (Q:VK) (E:XK):Prop
 | mk:∀(x:Str),vs=[.str x]→TxOk x→(∀t,rcF (pcs x)=some t→∀y H',Same H H'→CondAt a H' y t→Q (.ref y) H')→(rcF (pcs x)=none→∀H' n,Same H H'→H' n=some (.xd [("row",.int 0)])→E (.ref a.C_NoRule) (some n) H')→spRC_I a vs H Q E
def spRC (a:Adr):Sp:=fun vs H Q E=>spRC_I a vs H Q E
section
variable {P : Program} {w : World} {K : PySem.W.Frag} {mg : Str → Option Value} {base : Heap} {a : Adr}
theorem ok_rin {fd:FuncData} (F:Fun K "__init__" "Reader.__init__" sReader_init a.f_Reader_init fd) (T:Txt K mg a) (FF:Funs K a):FnOkT P w K mg base CX0 2 a.f_Reader_init fd ["self","text","row"] (spRIn a):=by
 obtain ⟨fd1,F1,b_p⟩:=FF.F_pieces_of
 have G:FnOkT P w K mg base CX0 1 a.f_pieces_of fd1 ["text"] spPcs:=ok_pcs F1 T
 refine F.okT sc_Reader_init (fun vs H Q E h=>?_) (fun cdv A outer st H vs Q E hr h=>?_)
 ·obtain ⟨x,dx,txt,row,rfl,_⟩:=h;rfl
 ·obtain ⟨x,dx,txt,row,rfl,ex,hl,k⟩:=h
  have hr1:Room 1 _:=hr
  refine ⟨_,(psst_cons (pst_fld (pv 0) (pet_call G hr1 rfl T.m_pieces_of F1.kp b_p .nil pass0 (pac (pv 1) pa_nil)) rfl)
   (pss_cons (ps_fld (pv 0) pe_int rfl)
   (pss_one (ps_fld (pv 0) (pv 2) rfl)))),?_⟩
  refine ⟨_,rfl,txt,rfl,hl.1,fun D H1 nD s1 eD=>?_⟩
  have ex1:=s1 _ _ ex
  have Dx:D≠x:=ne_of eD ex1 (fun z=>nomatch z)
  refine ⟨_,rfl,x,_,dx,_,rfl,ex1,T.c_Reader,T.n_Reader_pieces,(by show 0<1000;decide),?_⟩
  refine ⟨_,rfl,x,_,dx,_,rfl,upd_same,T.c_Reader,T.n_Reader_at,(by show 1<1000;decide),?_⟩
  rw [upd_upd]
  refine ⟨_,rfl,_,rfl,x,_,dx,_,rfl,upd_same,T.c_Reader,T.n_Reader_row,(by show 2<1000;decide),?_⟩
  rw [upd_upd]
  refine k _ (fun c o n e=>by rw [upd_ne n];exact s1 _ _ e) ⟨dx,D,pcs txt,0,upd_same,by rw [upd_ne Dx];exact eD,rfl,Nat.zero_le _,pcs_count hl.1,pcs_ok hl⟩
theorem ok_wh {fd:FuncData} (F:Fun K "read_whole" "Reader.read_whole" sReader_read_whole a.f_Reader_read_whole fd) (T:Txt K mg a) (FF:Funs K a):FnOk P w K mg base (CXD P w) 166 a.f_Reader_read_whole fd ["self"] (spWh a):=by
 obtain ⟨fds,Fs,b_s⟩:=FF.F_Reader_read_single
 obtain ⟨fdb,Fb,b_b⟩:=FF.F_Reader_read_both
 obtain ⟨fde,Fe,b_e⟩:=FF.F_Reader_read_either
 have G1:=ok_sing (P:=P) (w:=w) (base:=base) Fs T FF b_s Fb b_b Fe b_e 41 0
 have G2:=ok_both (k:=3*41+40) Fb T FF (by omega) (sF_good 41 0) b_s G1
 have G3:FnOk P w K mg base (CXD P w) 165 a.f_Reader_read_either fde ["self","within","threads"] (spRd a (41≠0) (roF (rbF (sF 41 0))) (41 - ((41:Nat):Int)) ((0:Nat):Int)):=ok_eith (k:=3*41+40+1) Fe T FF (by omega) (rbF_good (sF_good 41 0)) b_b G2
 obtain ⟨fdc,Fc,b_co⟩:=FF.F_condition_of
 have Gc:FnOk P w K mg base CX0 96 a.f_condition_of fdc ["tree"] (spCond a 31):=ok_co Fc b_co T FF 31
 refine F.okXD sc_Reader_read_whole (fun vs H Q E h=>?_) (fun cdv A outer st H vs Q E hr h=>?_)
 ·obtain ⟨R,row,rs,rfl,_⟩:=h;rfl
 ·obtain ⟨R,row,rs,rfl,hR,k,rf⟩:=h
  have hr165:Room 165 _:=hr
  have hr96:Room 96 _:=hr165.mono (by decide)
  obtain ⟨dx,fs,eR,z1,z2,z3,z4,z5,_⟩:=hR.at
  refine ⟨_,(pss_one (ps_ret (pe_call Gc hr96 rfl T.m_condition_of Fc.kp b_co .nil pass0 (pac (pe_meth (pv 0) T.c_Reader T.M_Reader_read_either G3 hr165 b_e .nil passD (pac pe_int (pac pe_int pa_nil))) pa_nil)))),?_⟩
  refine ⟨_,rfl,R,dx,_,rfl,eR,z5,R,row,rs,(by decide),rfl,hR,fun t rest hl q H1 k1 r1 ht=>?_,fun hl=>rf hl⟩
  have hd:=(roF_good (rbF_good (sF_good 41 0))).low hl
  exact ⟨q,t,rfl,ht,by omega,fun y H2 s2 cn=>k t rest hl y H2 (k1.trans (KR.of s2)) (r1.mono s2) cn.at⟩
end
theorem CondAt.ti {a:Adr} {H H':Hp} {y:Addr} {t:Tr} (h:CondAt a H y t) (kt:∀c xs,H c=some (.tup xs)→H' c=some (.tup xs)) (ki:∀c D d f fs,H c=some (.ins D d ((("shape":Str),f) :: fs))→H' c=some (.ins D d ((("shape":Str),f) :: fs))):CondAt a H' y t:=by
 induction h with
 | lf l e t=>exact .lf l (ki _ _ _ _ _ e) (t.tups kt)
 | nt e t _ ih=>exact .nt (ki _ _ _ _ _ e) (t.tups kt) ih
 | thr e t _ ih=>exact .thr (ki _ _ _ _ _ e) (t.tups kt) ih
 | bth e t _ _ i1 i2=>exact .bth (ki _ _ _ _ _ e) (t.tups kt) i1 i2
 | eth e t _ _ i1 i2=>exact .eth (ki _ _ _ _ _ e) (t.tups kt) i1 i2
theorem CondAt.kr {a:Adr} {H H':Hp} {R y:Addr} {t:Tr} {row:V} {rs:List Str} (h:CondAt a H y t) (r:RdAt a H R row rs) (k:KR R H H'):CondAt a H' y t:=by
 obtain ⟨dx,l,ps,n,e1,_⟩:=r.ex
 have hne:¬("pieces":Str)="shape":=by decide +kernel
 refine h.ti (fun c xs e=>k c _ (ne_of e e1 (fun z=>nomatch z)) e) fun c D d f fs e=>k c _ (fun z=>?_) e
 rw [z,e1] at e
 injection e with e
 injection e with _ _ e
 injection e with e _
 injection e with e _
 exact hne e
section
variable {P : Program} {w : World} {K : PySem.W.Frag} {mg : Str → Option Value} {base : Heap} {a : Adr}
theorem ok_rc {fd:FuncData} (F:Fun K "read_condition" "read_condition" sread_condition a.f_read_condition fd) (T:Txt K mg a) (FF:Funs K a):FnOk P w K mg base (CXD P w) 167 a.f_read_condition fd ["text"] (spRC a):=by
 obtain ⟨fd1,F1,b_i⟩:=FF.F_Reader_init
 have Gi:FnOkT P w K mg base CX0 2 a.f_Reader_init fd1 ["self","text","row"] (spRIn a):=ok_rin F1 T FF
 obtain ⟨fd2,F2,b_w⟩:=FF.F_Reader_read_whole
 have Gw:FnOk P w K mg base (CXD P w) 166 a.f_Reader_read_whole fd2 ["self"] (spWh a):=ok_wh F2 T FF
 obtain ⟨fd3,F3,b_x⟩:=FF.F_Reader_expect
 have Gx:FnOk P w K mg base (CXD P w) 3 a.f_Reader_expect fd3 ["self","wanted"] (spExp a):=ok_exp F3 T FF
 refine F.okXD sc_read_condition (fun vs H Q E h=>?_) (fun cdv A outer st H vs Q E hr h=>?_)
 ·obtain ⟨x,rfl,_⟩:=h;rfl
 ·obtain ⟨x,rfl,hl,k,rf⟩:=h
  have hr166:Room 166 _:=hr
  have hr3:Room 3 _:=hr166.mono (by decide)
  refine ⟨_,(pss_cons (ps_set (i:=1) sc_read_condition.nd rfl (Or.inl rfl) (pe_makeT1 T.k_Reader Gi hr3 rfl T.mc_Reader b_i pass0 (pv 0)))
   (pss_cons (ps_set (i:=2) sc_read_condition.nd rfl (Or.inl rfl) (pe_meth0 (pv 1) T.c_Reader T.M_Reader_read_whole Gw hr166 b_w .nil passD))
   (pss_cons (ps_expr (pe_meth (pv 1) T.c_Reader T.M_Reader_expect Gx hr3 b_x .nil passD (pac (pe_gl rfl T.g_END) pa_nil)))
   (pss_one (ps_ret (pv 2)))))),?_⟩
  refine ⟨_,rfl,fun R dx nR nd ne=>?_⟩
  have sm:Same H (upd (upd H dx (.own R)) R (.ins a.C_Reader dx [])):=fun c o e=>by rw [upd_ne (ne_of_none e nR),upd_ne (ne_of_none e nd)];exact e
  refine ⟨R,dx,x,.int 0,rfl,upd_same,hl,fun H1 hk1 r1=>⟨rfl,?_⟩⟩
  have s1:Same H H1:=fun c o e=>hk1 c o (ne_of_none e nR) (sm _ _ e)
  obtain ⟨dx1,fs1,eR1,z1,z2,z3,z4,z5,z6,z7,z8,z9⟩:=r1.at
  have rfs:rcF (pcs x)=none→Rfs a E R (.int 0) H1:=fun z H' n kr e=>rf z H' n (fun c o ec=>kr c o (ne_of_none ec nR) (s1 _ _ ec)) e
  refine ⟨_,rfl,R,dx1,_,rfl,eR1,z9,R,_,_,rfl,r1,fun t rest hw y H2 k2 r2 hc=>?_,fun hw=>rfs (by unfold rcF;rw [hw];rfl)⟩
  obtain ⟨dx2,fs2,eR2,y1,y2,y3,y4,y5,y6,y7,_⟩:=r2.at
  refine ⟨_,rfl,R,dx2,_,rfl,eR2,y7,?_⟩
  have erc:rcF (pcs x)=if rest=[] then some t else none:=by unfold rcF;rw [hw];rfl
  cases rest with
  | nil =>
    refine .fin R _ rfl r2 fun H3 k3=>⟨_,rfl,k t (erc.trans (if_pos rfl)) y H3 (fun c o e=>?_) (hc.kr r2 k3)⟩
    have ncR:=ne_of_none e nR
    exact k3 c o ncR (k2 c o ncR (s1 _ _ e))
  | cons p r=>exact .no R _ "" _ rfl r2 (r2.pc p List.mem_cons_self).2 pc0 ((rfs (erc.trans (if_neg (fun z=>nomatch z)))).step k2)
end
def tk:Tr→List Str
 | .any=>["any"]
 | .ans=>["answers"]
 | .word w=>["word",w]
 | .title w=>["title",w]
 | .frm w=>["from",w]
 | .inn w=>["in",w]
 | .mrk w=>["marked",w]
 | .days l h=>["day",Str.ofString (toString l),"to",Str.ofString (toString h)]
 | .nt u=>"not" :: tk u
 | .thr u=>"thread" :: tk u
 | .bth u v=>("(":Str) :: (tk u++("and":Str) :: (tk v++[(")":Str)]))
 | .eth u v=>("(":Str) :: (tk u++("or":Str) :: (tk v++[(")":Str)]))
def TOk:Tr→Prop
 | .word w=>WordS w
 | .title w=>WordS w
 | .frm w=>WordS w
 | .inn w=>WordS w
 | .mrk w=>WordS w
 | .days l h=>DayB l h
 | .nt u=>TOk u
 | .thr u=>TOk u
 | .bth u v=>TOk u∧TOk v
 | .eth u v=>TOk u∧TOk v
 | _=>True
theorem TAt.tok {H:Hp} {p:Addr} {t:Tr} (h:TAt H p t):TOk t:=by
 induction h with
 | any e=>trivial
 | ans e=>trivial
 | word e w=>exact w
 | title e w=>exact w
 | frm e w=>exact w
 | days e b=>exact b
 | inn e w=>exact w
 | mrk e w=>exact w
 | nt e _ ih=>exact ih
 | thr e _ ih=>exact ih
 | bth e _ _ i1 i2=>exact ⟨i1,i2⟩
 | eth e _ _ i1 i2=>exact ⟨i1,i2⟩
theorem isW_of {x:Str} (h:WordS x):isW x=true:=by
 unfold isW
 have h1:=h.lo
 have h2:=h.hi
 rw [decide_eq_true (by omega),decide_eq_true (by omega),Bool.true_and,Bool.true_and]
 exact List.all_eq_true.mpr fun c hc=>decide_eq_true (h.in_ c hc)
theorem dig_in {c:Nat} (h:48≤c∧c≤57):c∈("0123456789":Str).cps.toList:=by
 have e:("0123456789":Str).cps.toList=[48,49,50,51,52,53,54,55,56,57]:=by decide +kernel
 rw [e]
 simp only [List.mem_cons,List.not_mem_nil,or_false]
 omega
theorem num_n {d:Int} (h0:0≤d) (h1:d≤9999):isNum (Str.ofString (toString d))=true∧valN (Str.ofString (toString d))=d:=by
 have hl:=num_ge1 h0
 have hd:=num_digits h0
 have h4:=num_le4 h0 h1
 refine ⟨?_,num_val h0⟩
 unfold isNum
 rw [decide_eq_true hl,decide_eq_true h4,Bool.true_and,Bool.true_and]
 exact List.all_eq_true.mpr fun c hc=>decide_eq_true (dig_in (hd c hc))
theorem hdne {p q:Str} {r:List Str} (h:decide (p=q)=false):hd1 (p :: r)≠q:=of_decide_eq_false h
theorem blF_stop {w:Str} {mk:Tr→Tr→Tr} {S:List Str→Option (Tr×List Str)} {n:Nat} {t:Tr} {rs:List Str} (h:hd1 rs≠w):blF w mk S n t rs=some (t,rs):=by
 cases n with
 | zero=>exact if_neg h
 | succ n=>exact if_neg h
theorem blF_go {w:Str} {mk:Tr→Tr→Tr} {S:List Str→Option (Tr×List Str)} {n:Nat} {t u:Tr} {r r':List Str} (h:S r=some (u,r')) (hd:(mk t u).dp<30):blF w mk S (n+1) t (w :: r)=blF w mk S n (mk t u) r':=by
 refine (if_pos (show hd1 (w :: r)=w from rfl)).trans ?_
 show (S r).bind _=_
 rw [h,Option.bind_some]
 exact if_pos hd
theorem blF_bad {w:Str} {mk:Tr→Tr→Tr} {S:List Str→Option (Tr×List Str)} {n:Nat} {t:Tr} {r:List Str} (h:S r=none):blF w mk S n t (w :: r)=none:=by
 cases n with
 | zero=>exact if_pos rfl
 | succ n =>
   refine (if_pos (show hd1 (w :: r)=w from rfl)).trans ?_
   show (S r).bind _=_
   rw [h];rfl
section
variable {S : List Str → Option (Tr × List Str)} {X rest : List Str} {t : Tr}
theorem rbF_one (h:S X=some (t,rest)) (h1:hd1 rest≠"and"):rbF S X=some (t,rest):=by unfold rbF;rw [h,Option.bind_some];exact blF_stop h1
theorem roF_one (h:S X=some (t,rest)) (h1:hd1 rest≠"or"):roF S X=some (t,rest):=by unfold roF;rw [h,Option.bind_some];exact blF_stop h1
theorem reF_one (h:S X=some (t,rest)) (h1:hd1 rest≠"and") (h2:hd1 rest≠"or"):reF S X=some (t,rest):=roF_one (rbF_one h h1) h2
theorem rbF_none (h:S X=none):rbF S X=none:=by unfold rbF;rw [h];rfl
theorem roF_none (h:S X=none):roF S X=none:=by unfold roF;rw [h];rfl
theorem reF_none (h:S X=none):reF S X=none:=roF_none (rbF_none h)
theorem rbF_and (h:S X=some (t,("and":Str) :: rest)) (h1:S rest=none):rbF S X=none:=by unfold rbF;rw [h,Option.bind_some];exact blF_bad h1
theorem reF_and (h:S X=some (t,("and":Str) :: rest)) (h1:S rest=none):reF S X=none:=roF_none (rbF_and h h1)
theorem reF_or (h:S X=some (t,("or":Str) :: rest)) (h1:S rest=none):reF S X=none:=by
 have h2:rbF S X=some (t,("or":Str) :: rest):=rbF_one h (hdne (by decide +kernel))
 unfold reF roF
 rw [h2,Option.bind_some]
 exact blF_bad (rbF_none h1)
end
theorem rcF_none {ps:List Str} (h:sF 41 0 ps=none):rcF ps=none:=by unfold rcF;rw [reF_none h];rfl
theorem rcF_none2 {ps:List Str} (h:reF (sF 41 0) ps=none):rcF ps=none:=by unfold rcF;rw [h];rfl
theorem rcF_rest {ps rest:List Str} {t:Tr} (h:reF (sF 41 0) ps=some (t,rest)) (hr:rest≠[]):rcF ps=none:=by unfold rcF;rw [h,Option.bind_some];exact if_neg hr
section
variable {m th : Nat} {p : Str} {r rest : List Str} {t u : Tr}
theorem sF_leaf (h:decide (p∈(["(","not","thread"]:List Str))=false):sF (m+1) th (p :: r)=lfF p r:=if_neg (of_decide_eq_false h)
theorem sF_opn (hm:m≠0) (ht:th≤2):sF (m+1) th (("(":Str) :: r)=(reF (sF m th) r).bind clF:=by
 have e:thF "("=0:=by decide +kernel
 refine (if_pos (by decide +kernel)).trans ((if_neg (by rw [e];omega)).trans ((if_pos rfl).trans ?_))
 rw [e];rfl
theorem sF_not (hm:m≠0) (ht:th≤2):sF (m+1) th (("not":Str) :: r)=(sF m th r).bind (ntF "not"):=by
 have e:thF "not"=0:=by decide +kernel
 refine (if_pos (by decide +kernel)).trans ((if_neg (by rw [e];omega)).trans ((if_neg (by decide +kernel)).trans ?_))
 rw [e];rfl
theorem sF_thr (hm:m≠0) (ht:th<2):sF (m+1) th (("thread":Str) :: r)=(sF m (th+1) r).bind (ntF "thread"):=by
 have e:thF "thread"=1:=by decide +kernel
 refine (if_pos (by decide +kernel)).trans ((if_neg (by rw [e];omega)).trans ((if_neg (by decide +kernel)).trans ?_))
 rw [e]
theorem sF_thr3:sF (m+1) 2 (("thread":Str) :: r)=none:=by
 have e:thF "thread"=1:=by decide +kernel
 exact (if_pos (by decide +kernel)).trans (if_pos (.inr (by rw [e];omega)))
theorem ntF_ok (h:u.dp+1<30):ntF p (u,rest)=some (mkN p u,rest):=if_pos (by rw [mkN_dp];exact h)
theorem clF_ok:clF (t,(")":Str) :: rest)=some (t,rest):=if_pos rfl
end
theorem lfF_w {p w:Str} {rest:List Str} (h1:decide (p∈(["any","answers"]:List Str))=false) (h2:decide (p∈(["word","title","from","in","marked"]:List Str))=true) (hw:isW w=true):lfF p (w :: rest)=some (mkW p w,rest):=by
 refine (if_neg (of_decide_eq_false h1)).trans ((if_pos (of_decide_eq_true h2)).trans ?_)
 have:wdF (w :: rest)=some (w,rest):=if_pos hw
 rw [this];rfl
theorem lfF_day {x y:Str} {rest:List Str} (hx:isNum x=true) (hy:isNum y=true):lfF "day" (x :: ("to":Str) :: y :: rest)=some (.days (valN x) (valN y),rest):=by
 have bx:=valN_b hx
 have by_:=valN_b hy
 have n1:nmF 0 9999 (x :: ("to":Str) :: y :: rest)=some (valN x,("to":Str) :: y :: rest):=if_pos ⟨hx,bx.1,bx.2⟩
 have n2:nmF 0 9999 (y :: rest)=some (valN y,rest):=if_pos ⟨hy,by_.1,by_.2⟩
 refine (if_neg (by decide +kernel)).trans ((if_neg (by decide +kernel)).trans ((if_pos rfl).trans ?_))
 rw [n1,Option.bind_some]
 refine (if_pos rfl).trans ?_
 show (nmF 0 9999 (y :: rest)).map _=_
 rw [n2];rfl
theorem sF_tk:∀(t:Tr),TOk t→∀(m th:Nat) (rest:List Str),t.dp≤m→th+t.th≤2→t.dp<30→sF (m+1) th (tk t++rest)=some (t,rest)
 | .any,_,m,th,rest,_,_,_=>(sF_leaf (by decide +kernel)).trans (if_pos (by decide +kernel))
 | .ans,_,m,th,rest,_,_,_=>(sF_leaf (by decide +kernel)).trans (if_pos (by decide +kernel))
 | .word w,h,m,th,rest,_,_,_=>(sF_leaf (by decide +kernel)).trans (lfF_w (by decide +kernel) (by decide +kernel) (isW_of h))
 | .title w,h,m,th,rest,_,_,_=>(sF_leaf (by decide +kernel)).trans (lfF_w (by decide +kernel) (by decide +kernel) (isW_of h))
 | .frm w,h,m,th,rest,_,_,_=>(sF_leaf (by decide +kernel)).trans (lfF_w (by decide +kernel) (by decide +kernel) (isW_of h))
 | .inn w,h,m,th,rest,_,_,_=>(sF_leaf (by decide +kernel)).trans (lfF_w (by decide +kernel) (by decide +kernel) (isW_of h))
 | .mrk w,h,m,th,rest,_,_,_=>(sF_leaf (by decide +kernel)).trans (lfF_w (by decide +kernel) (by decide +kernel) (isW_of h))
 | .days l g,h,m,th,rest,_,_,_=>by
   have n1:=num_n h.1 h.2.1
   have n2:=num_n h.2.2.1 h.2.2.2
   refine (sF_leaf (by decide +kernel)).trans ((lfF_day n1.1 n2.1).trans ?_)
   rw [n1.2,n2.2];rfl
 | .nt u,h,m,th,rest,hm,ht,hd=>by
   have hm:u.dp+1≤m:=hm
   have ht:th+u.th≤2:=ht
   have hd:u.dp+1<30:=hd
   obtain ⟨m',rfl⟩:∃m',m=m'+1:=⟨m - 1,by omega⟩
   refine (sF_not (by omega) (by omega)).trans ?_
   show (sF (m'+1) th (tk u++rest)).bind _=_
   rw [sF_tk u h m' th rest (by omega) ht (by omega),Option.bind_some]
   exact ntF_ok hd
 | .thr u,h,m,th,rest,hm,ht,hd=>by
   have hm:u.dp+1≤m:=hm
   have ht:th+(u.th+1)≤2:=ht
   have hd:u.dp+1<30:=hd
   obtain ⟨m',rfl⟩:∃m',m=m'+1:=⟨m - 1,by omega⟩
   refine (sF_thr (by omega) (by omega)).trans ?_
   show (sF (m'+1) (th+1) (tk u++rest)).bind _=_
   rw [sF_tk u h m' (th+1) rest (by omega) (by omega) (by omega),Option.bind_some]
   exact ntF_ok hd
 | .bth u v,h,m,th,rest,hm,ht,hd=>by
   have hm:max u.dp v.dp+1≤m:=hm
   have ht:th+max u.th v.th≤2:=ht
   have hd:max u.dp v.dp+1<30:=hd
   obtain ⟨m',rfl⟩:∃m',m=m'+1:=⟨m - 1,by omega⟩
   refine (sF_opn (by omega) (by omega)).trans ?_
   show (reF (sF (m'+1) th) ((tk u++("and":Str) :: (tk v++[(")":Str)]))++rest)).bind _=_
   rw [List.append_assoc,List.cons_append,List.append_assoc]
   have e1:=sF_tk u h.1 m' th (("and":Str) :: (tk v++([(")":Str)]++rest))) (by omega) (by omega) (by omega)
   have e2:=sF_tk v h.2 m' th ([(")":Str)]++rest) (by omega) (by omega) (by omega)
   have e3:rbF (sF (m'+1) th) (tk u++("and":Str) :: (tk v++([(")":Str)]++rest)))=some (.bth u v,[(")":Str)]++rest):=by
    unfold rbF
    rw [e1,Option.bind_some]
    exact (blF_go (mk:=.bth) (t:=u) e2 hd).trans (blF_stop (hdne (by decide +kernel)))
   have e4:reF (sF (m'+1) th) (tk u++("and":Str) :: (tk v++([(")":Str)]++rest)))=some (.bth u v,[(")":Str)]++rest):=roF_one e3 (hdne (by decide +kernel))
   rw [e4,Option.bind_some]
   exact clF_ok
 | .eth u v,h,m,th,rest,hm,ht,hd=>by
   have hm:max u.dp v.dp+1≤m:=hm
   have ht:th+max u.th v.th≤2:=ht
   have hd:max u.dp v.dp+1<30:=hd
   obtain ⟨m',rfl⟩:∃m',m=m'+1:=⟨m - 1,by omega⟩
   refine (sF_opn (by omega) (by omega)).trans ?_
   show (reF (sF (m'+1) th) ((tk u++("or":Str) :: (tk v++[(")":Str)]))++rest)).bind _=_
   rw [List.append_assoc,List.cons_append,List.append_assoc]
   have e1:=rbF_one (sF_tk u h.1 m' th (("or":Str) :: (tk v++([(")":Str)]++rest))) (by omega) (by omega) (by omega)) (hdne (by decide +kernel))
   have e2:=rbF_one (sF_tk v h.2 m' th ([(")":Str)]++rest) (by omega) (by omega) (by omega)) (hdne (by decide +kernel))
   have e4:reF (sF (m'+1) th) (tk u++("or":Str) :: (tk v++([(")":Str)]++rest)))=some (.eth u v,[(")":Str)]++rest):=by
    unfold reF roF
    rw [e1,Option.bind_some]
    exact (blF_go (mk:=.eth) (t:=u) e2 hd).trans (blF_stop (hdne (by decide +kernel)))
   rw [e4,Option.bind_some]
   exact clF_ok
theorem tk_hd (t:Tr):hd1 (tk t)≠"and"∧hd1 (tk t)≠"or"∧tk t≠[]:=by
 cases t <;> exact ⟨hdne (by decide +kernel),hdne (by decide +kernel),fun z=>nomatch z⟩
structure OddL (O:List Str):Prop where
 c:∀m th,sF (m+1) th (O++[(")":Str)])=none
 e:∀m th,sF (m+1) th O=none
 o:∀m th W,sF (m+1) th (O++("or":Str) :: W)=none∨∃x,sF (m+1) th (O++("or":Str) :: W)=some (x,W)
section
variable {t : Tr} (h : TOk t) (hd : t.dp ≤ 20) (ht : t.th ≤ 2)
include h hd ht
theorem rc_tk:rcF (tk t)=some t:=by
 have e:=sF_tk t h 40 0 [] (by omega) (by omega) (by omega)
 rw [List.append_nil] at e
 unfold rcF
 rw [reF_one e (by decide +kernel) (by decide +kernel),Option.bind_some]
 exact if_pos rfl
theorem bad_w0 {O:List Str} (o:OddL O):rcF (("(":Str) :: (tk t++("and":Str) :: (O++[(")":Str)])))=none:=by
 refine rcF_none ((sF_opn (by decide) (by decide)).trans ?_)
 rw [reF_and (sF_tk t h 39 0 _ (by omega) (by omega) (by omega)) (o.c 39 0)];rfl
theorem bad_w3:rcF (("(":Str) :: tk t)=none:=by
 refine rcF_none ((sF_opn (by decide) (by decide)).trans ?_)
 have e:=sF_tk t h 39 0 [] (by omega) (by omega) (by omega)
 rw [List.append_nil] at e
 rw [reF_one e (by decide +kernel) (by decide +kernel),Option.bind_some]
 exact if_neg (show ¬hd1 []=(")":Str) by decide +kernel)
theorem bad_more {X:List Str} (h1:hd1 X≠"and") (h2:hd1 X≠"or") (h3:X≠[]):rcF (tk t++X)=none :=
 rcF_rest (reF_one (sF_tk t h 40 0 X (by omega) (by omega) (by omega)) h1 h2) h3
theorem bad_and {X:List Str} (h1:sF 41 0 X=none):rcF (tk t++("and":Str) :: X)=none :=
 rcF_none2 (reF_and (sF_tk t h 40 0 _ (by omega) (by omega) (by omega)) h1)
theorem bad_or {X:List Str} (h1:sF 41 0 X=none):rcF (tk t++("or":Str) :: X)=none :=
 rcF_none2 (reF_or (sF_tk t h 40 0 _ (by omega) (by omega) (by omega)) h1)
end
theorem bad_w1 {t:Tr} {O:List Str} (o:OddL O):rcF (O++("or":Str) :: tk t)=none:=by
 obtain ⟨h1,h2,h3⟩:=tk_hd t
 rcases o.o 40 0 (tk t) with e | ⟨x,e⟩
 ·exact rcF_none e
 ·exact rcF_rest (reF_one e h1 h2) h3
theorem bad_w2 {O:List Str} (o:OddL O):rcF (("not":Str) :: O)=none:=by
 refine rcF_none ((sF_not (by decide) (by decide)).trans ?_)
 rw [o.e 39 0];rfl
theorem bad_w5 {Z:List Str}:rcF (("thread":Str) :: ("not":Str) :: ("thread":Str) :: ("(":Str) :: ("any":Str) :: ("and":Str) :: ("thread":Str) :: Z)=none:=by
 refine rcF_none ((sF_thr (by decide) (by decide)).trans ?_)
 rw [sF_not (by decide) (by decide),sF_thr (by decide) (by decide),sF_opn (by decide) (by decide)]
 have e:sF 37 2 (("any":Str) :: ("and":Str) :: ("thread":Str) :: Z)=some (.any,("and":Str) :: ("thread":Str) :: Z):=(sF_leaf (by decide +kernel)).trans (if_pos (by decide +kernel))
 rw [reF_and e sF_thr3];rfl
theorem opensF:∀{m th:Nat} {l ps:List Str},(∀p∈l,p=("(":Str)∨p="not")→m≤l.length→sF m th (l++ps)=none
 | 0,th,l,ps,_,_=>rfl
 | m+1,th,[],ps,_,hl=>absurd hl (by simp)
 | m+1,th,p :: l,ps,h,hl=>by
   have ih:∀th,sF m th (l++ps)=none:=fun th=>opensF (fun q hq=>h q (List.mem_cons_of_mem _ hq)) (by rw [List.length_cons] at hl;omega)
   by_cases hm:m=0∨2<th
   ·rcases h p List.mem_cons_self with rfl | rfl
    ·exact (if_pos (by decide +kernel)).trans (if_pos (by rw [show thF "("=0 by decide +kernel];omega))
    ·exact (if_pos (by decide +kernel)).trans (if_pos (by rw [show thF "not"=0 by decide +kernel];omega))
   ·rcases h p List.mem_cons_self with rfl | rfl
    ·refine (sF_opn (by omega) (by omega)).trans ?_
     show (reF (sF m th) (l++ps)).bind _=none
     rw [reF_none (ih th)];rfl
    ·refine (sF_not (by omega) (by omega)).trans ?_
     show (sF m th (l++ps)).bind _=none
     rw [ih th];rfl
theorem nots:∀{n m th:Nat} {ps rest:List Str} {u:Tr},sF m th (List.replicate n ("not":Str)++ps)=some (u,rest)→n≤u.dp
 | 0,_,_,_,_,_,_=>Nat.zero_le _
 | n+1,0,_,_,_,_,h=>nomatch h
 | n+1,m+1,th,ps,rest,u,h=>by
   by_cases hm:m=0∨2<th
   ·have e:sF (m+1) th (List.replicate (n+1) ("not":Str)++ps)=none:=(if_pos (by decide +kernel)).trans (if_pos (by rw [show thF "not"=0 by decide +kernel];omega))
    rw [e] at h;cases h
   ·have e:sF (m+1) th (List.replicate (n+1) ("not":Str)++ps)=(sF m th (List.replicate n ("not":Str)++ps)).bind (ntF "not"):=sF_not (by omega) (by omega)
    rw [e] at h
    obtain ⟨x,h1,h2⟩:=Option.bind_eq_some_iff.mp h
    have ih:=nots (u:=x.1) (rest:=x.2) h1
    unfold ntF at h2
    split at h2
    ·injection h2 with h2
     injection h2 with h2 _
     rw [←h2,mkN_dp]
     omega
    ·cases h2
theorem bad_w6 {n:Nat} {ps:List Str} (hn:30≤n):rcF (List.replicate n ("not":Str)++ps)=none:=by
 refine rcF_none ?_
 cases e:sF 41 0 (List.replicate n ("not":Str)++ps) with
 | none=>rfl
 | some x =>
   have h1:=nots (u:=x.1) (rest:=x.2) e
   have h2:=(sF_good 41 0).low (t:=x.1) (rest:=x.2) e
   omega
theorem bad_w7 {l ps:List Str} (h:∀p∈l,p=("(":Str)∨p="not") (hl:41≤l.length):rcF (l++ps)=none:=rcF_none (opensF h hl)
def bl1 (p:Str):Int:=if p="(" then 1 else if p=")" then -1 else 0
def bal:List Str→Int
 | []=>0
 | p :: r=>bl1 p+bal r
theorem bal_app:∀(a b:List Str),bal (a++b)=bal a+bal b
 | [],b=>by show bal b=0+bal b;omega
 | p :: a,b=>by show bl1 p+bal (a++b)=bl1 p+bal a+bal b;rw [bal_app a b];omega
theorem bl1_w {p:Str} (h:isW p=true):bl1 p=0:=by
 unfold bl1
 rw [if_neg (fun z=>by rw [z] at h;revert h;decide +kernel),if_neg (fun z=>by rw [z] at h;revert h;decide +kernel)]
theorem bl1_n {p:Str} (h:isNum p=true):bl1 p=0:=by
 unfold bl1
 rw [if_neg (fun z=>by rw [z] at h;revert h;decide +kernel),if_neg (fun z=>by rw [z] at h;revert h;decide +kernel)]
theorem wd_bal {rs r:List Str} {p:Str} (h:wdF rs=some (p,r)):bal rs=bal r:=by
 obtain ⟨rfl,hp⟩:=wdF_some h
 show bl1 p+bal r=_
 rw [bl1_w hp];omega
theorem nm_bal {rs r:List Str} {lo hi n:Int} (h:nmF lo hi rs=some (n,r)):bal rs=bal r:=by
 obtain ⟨p,rfl,hp,_⟩:=nmF_some h
 show bl1 p+bal r=_
 rw [bl1_n hp];omega
theorem hd_bal {rs:List Str} {w:Str} (h:hd1 rs=w) (hw:w≠"") (h0:bl1 w=0):bal (rs.drop 1)=bal rs:=by
 rw [show bal rs=bal (w :: rs.drop 1) from congrArg bal (hd1_eq h hw)]
 show _=bl1 w+_
 rw [h0];omega
theorem lf_bal {p:Str} {r rest:List Str} {t:Tr} (h:lfF p r=some (t,rest)):bl1 p=0∧bal r=bal rest:=by
 unfold lfF at h
 split at h
 ·rename_i c
  injection h with h;injection h with h1 h2;subst h1 h2
  refine ⟨?_,rfl⟩
  simp only [List.mem_cons,List.not_mem_nil,or_false] at c
  rcases c with rfl | rfl <;> decide +kernel
 ·split at h
  ·rename_i c
   obtain ⟨x,h1,h2⟩:=Option.map_eq_some_iff.mp h
   injection h2 with h2 h3;subst h2 h3
   refine ⟨?_,wd_bal h1⟩
   simp only [List.mem_cons,List.not_mem_nil,or_false] at c
   rcases c with rfl | rfl | rfl | rfl | rfl <;> decide +kernel
  ·split at h
   ·rename_i c
    subst c
    refine ⟨by decide +kernel,?_⟩
    obtain ⟨x,h1,h2⟩:=Option.bind_eq_some_iff.mp h
    have b1:=nm_bal h1
    unfold dyF at h2
    split at h2
    ·rename_i z
     obtain ⟨y,h3,h4⟩:=Option.map_eq_some_iff.mp h2
     injection h4 with h4 h5;subst h4 h5
     have b2:=nm_bal h3
     rw [hd_bal z (by decide +kernel) (by decide +kernel)] at b2
     exact b1.trans b2
    ·injection h2 with h2;injection h2 with h2 h3;subst h2 h3;exact b1
   ·split at h
    ·rename_i c
     subst c
     obtain ⟨x,h1,h2⟩:=Option.map_eq_some_iff.mp h
     injection h2 with h2 h3;subst h2 h3;exact ⟨by decide +kernel,nm_bal h1⟩
    ·split at h
     ·rename_i c
      subst c
      obtain ⟨x,h1,h2⟩:=Option.map_eq_some_iff.mp h
      injection h2 with h2 h3;subst h2 h3;exact ⟨by decide +kernel,nm_bal h1⟩
     ·cases h
def Bal (S:List Str→Option (Tr×List Str)):Prop:=∀rs t rest,S rs=some (t,rest)→bal rs=bal rest
theorem bl_bal {w:Str} {mk:Tr→Tr→Tr} {S:List Str→Option (Tr×List Str)} (hw:w≠"") (h0:bl1 w=0) (b:Bal S):∀{n t rs t' rest},blF w mk S n t rs=some (t',rest)→bal rs=bal rest
 | 0,t,rs,t',rest,h=>by
   unfold blF at h
   split at h
   ·cases h
   ·injection h with h;injection h with h1 h2;subst h1 h2;rfl
 | n+1,t,rs,t',rest,h=>by
   unfold blF at h
   split at h
   ·rename_i z
    obtain ⟨x,h1,h2⟩:=Option.bind_eq_some_iff.mp h
    split at h2
    ·have e1:=b _ x.1 x.2 h1
     rw [hd_bal z hw h0] at e1
     exact e1.trans (bl_bal hw h0 b h2)
    ·cases h2
   ·injection h with h;injection h with h1 h2;subst h1 h2;rfl
theorem rb_bal {S:List Str→Option (Tr×List Str)} (b:Bal S):Bal (rbF S):=fun rs t rest h=>by
 obtain ⟨x,h1,h2⟩:=Option.bind_eq_some_iff.mp h
 exact (b _ x.1 x.2 h1).trans (bl_bal (by decide +kernel) (by decide +kernel) b h2)
theorem ro_bal {S:List Str→Option (Tr×List Str)} (b:Bal S):Bal (roF S):=fun rs t rest h=>by
 obtain ⟨x,h1,h2⟩:=Option.bind_eq_some_iff.mp h
 exact (b _ x.1 x.2 h1).trans (bl_bal (by decide +kernel) (by decide +kernel) b h2)
theorem s_bal:∀m th,Bal (sF m th)
 | 0,_=>fun _ _ _ h=>nomatch h
 | m+1,th=>fun rs t rest h=>by
   cases rs with
   | nil=>cases h
   | cons p r =>
     unfold sF at h
     split at h
     ·rename_i c
      split at h
      ·cases h
      ·split at h
       ·rename_i cp
        subst cp
        obtain ⟨x,h1,h2⟩:=Option.bind_eq_some_iff.mp h
        have e1:=ro_bal (rb_bal (s_bal m (th+thF "("))) _ x.1 x.2 h1
        unfold clF at h2
        split at h2
        ·rename_i z
         injection h2 with h2;injection h2 with h2 h3;subst h2 h3
         have e2:bal x.2=bal ((")":Str) :: x.2.drop 1):=congrArg bal (hd1_eq z (by decide +kernel))
         show bl1 "("+bal r=_
         rw [e1,e2]
         show bl1 "("+(bl1 ")"+_)=_
         rw [show bl1 "("=1 by decide +kernel,show bl1 ")" = -1 by decide +kernel];omega
        ·cases h2
       ·rename_i cp
        obtain ⟨x,h1,h2⟩:=Option.bind_eq_some_iff.mp h
        have e1:=s_bal m (th+thF p) _ x.1 x.2 h1
        unfold ntF at h2
        split at h2
        ·injection h2 with h2;injection h2 with h2 h3;subst h2 h3
         show bl1 p+bal r=_
         simp only [List.mem_cons,List.not_mem_nil,or_false] at c
         rcases c with rfl | rfl | rfl
         ·exact absurd rfl cp
         ·rw [e1,show bl1 "not"=0 by decide +kernel];omega
         ·rw [e1,show bl1 "thread"=0 by decide +kernel];omega
        ·cases h2
     ·obtain ⟨h1,h2⟩:=lf_bal h
      show bl1 p+bal r=_
      rw [h1,h2];omega
theorem rc_bal {ps:List Str} {t:Tr} (h:rcF ps=some t):bal ps=0:=by
 obtain ⟨x,h1,h2⟩:=Option.bind_eq_some_iff.mp h
 have e:=ro_bal (rb_bal (s_bal 41 0)) _ x.1 x.2 h1
 split at h2
 ·rename_i z;rw [e,z];rfl
 ·cases h2
theorem bad_bal {ps:List Str} (h:bal ps≠0):rcF ps=none:=by
 cases e:rcF ps with
 | none=>rfl
 | some t=>exact absurd (rc_bal e) h
def cb1 (c:Nat):Int:=if c=40 then 1 else if c=41 then -1 else 0
def cb:List Nat→Int
 | []=>0
 | c :: r=>cb1 c+cb r
theorem cb_app:∀(a b:List Nat),cb (a++b)=cb a+cb b
 | [],b=>by show cb b=0+cb b;omega
 | p :: a,b=>by show cb1 p+cb (a++b)=cb1 p+cb a+cb b;rw [cb_app a b];omega
theorem pcs_mid {s:Str} (h:rep3 s "(" ")" ","=((("":Str)++" ")++s)++" ") (hb:¬32∈s.cps.toList) (hn:s≠"") (u v:Str):pcs ((u++s)++v)=pcs u++s :: pcs v:=by
 unfold pcs
 have e:rep3 ((u++s)++v) "(" ")" ","=((((rep3 u "(" ")" ",")++" ")++s)++" ")++rep3 v "(" ")" ",":=by
  rw [rep3_app,rep3_app,h,str_nil1]
  exact str_ext (by simp only [cat_list,List.append_assoc])
 rw [e,wsp_app,wsp_app,wsp_one hb hn,List.append_assoc];rfl
theorem rep3_comma:rep3 "," "(" ")" ","=((("":Str)++" ")++",")++" ":=str_ext (by rw [rep3_list];decide +kernel)
def free4 (l:List Nat):Prop:=∀c∈l,c≠32∧c≠40∧c≠41∧c≠44
theorem pcs_free {u:Str} (h:free4 u.cps.toList):bal (pcs u)=0:=by
 by_cases z:u=""
 ·rw [z,pcs_nil];rfl
 ·rw [pcs_one h z]
  show bl1 u+0=0
  have n1:u≠"(":=fun e=>by rw [e] at h;exact (h 40 (by decide +kernel)).2.1 rfl
  have n2:u≠")":=fun e=>by rw [e] at h;exact (h 41 (by decide +kernel)).2.2.1 rfl
  unfold bl1
  rw [if_neg n1,if_neg n2];rfl
theorem bal_pcs_aux:∀(l:List Nat) (u:Str),free4 u.cps.toList→bal (pcs (u++⟨l.toArray⟩))=cb l
 | [],u,h=>by
   rw [show u++(⟨([]:List Nat).toArray⟩:Str)=u from str_nil2 u];exact pcs_free h
 | c :: l,u,h=>by
   have ih:=bal_pcs_aux l
   have e0:(⟨(c :: l).toArray⟩:Str)=(⟨#[c]⟩:Str)++⟨l.toArray⟩:=str_ext (by rw [cat_list];rfl)
   rw [e0,←str_assoc3]
   have i0:=ih "" (fun c hc=>nomatch hc)
   rw [str_nil1] at i0
   have b0:=pcs_free h
   show _=cb1 c+cb l
   by_cases h1:c=40
   ·subst h1
    rw [show (⟨#[40]⟩:Str)="(" by decide +kernel,pcs_mid rep3_open (by decide +kernel) (by decide +kernel),bal_app]
    show _+(bl1 "("+_)=_
    rw [i0,b0,show bl1 "("=1 by decide +kernel,show cb1 40=1 by decide];omega
   by_cases h2:c=41
   ·subst h2
    rw [show (⟨#[41]⟩:Str)=")" by decide +kernel,pcs_mid rep3_close (by decide +kernel) (by decide +kernel),bal_app]
    show _+(bl1 ")"+_)=_
    rw [i0,b0,show bl1 ")" = -1 by decide +kernel,show cb1 41 = -1 by decide];omega
   have hc:cb1 c=0:=by unfold cb1;rw [if_neg h1,if_neg h2]
   by_cases h3:c=44
   ·subst h3
    rw [show (⟨#[44]⟩:Str)="," by decide +kernel,pcs_mid rep3_comma (by decide +kernel) (by decide +kernel),bal_app]
    show _+(bl1 ","+_)=_
    rw [i0,b0,show bl1 ","=0 by decide +kernel,hc];omega
   by_cases h4:c=32
   ·subst h4
    rw [show (⟨#[32]⟩:Str)=" " by decide +kernel,pcs_app,bal_app,i0,b0,hc]
   ·rw [ih (u++⟨#[c]⟩) (fun d hd=>by
     rw [cat_list] at hd
     rcases List.mem_append.mp hd with hd | hd
     ·exact h d hd
     ·have:d=c:=List.mem_singleton.mp hd
      subst this
      exact ⟨h4,h1,h2,h3⟩),hc];omega
theorem bal_pcs (x:Str):bal (pcs x)=cb x.cps.toList:=by
 have h:=bal_pcs_aux x.cps.toList "" (fun c hc=>nomatch hc)
 rw [str_nil1] at h
 exact h
def kws:List Str:=["any","answers","word","title","from","in","marked","day","before","after","(","not","thread"]
theorem lfF_other {p:Str} {r:List Str} (h:p∉kws):lfF p r=none:=by
 have n:∀q:Str,decide (q∈kws)=true→p≠q:=fun q hq e=>h (e▸of_decide_eq_true hq)
 have nl:∀l:List Str,(l.all fun q=>decide (q∈kws))=true→p∉l:=fun l hl hp=>h (of_decide_eq_true (List.all_eq_true.mp hl p hp))
 unfold lfF
 rw [if_neg (nl _ (by decide +kernel)),if_neg (nl _ (by decide +kernel)),if_neg (n _ (by decide +kernel)),if_neg (n _ (by decide +kernel)),if_neg (n _ (by decide +kernel))]
theorem sF_other {p:Str} {r:List Str} (h:p∉kws) (m th:Nat):sF (m+1) th (p :: r)=none:=by
 have nl:∀l:List Str,(l.all fun q=>decide (q∈kws))=true→p∉l:=fun l hl hp=>h (of_decide_eq_true (List.all_eq_true.mp hl p hp))
 rw [sF_leaf (decide_eq_false (nl _ (by decide +kernel))),lfF_other h]
theorem odd_first {p:Str} {r:List Str} (h:p∉kws):OddL (p :: r):=⟨fun m th=>sF_other h m th,fun m th=>sF_other h m th,fun m th W=>.inl (sF_other h m th)⟩
theorem odd_nil:OddL []:=⟨fun m th=>sF_other (by decide +kernel) m th,fun m th=>rfl,fun m th W=>.inl (sF_other (by decide +kernel) m th)⟩
theorem odd_leaf {p:Str} {r:List Str} (hp:decide (p∈(["(","not","thread"]:List Str))=false) (h:∀F,lfF p (r++F)=none):OddL (p :: r):=by
 refine ⟨fun m th=>(sF_leaf hp).trans (h _),fun m th=>(sF_leaf hp).trans ?_,fun m th W=>.inl ((sF_leaf hp).trans (h _))⟩
 have:=h []
 rw [List.append_nil] at this
 exact this
theorem odd_leaf2 {p:Str} {r:List Str} (hp:decide (p∈(["(","not","thread"]:List Str))=false) (h0:lfF p r=none) (h1:lfF p (r++[(")":Str)])=none) (h2:∀W,lfF p (r++("or":Str) :: W)=none):OddL (p :: r) :=
 ⟨fun m th=>(sF_leaf hp).trans h1,fun m th=>(sF_leaf hp).trans h0,fun m th W=>.inl ((sF_leaf hp).trans (h2 W))⟩
theorem lf_day (r:List Str):lfF "day" r=(nmF 0 9999 r).bind dyF:=(if_neg (by decide +kernel)).trans ((if_neg (by decide +kernel)).trans (if_pos rfl))
theorem lf_before (r:List Str):lfF "before" r=(nmF 1 9999 r).map fun x=>(.days 0 (x.1 - 1),x.2):=(if_neg (by decide +kernel)).trans ((if_neg (by decide +kernel)).trans ((if_neg (by decide +kernel)).trans (if_pos rfl)))
theorem lf_after (r:List Str):lfF "after" r=(nmF 0 9998 r).map fun x=>(.days (x.1+1) 9999,x.2):=(if_neg (by decide +kernel)).trans ((if_neg (by decide +kernel)).trans ((if_neg (by decide +kernel)).trans ((if_neg (by decide +kernel)).trans (if_pos rfl))))
theorem lf_w {p:Str} (h1:decide (p∈(["any","answers"]:List Str))=false) (h2:decide (p∈(["word","title","from","in","marked"]:List Str))=true) (r:List Str):lfF p r=(wdF r).map fun x=>(mkW p x.1,x.2):=(if_neg (of_decide_eq_false h1)).trans (if_pos (of_decide_eq_true h2))
theorem nm_no {x:Str} {r:List Str} {lo hi:Int} (h:isNum x=false):nmF lo hi (x :: r)=none:=if_neg fun z=>by rw [h] at z;exact absurd z.1 (by decide)
theorem nm_out {x:Str} {r:List Str} {lo hi:Int} (h:¬(lo≤valN x∧valN x≤hi)):nmF lo hi (x :: r)=none:=if_neg fun z=>h z.2
theorem day_no {x:Str} {r:List Str} (h:isNum x=false):lfF "day" (x :: r)=none:=by rw [lf_day,nm_no h];rfl
theorem day_to {x y:Str} {r:List Str} (hx:isNum x=true) (h:isNum y=false):lfF "day" (x :: ("to":Str) :: y :: r)=none:=by
 have bx:=valN_b hx
 have n1:nmF 0 9999 (x :: ("to":Str) :: y :: r)=some (valN x,("to":Str) :: y :: r):=if_pos ⟨hx,bx.1,bx.2⟩
 rw [lf_day,n1,Option.bind_some]
 refine (if_pos rfl).trans ?_
 show (nmF 0 9999 (y :: r)).map _=_
 rw [nm_no h];rfl
theorem day_to0 {x:Str} (hx:isNum x=true):lfF "day" [x,"to"]=none:=by
 have bx:=valN_b hx
 have n1:nmF 0 9999 [x,"to"]=some (valN x,[("to":Str)]):=if_pos ⟨hx,bx.1,bx.2⟩
 rw [lf_day,n1,Option.bind_some]
 exact (if_pos rfl).trans rfl
structure BadW (x:Str):Prop where
 fr:free4 x.cps.toList
 ne:x≠""
 nw:isW x=false
 nk:x∉kws
theorem odd_w1 {p x:Str} (hp:decide (p∈(["(","not","thread"]:List Str))=false) (h1:decide (p∈(["any","answers"]:List Str))=false) (h2:decide (p∈(["word","title","from","in","marked"]:List Str))=true) (b:BadW x):OddL [p,x]:=by
 refine odd_leaf hp fun F=>?_
 rw [lf_w h1 h2]
 have:wdF (x :: F)=none:=if_neg (by rw [b.nw];decide)
 show (wdF (x :: F)).map _=none
 rw [this];rfl
theorem odd_w0 {p:Str} (hp:decide (p∈(["(","not","thread"]:List Str))=false) (h1:decide (p∈(["any","answers"]:List Str))=false) (h2:decide (p∈(["word","title","from","in","marked"]:List Str))=true):OddL [p]:=by
 refine ⟨fun m th=>(sF_leaf hp).trans ?_,fun m th=>(sF_leaf hp).trans ?_,fun m th W=>.inr ⟨mkW p "or",(sF_leaf hp).trans ?_⟩⟩
 ·rw [lf_w h1 h2];show (wdF [(")":Str)]).map _=none
  exact congrArg (Option.map _) (show (if isW ")"=true then some ((")":Str),([]:List Str)) else none)=none from if_neg (show ¬isW ")"=true by decide +kernel))
 ·rw [lf_w h1 h2];rfl
 ·rw [lf_w h1 h2];show (wdF (("or":Str) :: W)).map _=_
  exact congrArg (Option.map _) (show (if isW "or"=true then some (("or":Str),W) else none)=some (("or":Str),W) from if_pos (show isW "or"=true by decide +kernel))
def someL:List Str:=(["word W","title W","from W","in W","marked W","day 12345","day","day x","day 3 to","before 0"]:List Str)++(["after 9999","before 10000x","after","day 3 to 00005","Any","anyone","word","to 3","W"]:List Str)++(["day +5","day 1_0","before +1","day 3 to -4","any\t","any\n","word\tW"]:List Str)
theorem rW (x z:Str):(Txt.replace x "W" z).cps.toList=expd 87 z.cps.toList x.cps.toList:=by
 rw [show ("W":Str)=⟨#[87]⟩ by decide +kernel];exact replace_expd x z 87
theorem rW_free {x z:Str} (h:decide (87∈x.cps.toList)=false):Txt.replace x "W" z=x:=str_ext (by rw [rW];exact expd_free (of_decide_eq_false h))
theorem rW_end {x y z:Str} (h:decide (87∈y.cps.toList)=false) (hx:x=y++"W"):Txt.replace x "W" z=y++z:=str_ext (by
 rw [rW,hx,cat_list,cat_list,expd_app,expd_free (of_decide_eq_false h),show ("W":Str).cps.toList=[87] by decide +kernel]
 congr 1
 simp [expd])
theorem lit_pc {x:Str} (h:(x.cps.toList.all fun c=>decide (c≠32∧c≠40∧c≠41∧c≠44))=true) (hn:decide (x=("":Str))=false):pcs x=[x] :=
 pcs_one (fun c hc=>of_decide_eq_true (List.all_eq_true.mp h c hc)) (of_decide_eq_false hn)
theorem bad_pc {x:Str} (b:BadW x):pcs x=[x]:=pcs_one b.fr b.ne
section
variable {z : Str} (hz : z = "" ∨ BadW z)
include hz
theorem odd_word {x p:Str} (hx:x=(p++" ")++"W") (hw:decide (87∈(p++" ").cps.toList)=false) (hpc:pcs p=[p]) (hp:decide (p∈(["(","not","thread"]:List Str))=false) (h1:decide (p∈(["any","answers"]:List Str))=false) (h2:decide (p∈(["word","title","from","in","marked"]:List Str))=true):OddL (pcs (Txt.replace x "W" z)):=by
 rw [rW_end hw hx,pcs_app,hpc]
 rcases hz with rfl | b
 ·rw [pcs_nil];exact odd_w0 hp h1 h2
 ·rw [bad_pc b];exact odd_w1 hp h1 h2 b
theorem odd_any:∀x∈someL,OddL (pcs (Txt.replace x "W" z)):=by
 have fix:∀{x:Str} {l:List Str},decide (87∈x.cps.toList)=false→pcs x=l→OddL l→OddL (pcs (Txt.replace x "W" z)):=fun h e o=>by rw [rW_free h,e];exact o
 intro x hx
 simp only [someL,List.mem_append,List.mem_cons,List.not_mem_nil,or_false] at hx
 rcases hx with ((rfl | rfl | rfl | rfl | rfl | rfl | rfl | rfl | rfl | rfl) | (rfl | rfl | rfl | rfl | rfl | rfl | rfl | rfl | rfl)) | (rfl | rfl | rfl | rfl | rfl | rfl | rfl)
 ·exact odd_word hz (p:="word") (by decide +kernel) (by decide +kernel) (lit_pc (by decide +kernel) (by decide +kernel)) (by decide +kernel) (by decide +kernel) (by decide +kernel)
 ·exact odd_word hz (p:="title") (by decide +kernel) (by decide +kernel) (lit_pc (by decide +kernel) (by decide +kernel)) (by decide +kernel) (by decide +kernel) (by decide +kernel)
 ·exact odd_word hz (p:="from") (by decide +kernel) (by decide +kernel) (lit_pc (by decide +kernel) (by decide +kernel)) (by decide +kernel) (by decide +kernel) (by decide +kernel)
 ·exact odd_word hz (p:="in") (by decide +kernel) (by decide +kernel) (lit_pc (by decide +kernel) (by decide +kernel)) (by decide +kernel) (by decide +kernel) (by decide +kernel)
 ·exact odd_word hz (p:="marked") (by decide +kernel) (by decide +kernel) (lit_pc (by decide +kernel) (by decide +kernel)) (by decide +kernel) (by decide +kernel) (by decide +kernel)
 ·exact fix (l:=["day","12345"]) (by decide +kernel) (by decide +kernel) (odd_leaf (by decide +kernel) fun F=>day_no (by decide +kernel))
 ·exact fix (l:=["day"]) (by decide +kernel) (by decide +kernel) (odd_leaf2 (by decide +kernel) rfl (day_no (by decide +kernel)) fun W=>day_no (by decide +kernel))
 ·exact fix (l:=["day","x"]) (by decide +kernel) (by decide +kernel) (odd_leaf (by decide +kernel) fun F=>day_no (by decide +kernel))
 ·exact fix (l:=["day","3","to"]) (by decide +kernel) (by decide +kernel) (odd_leaf2 (by decide +kernel) (day_to0 (by decide +kernel)) (day_to (by decide +kernel) (by decide +kernel)) fun W=>day_to (by decide +kernel) (by decide +kernel))
 ·exact fix (l:=["before","0"]) (by decide +kernel) (by decide +kernel) (odd_leaf (by decide +kernel) fun F=>by rw [lf_before];exact congrArg (Option.map _) (nm_out (x:="0") (by decide +kernel)))
 ·exact fix (l:=["after","9999"]) (by decide +kernel) (by decide +kernel) (odd_leaf (by decide +kernel) fun F=>by rw [lf_after];exact congrArg (Option.map _) (nm_out (x:="9999") (by decide +kernel)))
 ·exact fix (l:=["before","10000x"]) (by decide +kernel) (by decide +kernel) (odd_leaf (by decide +kernel) fun F=>by rw [lf_before];exact congrArg (Option.map _) (nm_no (x:="10000x") (by decide +kernel)))
 ·exact fix (l:=["after"]) (by decide +kernel) (by decide +kernel) (odd_leaf2 (by decide +kernel) rfl (by rw [lf_after];exact congrArg (Option.map _) (nm_no (x:=")") (by decide +kernel))) fun W=>by rw [lf_after];exact congrArg (Option.map _) (nm_no (x:="or") (by decide +kernel)))
 ·exact fix (l:=["day","3","to","00005"]) (by decide +kernel) (by decide +kernel) (odd_leaf (by decide +kernel) fun F=>day_to (by decide +kernel) (by decide +kernel))
 ·exact fix (l:=["Any"]) (by decide +kernel) (by decide +kernel) (odd_first (by decide +kernel))
 ·exact fix (l:=["anyone"]) (by decide +kernel) (by decide +kernel) (odd_first (by decide +kernel))
 ·exact fix (l:=["word"]) (by decide +kernel) (by decide +kernel) (odd_w0 (by decide +kernel) (by decide +kernel) (by decide +kernel))
 ·exact fix (l:=["to","3"]) (by decide +kernel) (by decide +kernel) (odd_first (by decide +kernel))
 ·rw [rW_end (y:="") (by decide +kernel) (by decide +kernel),str_nil1]
  rcases hz with rfl | b
  ·rw [pcs_nil];exact odd_nil
  ·rw [bad_pc b];exact odd_first b.nk
 ·exact fix (l:=["day","+5"]) (by decide +kernel) (by decide +kernel) (odd_leaf (by decide +kernel) fun F=>day_no (by decide +kernel))
 ·exact fix (l:=["day","1_0"]) (by decide +kernel) (by decide +kernel) (odd_leaf (by decide +kernel) fun F=>day_no (by decide +kernel))
 ·exact fix (l:=["before","+1"]) (by decide +kernel) (by decide +kernel) (odd_leaf (by decide +kernel) fun F=>by rw [lf_before];exact congrArg (Option.map _) (nm_no (x:="+1") (by decide +kernel)))
 ·exact fix (l:=["day","3","to","-4"]) (by decide +kernel) (by decide +kernel) (odd_leaf (by decide +kernel) fun F=>day_to (by decide +kernel) (by decide +kernel))
 ·exact fix (l:=["any\t"]) (by decide +kernel) (by decide +kernel) (odd_first (by decide +kernel))
 ·exact fix (l:=["any\n"]) (by decide +kernel) (by decide +kernel) (odd_first (by decide +kernel))
 ·rw [rW_end (y:="word\t") (by decide +kernel) (by decide +kernel)]
  have h9:9∈(("word\t":Str)++z).cps.toList:=by rw [cat_list];exact List.mem_append_left _ (by decide +kernel)
  have nk:("word\t":Str)++z∉kws:=fun q=>by
   have hz:∀p∈kws,9∉p.cps.toList:=by decide +kernel
   exact hz _ q h9
  rw [pcs_one (fun c hc=>?_) (fun e=>by rw [e] at h9;exact absurd h9 (by decide +kernel))]
  ·exact odd_first nk
  ·rw [cat_list] at hc
   rcases List.mem_append.mp hc with hc | hc
   ·have hw:∀c∈("word\t":Str).cps.toList,c≠32∧c≠40∧c≠41∧c≠44:=by decide +kernel
    exact hw c hc
   ·rcases hz with rfl | b
    ·cases hc
    ·exact b.fr c hc
end
theorem expd_self:∀l:List Nat,expd 87 [87] l=l
 | []=>rfl
 | c :: l=>by
   show (if c=87 then [87] else [c])++expd 87 [87] l=c :: l
   rw [expd_self l]
   split
   ·rename_i h;rw [h];rfl
   ·rfl
theorem odd_self:∀x∈someL,OddL (pcs x):=fun x hx=>by
 have h:=odd_any (z:="W") (.inr ⟨fun c hc=>(by have h:∀c∈("W":Str).cps.toList,c≠32∧c≠40∧c≠41∧c≠44:=(by decide +kernel);exact h c hc),by decide +kernel,by decide +kernel,by decide +kernel⟩) x hx
 rw [show Txt.replace x "W" "W"=x from str_ext (by rw [rW,show ("W":Str).cps.toList=[87] by decide +kernel,expd_self])] at h
 exact h
def lpts:Tr→List Str
 | .any=>["any"]
 | .ans=>["answers"]
 | .word w=>["word",w]
 | .title w=>["title",w]
 | .frm w=>["from",w]
 | .inn w=>["in",w]
 | .mrk w=>["marked",w]
 | _=>[]
def wr:Tr→Str
 | .days l h=>(((Str.empty++"day ")++Str.ofString (toString l))++" to ")++Str.ofString (toString h)
 | .nt u=>(("not":Str)++" ")++wr u
 | .thr u=>(("thread":Str)++" ")++wr u
 | .bth u v=>((((((Str.empty++"(")++wr u)++" ")++"and")++" ")++wr v)++")"
 | .eth u v=>((((((Str.empty++"(")++wr u)++" ")++"or")++" ")++wr v)++")"
 | t=>PySem.Txt.join " " (lpts t)
theorem app_len (x y:Str):(x++y).length=x.length+y.length:=strLen_append x y
theorem join_two (x y:Str):PySem.Txt.join " " [x,y]=(x++" ")++y:=by rfl
theorem TAt.wlen {H:Hp} {p:Addr} {t:Tr} (h:TAt H p t):(wr t).length≤54*t.sz:=by
 have e0:Str.empty.length=0:=rfl
 have q1:("word":Str).length=4:=by decide +kernel
 have q2:("title":Str).length=5:=by decide +kernel
 have q3:("from":Str).length=4:=by decide +kernel
 have q4:("in":Str).length=2:=by decide +kernel
 have q5:("marked":Str).length=6:=by decide +kernel
 have q6:(" ":Str).length=1:=by decide +kernel
 have q7:("day ":Str).length=4:=by decide +kernel
 have q8:(" to ":Str).length=4:=by decide +kernel
 have q9:("not":Str).length=3:=by decide +kernel
 have q10:("thread":Str).length=6:=by decide +kernel
 have q11:("(":Str).length=1:=by decide +kernel
 have q12:(")":Str).length=1:=by decide +kernel
 have q13:("and":Str).length=3:=by decide +kernel
 have q14:("or":Str).length=2:=by decide +kernel
 induction h with
 | any e=>decide +kernel
 | ans e=>decide +kernel
 | word e w =>
   have:=w.hi
   show (PySem.Txt.join " " ["word",_]).length≤54*1
   rw [join_two,app_len,app_len,q1,q6];omega
 | title e w =>
   have:=w.hi
   show (PySem.Txt.join " " ["title",_]).length≤54*1
   rw [join_two,app_len,app_len,q2,q6];omega
 | frm e w =>
   have:=w.hi
   show (PySem.Txt.join " " ["from",_]).length≤54*1
   rw [join_two,app_len,app_len,q3,q6];omega
 | inn e w =>
   have:=w.hi
   show (PySem.Txt.join " " ["in",_]).length≤54*1
   rw [join_two,app_len,app_len,q4,q6];omega
 | mrk e w =>
   have:=w.hi
   show (PySem.Txt.join " " ["marked",_]).length≤54*1
   rw [join_two,app_len,app_len,q5,q6];omega
 | days e b =>
   have h1:=num_le4 b.1 b.2.1
   have h2:=num_le4 b.2.2.1 b.2.2.2
   show ((((Str.empty++"day ")++Str.ofString (toString _))++" to ")++Str.ofString (toString _)).length≤54*1
   rw [app_len,app_len,app_len,app_len,e0,q7,q8];omega
 | nt e _ ih =>
   show ((("not":Str)++" ")++wr _).length≤54*(_+1)
   rw [app_len,app_len,q9,q6]
   omega
 | thr e _ ih =>
   show ((("thread":Str)++" ")++wr _).length≤54*(_+1)
   rw [app_len,app_len,q10,q6]
   omega
 | bth e _ _ i1 i2 =>
   rename_i u v _ _
   show (((((((Str.empty++"(")++wr u)++" ")++"and")++" ")++wr v)++")").length≤54*(u.sz+v.sz+1)
   rw [app_len,app_len,app_len,app_len,app_len,app_len,app_len,e0,q11,q6,q13,q12]
   omega
 | eth e _ _ i1 i2 =>
   rename_i u v _ _
   show (((((((Str.empty++"(")++wr u)++" ")++"or")++" ")++wr v)++")").length≤54*(u.sz+v.sz+1)
   rw [app_len,app_len,app_len,app_len,app_len,app_len,app_len,e0,q11,q6,q14,q12]
   omega
theorem bigS {n:Nat} (h:n≤100000):n≤sizeLine:=Nat.le_trans h (by decide)
theorem str_assoc (x y z:Str):(x++y)++z=x++(y++z):=by
 show (⟨(x.cps++y.cps)++z.cps⟩:Str)=⟨x.cps++(y.cps++z.cps)⟩
 rw [Array.append_assoc]
theorem str_nil (x:Str):Str.empty++x=x:=by
 show (⟨#[]++x.cps⟩:Str)=x
 rw [Array.empty_append]
theorem wr_days (l h:Int):wr (.days l h)=((("day ":Str)++Str.ofString (toString l))++" to ")++Str.ofString (toString h):=by
 show (((Str.empty++"day ")++_)++_)++_=_
 rw [str_nil]
theorem wr_bth (u v:Tr):wr (.bth u v)=(((("(":Str)++wr u)++" and ")++wr v)++")":=by
 show ((((((Str.empty++"(")++wr u)++" ")++"and")++" ")++wr v)++")"=_
 rw [str_nil,str_assoc (("(":Str)++wr u) " " "and",str_assoc (("(":Str)++wr u) _ " "]
 rfl
theorem wr_eth (u v:Tr):wr (.eth u v)=(((("(":Str)++wr u)++" or ")++wr v)++")":=by
 show ((((((Str.empty++"(")++wr u)++" ")++"or")++" ")++wr v)++")"=_
 rw [str_nil,str_assoc (("(":Str)++wr u) " " "or",str_assoc (("(":Str)++wr u) _ " "]
 rfl
theorem TAt.small {H:Hp} {p:Addr} {t:Tr} (h:TAt H p t) (hd:t.sz≤1100):(wr t).length≤54*t.sz:=h.wlen
inductive spLW_I (n:Nat) (vs:List V) (H:Hp) (Q:VK):Prop
 | mk:∀p t,vs=[.ref p]→TAt H p t→t.dp<n→t.sz≤1100→Q (.str (wr t)) H→spLW_I n vs H Q
def spLW (n:Nat):Sp:=fun vs H Q _=>spLW_I n vs H Q
section
variable {P : Program} {w : World} {K : PySem.W.Frag} {mg : Str → Option Value} {base : Heap} {a : Adr}
theorem ok_lw {fd:FuncData} (F:Fun K "_law_written" "_law_written" sl_written a.f_l_written fd) (b_l_written:Binds K fd ["_law_tree"] []) (T:Txt K mg a):∀n,FnOk P w K mg base CX0 (n+1) a.f_l_written fd ["_law_tree"] (spLW n)
 | 0=>by
   refine F.ok sc_l_written (fun vs H Q E h=>?_) (fun cdv A outer st H vs Q E hr h=>?_)
   ·obtain ⟨p,t,rfl,_⟩:=h;rfl
   ·obtain ⟨p,t,_,_,h,_⟩:=h;exact absurd h (Nat.not_lt_zero _)
 | n+1=>by
   have G:=ok_lw F b_l_written T n
   refine F.ok sc_l_written (fun vs H Q E h=>?_) (fun cdv A outer st H vs Q E hr h=>?_)
   ·obtain ⟨p,t,rfl,_⟩:=h;rfl
   obtain ⟨p,t,rfl,tt,hd,hd9,k⟩:=h
   have hrG:Room (n+1) _:=hr
   have hlen:=tt.small hd9
   have q6:(" ":Str).length=1:=by decide +kernel
   have q7:("day ":Str).length=4:=by decide +kernel
   have q8:(" to ":Str).length=4:=by decide +kernel
   have q11:("(":Str).length=1:=by decide +kernel
   have q12:(")":Str).length=1:=by decide +kernel
   have q13:(" and ":Str).length=5:=by decide +kernel
   have q14:(" or ":Str).length=4:=by decide +kernel
   refine ⟨_,(pss_cons (ps_if (pt_cmpR op_eq (pe_ix ix_tup (pv 0) pe_int (fun _ _=>rfl)) pe_str (nomark _)) (pss_one (ps_ret (pe_op op_add_str (pe_op op_add_str (pe_op op_add_str pe_str (pe_callTy call_str_int rfl T.b_str PyProof.Rows.boot_str (pac (pe_ix ix_tup (pv 0) pe_int (fun _ _=>rfl)) pa_nil))) pe_str) (pe_callTy call_str_int rfl T.b_str PyProof.Rows.boot_str (pac (pe_ix ix_tup (pv 0) pe_int (fun _ _=>rfl)) pa_nil))))) pss_nil)
    (pss_cons (ps_if (PW.pt (pw_or (pt_cmpR op_eq (pe_ix ix_tup (pv 0) pe_int (fun _ _=>rfl)) pe_str (nomark _)) (pw_or1 (pt_cmpR op_eq (pe_ix ix_tup (pv 0) pe_int (fun _ _=>rfl)) pe_str (nomark _))))) (pss_one (ps_ret (pe_op op_add_str (pe_op op_add_str (pe_ix ix_tup (pv 0) pe_int (fun _ _=>rfl)) pe_str) (pe_call G hrG rfl T.m_l_written F.kp b_l_written .nil pass0 (pac (pe_ix ix_tup (pv 0) pe_int (fun _ _=>rfl)) pa_nil))))) pss_nil)
    (pss_cons (ps_if (pt_cmpR op_eq (pe_ix ix_tup (pv 0) pe_int (fun _ _=>rfl)) pe_str (nomark _)) (pss_one (ps_ret (pe_op op_add_str (pe_op op_add_str (pe_op op_add_str (pe_op op_add_str pe_str (pe_call G hrG rfl T.m_l_written F.kp b_l_written .nil pass0 (pac (pe_ix ix_tup (pv 0) pe_int (fun _ _=>rfl)) pa_nil))) pe_str) (pe_call G hrG rfl T.m_l_written F.kp b_l_written .nil pass0 (pac (pe_ix ix_tup (pv 0) pe_int (fun _ _=>rfl)) pa_nil))) pe_str))) pss_nil)
    (pss_cons (ps_if (pt_cmpR op_eq (pe_ix ix_tup (pv 0) pe_int (fun _ _=>rfl)) pe_str (nomark _)) (pss_one (ps_ret (pe_op op_add_str (pe_op op_add_str (pe_op op_add_str (pe_op op_add_str pe_str (pe_call G hrG rfl T.m_l_written F.kp b_l_written .nil pass0 (pac (pe_ix ix_tup (pv 0) pe_int (fun _ _=>rfl)) pa_nil))) pe_str) (pe_call G hrG rfl T.m_l_written F.kp b_l_written .nil pass0 (pac (pe_ix ix_tup (pv 0) pe_int (fun _ _=>rfl)) pa_nil))) pe_str))) pss_nil)
    (pss_one (ps_ret (pe_bm PySem.F.plainAttrs_str PySem.F.slot_str_join PySem.F.type_str_join mt_joinT pe_str (pac (pv 0) pa_nil)))))))),?_⟩
   have tt':=tt
   cases tt' with
   | days e b =>
     refine ⟨_,rfl,p,_,_,_,rfl,rfl,SqT.of e,rfl,rfl,_,rfl,hitS ?_⟩
     have h1:=num_le4 b.1 b.2.1
     have h2:=num_le4 b.2.2.1 b.2.2.2
     rw [wr_days] at k
     refine ⟨_,rfl,p,_,_,_,rfl,rfl,SqT.of e,rfl,_,rfl,log_day b.1 b.2.1,_,_,rfl,rfl,bigS (by rw [q7];omega),_,_,rfl,rfl,bigS (by rw [app_len,q7,q8];omega),_,rfl,p,_,_,_,rfl,rfl,SqT.of e,rfl,_,rfl,log_day b.2.2.1 b.2.2.2,_,_,rfl,rfl,bigS (by rw [app_len,app_len,q7,q8];omega),k⟩
   | nt e h1 =>
     refine ⟨_,rfl,p,_,_,_,rfl,rfl,SqT.of e,rfl,rfl,_,rfl,skS (by decide +kernel) ?_⟩
     simp only [Tr.sz] at hd9
     have hu:=h1.small (by omega)
     have q9:("not":Str).length=3:=by decide +kernel
     refine ⟨_,rfl,p,_,_,_,rfl,rfl,SqT.of e,rfl,rfl,_,rfl,hitS (iteT ?_)⟩
     refine ⟨_,rfl,p,_,_,_,rfl,rfl,SqT.of e,rfl,_,_,rfl,rfl,bigS (by rw [q9,q6];decide),_,rfl,p,_,_,_,rfl,rfl,SqT.of e,rfl,_,_,rfl,h1,(by simp only [Tr.dp] at hd;omega),(by omega),_,_,rfl,rfl,bigS (by rw [app_len,q9,q6];omega),k⟩
   | thr e h1 =>
     refine ⟨_,rfl,p,_,_,_,rfl,rfl,SqT.of e,rfl,rfl,_,rfl,skS (by decide +kernel) ?_⟩
     simp only [Tr.sz] at hd9
     have hu:=h1.small (by omega)
     have q9:("thread":Str).length=6:=by decide +kernel
     refine ⟨_,rfl,p,_,_,_,rfl,rfl,SqT.of e,rfl,rfl,_,rfl,skS (by decide +kernel) ⟨_,rfl,p,_,_,_,rfl,rfl,SqT.of e,rfl,rfl,_,rfl,hitS ?_⟩⟩
     refine ⟨_,rfl,p,_,_,_,rfl,rfl,SqT.of e,rfl,_,_,rfl,rfl,bigS (by rw [q9,q6];decide),_,rfl,p,_,_,_,rfl,rfl,SqT.of e,rfl,_,_,rfl,h1,(by simp only [Tr.dp] at hd;omega),(by omega),_,_,rfl,rfl,bigS (by rw [app_len,q9,q6];omega),k⟩
   | bth e h1 h2 =>
     refine ⟨_,rfl,p,_,_,_,rfl,rfl,SqT.of e,rfl,rfl,_,rfl,skS (by decide +kernel) ?_⟩
     refine ⟨_,rfl,p,_,_,_,rfl,rfl,SqT.of e,rfl,rfl,_,rfl,skS (by decide +kernel) ⟨_,rfl,p,_,_,_,rfl,rfl,SqT.of e,rfl,rfl,_,rfl,skS (by decide +kernel) ?_⟩⟩
     refine ⟨_,rfl,p,_,_,_,rfl,rfl,SqT.of e,rfl,rfl,_,rfl,hitS ?_⟩
     simp only [Tr.sz] at hd9
     have hu:=h1.small (by omega)
     have hv:=h2.small (by omega)
     rw [wr_bth] at k
     refine ⟨_,rfl,p,_,_,_,rfl,rfl,SqT.of e,rfl,_,_,rfl,h1,(by simp only [Tr.dp] at hd;omega),(by omega),_,_,rfl,rfl,bigS (by rw [q11];omega),_,_,rfl,rfl,bigS (by rw [app_len,q11,q13];omega),_,rfl,p,_,_,_,rfl,rfl,SqT.of e,rfl,_,_,rfl,h2,(by simp only [Tr.dp] at hd;omega),(by omega),_,_,rfl,rfl,bigS (by rw [app_len,app_len,q11,q13];omega),_,_,rfl,rfl,bigS (by rw [app_len,app_len,app_len,q11,q13,q12];omega),k⟩
   | eth e h1 h2 =>
     refine ⟨_,rfl,p,_,_,_,rfl,rfl,SqT.of e,rfl,rfl,_,rfl,skS (by decide +kernel) ?_⟩
     refine ⟨_,rfl,p,_,_,_,rfl,rfl,SqT.of e,rfl,rfl,_,rfl,skS (by decide +kernel) ⟨_,rfl,p,_,_,_,rfl,rfl,SqT.of e,rfl,rfl,_,rfl,skS (by decide +kernel) ?_⟩⟩
     refine ⟨_,rfl,p,_,_,_,rfl,rfl,SqT.of e,rfl,rfl,_,rfl,skS (by decide +kernel) ?_⟩
     refine ⟨_,rfl,p,_,_,_,rfl,rfl,SqT.of e,rfl,rfl,_,rfl,hitS ?_⟩
     simp only [Tr.sz] at hd9
     have hu:=h1.small (by omega)
     have hv:=h2.small (by omega)
     rw [wr_eth] at k
     refine ⟨_,rfl,p,_,_,_,rfl,rfl,SqT.of e,rfl,_,_,rfl,h1,(by simp only [Tr.dp] at hd;omega),(by omega),_,_,rfl,rfl,bigS (by rw [q11];omega),_,_,rfl,rfl,bigS (by rw [app_len,q11,q14];omega),_,rfl,p,_,_,_,rfl,rfl,SqT.of e,rfl,_,_,rfl,h2,(by simp only [Tr.dp] at hd;omega),(by omega),_,_,rfl,rfl,bigS (by rw [app_len,app_len,q11,q14];omega),_,_,rfl,rfl,bigS (by rw [app_len,app_len,app_len,q11,q14,q12];omega),k⟩
   | any e =>
     refine ⟨_,rfl,p,_,_,_,rfl,rfl,SqT.of e,rfl,rfl,_,rfl,skS (by decide +kernel) ?_⟩
     refine ⟨_,rfl,p,_,_,_,rfl,rfl,SqT.of e,rfl,rfl,_,rfl,skS (by decide +kernel) ⟨_,rfl,p,_,_,_,rfl,rfl,SqT.of e,rfl,rfl,_,rfl,skS (by decide +kernel) ?_⟩⟩
     refine ⟨_,rfl,p,_,_,_,rfl,rfl,SqT.of e,rfl,rfl,_,rfl,skS (by decide +kernel) ?_⟩
     refine ⟨_,rfl,p,_,_,_,rfl,rfl,SqT.of e,rfl,rfl,_,rfl,skS (by decide +kernel) ?_⟩
     exact ⟨rfl,_,rfl,_,p,lpts (.any),rfl,rfl,SqT.of e,(by decide +kernel),k⟩
   | ans e =>
     refine ⟨_,rfl,p,_,_,_,rfl,rfl,SqT.of e,rfl,rfl,_,rfl,skS (by decide +kernel) ?_⟩
     refine ⟨_,rfl,p,_,_,_,rfl,rfl,SqT.of e,rfl,rfl,_,rfl,skS (by decide +kernel) ⟨_,rfl,p,_,_,_,rfl,rfl,SqT.of e,rfl,rfl,_,rfl,skS (by decide +kernel) ?_⟩⟩
     refine ⟨_,rfl,p,_,_,_,rfl,rfl,SqT.of e,rfl,rfl,_,rfl,skS (by decide +kernel) ?_⟩
     refine ⟨_,rfl,p,_,_,_,rfl,rfl,SqT.of e,rfl,rfl,_,rfl,skS (by decide +kernel) ?_⟩
     exact ⟨rfl,_,rfl,_,p,lpts (.ans),rfl,rfl,SqT.of e,(by decide +kernel),k⟩
   | word e hw =>
     refine ⟨_,rfl,p,_,_,_,rfl,rfl,SqT.of e,rfl,rfl,_,rfl,skS (by decide +kernel) ?_⟩
     refine ⟨_,rfl,p,_,_,_,rfl,rfl,SqT.of e,rfl,rfl,_,rfl,skS (by decide +kernel) ⟨_,rfl,p,_,_,_,rfl,rfl,SqT.of e,rfl,rfl,_,rfl,skS (by decide +kernel) ?_⟩⟩
     refine ⟨_,rfl,p,_,_,_,rfl,rfl,SqT.of e,rfl,rfl,_,rfl,skS (by decide +kernel) ?_⟩
     refine ⟨_,rfl,p,_,_,_,rfl,rfl,SqT.of e,rfl,rfl,_,rfl,skS (by decide +kernel) ?_⟩
     rename_i wd
     have:=hw.hi
     have q:("word":Str).length≤6:=by decide +kernel
     exact ⟨rfl,_,rfl,_,p,lpts (.word wd),rfl,rfl,SqT.of e,(by show ("word":Str).length+(wd.length+0)+2*1≤16777216;omega),k⟩
   | title e hw =>
     refine ⟨_,rfl,p,_,_,_,rfl,rfl,SqT.of e,rfl,rfl,_,rfl,skS (by decide +kernel) ?_⟩
     refine ⟨_,rfl,p,_,_,_,rfl,rfl,SqT.of e,rfl,rfl,_,rfl,skS (by decide +kernel) ⟨_,rfl,p,_,_,_,rfl,rfl,SqT.of e,rfl,rfl,_,rfl,skS (by decide +kernel) ?_⟩⟩
     refine ⟨_,rfl,p,_,_,_,rfl,rfl,SqT.of e,rfl,rfl,_,rfl,skS (by decide +kernel) ?_⟩
     refine ⟨_,rfl,p,_,_,_,rfl,rfl,SqT.of e,rfl,rfl,_,rfl,skS (by decide +kernel) ?_⟩
     rename_i wd
     have:=hw.hi
     have q:("title":Str).length≤6:=by decide +kernel
     exact ⟨rfl,_,rfl,_,p,lpts (.title wd),rfl,rfl,SqT.of e,(by show ("title":Str).length+(wd.length+0)+2*1≤16777216;omega),k⟩
   | frm e hw =>
     refine ⟨_,rfl,p,_,_,_,rfl,rfl,SqT.of e,rfl,rfl,_,rfl,skS (by decide +kernel) ?_⟩
     refine ⟨_,rfl,p,_,_,_,rfl,rfl,SqT.of e,rfl,rfl,_,rfl,skS (by decide +kernel) ⟨_,rfl,p,_,_,_,rfl,rfl,SqT.of e,rfl,rfl,_,rfl,skS (by decide +kernel) ?_⟩⟩
     refine ⟨_,rfl,p,_,_,_,rfl,rfl,SqT.of e,rfl,rfl,_,rfl,skS (by decide +kernel) ?_⟩
     refine ⟨_,rfl,p,_,_,_,rfl,rfl,SqT.of e,rfl,rfl,_,rfl,skS (by decide +kernel) ?_⟩
     rename_i wd
     have:=hw.hi
     have q:("from":Str).length≤6:=by decide +kernel
     exact ⟨rfl,_,rfl,_,p,lpts (.frm wd),rfl,rfl,SqT.of e,(by show ("from":Str).length+(wd.length+0)+2*1≤16777216;omega),k⟩
   | inn e hw =>
     refine ⟨_,rfl,p,_,_,_,rfl,rfl,SqT.of e,rfl,rfl,_,rfl,skS (by decide +kernel) ?_⟩
     refine ⟨_,rfl,p,_,_,_,rfl,rfl,SqT.of e,rfl,rfl,_,rfl,skS (by decide +kernel) ⟨_,rfl,p,_,_,_,rfl,rfl,SqT.of e,rfl,rfl,_,rfl,skS (by decide +kernel) ?_⟩⟩
     refine ⟨_,rfl,p,_,_,_,rfl,rfl,SqT.of e,rfl,rfl,_,rfl,skS (by decide +kernel) ?_⟩
     refine ⟨_,rfl,p,_,_,_,rfl,rfl,SqT.of e,rfl,rfl,_,rfl,skS (by decide +kernel) ?_⟩
     rename_i wd
     have:=hw.hi
     have q:("in":Str).length≤6:=by decide +kernel
     exact ⟨rfl,_,rfl,_,p,lpts (.inn wd),rfl,rfl,SqT.of e,(by show ("in":Str).length+(wd.length+0)+2*1≤16777216;omega),k⟩
   | mrk e hw =>
     refine ⟨_,rfl,p,_,_,_,rfl,rfl,SqT.of e,rfl,rfl,_,rfl,skS (by decide +kernel) ?_⟩
     refine ⟨_,rfl,p,_,_,_,rfl,rfl,SqT.of e,rfl,rfl,_,rfl,skS (by decide +kernel) ⟨_,rfl,p,_,_,_,rfl,rfl,SqT.of e,rfl,rfl,_,rfl,skS (by decide +kernel) ?_⟩⟩
     refine ⟨_,rfl,p,_,_,_,rfl,rfl,SqT.of e,rfl,rfl,_,rfl,skS (by decide +kernel) ?_⟩
     refine ⟨_,rfl,p,_,_,_,rfl,rfl,SqT.of e,rfl,rfl,_,rfl,skS (by decide +kernel) ?_⟩
     rename_i wd
     have:=hw.hi
     have q:("marked":Str).length≤6:=by decide +kernel
     exact ⟨rfl,_,rfl,_,p,lpts (.mrk wd),rfl,rfl,SqT.of e,(by show ("marked":Str).length+(wd.length+0)+2*1≤16777216;omega),k⟩
end
theorem WordS.pc {x:Str} (h:WordS x):pcs x=[x]:=by
 refine pcs_one (fun c hc=>?_) (fun e=>?_)
 ·have:=h.in_ c hc
  have hz:∀c∈aZ.cps.toList,c≠32∧c≠40∧c≠41∧c≠44:=by decide +kernel
  exact hz c this
 ·have:=h.lo
  rw [e] at this
  exact absurd this (by decide +kernel)
theorem num_pc {d:Int} (h0:0≤d) (h1:d≤9999):pcs (Str.ofString (toString d))=[Str.ofString (toString d)]:=by
 have hl:=num_ge1 h0
 have hd:=num_digits h0
 refine pcs_one (fun c hc=>?_) (fun e=>?_)
 ·have:=hd c hc
  omega
 ·rw [e] at hl
  exact absurd hl (by decide +kernel)
theorem TAt.pieces {H:Hp} {p:Addr} {t:Tr} (h:TAt H p t):pcs (wr t)=tk t:=by
 induction h with
 | any e=>exact lit_pc (by decide +kernel) (by decide +kernel)
 | ans e=>exact lit_pc (by decide +kernel) (by decide +kernel)
 | word e w=>show pcs (PySem.Txt.join " " ["word",_])=_;rw [join_two,pcs_app,WordS.pc w,lit_pc (x:="word") (by decide +kernel) (by decide +kernel)];rfl
 | title e w=>show pcs (PySem.Txt.join " " ["title",_])=_;rw [join_two,pcs_app,WordS.pc w,lit_pc (x:="title") (by decide +kernel) (by decide +kernel)];rfl
 | frm e w=>show pcs (PySem.Txt.join " " ["from",_])=_;rw [join_two,pcs_app,WordS.pc w,lit_pc (x:="from") (by decide +kernel) (by decide +kernel)];rfl
 | inn e w=>show pcs (PySem.Txt.join " " ["in",_])=_;rw [join_two,pcs_app,WordS.pc w,lit_pc (x:="in") (by decide +kernel) (by decide +kernel)];rfl
 | mrk e w=>show pcs (PySem.Txt.join " " ["marked",_])=_;rw [join_two,pcs_app,WordS.pc w,lit_pc (x:="marked") (by decide +kernel) (by decide +kernel)];rfl
 | days e b =>
   rename_i l h
   rw [wr_days,show ("day ":Str)=("day":Str)++" " by decide +kernel,show (" to ":Str)=((" ":Str)++"to")++" " by decide +kernel]
   rw [←str_assoc3 _ ((" ":Str)++"to") " ",←str_assoc3 _ (" ":Str) "to",pcs_app,pcs_app,pcs_app,num_pc b.1 b.2.1,num_pc b.2.2.1 b.2.2.2,lit_pc (x:="day") (by decide +kernel) (by decide +kernel),lit_pc (x:="to") (by decide +kernel) (by decide +kernel)]
   rfl
 | nt e _ ih=>show pcs ((("not":Str)++" ")++wr _)=_;rw [pcs_app,ih,lit_pc (x:="not") (by decide +kernel) (by decide +kernel)];rfl
 | thr e _ ih=>show pcs ((("thread":Str)++" ")++wr _)=_;rw [pcs_app,ih,lit_pc (x:="thread") (by decide +kernel) (by decide +kernel)];rfl
 | bth e _ _ i1 i2 =>
   rw [wr_bth,show (" and ":Str)=((" ":Str)++"and")++" " by decide +kernel,←str_assoc3 _ ((" ":Str)++"and") " ",←str_assoc3 _ (" ":Str) "and",pcs_close,pcs_app,pcs_app,pcs_open,i1,i2,lit_pc (x:="and") (by decide +kernel) (by decide +kernel)]
   simp [tk]
 | eth e _ _ i1 i2 =>
   rw [wr_eth,show (" or ":Str)=((" ":Str)++"or")++" " by decide +kernel,←str_assoc3 _ ((" ":Str)++"or") " ",←str_assoc3 _ (" ":Str) "or",pcs_close,pcs_app,pcs_app,pcs_open,i1,i2,lit_pc (x:="or") (by decide +kernel) (by decide +kernel)]
   simp [tk]
theorem asc_lit {x:Str} (h:(x.cps.toList.all fun c=>decide (c<128))=true):Asc x:=fun c hc=>of_decide_eq_true (List.all_eq_true.mp h c hc)
theorem num_asc {d:Int} (h0:0≤d):Asc (Str.ofString (toString d)):=fun c hc=>by have:=num_digits h0 c hc;omega
theorem TAt.asc {H:Hp} {p:Addr} {t:Tr} (h:TAt H p t):Asc (wr t):=by
 have w2:∀{x y:Str},Asc x→Asc y→Asc (PySem.Txt.join " " [x,y]):=fun hx hy=>by rw [join_two];exact (hx.app (asc_lit (by decide +kernel))).app hy
 induction h with
 | any e=>exact asc_lit (by decide +kernel)
 | ans e=>exact asc_lit (by decide +kernel)
 | word e w=>exact w2 (asc_lit (by decide +kernel)) w.asc
 | title e w=>exact w2 (asc_lit (by decide +kernel)) w.asc
 | frm e w=>exact w2 (asc_lit (by decide +kernel)) w.asc
 | inn e w=>exact w2 (asc_lit (by decide +kernel)) w.asc
 | mrk e w=>exact w2 (asc_lit (by decide +kernel)) w.asc
 | days e b=>rw [wr_days];exact (((asc_lit (by decide +kernel)).app (num_asc b.1)).app (asc_lit (by decide +kernel))).app (num_asc b.2.2.1)
 | nt e _ ih=>exact ((asc_lit (by decide +kernel)).app (asc_lit (by decide +kernel))).app ih
 | thr e _ ih=>exact ((asc_lit (by decide +kernel)).app (asc_lit (by decide +kernel))).app ih
 | bth e _ _ i1 i2=>rw [wr_bth];exact ((((asc_lit (by decide +kernel)).app i1).app (asc_lit (by decide +kernel))).app i2).app (asc_lit (by decide +kernel))
 | eth e _ _ i1 i2=>rw [wr_eth];exact ((((asc_lit (by decide +kernel)).app i1).app (asc_lit (by decide +kernel))).app i2).app (asc_lit (by decide +kernel))
theorem Asc.tx {x:Str} (h:Asc x) (hl:x.length≤100000):TxOk x:=⟨hl,fun c hc=>Nat.lt_trans (h c hc) (by decide)⟩
inductive spLeaf_I (vs:List V) (H:Hp) (Q:VK):Prop
 | mk:∀(sh c:Int),vs=[.int sh,.int c]→0≤sh→sh<2147483629→0≤c→(∀t p H',H p=none→Same H H'→TAt H' p t→t.dp=0→Q (.ref p) H')→spLeaf_I vs H Q
def spLeaf:Sp:=fun vs H Q _=>spLeaf_I vs H Q
def mxs (f:Tr→Nat) (us:List Tr):Nat:=us.foldl (fun z u=>max z (f u)) 0
theorem mxs_snoc (f:Tr→Nat) (us:List Tr) (u:Tr):mxs f (us++[u])=max (mxs f us) (f u):=by unfold mxs;rw [List.foldl_append];rfl
theorem th_subs (t:Tr):t.th=mxs Tr.th (subs t)+(if nm1 t=("thread":Str) then 1 else 0):=by
 cases t with
 | thr u=>show u.th+1=max 0 u.th+1;omega
 | nt u=>rw [if_neg (show ¬nm1 (.nt u)=("thread":Str) by show ¬("not":Str)="thread";decide +kernel)];show u.th=max 0 u.th+0;omega
 | bth u v=>rw [if_neg (show ¬nm1 (.bth u v)=("thread":Str) by show ¬("both":Str)="thread";decide +kernel)];show max u.th v.th=max (max 0 u.th) v.th+0;omega
 | eth u v=>rw [if_neg (show ¬nm1 (.eth u v)=("thread":Str) by show ¬("either":Str)="thread";decide +kernel)];show max u.th v.th=max (max 0 u.th) v.th+0;omega
 | any=>decide +kernel
 | ans=>decide +kernel
 | word w=>rw [if_neg (show ¬nm1 (.word w)=("thread":Str) by show ¬("word":Str)="thread";decide +kernel)];rfl
 | title w=>rw [if_neg (show ¬nm1 (.title w)=("thread":Str) by show ¬("title":Str)="thread";decide +kernel)];rfl
 | frm w=>rw [if_neg (show ¬nm1 (.frm w)=("thread":Str) by show ¬("from":Str)="thread";decide +kernel)];rfl
 | days l h=>rw [if_neg (show ¬nm1 (.days l h)=("thread":Str) by show ¬("day":Str)="thread";decide +kernel)];rfl
 | inn w=>rw [if_neg (show ¬nm1 (.inn w)=("thread":Str) by show ¬("in":Str)="thread";decide +kernel)];rfl
 | mrk w=>rw [if_neg (show ¬nm1 (.mrk w)=("thread":Str) by show ¬("marked":Str)="thread";decide +kernel)];rfl
inductive spThr_I (n:Nat) (vs:List V) (H:Hp) (Q:VK):Prop
 | mk:∀p t,vs=[.ref p]→TAt H p t→t.dp<n→(∀H',Same H H'→Q (.int (t.th:Int)) H')→spThr_I n vs H Q
def spThr (n:Nat):Sp:=fun vs H Q _=>spThr_I n vs H Q
theorem leaf_name:∀v∈([.str "word",.str "title",.str "from",.str "in",.str "marked",.str "word",.str "marked"]:List V),∃(s:Str) (f:Str→Tr),v=.str s∧(∀u,(f u).dp=0)∧∀(H:Hp) p u,H p=some (.tup [.str s,.str u])→WordS u→TAt H p (f u):=by
 intro v hv
 simp only [List.mem_cons,List.not_mem_nil,or_false] at hv
 rcases hv with rfl | rfl | rfl | rfl | rfl | rfl | rfl
 ·exact ⟨_,.word,rfl,fun _=>rfl,fun H p u e w=>.word e w⟩
 ·exact ⟨_,.title,rfl,fun _=>rfl,fun H p u e w=>.title e w⟩
 ·exact ⟨_,.frm,rfl,fun _=>rfl,fun H p u e w=>.frm e w⟩
 ·exact ⟨_,.inn,rfl,fun _=>rfl,fun H p u e w=>.inn e w⟩
 ·exact ⟨_,.mrk,rfl,fun _=>rfl,fun H p u e w=>.mrk e w⟩
 ·exact ⟨_,.word,rfl,fun _=>rfl,fun H p u e w=>.word e w⟩
 ·exact ⟨_,.mrk,rfl,fun _=>rfl,fun H p u e w=>.mrk e w⟩
theorem at_ints {xs:List Int} {i:Int} (h0:0≤i) (h1:i<(xs.length:Int)):∃z∈xs,atI (xs.map V.int) i=some (.int z):=by
 obtain ⟨v,hv,hm,_⟩:=atI_some (xs:=xs.map V.int) (i:=i) h0 (by rw [List.length_map];exact h1)
 obtain ⟨z,hz,rfl⟩:=List.mem_map.mp hm
 exact ⟨z,hz,hv⟩
section
variable {P : Program} {w : World} {K : PySem.W.Frag} {mg : Str → Option Value} {base : Heap} {a : Adr}
theorem ok_leaf {fd:FuncData} (F:Fun K "_law_leaf_by" "_law_leaf_by" sl_leaf_by a.f_l_leaf_by fd) (T:Txt K mg a) (FF:Funs K a):FnOk P w K mg base CX0 2 a.f_l_leaf_by fd ["_law_shape","_law_cell"] spLeaf:=by
 obtain ⟨fdW,F_l_word_by,b_l_word_by⟩:=FF.F_l_word_by
 have G_l_word_by:FnOk P w K mg base CX0 1 a.f_l_word_by fdW ["_law_shape","_law_k"] spWordBy:=ok_wordBy F_l_word_by T
 refine F.ok sc_l_leaf_by (fun vs H Q E h=>?_) (fun cdv A outer st H vs Q E hr h=>?_)
 ·obtain ⟨sh,c,rfl,_⟩:=h;rfl
 ·obtain ⟨sh,c,rfl,hs0,hs1,hc,k⟩:=h
  have hr_l_word_by:Room 1 _:=hr
  refine ⟨_,(pss_cons (ps_set (i:=2) sc_l_leaf_by.nd rfl (Or.inl rfl) (pe_call G_l_word_by hr_l_word_by rfl T.m_l_word_by F_l_word_by.kp b_l_word_by .nil pass0 (pac (pv 0) (pac (pe_op op_mod (pe_op op_fdiv (pv 1) pe_int) pe_int) pa_nil))))
   (pss_cons (ps_set (i:=3) sc_l_leaf_by.nd rfl (Or.inl rfl) (pe_op op_mod (pv 1) pe_int))
   (pss_cons (ps_if (pt_cmpR op_eq (pv 3) pe_int (nomark _)) (pss_one (ps_ret (pe_tupG (pas_cons pe_str pas_nil)))) pss_nil)
   (pss_cons (ps_if (pt_cmpR op_eq (pv 3) pe_int (nomark _)) (pss_one (ps_ret (pe_tupG (pas_cons pe_str pas_nil)))) pss_nil)
   (pss_cons (ps_if (pt_cmpR op_lt (pv 3) pe_int (nomark _)) (pss_cons (ps_set (i:=4) sc_l_leaf_by.nd rfl (Or.inl rfl) (pe_ix ix_list (pe_lstG (pas_cons pe_int (pas_cons (pe_op op_mod (pe_op op_fdiv (pv 1) pe_int) pe_int) (pas_cons (pe_op op_mod (pe_op op_fdiv (pv 1) pe_int) pe_int) pas_nil)))) (pe_op op_mod (pe_op op_fdiv (pv 1) pe_int) pe_int) (fun _ _=>rfl)))
   (pss_one (ps_ret (pe_tupG (pas_cons pe_str (pas_cons (pv 4) (pas_cons (pe_ix ix_list (pe_lstG (pas_cons (pv 4) (pas_cons pe_int (pas_cons (pe_op op_mod (pe_op op_fdiv (pv 1) pe_int) pe_int) (pas_cons (pe_op op_mod (pe_op op_fdiv (pv 1) pe_int) pe_int) pas_nil))))) (pe_op op_mod (pe_op op_fdiv (pv 1) pe_int) pe_int) (fun _ _=>rfl)) pas_nil))))))) pss_nil)
   (pss_one (ps_ret (pe_tupG (pas_cons (pe_ix ix_list (pe_lstG (pas_cons pe_str (pas_cons pe_str (pas_cons pe_str (pas_cons pe_str (pas_cons pe_str (pas_cons pe_str (pas_cons pe_str pas_nil)))))))) (pe_op op_sub (pv 3) pe_int) (fun _ _=>rfl)) (pas_cons (pv 2) pas_nil)))))))))),?_⟩
  have m0:0≤c / 11 % 5:=Int.emod_nonneg _ (by decide)
  have m1:c / 11 % 5<5:=Int.emod_lt_of_pos _ (by decide)
  have n0:0≤c % 11:=Int.emod_nonneg _ (by decide)
  have n1:c % 11<11:=Int.emod_lt_of_pos _ (by decide)
  refine ⟨_,rfl,_,rfl,_,_,rfl,rfl,⟨by decide,by decide⟩,_,_,rfl,rfl,(by show (0:Int)<5;decide),sh,c / 11 % 5,rfl,hs0,by omega,m0,by omega,fun H1 s1=>?_⟩
  have hwd:WordS (wordBy sh (c / 11 % 5)):=wordBy_ok m0 (by omega)
  generalize wordBy sh (c / 11 % 5)=wd at hwd
  refine ⟨_,rfl,_,_,rfl,rfl,(by show (0:Int)<11;decide),?_⟩
  refine ⟨_,rfl,rfl,_,rfl,?_⟩
  rw [int_eq]
  by_cases h0:c % 11=0
  ·rw [decide_eq_true h0]
   exact iteT ⟨(by show 1≤sizeLine;decide),fun p H2 np s2 e2=>k .any p H2 (s1.free np) (s1.trans s2) (.any e2) rfl⟩
  rw [decide_eq_false h0]
  refine iteF ⟨_,rfl,rfl,_,rfl,?_⟩
  rw [int_eq]
  by_cases h1:c % 11=1
  ·rw [decide_eq_true h1]
   exact iteT ⟨(by show 1≤sizeLine;decide),fun p H2 np s2 e2=>k .ans p H2 (s1.free np) (s1.trans s2) (.ans e2) rfl⟩
  rw [decide_eq_false h1]
  refine iteF ⟨_,rfl,_,_,rfl,rfl,_,rfl,?_⟩
  by_cases h2:c % 11<4
  ·rw [decide_eq_true h2]
   have fm:∀n:Int,True:=fun _=>trivial
   refine iteT ⟨_,rfl,_,_,rfl,rfl,⟨by decide,by decide⟩,_,_,rfl,rfl,(by show (0:Int)<10000;decide),_,rfl,_,_,rfl,rfl,⟨by decide,by decide⟩,_,_,rfl,rfl,(by show (0:Int)<9;decide),(by show 3≤sizeLine;decide),fun l H2 nl s2 e2=>?_⟩
   obtain ⟨lo,mlo,hlo⟩:=at_ints (xs:=[0,c / 55 % 10000,c / 55 % 9]) (i:=c / 3 % 3) (Int.emod_nonneg _ (by decide)) (Int.emod_lt_of_pos _ (by decide))
   refine ⟨_,rfl,_,_,rfl,rfl,⟨by decide,by decide⟩,_,_,rfl,rfl,(by show (0:Int)<3;decide),l,_,_,_,rfl,rfl,SqL.of e2,hlo,?_⟩
   refine ⟨_,rfl,_,rfl,_,rfl,_,_,rfl,rfl,⟨by decide,by decide⟩,_,_,rfl,rfl,(by show (0:Int)<10000;decide),_,rfl,_,_,rfl,rfl,⟨by decide,by decide⟩,_,_,rfl,rfl,(by show (0:Int)<9;decide),(by show 4≤sizeLine;decide),fun l2 H3 nl2 s3 e3=>?_⟩
   obtain ⟨hi,mhi,hhi⟩:=at_ints (xs:=[lo,9999,c / 77 % 10000,c / 77 % 9]) (i:=c / 5 % 4) (Int.emod_nonneg _ (by decide)) (Int.emod_lt_of_pos _ (by decide))
   refine ⟨_,rfl,_,_,rfl,rfl,⟨by decide,by decide⟩,_,_,rfl,rfl,(by show (0:Int)<4;decide),l2,_,_,_,rfl,rfl,SqL.of e3,hhi,(by show 3≤sizeLine;decide),fun p H4 np s4 e4=>?_⟩
   have r1:0≤c / 55 % 10000∧c / 55 % 10000<10000:=⟨Int.emod_nonneg _ (by decide),Int.emod_lt_of_pos _ (by decide)⟩
   have r2:0≤c / 55 % 9∧c / 55 % 9<9:=⟨Int.emod_nonneg _ (by decide),Int.emod_lt_of_pos _ (by decide)⟩
   have r3:0≤c / 77 % 10000∧c / 77 % 10000<10000:=⟨Int.emod_nonneg _ (by decide),Int.emod_lt_of_pos _ (by decide)⟩
   have r4:0≤c / 77 % 9∧c / 77 % 9<9:=⟨Int.emod_nonneg _ (by decide),Int.emod_lt_of_pos _ (by decide)⟩
   have blo:0≤lo∧lo≤9999:=by
    simp only [List.mem_cons,List.not_mem_nil,or_false] at mlo
    rcases mlo with rfl | rfl | rfl <;> omega
   have bhi:0≤hi∧hi≤9999:=by
    simp only [List.mem_cons,List.not_mem_nil,or_false] at mhi
    rcases mhi with rfl | rfl | rfl | rfl <;> omega
   exact k (.days lo hi) p H4 (s1.free (s2.free (s3.free np))) (((s1.trans s2).trans s3).trans s4) (.days e4 ⟨blo.1,blo.2,bhi.1,bhi.2⟩) rfl
  ·rw [decide_eq_false h2]
   refine iteF ⟨(by show 7≤sizeLine;decide),fun l H2 nl s2 e2=>?_⟩
   obtain ⟨v,hv,hvm,_⟩:=atI_some (xs:=[V.str "word",V.str "title",V.str "from",V.str "in",V.str "marked",V.str "word",V.str "marked"]) (i:=c % 11 - 4) (by omega) (by show c % 11 - 4<7;omega)
   obtain ⟨nm,f,rfl,fd0,ft⟩:=leaf_name v hvm
   refine ⟨_,rfl,_,_,rfl,rfl,l,_,_,_,rfl,rfl,SqL.of e2,hv,_,rfl,(by show 2≤sizeLine;decide),fun p H3 np s3 e3=>?_⟩
   exact k (f wd) p H3 (s1.free (s2.free np)) ((s1.trans s2).trans s3) (ft H3 p wd e3 hwd) (fd0 wd)
end
section
variable {P : Program} {w : World} {K : PySem.W.Frag} {mg : Str → Option Value} {base : Heap} {a : Adr}
theorem ok_thr {fd:FuncData} (F:Fun K "_law_threads" "_law_threads" sl_threads a.f_l_threads fd) (b_l_threads:Binds K fd ["_law_tree"] []) (T:Txt K mg a):∀n,FnOk P w K mg base CX0 (n+1) a.f_l_threads fd ["_law_tree"] (spThr n)
 | 0=>by
   refine F.ok sc_l_threads (fun vs H Q E h=>?_) (fun cdv A outer st H vs Q E hr h=>?_)
   ·obtain ⟨p,t,rfl,_⟩:=h;rfl
   ·obtain ⟨p,t,_,_,h,_⟩:=h;exact absurd h (Nat.not_lt_zero _)
 | n+1=>by
   have G_l_threads:=ok_thr F b_l_threads T n
   refine F.ok sc_l_threads (fun vs H Q E h=>?_) (fun cdv A outer st H vs Q E hr h=>?_)
   ·obtain ⟨p,t,rfl,_⟩:=h;rfl
   obtain ⟨p,t,rfl,tt,hd,k⟩:=h
   have hr_l_threads:Room (n+1) _:=hr
   refine ⟨_,(pss_cons (ps_set (i:=1) sc_l_threads.nd rfl (Or.inl rfl) pe_int)
    (pss_cons (ps_for PassesOwn.never rfl (pi_tup (pe_slice sl_tupG (pv 0) (po_some pe_int) po_none)) (pg_name (i:=2) sc_l_threads.nd rfl (Or.inl rfl)) (pss_one (ps_if (pt_val (pe_callB call_isinst rfl T.b_isinstance PyProof.Rows.boot_isinstance (pac (pv 2) (pac (pe_bltn (v:=.ty "tuple") rfl T.b_tuple PyProof.Rows.boot_tuple rfl) pa_nil)))) (pss_one (ps_set (i:=1) sc_l_threads.nd rfl (Or.inl rfl) (pe_callB (call_max2 rfl) rfl T.b_max PyProof.Rows.boot_max (pac (pv 1) (pac (pe_call G_l_threads hr_l_threads rfl T.m_l_threads F.kp b_l_threads .nil pass0 (pac (pv 2) pa_nil)) pa_nil))))) pss_nil)))
    (pss_one (ps_ret (pe_op op_add (pv 1) (pe_callTy call_int1 rfl T.b_int PyProof.Rows.boot_int (pac (pe_cmpR op_eq (pe_ix ix_tup (pv 0) pe_int (fun _ _=>rfl)) pe_str (nomark _)) pa_nil))))))),?_⟩
   obtain ⟨ks,e,hl,hsub,hm⟩:=tt.kids
   have ec:cutV (V.str (nm1 t) :: ks.map (·.1)) (some 1) none=ks.map (·.1):=cut1 _ _
   refine ⟨_,rfl,_,rfl,p,_,rfl,e,fun q H1 s1 e1=>?_⟩
   rw [ec] at e1
   refine ⟨q,rfl,⟨_,SqT.of e1⟩,for_tup (K:=K) (a:=q) (xs:=ks.map (·.1)) (fun i σ H2=>∃(o:Option V),σ=[some (.ref p),some (.int (mxs Tr.th ((ks.take i).filterMap (·.2)):Int)),o]∧Same H H2∧H2 q=some (.tup (ks.map (·.1)))) ⟨none,rfl,s1,e1⟩ (fun i σ H2 _ ⟨_,_,_,h⟩=>SqT.of h) ?_ ?_⟩
   ·rintro i v σ H2 hi ⟨o,rfl,s2,e2⟩
    rw [List.getElem?_map] at hi
    cases ek:ks[i]? with
    | none=>rw [ek] at hi;cases hi
    | some kd =>
      rw [ek] at hi
      cases hi
      have hkd:=(hm kd (List.mem_of_getElem? ek)).mono s2
      have htk:ks.take (i+1)=ks.take i++[kd]:=by rw [List.take_add_one,ek];rfl
      obtain ⟨v,ou⟩:=kd
      cases ou with
      | none =>
        have et:(ks.take (i+1)).filterMap (·.2)=(ks.take i).filterMap (·.2):=by rw [htk,List.filterMap_append];simp
        rcases hkd with ⟨y,rfl⟩ | ⟨y,rfl⟩
        ·exact ⟨_,rfl,_,_,_,_,_,rfl,rfl,TyOf.str _,kitST,_,rfl,iteF ⟨_,by rw [et];rfl,s2,e2⟩⟩
        ·exact ⟨_,rfl,_,_,_,_,_,rfl,rfl,TyOf.int _,kitIT,_,rfl,iteF ⟨_,by rw [et];rfl,s2,e2⟩⟩
      | some u =>
        obtain ⟨r,rfl,hu,hud,_⟩:=hkd
        have et:(ks.take (i+1)).filterMap (·.2)=(ks.take i).filterMap (·.2)++[u]:=by rw [htk,List.filterMap_append];simp
        obtain ⟨ks',er,_⟩:=hu.kids
        refine ⟨_,rfl,_,_,_,_,_,rfl,rfl,TyOf.tup er,kitTT,_,rfl,iteT ⟨_,rfl,_,rfl,r,u,rfl,hu,by omega,fun H3 s3=>?_⟩⟩
        refine ⟨_,_,rfl,some (.ref r),?_,s2.trans s3,s3 _ _ e2⟩
        rw [et,mxs_snoc]
        show _=[_,some (V.int _),_]
        rw [show (if (u.th:Int) > (mxs Tr.th ((ks.take i).filterMap (·.2)):Int) then (u.th:Int) else (mxs Tr.th ((ks.take i).filterMap (·.2)):Int))=((max (mxs Tr.th ((ks.take i).filterMap (·.2))) u.th:Nat):Int) by split <;> omega]
        rfl
   ·rintro σ H2 ⟨o,rfl,s2,e2⟩
    rw [List.length_map,List.take_of_length_le (Nat.le_refl _),←hsub]
    have kk:=k H2 s2
    rw [th_subs t] at kk
    refine ⟨_,rfl,_,rfl,p,_,_,V.str (nm1 t),rfl,rfl,SqT.of (s2 _ _ e),atI_nat (j:=0) rfl,rfl,.inr ⟨_,rfl,_,_,rfl,rfl,?_⟩⟩
    rw [str_eq]
    by_cases hn:nm1 t=("thread":Str)
    ·rw [if_pos hn] at kk
     rw [decide_eq_true hn,if_pos rfl]
     exact kk
    ·rw [if_neg hn] at kk
     rw [decide_eq_false hn,if_neg (by decide)]
     exact kk
end
structure TB (H:Hp) (p:Addr) (t:Tr):Prop where
 a:TAt H p t
 th:t.th≤2
theorem TB.mono {H H':Hp} {p:Addr} {t:Tr} (h:TB H p t) (k:Same H H'):TB H' p t:=⟨h.a.mono k,h.th⟩
theorem TB.tups {H H':Hp} {p:Addr} {t:Tr} (h:TB H p t) (k:∀c xs,H c=some (.tup xs)→H' c=some (.tup xs)):TB H' p t:=⟨h.a.tups k,h.th⟩
theorem leaf_th:∀{t:Tr},t.dp=0→t.th=0
 | .any,_=>rfl
 | .ans,_=>rfl
 | .word _,_=>rfl
 | .title _,_=>rfl
 | .frm _,_=>rfl
 | .days _ _,_=>rfl
 | .inn _,_=>rfl
 | .mrk _,_=>rfl
structure PL (H0 H:Hp) (D:Addr) (ps:List (Addr×Tr)) (n:Nat):Prop where
 s:Same H0 H
 nD:H0 D=none
 e:H D=some (.lst (ps.map fun x=>V.ref x.1))
 t:∀x∈ps,TB H x.1 x.2∧x.2.dp+ps.length≤n
theorem PL.app {H0 H H':Hp} {D q:Addr} {t:Tr} {ps:List (Addr×Tr)} {n:Nat} (h:PL H0 H D ps n) (s:Same H H') (ht:TAt H' q t) (hd:t.dp=0) (hn:ps.length≤n):PL H0 (upd H' D (.lst ((ps.map fun x=>V.ref x.1)++[.ref q]))) D (ps++[(q,t)]) (n+1):=by
 have hD:=s _ _ h.e
 have kt:∀c xs,H' c=some (.tup xs)→(upd H' D (.lst ((ps.map fun x=>V.ref x.1)++[.ref q]))) c=some (.tup xs):=fun c xs e=>by rw [upd_ne (ne_of e hD (fun z=>nomatch z))];exact e
 refine ⟨(h.s.trans s).upd_of h.nD,h.nD,by rw [upd_same,List.map_append];rfl,fun x hx=>?_⟩
 rw [List.length_append,List.length_singleton]
 rcases List.mem_append.mp hx with hx | hx
 ·exact ⟨((h.t x hx).1.mono s).tups kt,by have:=(h.t x hx).2;omega⟩
 ·rw [List.mem_singleton.mp hx]
  exact ⟨⟨ht.tups kt,by have:=leaf_th hd;dsimp only;omega⟩,by dsimp only;omega⟩
theorem PL.repl {H0 H H':Hp} {D D' p:Addr} {t:Tr} {ps l:List (Addr×Tr)} {n n':Nat} (h:PL H0 H D (ps++l) n) (s:Same H H') (nD:H D'=none) (e:H' D'=some (.lst ((ps.map fun x=>V.ref x.1)++[.ref p]))) (ht:TB H' p t) (hl:1≤l.length) (hd:t.dp+ps.length+1≤n') (hn:n≤n'):PL H0 H' D' (ps++[(p,t)]) n':=by
 refine ⟨h.s.trans s,h.s.free nD,by rw [e,List.map_append];rfl,fun x hx=>?_⟩
 rw [List.length_append,List.length_singleton]
 rcases List.mem_append.mp hx with hx | hx
 ·have q:=h.t x (List.mem_append_left _ hx)
  rw [List.length_append] at q
  exact ⟨q.1.mono s,by have:=q.2;omega⟩
 ·rw [List.mem_singleton.mp hx]
  exact ⟨ht,by dsimp only;omega⟩
theorem snoc_of {α:Type} {l:List α} (h:0<l.length):∃l0 x,l=l0++[x]:=⟨l.dropLast,l.getLast (by intro z;rw [z] at h;cases h),(List.dropLast_concat_getLast _).symm⟩
theorem int_at {cs:List Int} {i:Nat} {x:V} (h:(cs.map V.int)[i]?=some x):∃c,x=.int c∧cs[i]?=some c:=by
 rw [List.getElem?_map] at h
 cases e:cs[i]? with
 | none=>rw [e] at h;cases h
 | some c=>rw [e] at h;cases h;exact ⟨c,rfl,rfl⟩
def lenAt (H:Hp):Option V→Nat
 | some (.ref D)=>(match H D with | some (.lst xs)=>xs.length | _=>0)
 | _=>0
theorem cut_last2 {α:Type} (f:α→V) (xs:List α) (x y:α):cutV ((xs++[x,y]).map f) none (some (-2))=xs.map f:=by
 have h1:(-2:Int)<0:=by decide
 simp only [cutV,HT.sIx,if_pos h1,List.drop_zero,List.length_map,List.length_append,List.length_cons,List.length_nil,Nat.sub_zero,←List.map_take]
 congr 1
 have e:(-2+((xs.length+(0+1+1):Nat):Int)).toNat=xs.length:=by omega
 rw [e,List.take_left]
theorem atI_last2 {α:Type} (xs:List α) (u v:α):atI (xs++[u,v]) (-2)=some u:=by
 have hl:(xs++[u,v]).length=xs.length+2:=by simp
 have e:ixN (xs++[u,v]).length (-2)=some xs.length:=by
  unfold ixN
  rw [hl,if_neg (by decide),if_pos (by omega)]
  congr 1
  omega
 unfold atI
 rw [e]
 show (xs++[u,v])[xs.length]?=some u
 simp
theorem atI_last1 {α:Type} (xs:List α) (u v:α):atI (xs++[u,v]) (-1)=some v:=by
 have:=atI_last (xs++[u]) v
 rwa [List.append_assoc] at this
theorem join_name:∀v∈([.str "both",.str "either"]:List V),∃(s:Str) (f:Tr→Tr→Tr),v=.str s∧(∀u v,(f u v).dp=max u.dp v.dp+1)∧∀(H:Hp) p q r u v,H p=some (.tup [.str s,.ref q,.ref r])→TB H q u→TB H r v→TB H p (f u v):=by
 intro v hv
 simp only [List.mem_cons,List.not_mem_nil,or_false] at hv
 rcases hv with rfl | rfl
 ·exact ⟨_,.bth,rfl,fun _ _=>rfl,fun H p q r u v e h1 h2=>⟨.bth e h1.a h2.a,by have:=h1.th;have:=h2.th;show max _ _≤2;omega⟩⟩
 ·exact ⟨_,.eth,rfl,fun _ _=>rfl,fun H p q r u v e h1 h2=>⟨.eth e h1.a h2.a,by have:=h1.th;have:=h2.th;show max _ _≤2;omega⟩⟩
inductive spTB_I (vs:List V) (H:Hp) (Q:VK):Prop
 | mk:∀(sh:Int) (p:Addr) (cs:List Int),vs=[.int sh,.ref p]→0≤sh→sh<2147483629→H p=some (.lst (cs.map V.int))→(∀c∈cs,0≤c)→1≤cs.length→cs.length≤10→(∀t q H',Same H H'→TB H' q t→t.dp<cs.length→Q (.ref q) H')→spTB_I vs H Q
def spTB:Sp:=fun vs H Q _=>spTB_I vs H Q
section
variable {P : Program} {w : World} {K : PySem.W.Frag} {mg : Str → Option Value} {base : Heap} {a : Adr}
theorem ok_tb {fd:FuncData} (F:Fun K "_law_tree_by" "_law_tree_by" sl_tree_by a.f_l_tree_by fd) (T:Txt K mg a) (FF:Funs K a):FnOk P w K mg base CX0 13 a.f_l_tree_by fd ["_law_shape","_law_cells"] spTB:=by
 obtain ⟨fdL,F_l_leaf_by,b_l_leaf_by⟩:=FF.F_l_leaf_by
 have G_l_leaf_by:FnOk P w K mg base CX0 2 a.f_l_leaf_by fdL ["_law_shape","_law_cell"] spLeaf:=ok_leaf F_l_leaf_by T FF
 obtain ⟨fdT,F_l_threads,b_l_threads⟩:=FF.F_l_threads
 have G_l_threads:FnOk P w K mg base CX0 12 a.f_l_threads fdT ["_law_tree"] (spThr 11):=ok_thr F_l_threads b_l_threads T 11
 refine F.ok sc_l_tree_by (fun vs H Q E h=>?_) (fun cdv A outer st H vs Q E hr h=>?_)
 ·obtain ⟨sh,p,cs,rfl,_⟩:=h;rfl
 ·obtain ⟨sh,p,cs,rfl,hs0,hs1,hp,hcs,hl1,hl8,k⟩:=h
  have hr_l_threads:Room 12 _:=hr
  have hr_l_leaf_by:Room 2 _:=hr_l_threads.mono (by decide)
  refine ⟨_,(pss_cons (ps_set (i:=2) sc_l_tree_by.nd rfl (Or.inl rfl) (pe_lstG pas_nil))
   (pss_cons (ps_for PassesOwn.never rfl (pi_list (pv 1)) (pg_name (i:=3) sc_l_tree_by.nd rfl (Or.inl rfl)) (pss_cons (ps_set (i:=4) sc_l_tree_by.nd rfl (Or.inl rfl) (pe_op op_mod (pv 3) pe_int))
   (pss_one (ps_if (PW.pt (pw_and (pt_cmpR op_lt (pv 4) pe_int (nomark _)) (pw_and1 (pt_cmpR op_gt (pe_callB call_len_seq rfl T.b_len PySem.boot_len (pac (pv 2) pa_nil)) pe_int (nomark _))))) (pss_one (ps_set (i:=2) sc_l_tree_by.nd rfl (Or.inl rfl) (pe_op op_catG (pe_slice sl_listG (pv 2) po_none (po_some (pe_un un_neg pe_int))) (pe_lstG (pas_cons (pe_tupG (pas_cons pe_str (pas_cons (pe_ix ix_list (pv 2) (pe_un un_neg pe_int) (fun _ _=>rfl)) pas_nil))) pas_nil))))) (pss_one (ps_if (PW.pt (pw_and (pt_cmpR op_eq (pv 4) pe_int (nomark _)) (pw_and (pt_cmpR op_gt (pe_callB call_len_seq rfl T.b_len PySem.boot_len (pac (pv 2) pa_nil)) pe_int (nomark _)) (pw_and1 (pt_cmpR op_lt (pe_call G_l_threads hr_l_threads rfl T.m_l_threads F_l_threads.kp b_l_threads .nil pass0 (pac (pe_ix ix_list (pv 2) (pe_un un_neg pe_int) (fun _ _=>rfl)) pa_nil)) pe_int (nomark _)))))) (pss_one (ps_set (i:=2) sc_l_tree_by.nd rfl (Or.inl rfl) (pe_op op_catG (pe_slice sl_listG (pv 2) po_none (po_some (pe_un un_neg pe_int))) (pe_lstG (pas_cons (pe_tupG (pas_cons pe_str (pas_cons (pe_ix ix_list (pv 2) (pe_un un_neg pe_int) (fun _ _=>rfl)) pas_nil))) pas_nil))))) (pss_one (ps_if (PW.pt (pw_and (pt_cmpR op_gt (pv 4) pe_int (nomark _)) (pw_and1 (pt_cmpR op_gt (pe_callB call_len_seq rfl T.b_len PySem.boot_len (pac (pv 2) pa_nil)) pe_int (nomark _))))) (pss_one (ps_set (i:=2) sc_l_tree_by.nd rfl (Or.inl rfl) (pe_op op_catG (pe_slice sl_listG (pv 2) po_none (po_some (pe_un un_neg pe_int))) (pe_lstG (pas_cons (pe_tupG (pas_cons (pe_ix ix_list (pe_lstG (pas_cons pe_str (pas_cons pe_str pas_nil))) (pe_op op_mod (pv 4) pe_int) (fun _ _=>rfl)) (pas_cons (pe_ix ix_list (pv 2) (pe_un un_neg pe_int) (fun _ _=>rfl)) (pas_cons (pe_ix ix_list (pv 2) (pe_un un_neg pe_int) (fun _ _=>rfl)) pas_nil)))) pas_nil))))) (pss_one (ps_expr (pe_bm PySem.F.plainAttrs_list PySem.F.slot_list_append PySem.F.type_list_append mt_append (pv 2) (pac (pe_call G_l_leaf_by hr_l_leaf_by rfl T.m_l_leaf_by F_l_leaf_by.kp b_l_leaf_by .nil pass0 (pac (pv 0) (pac (pe_op op_fdiv (pv 3) pe_int) pa_nil))) pa_nil))))))))))))
   (pss_cons (ps_while PassesOwn.never (pt_cmpR op_gt (pe_callB call_len_seq rfl T.b_len PySem.boot_len (pac (pv 2) pa_nil)) pe_int (nomark _)) (pss_one (ps_set (i:=2) sc_l_tree_by.nd rfl (Or.inl rfl) (pe_op op_catG (pe_slice sl_listG (pv 2) po_none (po_some (pe_un un_neg pe_int))) (pe_lstG (pas_cons (pe_tupG (pas_cons (pe_ix ix_list (pe_lstG (pas_cons pe_str (pas_cons pe_str pas_nil))) (pe_op op_mod (pe_op op_fdiv (pe_ix ix_list (pv 1) pe_int (fun _ _=>rfl)) pe_int) pe_int) (fun _ _=>rfl)) (pas_cons (pe_ix ix_list (pv 2) (pe_un un_neg pe_int) (fun _ _=>rfl)) (pas_cons (pe_ix ix_list (pv 2) (pe_un un_neg pe_int) (fun _ _=>rfl)) pas_nil)))) pas_nil))))))
   (pss_one (ps_ret (pe_ix ix_list (pv 2) pe_int (fun _ _=>rfl))))))),?_⟩
  refine ⟨(by show 0≤sizeLine;decide),fun D0 H1 nD0 s1 e1=>?_⟩
  refine ⟨_,rfl,p,rfl,⟨_,SqL.of (s1 _ _ hp)⟩,for_list (K:=K) (a:=p) (xs:=cs.map V.int) (fun i σ H2=>∃(D:Addr) (ps:List (Addr×Tr)) (o3 o4:Option V),σ=[some (.int sh),some (.ref p),some (.ref D),o3,o4]∧PL H H2 D ps i∧(1≤i→0<ps.length)∧ps.length≤i)
   ⟨D0,[],none,none,rfl,⟨s1,nD0,e1,fun x hx=>nomatch hx⟩,(fun z=>absurd z (by decide)),Nat.le_refl _⟩ (fun i σ H2 _ ⟨_,_,_,_,_,h,_⟩=>SqL.of (h.s _ _ hp)) ?_ ?_⟩
  ·rintro i x σ H2 hi ⟨D,ps,o3,o4,rfl,pl,hne,hle⟩
   obtain ⟨c,rfl,hci⟩:=int_at hi
   have hi8:i<cs.length:=(List.getElem?_eq_some_iff.mp hci).1
   have hc0:=hcs c (List.mem_of_getElem? hci)
   have hc9:0≤c / 9:=Int.ediv_nonneg hc0 (by decide)
   have n0:0≤c % 9:=Int.emod_nonneg _ (by decide)
   have n1:c % 9<9:=Int.emod_lt_of_pos _ (by decide)
   have hD:=pl.e
   have hll:((ps.map fun x=>V.ref x.1).length:Int)=(ps.length:Int):=by rw [List.length_map]
   refine ⟨_,rfl,_,_,rfl,rfl,(by show (0:Int)<9;decide),?_⟩
   by_cases k2:c % 9<2
   ·by_cases hlen:0<ps.length
    ·refine ⟨_,rfl,_,_,rfl,rfl,_,rfl,?_⟩
     rw [decide_eq_true (k2)]
     refine iteT ⟨_,rfl,D,_,rfl,.inl (SqL.of hD),_,_,rfl,rfl,_,rfl,?_⟩
     rw [decide_eq_true (by rw [hll];omega)]
     refine iteT ?_
     obtain ⟨ps0,⟨q,t⟩,rfl⟩:=snoc_of (l:=ps) (by omega)
     have ht:=pl.t (q,t) (by simp)
     rw [List.length_append,List.length_singleton] at ht hle
     dsimp only at ht
     refine ⟨_,rfl,_,rfl,_,rfl,D,_,rfl,SqL.of hD,fun l1 H3 n1 s3 e3=>?_⟩
     rw [cut_last] at e3
     refine ⟨_,rfl,_,rfl,D,_,_,V.ref q,rfl,rfl,SqL.of (s3 _ _ hD),(by rw [List.map_append];exact atI_last _ _),(by show 2≤sizeLine;decide),fun p1 H4 np s4 e4=>⟨(by show 1≤sizeLine;decide),fun l2 H5 n5 s5 e5=>?_⟩⟩
     refine ⟨l1,l2,_,_,rfl,rfl,s5 _ _ (s4 _ _ e3),e5,Nat.le_of_lt (small1000 (by rw [List.length_map,List.length_singleton];omega)),fun D2 H6 n6 s6 e6=>?_⟩
     have s36:Same H2 H6:=((s3.trans s4).trans s5).trans s6
     exact ⟨D2,ps0++[(p1,.nt t)],_,_,rfl,pl.repl (l:=[(q,t)]) ( s36) (s3.free (s4.free (s5.free n6))) e6 ⟨.nt (s6 _ _ (s5 _ _ e4)) (ht.1.a.mono s36),ht.1.th⟩ (Nat.le_refl _) (by show t.dp+1+ps0.length+1≤i+1;omega) (Nat.le_succ _),(fun _=>by rw [List.length_append,List.length_singleton];omega),by rw [List.length_append,List.length_singleton];omega⟩
    ·refine ⟨_,rfl,_,_,rfl,rfl,_,rfl,?_⟩
     rw [decide_eq_true (k2)]
     refine iteT ⟨_,rfl,D,_,rfl,.inl (SqL.of hD),_,_,rfl,rfl,_,rfl,?_⟩
     rw [decide_eq_false (by rw [hll];omega)]
     refine iteF ⟨_,rfl,rfl,_,rfl,?_⟩
     rw [int_eq,decide_eq_false (by omega)]
     refine iteF (iteF ⟨_,rfl,_,_,rfl,rfl,_,rfl,?_⟩)
     rw [decide_eq_false (by omega)]
     refine iteF (iteF ?_)
     refine ⟨_,rfl,.inl ⟨rfl,_,SqL.of hD⟩,_,rfl,_,rfl,_,_,rfl,rfl,⟨by decide,by decide⟩,sh,c / 9,rfl,hs0,hs1,hc9,fun t q H4 nq s4 ht hd0=>?_⟩
     exact ⟨D,_,_,rfl,rfl,s4 _ _ hD,(by rw [List.length_map];exact small1000 (by omega)),D,ps++[(q,t)],_,_,rfl,pl.app (s4) ht hd0 hle,(fun _=>by rw [List.length_append,List.length_singleton];omega),by rw [List.length_append,List.length_singleton];omega⟩
   ·refine ⟨_,rfl,_,_,rfl,rfl,_,rfl,?_⟩
    rw [decide_eq_false (k2)]
    refine iteF (iteF ⟨_,rfl,rfl,_,rfl,?_⟩)
    rw [int_eq]
    by_cases k3:c % 9=2
    ·rw [decide_eq_true k3]
     by_cases hlen:0<ps.length
     ·refine iteT ⟨_,rfl,D,_,rfl,.inl (SqL.of hD),_,_,rfl,rfl,_,rfl,?_⟩
      rw [decide_eq_true (by rw [hll];omega)]
      have hlast:∃q t ps0,ps=ps0++[(q,t)]:=by
       obtain ⟨ps0,⟨q,t⟩,e⟩:=snoc_of hlen
       exact ⟨q,t,ps0,e⟩
      obtain ⟨q9,t9,ps9,e9⟩:=hlast
      have ht9:=pl.t (q9,t9) (by rw [e9];simp)
      refine iteT ⟨_,rfl,_,rfl,D,_,_,V.ref q9,rfl,rfl,SqL.of hD,(by rw [e9,List.map_append];exact atI_last _ _),q9,t9,rfl,ht9.1.a,(by have:=ht9.2;dsimp only at this;omega),fun H2b s2b=>?_⟩
      have hDb:=s2b _ _ hD
      refine ⟨_,_,rfl,rfl,_,rfl,?_⟩
      by_cases hz:(t9.th:Int)<2
      ·rw [decide_eq_true (hz)]
       refine iteT ?_
       obtain ⟨ps0,⟨q,t⟩,rfl⟩:=snoc_of (l:=ps) (by omega)
       have ht:=pl.t (q,t) (by simp)
       have ht9e:t9=t:=by
        have e9':=congrArg List.getLast? e9
        rw [List.getLast?_append,List.getLast?_append] at e9'
        simp at e9'
        exact e9'.2.symm
       rw [List.length_append,List.length_singleton] at ht hle
       dsimp only at ht
       refine ⟨_,rfl,_,rfl,_,rfl,D,_,rfl,SqL.of hDb,fun l1 H3 n1 s3 e3=>?_⟩
       rw [cut_last] at e3
       refine ⟨_,rfl,_,rfl,D,_,_,V.ref q,rfl,rfl,SqL.of (s3 _ _ hDb),(by rw [List.map_append];exact atI_last _ _),(by show 2≤sizeLine;decide),fun p1 H4 np s4 e4=>⟨(by show 1≤sizeLine;decide),fun l2 H5 n5 s5 e5=>?_⟩⟩
       refine ⟨l1,l2,_,_,rfl,rfl,s5 _ _ (s4 _ _ e3),e5,Nat.le_of_lt (small1000 (by rw [List.length_map,List.length_singleton];omega)),fun D2 H6 n6 s6 e6=>?_⟩
       have s36:Same H2b H6:=((s3.trans s4).trans s5).trans s6
       exact ⟨D2,ps0++[(p1,.thr t)],_,_,rfl,pl.repl (l:=[(q,t)]) (s2b.trans s36) (s2b.free (s3.free (s4.free (s5.free n6)))) e6 ⟨.thr (s6 _ _ (s5 _ _ e4)) (ht.1.a.mono (s2b.trans s36)),by show t.th+1≤2;rw [ht9e] at hz;omega⟩ (Nat.le_refl _) (by show t.dp+1+ps0.length+1≤i+1;omega) (Nat.le_succ _),(fun _=>by rw [List.length_append,List.length_singleton];omega),by rw [List.length_append,List.length_singleton];omega⟩
      ·rw [decide_eq_false (hz)]
       refine iteF ⟨_,rfl,_,_,rfl,rfl,_,rfl,?_⟩
       rw [decide_eq_false (by omega)]
       refine iteF (iteF ?_)
       refine ⟨_,rfl,.inl ⟨rfl,_,SqL.of hDb⟩,_,rfl,_,rfl,_,_,rfl,rfl,⟨by decide,by decide⟩,sh,c / 9,rfl,hs0,hs1,hc9,fun t q H4 nq s4 ht hd0=>?_⟩
       exact ⟨D,_,_,rfl,rfl,s4 _ _ hDb,(by rw [List.length_map];exact small1000 (by omega)),D,ps++[(q,t)],_,_,rfl,pl.app (s2b.trans s4) ht hd0 hle,(fun _=>by rw [List.length_append,List.length_singleton];omega),by rw [List.length_append,List.length_singleton];omega⟩
     ·refine iteT ⟨_,rfl,D,_,rfl,.inl (SqL.of hD),_,_,rfl,rfl,_,rfl,?_⟩
      rw [decide_eq_false (by rw [hll];omega)]
      refine iteF (iteF ⟨_,rfl,_,_,rfl,rfl,_,rfl,?_⟩)
      rw [decide_eq_false (by omega)]
      refine iteF (iteF ?_)
      refine ⟨_,rfl,.inl ⟨rfl,_,SqL.of hD⟩,_,rfl,_,rfl,_,_,rfl,rfl,⟨by decide,by decide⟩,sh,c / 9,rfl,hs0,hs1,hc9,fun t q H4 nq s4 ht hd0=>?_⟩
      exact ⟨D,_,_,rfl,rfl,s4 _ _ hD,(by rw [List.length_map];exact small1000 (by omega)),D,ps++[(q,t)],_,_,rfl,pl.app (s4) ht hd0 hle,(fun _=>by rw [List.length_append,List.length_singleton];omega),by rw [List.length_append,List.length_singleton];omega⟩
    ·rw [decide_eq_false k3]
     refine iteF (iteF ⟨_,rfl,_,_,rfl,rfl,_,rfl,?_⟩)
     by_cases k5:4<c % 9
     ·rw [decide_eq_true (k5)]
      by_cases hlen:1<ps.length
      ·refine iteT ⟨_,rfl,D,_,rfl,.inl (SqL.of hD),_,_,rfl,rfl,_,rfl,?_⟩
       rw [decide_eq_true (by rw [hll];omega)]
       refine iteT ?_
       obtain ⟨ps1,⟨r,v⟩,rfl⟩:=snoc_of (l:=ps) (by omega)
       rw [List.length_append,List.length_singleton] at hlen hle
       obtain ⟨ps0,⟨q,u⟩,rfl⟩:=snoc_of (l:=ps1) (by omega)
       rw [List.append_assoc] at pl hD
       have hu:=pl.t (q,u) (by simp)
       have hv:=pl.t (r,v) (by simp)
       have hln:(ps0++([(q,u)]++[(r,v)])).length=ps0.length+2:=by simp
       rw [hln] at hu hv
       dsimp only at hu hv
       rw [List.length_append,List.length_singleton] at hle
       refine ⟨_,rfl,_,rfl,_,rfl,D,_,rfl,SqL.of hD,fun l1 H3 nl1 s3 e3=>?_⟩
       rw [show ps0++([(q,u)]++[(r,v)])=ps0++[(q,u),(r,v)] from rfl,cut_last2] at e3
       refine ⟨(by show 2≤sizeLine;decide),fun lb H3b nlb s3b e3b=>?_⟩
       obtain ⟨vv,hvv,hvm,_⟩:=atI_some (xs:=[V.str "both",V.str "either"]) (i:=(c % 9) % 2) (Int.emod_nonneg _ (by decide)) (Int.emod_lt_of_pos _ (by decide))
       obtain ⟨nm,f,rfl,fdp,ft⟩:=join_name vv hvm
       have s33:=s3.trans s3b
       refine ⟨_,rfl,_,_,rfl,rfl,(by show (0:Int)<2;decide),lb,_,_,_,rfl,rfl,SqL.of e3b,hvv,?_⟩
       refine ⟨_,rfl,_,rfl,D,_,_,V.ref q,rfl,rfl,SqL.of (s33 _ _ hD),(by rw [List.map_append];exact atI_last2 _ _ _),_,rfl,_,rfl,D,_,_,V.ref r,rfl,rfl,SqL.of (s33 _ _ hD),(by rw [List.map_append];exact atI_last1 _ _ _),(by show 3≤sizeLine;decide),fun p1 H4 np s4 e4=>⟨(by show 1≤sizeLine;decide),fun l2 H5 n5 s5 e5=>?_⟩⟩
       refine ⟨l1,l2,_,_,rfl,rfl,s5 _ _ (s4 _ _ (s3b _ _ e3)),e5,Nat.le_of_lt (small1000 (by rw [List.length_map,List.length_singleton];omega)),fun D2 H6 n6 s6 e6=>?_⟩
       have s36:Same H2 H6:=((s33.trans s4).trans s5).trans s6
       have pl2:=pl.repl (l:=[(q,u),(r,v)]) (n':=i+1) s36 (s33.free (s4.free (s5.free n6))) e6 (ft _ p1 q r u v (s6 _ _ (s5 _ _ e4)) (hu.1.mono s36) (hv.1.mono s36)) (by show 1≤2;decide) (by rw [fdp];omega) (by omega)
       exact ⟨D2,ps0++[(p1,f u v)],_,_,rfl,pl2,(fun _=>by rw [List.length_append,List.length_singleton];omega),by rw [List.length_append,List.length_singleton];omega⟩
      ·refine iteT ⟨_,rfl,D,_,rfl,.inl (SqL.of hD),_,_,rfl,rfl,_,rfl,?_⟩
       rw [decide_eq_false (by rw [hll];omega)]
       refine iteF ?_
       refine ⟨_,rfl,.inl ⟨rfl,_,SqL.of hD⟩,_,rfl,_,rfl,_,_,rfl,rfl,⟨by decide,by decide⟩,sh,c / 9,rfl,hs0,hs1,hc9,fun t q H4 nq s4 ht hd0=>?_⟩
       exact ⟨D,_,_,rfl,rfl,s4 _ _ hD,(by rw [List.length_map];exact small1000 (by omega)),D,ps++[(q,t)],_,_,rfl,pl.app (s4) ht hd0 hle,(fun _=>by rw [List.length_append,List.length_singleton];omega),by rw [List.length_append,List.length_singleton];omega⟩
     ·rw [decide_eq_false (k5)]
      refine iteF (iteF ?_)
      refine ⟨_,rfl,.inl ⟨rfl,_,SqL.of hD⟩,_,rfl,_,rfl,_,_,rfl,rfl,⟨by decide,by decide⟩,sh,c / 9,rfl,hs0,hs1,hc9,fun t q H4 nq s4 ht hd0=>?_⟩
      exact ⟨D,_,_,rfl,rfl,s4 _ _ hD,(by rw [List.length_map];exact small1000 (by omega)),D,ps++[(q,t)],_,_,rfl,pl.app (s4) ht hd0 hle,(fun _=>by rw [List.length_append,List.length_singleton];omega),by rw [List.length_append,List.length_singleton];omega⟩
  ·rintro σ H2 ⟨D,ps,o3,o4,rfl,pl,hne,hle⟩
   rw [List.length_map] at hne hle pl
   have hn1:=hne hl1
   obtain ⟨z0,_,ez0⟩:=at_ints (xs:=cs) (i:=0) (Int.le_refl _) (by omega)
   refine while_by (fun σ H3=>∃(D:Addr) (ps:List (Addr×Tr)),σ=[some (.int sh),some (.ref p),some (.ref D),o3,o4]∧PL H H3 D ps cs.length∧0<ps.length∧ps.length≤cs.length) (fun σ H3=>lenAt H3 (σ.getD 2 none)) ⟨D,ps,rfl,pl,hn1,hle⟩ ?_ ?_
   ·rintro σ H2 ⟨D,ps,rfl,pl,hn1,hle⟩
    have hD:=pl.e
    have hll:((ps.map fun x=>V.ref x.1).length:Int)=(ps.length:Int):=by rw [List.length_map]
    refine ⟨_,rfl,D,_,rfl,.inl (SqL.of hD),_,_,rfl,rfl,_,rfl,?_⟩
    by_cases hlen:1<ps.length
    ·rw [decide_eq_true (by rw [hll];omega)]
     refine iteT ?_
     obtain ⟨ps1,⟨r,v⟩,rfl⟩:=snoc_of (l:=ps) (by omega)
     rw [List.length_append,List.length_singleton] at hlen hle
     obtain ⟨ps0,⟨q,u⟩,rfl⟩:=snoc_of (l:=ps1) (by omega)
     rw [List.append_assoc] at pl hD
     have hu:=pl.t (q,u) (by simp)
     have hv:=pl.t (r,v) (by simp)
     have hln:(ps0++([(q,u)]++[(r,v)])).length=ps0.length+2:=by simp
     rw [hln] at hu hv
     dsimp only at hu hv
     rw [List.length_append,List.length_singleton] at hle
     refine ⟨_,rfl,_,rfl,_,rfl,D,_,rfl,SqL.of hD,fun l1 H3 nl1 s3 e3=>?_⟩
     rw [show ps0++([(q,u)]++[(r,v)])=ps0++[(q,u),(r,v)] from rfl,cut_last2] at e3
     refine ⟨(by show 2≤sizeLine;decide),fun lb H3b nlb s3b e3b=>?_⟩
     obtain ⟨vv,hvv,hvm,_⟩:=atI_some (xs:=[V.str "both",V.str "either"]) (i:=(z0 / 9) % 2) (Int.emod_nonneg _ (by decide)) (Int.emod_lt_of_pos _ (by decide))
     obtain ⟨nm,f,rfl,fdp,ft⟩:=join_name vv hvm
     have s33:=s3.trans s3b
     refine ⟨_,rfl,p,_,_,_,rfl,rfl,SqL.of ((pl.s.trans s33) _ _ hp),ez0,_,_,rfl,rfl,⟨by decide,by decide⟩,_,_,rfl,rfl,(by show (0:Int)<2;decide),lb,_,_,_,rfl,rfl,SqL.of e3b,hvv,?_⟩
     refine ⟨_,rfl,_,rfl,D,_,_,V.ref q,rfl,rfl,SqL.of (s33 _ _ hD),(by rw [List.map_append];exact atI_last2 _ _ _),_,rfl,_,rfl,D,_,_,V.ref r,rfl,rfl,SqL.of (s33 _ _ hD),(by rw [List.map_append];exact atI_last1 _ _ _),(by show 3≤sizeLine;decide),fun p1 H4 np s4 e4=>⟨(by show 1≤sizeLine;decide),fun l2 H5 n5 s5 e5=>?_⟩⟩
     refine ⟨l1,l2,_,_,rfl,rfl,s5 _ _ (s4 _ _ (s3b _ _ e3)),e5,Nat.le_of_lt (small1000 (by rw [List.length_map,List.length_singleton];omega)),fun D2 H6 n6 s6 e6=>?_⟩
     have s36:Same H2 H6:=((s33.trans s4).trans s5).trans s6
     have pl2:=pl.repl (l:=[(q,u),(r,v)]) (n':=cs.length) s36 (s33.free (s4.free (s5.free n6))) e6 (ft _ p1 q r u v (s6 _ _ (s5 _ _ e4)) (hu.1.mono s36) (hv.1.mono s36)) (by show 1≤2;decide) (by rw [fdp];omega) (by omega)
     refine ⟨⟨D2,ps0++[(p1,f u v)],rfl,pl2,by rw [List.length_append,List.length_singleton];omega,by rw [List.length_append,List.length_singleton];omega⟩,?_⟩
     show (match H6 D2 with | some (.lst xs)=>xs.length | _=>0)<(match H2 D with | some (.lst xs)=>xs.length | _=>0)
     rw [e6,hD]
     simp
    ·rw [decide_eq_false (by rw [hll];omega)]
     refine iteF ?_
     obtain ⟨ps0,⟨q,t⟩,rfl⟩:=snoc_of (l:=ps) hn1
     have e0:ps0=[]:=by
      rw [List.length_append,List.length_singleton] at hlen
      exact List.length_eq_zero_iff.mp (by omega)
     subst e0
     have ht:=pl.t (q,t) (by simp)
     exact ⟨_,rfl,D,_,_,V.ref q,rfl,rfl,SqL.of hD,rfl,k t q H2 pl.s ht.1 (by have:=ht.2;simp at this;omega)⟩
   ·rintro σ H3 Q1 Q2 hq ⟨x,e,D1,xs,e1,e2,i1,j1,e3,e4,b1,e5,h⟩
    exact ⟨x,e,D1,xs,e1,e2,i1,j1,e3,e4,b1,e5,hq _ _ h⟩
end
inductive spWhole_I (vs:List V) (H:Hp) (Q:VK):Prop
 | mk:∀i:Int,vs=[.int i]→Q (.bl true) H→spWhole_I vs H Q
def spWhole:Sp:=fun vs H Q _=>spWhole_I vs H Q
theorem kitII {K:PySem.W.Frag}:PySem.W.kitOne K (.type "int") (.type "int")=some true:=by unfold PySem.W.kitOne;rw [if_pos (beq_self_eq_true _)]
theorem kitIB {K:PySem.W.Frag}:PySem.W.kitOne K (.type "int") (.type "bool")=some false:=by kernel_rfl
inductive spRefd_I (vs:List V) (H:Hp) (Q:VK):Prop
 | mk:∀x:Str,vs=[.str x]→TxOk x→rcF (pcs x)=none→(∀H',Same H H'→Q (.bl true) H')→spRefd_I vs H Q
def spRefd:Sp:=fun vs H Q _=>spRefd_I vs H Q
section
variable {P : Program} {w : World} {K : PySem.W.Frag} {mg : Str → Option Value} {base : Heap} {a : Adr}
theorem ok_whole {fd:FuncData} (F:Fun K "_law_whole" "_law_whole" sl_whole a.f_l_whole fd) (T:Txt K mg a):FnOkU P w K mg base 1 a.f_l_whole fd ["_law_found"] spWhole:=by
 refine F.okU sc_l_whole (fun vs H Q E h=>?_) (fun cdv A outer s H vs Q E hr h=>?_)
 ·obtain ⟨i,rfl,_⟩:=h;rfl
 ·obtain ⟨i,rfl,k⟩:=h
  refine ⟨_,(pss_one (ps_ret (pe_and (pe_callB call_isinst rfl T.b_isinstance PyProof.Rows.boot_isinstance (pac (pv 0) (pac (pe_bltn (v:=.ty "int") rfl T.b_int PyProof.Rows.boot_int rfl) pa_nil))) (pe_one (pe_not (pe_callB call_isinst rfl T.b_isinstance PyProof.Rows.boot_isinstance (pac (pv 0) (pac (pe_bltn (v:=.ty "bool") rfl T.b_bool PyProof.Rows.boot_bool rfl) pa_nil)))))))),?_⟩
  exact ⟨_,rfl,_,_,_,_,_,rfl,rfl,TyOf.int _,kitII,_,rfl,iteT ⟨_,rfl,_,_,_,_,_,rfl,rfl,TyOf.int _,kitIB,_,rfl,k⟩⟩
theorem ok_refd {fd:FuncData} (F:Fun K "_law_refused" "_law_refused" sl_refused a.f_l_refused fd) (T:Txt K mg a) (FF:Funs K a):FnOk P w K mg base CX0 168 a.f_l_refused fd ["_law_text"] spRefd:=by
 obtain ⟨fdR,F_rc,b_rc⟩:=FF.F_read_condition
 have G_rc:FnOk P w K mg base (CXD P w) 167 a.f_read_condition fdR ["text"] (spRC a):=ok_rc F_rc T FF
 obtain ⟨fdW,F_wh,b_wh⟩:=FF.F_l_whole
 have G_wh:FnOkU P w K mg base 1 a.f_l_whole fdW ["_law_found"] spWhole:=ok_whole F_wh T
 refine F.ok sc_l_refused (fun vs H Q E h=>?_) (fun cdv A outer s H vs Q E hr h=>?_)
 ·obtain ⟨x,rfl,_⟩:=h;rfl
 ·obtain ⟨x,rfl,hx,hn,k⟩:=h
  have hr167:Room 167 _:=hr
  refine ⟨_,(pss_cons (ps_tryAsD (i:=1) (R:=fun σ c d H'=>c=.ref a.C_NoRule∧σ=L2.start n_l_refused [.str x]∧∃n,d=some n∧Same H H'∧H' n=some (.xd [("row",.int 0)])) rfl T.mx_MailError T.x_MailError rfl rfl rfl sc_l_refused.nd rfl rfl (fun σ C d H' q=>by obtain ⟨e,_⟩:=q;cases e;exact T.sx_NoRule_MailError)
   (fun pn=>pss_one (ps_expr (pe_callX (R:=fun σ c d H'=>c=.ref a.C_NoRule∧σ=L2.start n_l_refused [.str x]∧∃n,d=some n∧Same H H'∧H' n=some (.xd [("row",.int 0)])) G_rc hr167 rfl T.m_read_condition F_rc.kp b_rc .nil passTD (pac (pv 0) pa_nil))))
   (fun ev=>(pss_cons (ps_if (PW.pt (pw_or (pt_val (pe_callB (call_isexcDK K) rfl T.b_isinstance PyProof.Rows.boot_isinstance (pac (pv 1) (pac (pe_gl (v:=.ref a.C_NoLetter) rfl ⟨_,T.mx_NoLetter,rfl⟩) pa_nil)))) (pw_or (pt_val (pe_callB (call_isexcDK K) rfl T.b_isinstance PyProof.Rows.boot_isinstance (pac (pv 1) (pac (pe_gl (v:=.ref a.C_NoName) rfl ⟨_,T.mx_NoName,rfl⟩) pa_nil)))) (pw_or (pt_val (pe_callB (call_isexcDK K) rfl T.b_isinstance PyProof.Rows.boot_isinstance (pac (pv 1) (pac (pe_gl (v:=.ref a.C_NoParcel) rfl ⟨_,T.mx_NoParcel,rfl⟩) pa_nil)))) (pw_or1 (pt_val (pe_callB (call_isexcDK K) rfl T.b_isinstance PyProof.Rows.boot_isinstance (pac (pv 1) (pac (pe_gl (v:=.ref a.C_NoRow) rfl ⟨_,T.mx_NoRow,rfl⟩) pa_nil))))))))) (pss_one (ps_ret pe_bl)) pss_nil)
   (pss_cons (ps_if (PW.pt (pw_or (pt_not (pt_val (pe_callB (call_isexcDK K) rfl T.b_isinstance PyProof.Rows.boot_isinstance (pac (pv 1) (pac (pe_gl (v:=.ref a.C_NoRule) rfl ⟨_,T.mx_NoRule,rfl⟩) pa_nil))))) (pw_or (pt_val (pe_callB (call_isexcDK K) rfl T.b_isinstance PyProof.Rows.boot_isinstance (pac (pv 1) (pac (pe_gl (v:=.ref a.C_NoWord) rfl ⟨_,T.mx_NoWord,rfl⟩) pa_nil)))) (pw_or1 (pt_not (pt_val (pe_callB (call_isexcDK K) rfl T.b_isinstance PyProof.Rows.boot_isinstance (pac (pv 1) (pac (pe_bltn (v:=.ty "ValueError") rfl T.b_ValueError boot_VE rfl) pa_nil))))))))) (pss_one (ps_ret pe_bl)) pss_nil)
   (pss_one (ps_ret (pe_and (pe_callU (E:=E) G_wh ((hr.mono (by decide)).toU.mark _) rfl T.m_l_whole F_wh.kp b_wh .nil (pac (pe_fldXK K (pv 1) rfl) pa_nil)) (pe_one (pe_cmpR op_eq (pe_fldXK K (pv 1) rfl) pe_int (nomark _)))))))))
   )
   (pss_one (ps_ret pe_bl))),?_⟩
  refine ⟨fun σ' C d H' e hq he=>?_,?_⟩
  ·obtain ⟨hC,rfl,n,rfl,sH,hnx⟩:=hq
   cases hC
   have ee:(upd H' e (ExcD a.C_NoRule (some n) e)) e=some (ExcD a.C_NoRule (some n) e):=upd_same
   have en:(upd H' e (ExcD a.C_NoRule (some n) e)) n=some (.xd [("row",.int 0)]):=by rw [upd_ne (ne_of_none hnx he)];exact hnx
   have s0:Same H' (upd H' e (ExcD a.C_NoRule (some n) e)):=Same.upd_new he
   generalize upd H' e (ExcD a.C_NoRule (some n) e)=G at ee en s0
   refine ⟨_,rfl,e,_,_,_,_,_,rfl,ee,T.xg_NoRule,rfl,T.ki_NoRule_NoLetter,_,rfl,iteF ?_⟩
   refine ⟨_,rfl,e,_,_,_,_,_,rfl,ee,T.xg_NoRule,rfl,T.ki_NoRule_NoName,_,rfl,iteF ?_⟩
   refine ⟨_,rfl,e,_,_,_,_,_,rfl,ee,T.xg_NoRule,rfl,T.ki_NoRule_NoParcel,_,rfl,iteF ?_⟩
   refine ⟨_,rfl,e,_,_,_,_,_,rfl,ee,T.xg_NoRule,rfl,T.ki_NoRule_NoRow,_,rfl,iteF ?_⟩
   refine ⟨_,rfl,e,_,_,_,_,_,rfl,ee,T.xg_NoRule,rfl,T.ki_NoRule_NoRule,_,rfl,iteF ?_⟩
   refine ⟨_,rfl,e,_,_,_,_,_,rfl,ee,T.xg_NoRule,rfl,T.ki_NoRule_NoWord,_,rfl,iteF ?_⟩
   refine ⟨_,rfl,e,_,_,_,_,_,rfl,ee,T.xg_NoRule,rfl,T.ki_NoRule_ValueError,_,rfl,iteF ?_⟩
   refine ⟨_,rfl,e,_,n,_,_,rfl,ee,en,T.xg_NoRule,T.xs_NoRule_row.no,rfl,0,rfl,_,rfl,iteT ?_⟩
   exact ⟨_,rfl,e,_,n,_,_,rfl,ee,en,T.xg_NoRule,T.xs_NoRule_row.no,rfl,rfl,k _ (sH.trans s0)⟩
  ·exact ⟨_,rfl,x,rfl,hx,(fun t ht=>by rw [hn] at ht;cases ht),fun _ H' n sH e=>⟨rfl,rfl,n,rfl,sH,e⟩⟩
end
theorem bad_by {x:Str} {c:Nat} (fr:free4 x.cps.toList) (hc:c∈x.cps.toList) (h:c∉aZ.cps.toList):BadW x where
 fr:=fr
 ne:=fun e=>by rw [e] at hc;cases hc
 nw:=by
  cases z:isW x with
  | false=>rfl
  | true=>exact absurd ((wordS_of z).in_ c hc) h
 nk:=fun q=>by
  have hz:∀p∈kws,p="("∨∀c∈p.cps.toList,c∈aZ.cps.toList:=by decide +kernel
  rcases hz _ q with e | e
  ·rw [e] at fr;exact (fr 40 (by decide +kernel)).2.1 rfl
  ·exact h (e c hc)
theorem bad_long {x:Str} (fr:free4 x.cps.toList) (h:21≤x.length):BadW x where
 fr:=fr
 ne:=fun e=>by rw [e] at h;exact absurd h (by decide +kernel)
 nw:=by
  cases z:isW x with
  | false=>rfl
  | true=>have:=(wordS_of z).hi;omega
 nk:=fun q=>by
  have hz:∀p∈kws,p.length≤7:=by decide +kernel
  have:=hz _ q
  omega
theorem free4_app {x y:Str} (hx:free4 x.cps.toList) (hy:free4 y.cps.toList):free4 (x++y).cps.toList:=fun c hc=>by
 rw [cat_list] at hc
 rcases List.mem_append.mp hc with hc | hc
 ·exact hx c hc
 ·exact hy c hc
theorem free4_lit {x:Str} (h:(x.cps.toList.all fun c=>decide (c≠32∧c≠40∧c≠41∧c≠44))=true):free4 x.cps.toList:=fun c hc=>of_decide_eq_true (List.all_eq_true.mp h c hc)
theorem word_free {x:Str} (h:WordS x):free4 x.cps.toList:=fun c hc=>by
 have hz:∀c∈aZ.cps.toList,c≠32∧c≠40∧c≠41∧c≠44:=by decide +kernel
 exact hz c (h.in_ c hc)
theorem up_free {x:Str} (h:WordS x):free4 (⟨x.cps.map PyProof.Rows.up1⟩:Str).cps.toList:=fun c hc=>by
 have hz:∀c∈aZ.cps.toList,PyProof.Rows.up1 c≠32∧PyProof.Rows.up1 c≠40∧PyProof.Rows.up1 c≠41∧PyProof.Rows.up1 c≠44:=by decide +kernel
 have:c∈x.cps.toList.map PyProof.Rows.up1:=by simpa using hc
 obtain ⟨d,hd,rfl⟩:=List.mem_map.mp this
 exact hz d (h.in_ d hd)
theorem up_len (x:Str):(⟨x.cps.map PyProof.Rows.up1⟩:Str).length=x.length:=by show (x.cps.map PyProof.Rows.up1).size=x.cps.size;simp
def OddW (x:Str):Prop:=(x=""∨BadW x)∧(x.length≤60∧x.length≠1)∧Asc x
inductive spOddW_I (vs:List V) (H:Hp) (Q:VK):Prop
 | mk:∀(x:Str) (c:Int),vs=[.str x,.int c]→WordS x→0≤c→(∀y t H',t≠0→OddW y→Same H H'→Q (.rstr y t) H')→spOddW_I vs H Q
def spOddW:Sp:=fun vs H Q _=>spOddW_I vs H Q
theorem at_mem {xs:List V} {i:Int} (h0:0≤i) (h1:i<(xs.length:Int)):∃z∈xs,atI xs i=some z:=by
 obtain ⟨n,rfl⟩:=Int.eq_ofNat_of_zero_le h0
 have hn:n<xs.length:=by omega
 exact ⟨xs[n],List.getElem_mem hn,atI_nat (List.getElem?_eq_getElem hn)⟩
section
variable {P : Program} {w : World} {K : PySem.W.Frag} {mg : Str → Option Value} {base : Heap} {a : Adr}
theorem ok_oddw {fd:FuncData} (F:Fun K "_law_odd_word" "_law_odd_word" sl_odd_word a.f_l_odd_word fd) (T:Txt K mg a):FnOkT P w K mg base CX0 1 a.f_l_odd_word fd ["_law_word","_law_cell"] spOddW:=by
 refine F.okT sc_l_odd_word (fun vs H Q E h=>?_) (fun cdv A outer st H vs Q E hr h=>?_)
 ·obtain ⟨x,c,rfl,_⟩:=h;rfl
 ·obtain ⟨x,c,rfl,hx,hc,k⟩:=h
  have x1:=hx.lo
  have x2:=hx.hi
  have lA:("A":Str).length=1:=by decide +kernel
  have la:("a":Str).length=1:=by decide +kernel
  have l1:("-":Str).length=1:=by decide +kernel
  have l2:("_":Str).length=1:=by decide +kernel
  have l3:(";b":Str).length=2:=by decide +kernel
  have l20:(Txt.mul "a" 20).length=20:=by decide +kernel
  refine ⟨_,(psst_one (pst_ret (pet_ix ix_list (pet_lst (pat_cons (pet_addR (pe_bm0 PySem.F.plainAttrs_str PySem.F.slot_str_upper PySem.F.type_str_upper mt_upper (pv 0)) pe_str) (pat_cons (pet_addR (pv 0) (pe_op op_mul_str pe_str pe_int)) (pat_cons (pet_addR (pv 0) pe_str) (pat_cons (pet_addR pe_str (pv 0)) (pat_cons (pet_addR (pv 0) pe_str) (pat_cons pet_strR (PA.toT pa_nil)))))))) (pe_op op_mod (pv 1) pe_int) (fun _ _=>rfl)))),?_⟩
  refine ⟨_,rfl,rfl,x,rfl,rfl,hx.asc,by omega,_,_,rfl,rfl,(by rw [up_len];omega),(by rw [lA];decide),(by rw [up_len,lA,sizeLine_eq];omega),fun t0 h0=>?_⟩
  refine ⟨_,rfl,_,_,rfl,rfl,(by rw [la];decide),(by decide),(by decide),_,_,rfl,rfl,(by omega),(by rw [l20];decide),(by rw [l20,sizeLine_eq];omega),fun t1 h1=>?_⟩
  refine ⟨_,rfl,_,_,rfl,rfl,(by omega),(by rw [l1];decide),(by rw [l1,sizeLine_eq];omega),fun t2 h2=>?_⟩
  refine ⟨_,rfl,_,_,rfl,rfl,(by rw [l2];decide),(by omega),(by rw [l2,sizeLine_eq];omega),fun t3 h3=>?_⟩
  refine ⟨_,rfl,_,_,rfl,rfl,(by omega),(by rw [l3];decide),(by rw [l3,sizeLine_eq];omega),fun t4 h4=>?_⟩
  refine fun t5 h5=>⟨(by show 6≤sizeLine;decide),fun p hp=>?_⟩
  have s1:Same H (upd H p (.lst [.rstr ((⟨x.cps.map PyProof.Rows.up1⟩:Str)++"A") t0,.rstr (x++Txt.mul "a" 20) t1,.rstr (x++"-") t2,.rstr (("_":Str)++x) t3,.rstr (x++";b") t4,.rstr "" t5])):=Same.upd_new hp
  obtain ⟨z,hz,ez⟩:=at_mem (xs:=[.rstr ((⟨x.cps.map PyProof.Rows.up1⟩:Str)++"A") t0,.rstr (x++Txt.mul "a" 20) t1,.rstr (x++"-") t2,.rstr (("_":Str)++x) t3,.rstr (x++";b") t4,.rstr "" t5]) (i:=c % 6) (Int.emod_nonneg _ (by decide)) (Int.emod_lt_of_pos _ (by decide))
  refine ⟨_,rfl,_,_,rfl,rfl,(by show (0:Int)<6;decide),p,_,_,z,rfl,rfl,SqL.of upd_same,ez,?_⟩
  have nA:(65:Nat)∉aZ.cps.toList:=by decide +kernel
  have n1:(45:Nat)∉aZ.cps.toList:=by decide +kernel
  have n2:(95:Nat)∉aZ.cps.toList:=by decide +kernel
  have n3:(59:Nat)∉aZ.cps.toList:=by decide +kernel
  have m20:free4 (Txt.mul "a" 20).cps.toList:=free4_lit (by decide +kernel)
  simp only [List.mem_cons,List.not_mem_nil,or_false] at hz
  rcases hz with rfl | rfl | rfl | rfl | rfl | rfl
  ·exact k _ _ _ h0 ⟨.inr (bad_by (free4_app (up_free hx) (free4_lit (by decide +kernel))) (by rw [cat_list];exact List.mem_append_right _ (by decide +kernel)) nA),⟨by rw [strLen_append,up_len,lA];omega,by rw [strLen_append,up_len,lA];omega⟩,hx.asc.upper.app (asc_lit (by decide +kernel))⟩ s1
  ·exact k _ _ _ h1 ⟨.inr (bad_long (free4_app (word_free hx) m20) (by rw [strLen_append,l20];omega)),⟨by rw [strLen_append,l20];omega,by rw [strLen_append,l20];omega⟩,hx.asc.app (asc_lit (by decide +kernel))⟩ s1
  ·exact k _ _ _ h2 ⟨.inr (bad_by (free4_app (word_free hx) (free4_lit (by decide +kernel))) (by rw [cat_list];exact List.mem_append_right _ (by decide +kernel)) n1),⟨by rw [strLen_append,l1];omega,by rw [strLen_append,l1];omega⟩,hx.asc.app (asc_lit (by decide +kernel))⟩ s1
  ·exact k _ _ _ h3 ⟨.inr (bad_by (free4_app (free4_lit (by decide +kernel)) (word_free hx)) (by rw [cat_list];exact List.mem_append_left _ (by decide +kernel)) n2),⟨by rw [strLen_append,l2];omega,by rw [strLen_append,l2];omega⟩,(asc_lit (by decide +kernel)).app hx.asc⟩ s1
  ·exact k _ _ _ h4 ⟨.inr (bad_by (free4_app (word_free hx) (free4_lit (by decide +kernel))) (by rw [cat_list];exact List.mem_append_right _ (by decide +kernel)) n3),⟨by rw [strLen_append,l3];omega,by rw [strLen_append,l3];omega⟩,hx.asc.app (asc_lit (by decide +kernel))⟩ s1
  ·exact k _ _ _ h5 ⟨.inl rfl,⟨by decide +kernel,by decide +kernel⟩,asc_lit (by decide +kernel)⟩ s1
end
theorem expd_le {c:Nat} {z:List Nat}:∀l:List Nat,(expd c z l).length≤(z.length+1)*l.length
 | []=>Nat.zero_le _
 | k :: r=>by
   have ih:=expd_le (c:=c) (z:=z) r
   show ((if k=c then z else [k])++expd c z r).length≤_
   rw [List.length_append,List.length_cons,Nat.mul_add,Nat.mul_one]
   have:(if k=c then z else [k]).length≤z.length+1:=by split <;> simp
   omega
theorem some_small:∀x∈someL,x.length≤14∧(x.cps.toList.all fun c=>decide (c<128))=true:=by decide +kernel
theorem rW_small {x z:Str} (hx:x∈someL) (hz:z.length≤60) (ha:Asc z):Asc (Txt.replace x "W" z)∧(Txt.replace x "W" z).length≤1000:=by
 obtain ⟨h1,h2⟩:=some_small x hx
 have e:=rW x z
 refine ⟨fun c hc=>?_,?_⟩
 ·rw [e] at hc
  obtain ⟨d,hd,hc⟩:=List.mem_flatMap.mp hc
  split at hc
  ·exact ha c hc
  ·rw [List.mem_singleton.mp hc];exact of_decide_eq_true (List.all_eq_true.mp h2 d hd)
 ·have h:=expd_le (c:=87) (z:=z.cps.toList) x.cps.toList
  rw [←e,show (Txt.replace x "W" z).cps.toList.length=(Txt.replace x "W" z).length from Array.length_toList,show z.cps.toList.length=z.length from Array.length_toList,show x.cps.toList.length=x.length from Array.length_toList] at h
  have:=Nat.mul_le_mul (show z.length+1≤61 by omega) h1
  omega
def OddT (y:Str):Prop:=OddL (pcs y)∧Asc y∧y.length≤1000
inductive spLeafO_I (vs:List V) (H:Hp) (Q:VK):Prop
 | mk:∀(z:Str) (t:Nat) (c:Int),vs=[.rstr z t,.int c]→t≠0→OddW z→0≤c→(∀y H',OddT y→Same H H'→Q (.str y) H')→spLeafO_I vs H Q
def spLeafO:Sp:=fun vs H Q _=>spLeafO_I vs H Q
section
variable {P : Program} {w : World} {K : PySem.W.Frag} {mg : Str → Option Value} {base : Heap} {a : Adr}
theorem ok_leafo {fd:FuncData} (F:Fun K "_law_leaf" "_law_leaf" sl_leaf a.f_l_leaf fd) (T:Txt K mg a):FnOkT P w K mg base CX0 1 a.f_l_leaf fd ["_law_word","_law_cell"] spLeafO:=by
 refine F.okT sc_l_leaf (fun vs H Q E h=>?_) (fun cdv A outer st H vs Q E hr h=>?_)
 ·obtain ⟨z,t,c,rfl,_⟩:=h;rfl
 ·obtain ⟨z,t,c,rfl,ht,hz,hc,k⟩:=h
  refine ⟨_,(psst_more (ps_set (i:=2) sc_l_leaf.nd rfl (Or.inl rfl) (pe_lstG (pas_cons pe_str (pas_cons pe_str (pas_cons pe_str (pas_cons pe_str (pas_cons pe_str (pas_cons pe_str (pas_cons pe_str (pas_cons pe_str (pas_cons pe_str (pas_cons pe_str pas_nil))))))))))))
   (psst_more (ps_set (i:=2) sc_l_leaf.nd rfl (Or.inl rfl) (pe_op op_catG (pv 2) (pe_lstG (pas_cons pe_str (pas_cons pe_str (pas_cons pe_str (pas_cons pe_str (pas_cons pe_str (pas_cons pe_str (pas_cons pe_str (pas_cons pe_str (pas_cons pe_str pas_nil))))))))))))
   (psst_more (ps_set (i:=2) sc_l_leaf.nd rfl (Or.inl rfl) (pe_op op_catG (pv 2) (pe_lstG (pas_cons pe_str (pas_cons pe_str (pas_cons pe_str (pas_cons pe_str (pas_cons pe_str (pas_cons pe_str (pas_cons pe_str pas_nil))))))))))
   (psst_one (pst_ret (pet_bm PySem.F.plainAttrs_str PySem.F.slot_str_replace PySem.F.type_str_replace mt_replR (pe_ix ix_list (pv 2) (pe_op op_mod (pv 1) pe_int) (fun _ _=>rfl)) (pat_cons pet_strR (pat_cons (PE.toT (pv 0)) (PA.toT pa_nil))))))))),?_⟩
  refine ⟨(by show 10≤sizeLine;decide),fun p1 H1 n1 s1 e1=>?_⟩
  refine ⟨_,rfl,(by show 9≤sizeLine;decide),fun p2 H2 n2 s2 e2=>⟨p1,p2,_,_,rfl,rfl,s2 _ _ e1,e2,(by show 19≤sizeLine;decide),fun p3 H3 n3 s3 e3=>?_⟩⟩
  refine ⟨_,rfl,(by show 7≤sizeLine;decide),fun p4 H4 n4 s4 e4=>⟨p3,p4,_,_,rfl,rfl,s4 _ _ e3,e4,(by show 26≤sizeLine;decide),fun p5 H5 n5 s5 e5=>?_⟩⟩
  have e5':H5 p5=some (.lst (someL.map V.str)):=e5
  obtain ⟨v,hv,ev⟩:=at_mem (xs:=someL.map V.str) (i:=c % 26) (Int.emod_nonneg _ (by decide)) (Int.emod_lt_of_pos _ (by decide))
  obtain ⟨x,hx,rfl⟩:=List.mem_map.mp hv
  have ss:=s1.trans (s2.trans (s3.trans (s4.trans s5)))
  have hs:=some_small x hx
  have hb:x.length+(x.length+1)*z.length≤16777216:=by
   have h6:=hz.2.1.1
   have:=Nat.mul_le_mul (show x.length+1≤15 by have:=hs.1;omega) h6
   have:=hs.1
   omega
  refine ⟨_,rfl,_,rfl,_,_,rfl,rfl,(by show (0:Int)<26;decide),p5,_,_,.str x,rfl,rfl,SqL.of e5',ev,rfl,fun u hu=>⟨_,rfl,x,"W",z,u,t,rfl,rfl,hu,ht,fun q=>hz.2.1.2 (by rw [←q];decide +kernel),hb,?_,?_⟩⟩
  ·obtain ⟨r1,r2⟩:=rW_small hx hz.2.1.1 hz.2.2
   exact k _ _ ⟨odd_any hz.1 x hx,r1,r2⟩ ss
  ·exact k _ _ ⟨odd_self x hx,asc_lit hs.2,by have:=hs.1;omega⟩ ss
end
theorem comp_rangeF {lo:Int} {n:Nat} {fr:List (Nat×Str)} {tt:TT} {te:TE} {σ:St} {H1:Hp} {Q:VK} (f:Nat→V) (pr:Nat→Bool) (hz:n≤sizeLine)
 (htt:∀(i:Nat) (H3:Hp) (Q':Bool→Hp→Prop),i<n→Q' (pr i) H3→tt (some (.int (lo+i)) :: frV σ fr) H3 Q')
 (hte:∀(i:Nat) (H3:Hp) (Q':VK),i<n→Q' (f i) H3→te (some (.int (lo+i)) :: frV σ fr) H3 Q')
 (hQ:∀D,H1 D=none→Q (.ref D) (upd H1 D (.lst (((List.range n).filter pr).map f)))) :
 compGoal (Itr lo n) fr tt te σ H1 Q:=by
 unfold compGoal
 intro D hD
 refine ⟨fun i m ys H2=>m=n - i∧i≤n∧ys=((List.range i).filter pr).map f∧H2=upd H1 D (.lst ys),⟨n,by simp,Nat.zero_le _,by simp,rfl⟩,?_⟩
 rintro i m ys H2 ⟨rfl,hi,rfl,rfl⟩
 refine ⟨upd_same,?_⟩
 by_cases hlt:i<n
 ·refine .inr ⟨hlt,?_⟩
  rintro v H3 ⟨rfl,rfl⟩
  refine htt i _ _ hlt ?_
  cases hp:pr i
  ·refine iteF ⟨n - (i+1),by omega,rfl,hlt,?_,rfl⟩
   rw [List.range_succ,List.filter_append,List.filter_cons,hp]
   simp
  ·refine iteT (hte i _ _ hlt ⟨upd_same,?_,n - (i+1),by omega,rfl,hlt,?_,upd_upd⟩)
   ·have:=List.length_filter_le pr (List.range i)
    rw [List.length_range] at this
    rw [List.length_map]
    omega
   ·rw [List.range_succ,List.filter_append,List.filter_cons,hp]
    simp
 ·have e:i=n:=by omega
  subst e
  exact .inl ⟨Nat.le_refl _,hQ D hD⟩
def plc (x:Str) (i:Nat):Bool:=decide (x.cps.toList.getD i 0∈("()":Str).cps.toList)
inductive spPlc_I (vs:List V) (H:Hp) (Q:VK):Prop
 | mk:∀(x:Str),vs=[.str x,.str "()"]→x.length≤100000→(∀D H',H D=none→Same H H'→H' D=some (.lst ((((List.range x.length).filter (plc x)).map fun i=>((i:Nat):Int)).map V.int))→Q (.ref D) H')→spPlc_I vs H Q
def spPlc:Sp:=fun vs H Q _=>spPlc_I vs H Q
def longT (b:Bool):Nat→Tr
 | 0=>.any
 | n+1=>if b=true then .eth (longT b n) .any else .bth (longT b n) .any
inductive spLong_I (vs:List V) (H:Hp) (Q:VK):Prop
 | mk:∀(b:Bool),vs=[.str (if b=true then "or" else "and")]→(∀p H',Same H H'→TAt H' p (longT b 29)→Q (.ref p) H')→spLong_I vs H Q
def spLong:Sp:=fun vs H Q _=>spLong_I vs H Q
section
variable {P : Program} {w : World} {K : PySem.W.Frag} {mg : Str → Option Value} {base : Heap} {a : Adr}
theorem ok_plc {fd:FuncData} (F:Fun K "_law_places" "_law_places" sl_places a.f_l_places fd) (T:Txt K mg a):FnOk P w K mg base CX0 1 a.f_l_places fd ["_law_text","_law_signs"] spPlc:=by
 refine F.ok sc_l_places (fun vs H Q E h=>?_) (fun cdv A outer st H vs Q E hr h=>?_)
 ·obtain ⟨x,rfl,_⟩:=h;rfl
 ·obtain ⟨x,rfl,hx,k⟩:=h
  refine ⟨_,(pss_one (ps_ret (pe_comp (sc:=defScope sl_places) (N:=n_l_places) (fr:=[(1,"_law_signs"),(0,"_law_text")]) ⟨rfl,rfl,by decide +kernel,by decide +kernel,by decide +kernel,by decide +kernel,by decide +kernel⟩ rfl rfl rfl (pi_range1 rfl T.b_range (pac (pe_callB call_len_str rfl T.b_len PySem.boot_len (pac (pv 0) pa_nil)) pa_nil)) (fun _ _ _ _=>pts_one (pt_cmpR op_in_str (pe_ix ix_str (pv 2) (pv 0) (fun _ _=>rfl)) (pv 1) (by with_unfolding_all rfl))) (fun _ _ _ _=>(pv 0))))),?_⟩
  have hl:x.cps.toList.length=x.length:=Array.length_toList
  refine ⟨_,rfl,x,rfl,(by rw [sizeLine_eq];omega),(x.length:Int),rfl,by omega,by omega,comp_rangeF (n:=(x.length:Int).toNat) (fun i=>V.int (i:Int)) (plc x) (by rw [sizeLine_eq];omega) (fun i H3 Q' hi q=>?_) (fun i H3 Q' hi q=>⟨_,rfl,by rw [Int.zero_add];exact q⟩) fun D hD=>?_⟩
  ·have hi':i<x.cps.toList.length:=by omega
   refine ⟨_,rfl,_,rfl,x,_,x.cps.toList[i],rfl,rfl,(by rw [sizeLine_eq];omega),(by rw [Int.zero_add];exact atI_nat (List.getElem?_eq_getElem hi')),_,rfl,_,_,rfl,rfl,_,rfl,?_⟩
   rw [StrLaws.found_one]
   have e:plc x i=decide (x.cps.toList[i]∈("()":Str).cps.toList):=by
    unfold plc
    rw [List.getD_eq_getElem?_getD,List.getElem?_eq_getElem hi'];rfl
   rw [←e]
   exact q
  ·refine k D _ hD (Same.upd_new hD) ?_
   rw [upd_same,List.map_map,Int.toNat_natCast]
   rfl
theorem ok_long {fd:FuncData} (F:Fun K "_law_long" "_law_long" sl_long a.f_l_long fd) (T:Txt K mg a):FnOk P w K mg base CX0 1 a.f_l_long fd ["_law_sign"] spLong:=by
 refine F.ok sc_l_long (fun vs H Q E h=>?_) (fun cdv A outer st H vs Q E hr h=>?_)
 ·obtain ⟨b,rfl,_⟩:=h;rfl
 ·obtain ⟨b,rfl,k⟩:=h
  refine ⟨_,(pss_cons (ps_set (i:=1) sc_l_long.nd rfl (Or.inl rfl) (pe_tupG (pas_cons pe_str pas_nil)))
   (pss_cons (ps_for PassesOwn.never rfl (pi_range1 rfl T.b_range (pac pe_int pa_nil)) (pg_name (i:=2) sc_l_long.nd rfl (Or.inl rfl)) (pss_one (ps_set (i:=1) sc_l_long.nd rfl (Or.inl rfl) (pe_tupG (pas_cons (pe_ix ix_list (pe_lstG (pas_cons pe_str (pas_cons pe_str pas_nil))) (pe_callTy call_int1 rfl T.b_int PyProof.Rows.boot_int (pac (pe_cmpR op_eq (pv 0) pe_str (nomark _)) pa_nil)) (fun _ _=>rfl)) (pas_cons (pv 1) (pas_cons (pe_tupG (pas_cons pe_str pas_nil)) pas_nil)))))))
   (pss_one (ps_ret (pv 1))))),?_⟩
  refine ⟨(by show 1≤sizeLine;decide),fun p1 H1 n1 s1 e1=>?_⟩
  refine ⟨29,rfl,by decide,by decide,for_range (n:=(29:Int).toNat) (fun i σ H2=>∃(p:Addr) (o:Option V),σ=[some (.str (if b=true then "or" else "and")),some (.ref p),o]∧Same H H2∧TAt H2 p (longT b i)) ⟨p1,none,rfl,s1,.any e1⟩ ?_ ?_⟩
  ·rintro i σ H2 hi ⟨p,o,rfl,s2,t2⟩
   refine ⟨(by show 2≤sizeLine;decide),fun p3 H3 n3 s3 e3=>?_⟩
   refine ⟨_,rfl,rfl,.inr ⟨_,rfl,p3,_,_,.str (if b=true then "either" else "both"),rfl,rfl,SqL.of e3,?_,?_⟩⟩
   ·cases b
    ·rw [show decide (V.str (if false=true then ("or":Str) else "and")=V.str "or")=false by decide +kernel];rfl
    ·rw [show decide (V.str (if true=true then ("or":Str) else "and")=V.str "or")=true by decide +kernel];rfl
   ·refine ⟨_,rfl,(by show 1≤sizeLine;decide),fun p4 H4 n4 s4 e4=>⟨(by show 3≤sizeLine;decide),fun p5 H5 n5 s5 e5=>?_⟩⟩
    refine ⟨p5,_,rfl,s2.trans (s3.trans (s4.trans s5)),?_⟩
    have t5:=t2.mono (s3.trans (s4.trans s5))
    have a5:TAt H5 p4 .any:=.any (s5 _ _ e4)
    cases b
    ·exact .bth e5 t5 a5
    ·exact .eth e5 t5 a5
  ·rintro σ H2 ⟨p,o,rfl,s2,t2⟩
   exact ⟨_,rfl,k p H2 s2 t2⟩
end
structure WT (x:Str) (t:Tr):Prop where
 pc:pcs x=tk t
 asc:Asc x
 len:x.length≤14000
 tok:TOk t
 dp:t.dp≤20
 th:t.th≤2
def RfT (y:Str):Prop:=TxOk y∧rcF (pcs y)=none
theorem rf_of {y:Str} (ha:Asc y) (hl:y.length≤100000) (h:rcF (pcs y)=none):RfT y:=⟨Asc.tx ha hl,h⟩
theorem mul_succ (s x:Str) (n:Nat):Txt.mul s ((n+1:Nat):Int)++x=s++(Txt.mul s (n:Int)++x):=str_ext (by
 rw [cat_list,cat_list,cat_list,mul_signs,mul_signs,Int.toNat_natCast,Int.toNat_natCast,List.replicate_succ,List.flatten_cons,List.append_assoc])
theorem mul_zero (s x:Str):Txt.mul s ((0:Nat):Int)++x=x:=str_ext (by rw [cat_list,mul_signs];rfl)
theorem pcs_nots (x:Str):∀n:Nat,pcs (Txt.mul "not " (n:Int)++x)=List.replicate n ("not":Str)++pcs x
 | 0=>by rw [mul_zero];rfl
 | n+1=>by
   rw [mul_succ,show ("not ":Str)=("not":Str)++" " by decide +kernel,pcs_app,←show ("not ":Str)=("not":Str)++" " by decide +kernel,pcs_nots x n,lit_pc (x:="not") (by decide +kernel) (by decide +kernel)]
   rfl
theorem pcs_opens (x:Str):∀n:Nat,pcs (Txt.mul "(" (n:Int)++x)=List.replicate n ("(":Str)++pcs x
 | 0=>by rw [mul_zero];rfl
 | n+1=>by rw [mul_succ,pcs_open,pcs_opens x n];rfl
theorem asc_mul {s:Str} {n:Int} (h:Asc s):Asc (Txt.mul s n):=fun c hc=>h c (mul_mem hc)
theorem len_mul (s:Str) (n:Nat):(Txt.mul s (n:Int)).length=n*s.length:=by
 have e:(Txt.mul s (n:Int)).cps.toList.length=(Txt.mul s (n:Int)).length:=Array.length_toList
 have e2:s.cps.toList.length=s.length:=Array.length_toList
 rw [←e,mul_signs,Int.toNat_natCast,List.length_flatten,List.map_replicate,List.sum_replicate_nat,e2]
section
variable {x o : Str} {t : Tr} (h : WT x t)
include h
theorem ft0 (ho:OddT o):RfT ((((("(":Str)++x)++" and ")++o)++")"):=by
 refine rf_of ((((asc_lit (by decide +kernel)).app h.asc).app (asc_lit (by decide +kernel))).app ho.2.1 |>.app (asc_lit (by decide +kernel))) ?_ ?_
 ·have:=h.len;have:=ho.2.2
  have q1:("(":Str).length=1:=by decide +kernel
  have q2:(" and ":Str).length=5:=by decide +kernel
  have q3:(")":Str).length=1:=by decide +kernel
  simp only [strLen_append];omega
 ·rw [show (" and ":Str)=((" ":Str)++"and")++" " by decide +kernel,←str_assoc3 _ ((" ":Str)++"and") " ",←str_assoc3 _ (" ":Str) "and",pcs_close,pcs_app,pcs_app,pcs_open,h.pc,lit_pc (x:="and") (by decide +kernel) (by decide +kernel)]
  have:=bad_w0 h.tok h.dp h.th ho.1
  rw [show ((("(":Str) :: tk t++[("and":Str)])++pcs o)++[(")":Str)]=("(":Str) :: (tk t++("and":Str) :: (pcs o++[(")":Str)])) by simp]
  exact this
theorem ft1 (ho:OddT o):RfT ((o++" or ")++x):=by
 refine rf_of ((ho.2.1.app (asc_lit (by decide +kernel))).app h.asc) ?_ ?_
 ·have:=h.len;have:=ho.2.2
  have q2:(" or ":Str).length=4:=by decide +kernel
  simp only [strLen_append];omega
 ·rw [show (" or ":Str)=((" ":Str)++"or")++" " by decide +kernel,←str_assoc3 _ ((" ":Str)++"or") " ",←str_assoc3 _ (" ":Str) "or",pcs_app,pcs_app,h.pc,lit_pc (x:="or") (by decide +kernel) (by decide +kernel),List.append_assoc]
  exact bad_w1 ho.1
theorem ft2 (ho:OddT o):RfT (("not ":Str)++o):=by
 refine rf_of ((asc_lit (by decide +kernel)).app ho.2.1) ?_ ?_
 ·have:=ho.2.2
  have q2:("not ":Str).length=4:=by decide +kernel
  simp only [strLen_append];omega
 ·rw [show ("not ":Str)=("not":Str)++" " by decide +kernel,pcs_app,lit_pc (x:="not") (by decide +kernel) (by decide +kernel)]
  exact bad_w2 ho.1
theorem ft3:RfT (("(":Str)++x):=by
 refine rf_of ((asc_lit (by decide +kernel)).app h.asc) ?_ ?_
 ·have:=h.len
  have q1:("(":Str).length=1:=by decide +kernel
  simp only [strLen_append];omega
 ·rw [pcs_open,h.pc];exact bad_w3 h.tok h.dp h.th
theorem ft_behind {r:Str} (ha:(r.cps.toList.all fun c=>decide (c<128))=true) (hl:r.length≤20) (hb:rcF (tk t++pcs r)=none):RfT (x++((" ":Str)++r)):=by
 refine rf_of (h.asc.app ((asc_lit (by decide +kernel)).app (asc_lit ha))) ?_ ?_
 ·have:=h.len
  have q1:(" ":Str).length=1:=by decide +kernel
  simp only [strLen_append];omega
 ·rw [←str_assoc3,pcs_app,h.pc];exact hb
theorem ft4:∀e∈([" )"," any"," and"," or"," ,"," not"," ()"," to 3"]:List Str),RfT (x++e):=by
 have more:∀{r:Str} {l:List Str},(r.cps.toList.all fun c=>decide (c<128))=true→r.length≤20→pcs r=l→hd1 l≠"and"→hd1 l≠"or"→l≠[]→RfT (x++((" ":Str)++r)):=fun h1 h2 h3 h4 h5 h6=>ft_behind h h1 h2 (by rw [h3];exact bad_more h.tok h.dp h.th h4 h5 h6)
 intro e he
 simp only [List.mem_cons,List.not_mem_nil,or_false] at he
 rcases he with rfl | rfl | rfl | rfl | rfl | rfl | rfl | rfl
 ·exact more (r:=")") (l:=[")"]) (by decide +kernel) (by decide +kernel) (by decide +kernel) (by decide +kernel) (by decide +kernel) (by decide +kernel)
 ·exact more (r:="any") (l:=["any"]) (by decide +kernel) (by decide +kernel) (by decide +kernel) (by decide +kernel) (by decide +kernel) (by decide +kernel)
 ·exact ft_behind h (r:="and") (by decide +kernel) (by decide +kernel) (by rw [show pcs "and"=(["and"]:List Str) by decide +kernel];exact bad_and h.tok h.dp h.th rfl)
 ·exact ft_behind h (r:="or") (by decide +kernel) (by decide +kernel) (by rw [show pcs "or"=(["or"]:List Str) by decide +kernel];exact bad_or h.tok h.dp h.th rfl)
 ·exact more (r:=",") (l:=[","]) (by decide +kernel) (by decide +kernel) (by decide +kernel) (by decide +kernel) (by decide +kernel) (by decide +kernel)
 ·exact more (r:="not") (l:=["not"]) (by decide +kernel) (by decide +kernel) (by decide +kernel) (by decide +kernel) (by decide +kernel) (by decide +kernel)
 ·exact more (r:="()") (l:=["(",")"]) (by decide +kernel) (by decide +kernel) (by decide +kernel) (by decide +kernel) (by decide +kernel) (by decide +kernel)
 ·exact more (r:="to 3") (l:=["to","3"]) (by decide +kernel) (by decide +kernel) (by decide +kernel) (by decide +kernel) (by decide +kernel) (by decide +kernel)
theorem ft5:RfT ((("thread not thread (any and thread ":Str)++x)++")"):=by
 refine rf_of (((asc_lit (by decide +kernel)).app h.asc).app (asc_lit (by decide +kernel))) ?_ ?_
 ·have:=h.len
  have q1:("thread not thread (any and thread ":Str).length≤50:=by decide +kernel
  have q2:(")":Str).length=1:=by decide +kernel
  simp only [strLen_append];omega
 ·rw [show ("thread not thread (any and thread ":Str)=("thread not thread (any and thread":Str)++" " by decide +kernel,pcs_close,pcs_app,h.pc,show pcs "thread not thread (any and thread"=(["thread","not","thread","(","any","and","thread"]:List Str) by decide +kernel]
  exact bad_w5
theorem ft6 {n:Nat} (h1:30≤n) (h2:n≤500):RfT (Txt.mul "not " (n:Int)++x):=by
 refine rf_of ((asc_mul (asc_lit (by decide +kernel))).app h.asc) ?_ ?_
 ·have:=h.len
  have q1:("not ":Str).length=4:=by decide +kernel
  rw [strLen_append,len_mul,q1];omega
 ·rw [pcs_nots];exact bad_w6 h1
theorem ft7 {n:Nat} (h1:41≤n) (h2:n≤900):RfT ((Txt.mul "(" (n:Int)++x)++Txt.mul ")" (n:Int)):=by
 refine rf_of (((asc_mul (asc_lit (by decide +kernel))).app h.asc).app (asc_mul (asc_lit (by decide +kernel)))) ?_ ?_
 ·have:=h.len
  have q1:("(":Str).length=1:=by decide +kernel
  have q2:(")":Str).length=1:=by decide +kernel
  rw [strLen_append,strLen_append,len_mul,len_mul,q1,q2];omega
 ·rw [str_assoc3,pcs_opens]
  exact bad_w7 (fun p hp=>.inl (List.mem_replicate.mp hp).2) (by rw [List.length_replicate];exact h1)
theorem ft8:∀e∈([x++" and and any",x++" or and any",("and ":Str)++x,("() and ":Str)++x]:List Str),RfT e:=by
 intro e he
 simp only [List.mem_cons,List.not_mem_nil,or_false] at he
 have hl:=h.len
 rcases he with rfl | rfl | rfl | rfl
 ·exact ft_behind h (r:="and and any") (by decide +kernel) (by decide +kernel) (by rw [show pcs "and and any"=(["and","and","any"]:List Str) by decide +kernel];exact bad_and h.tok h.dp h.th (sF_other (by decide +kernel) 40 0))
 ·exact ft_behind h (r:="or and any") (by decide +kernel) (by decide +kernel) (by rw [show pcs "or and any"=(["or","and","any"]:List Str) by decide +kernel];exact bad_or h.tok h.dp h.th (sF_other (by decide +kernel) 40 0))
 ·refine rf_of ((asc_lit (by decide +kernel)).app h.asc) ?_ ?_
  ·have q1:("and ":Str).length=4:=by decide +kernel
   rw [strLen_append,q1];omega
  ·rw [show ("and ":Str)=("and":Str)++" " by decide +kernel,pcs_app,show pcs "and"=(["and"]:List Str) by decide +kernel]
   exact rcF_none (sF_other (by decide +kernel) 40 0)
 ·refine rf_of ((asc_lit (by decide +kernel)).app h.asc) ?_ ?_
  ·have q1:("() and ":Str).length=7:=by decide +kernel
   rw [strLen_append,q1];omega
  ·rw [show ("() and ":Str)=("() and":Str)++" " by decide +kernel,pcs_app,show pcs "() and"=(["(",")","and"]:List Str) by decide +kernel]
   refine rcF_none ((sF_opn (by decide) (by decide)).trans ?_)
   show (reF (sF 40 0) ((")":Str) :: ("and":Str) :: pcs x)).bind _=none
   rw [reF_none (sF_other (by decide +kernel) 39 0)];rfl
theorem ft9 {i:Nat} (hi:i<x.length) (hp:plc x i=true):RfT (Txt.slice x none (some (i:Int))++Txt.slice x (some ((i:Int)+1)) none):=by
 have hl:x.cps.toList.length=x.length:=Array.length_toList
 have e:(Txt.slice x none (some (i:Int))++Txt.slice x (some ((i:Int)+1)) none).cps.toList=x.cps.toList.take i++x.cps.toList.drop (i+1):=by
  rw [cat_list,slice_to,show ((i:Int)+1)=((i+1:Nat):Int) by omega,slice_from]
 have e0:x.cps.toList=x.cps.toList.take i++(x.cps.toList[i]'(by omega) :: x.cps.toList.drop (i+1)):=by
  rw [List.getElem_cons_drop,List.take_append_drop]
 have hc:=rc_bal (rc_tk h.tok h.dp h.th)
 rw [←h.pc,bal_pcs,e0,cb_app] at hc
 have hc:cb (x.cps.toList.take i)+(cb1 (x.cps.toList[i]'(by omega))+cb (x.cps.toList.drop (i+1)))=0:=hc
 refine rf_of (fun c hc=>?_) ?_ (bad_bal ?_)
 ·rw [e] at hc
  rcases List.mem_append.mp hc with hc | hc
  ·exact h.asc c (List.mem_of_mem_take hc)
  ·exact h.asc c (List.mem_of_mem_drop hc)
 ·have:=h.len
  have l1:=sl_le x none (some (i:Int))
  have l2:=sl_le x (some ((i:Int)+1)) none
  rw [strLen_append];omega
 ·rw [bal_pcs,e,cb_app]
  have hm:x.cps.toList[i]'(by omega)∈("()":Str).cps.toList:=by
   unfold plc at hp
   have:=of_decide_eq_true hp
   rw [List.getD_eq_getElem?_getD,List.getElem?_eq_getElem (by omega)] at this
   exact this
  rw [show ("()":Str).cps.toList=[40,41] by decide +kernel] at hm
  simp only [List.mem_cons,List.not_mem_nil,or_false] at hm
  rcases hm with z | z
  ·rw [z,show cb1 40=1 by decide] at hc;omega
  ·rw [z,show cb1 41 = -1 by decide] at hc;omega
end
theorem ft7a:RfT (((Txt.mul "(" 21++Txt.mul "not " 20)++"any")++Txt.mul ")" 21):=by
 refine rf_of ((((asc_mul (asc_lit (by decide +kernel))).app (asc_mul (asc_lit (by decide +kernel)))).app (asc_lit (by decide +kernel))).app (asc_mul (asc_lit (by decide +kernel)))) ?_ ?_
 ·have q1:("(":Str).length=1:=by decide +kernel
  have q2:(")":Str).length=1:=by decide +kernel
  have q3:("not ":Str).length=4:=by decide +kernel
  have q4:("any":Str).length=3:=by decide +kernel
  have m1:=len_mul "(" 21
  have m2:=len_mul ")" 21
  have m3:=len_mul "not " 20
  simp only [strLen_append]
  have:(Txt.mul "(" 21).length=21*("(":Str).length:=m1
  have:(Txt.mul ")" 21).length=21*(")":Str).length:=m2
  have:(Txt.mul "not " 20).length=20*("not ":Str).length:=m3
  omega
 ·rw [str_assoc3,str_assoc3,show (21:Int)=((21:Nat):Int) from rfl,show (20:Int)=((20:Nat):Int) from rfl,pcs_opens,pcs_nots,←List.append_assoc]
  refine bad_w7 (fun p hp=>?_) (by rw [List.length_append,List.length_replicate,List.length_replicate];decide)
  rcases List.mem_append.mp hp with hp | hp
  ·exact .inl (List.mem_replicate.mp hp).2
  ·exact .inr (List.mem_replicate.mp hp).2
def chn (w:Str):Nat→List Str
 | 0=>[]
 | j+1=>w :: ("any":Str) :: chn w j
theorem longT_dp (b:Bool):∀i,(longT b i).dp=i
 | 0=>rfl
 | i+1=>by
   have ih:=longT_dp b i
   unfold longT
   split
   ·show max (longT b i).dp 0+1=i+1;omega
   ·show max (longT b i).dp 0+1=i+1;omega
theorem bl_bad {w:Str} {mk:Tr→Tr→Tr} {S:List Str→Option (Tr×List Str)} (hS:∀j,S (("any":Str) :: chn w j)=some (.any,chn w j)) (hm:∀t,(mk t .any).dp=t.dp+1):∀(j m:Nat) (t:Tr),t.dp<30→30≤t.dp+j→blF w mk S m t (chn w j)=none
 | 0,m,t,h1,h2=>by omega
 | j+1,0,t,h1,h2=>if_pos rfl
 | j+1,m+1,t,h1,h2=>by
   by_cases hd:(mk t .any).dp<30
   ·exact (blF_go (hS j) hd).trans (bl_bad hS hm j m _ hd (by rw [hm];omega))
   ·refine (if_pos (show hd1 (w :: ("any":Str) :: chn w j)=w from rfl)).trans ?_
    show (S (("any":Str) :: chn w j)).bind _=_
    rw [hS j,Option.bind_some]
    exact if_neg hd
theorem bl_good {b:Bool} {w:Str} {mk:Tr→Tr→Tr} {S:List Str→Option (Tr×List Str)} (hw:w≠"") (hS:∀j,S (("any":Str) :: chn w j)=some (.any,chn w j)) (hk:∀i,mk (longT b i) .any=longT b (i+1)):∀(j m i:Nat),j≤m→i+j<30→blF w mk S m (longT b i) (chn w j)=some (longT b (i+j),[])
 | 0,m,i,_,_=>blF_stop (fun z=>hw z.symm)
 | j+1,0,i,h,_=>by omega
 | j+1,m+1,i,h1,h2=>by
   refine (blF_go (hS j) (by rw [hk,longT_dp];omega)).trans ?_
   rw [hk,bl_good hw hS hk j m (i+1) (by omega) (by omega),show i+1+j=i+(j+1) by omega]
theorem chn_len (w:Str):∀j,(chn w j).length=2*j
 | 0=>rfl
 | j+1=>by show (chn w j).length+1+1=_;rw [chn_len w j];omega
theorem s_any {m th:Nat} {r:List Str}:sF (m+1) th (("any":Str) :: r)=some (.any,r):=(sF_leaf (by decide +kernel)).trans (if_pos (by decide +kernel))
theorem chn_hd (w:Str) (j:Nat):hd1 (chn w j)=""∨hd1 (chn w j)=w:=by cases j with | zero=>exact .inl rfl | succ j=>exact .inr rfl
theorem rb_any {m th:Nat} (j:Nat):rbF (sF (m+1) th) (("any":Str) :: chn "or" j)=some (.any,chn "or" j):=rbF_one s_any (by
 rcases chn_hd "or" j with e | e <;> (rw [e];decide +kernel))
theorem rc_long (b:Bool):∀w:Str,w=(if b=true then ("or":Str) else "and")→(∀j,30≤j→rcF (("any":Str) :: chn w j)=none)∧rcF (("any":Str) :: chn w 29)=some (longT b 29):=by
 intro w hw
 cases b with
 | false =>
   obtain rfl:w="and":=hw
   refine ⟨fun j hj=>rcF_none2 ?_,?_⟩
   ·refine roF_none ?_
    unfold rbF
    rw [s_any,Option.bind_some]
    exact bl_bad (fun j=>s_any) (fun t=>(by show max t.dp 0+1=_;omega)) j _ .any (by decide) (by show 30≤0+j;omega)
   ·have e:rbF (sF 41 0) (("any":Str) :: chn "and" 29)=some (longT false 29,[]):=by
     unfold rbF
     rw [s_any,Option.bind_some]
     exact bl_good (b:=false) (by decide +kernel) (fun j=>s_any) (fun i=>rfl) 29 _ 0 (by rw [chn_len];decide) (by decide)
    unfold rcF
    rw [show reF (sF 41 0) (("any":Str) :: chn "and" 29)=some (longT false 29,[]) from roF_one e (by decide +kernel),Option.bind_some]
    exact if_pos rfl
 | true =>
   obtain rfl:w="or":=hw
   refine ⟨fun j hj=>rcF_none2 ?_,?_⟩
   ·unfold reF roF
    rw [rb_any,Option.bind_some]
    exact bl_bad rb_any (fun t=>(by show max t.dp 0+1=_;omega)) j _ .any (by decide) (by show 30≤0+j;omega)
   ·unfold rcF reF roF
    rw [rb_any,Option.bind_some,show blF "or" .eth (rbF (sF 41 0)) (Tr.any,chn "or" 29).2.length (Tr.any,chn "or" 29).1 (Tr.any,chn "or" 29).2=some (longT true 29,[]) from bl_good (b:=true) (by decide +kernel) rb_any (fun i=>rfl) 29 _ 0 (by rw [chn_len];decide) (by decide),Option.bind_some]
    exact if_pos rfl
theorem fold_more (z:Array Nat):∀(r:List Str) (a b:Array Nat),r.foldl (fun acc p=>acc++z++p.cps) (a++b)=a++r.foldl (fun acc p=>acc++z++p.cps) b
 | [],_,_=>rfl
 | p :: r,a,b=>by
   rw [List.foldl_cons,List.foldl_cons,Array.append_assoc,Array.append_assoc,fold_more z r,←Array.append_assoc]
theorem join_more (sep x y:Str) (r:List Str):Txt.join sep (x :: y :: r)=(x++sep)++Txt.join sep (y :: r) :=
 congrArg Str.mk (show r.foldl (fun acc p=>acc++sep.cps++p.cps) (x.cps++sep.cps++y.cps)=(x.cps++sep.cps)++r.foldl (fun acc p=>acc++sep.cps++p.cps) y.cps from fold_more sep.cps r _ _)
theorem pcs_many {w:Str} (hw:pcs w=[w]):∀j,pcs (Txt.join (((" ":Str)++w)++" ") (List.replicate (j+1) ("any":Str)))=("any":Str) :: chn w j
 | 0=>by
   show pcs (Txt.join _ [("any":Str)])=_
   rw [show Txt.join (((" ":Str)++w)++" ") [("any":Str)]="any" from rfl]
   exact lit_pc (by decide +kernel) (by decide +kernel)
 | j+1=>by
   have ih:=pcs_many hw j
   rw [show List.replicate (j+1+1) ("any":Str)=("any":Str) :: ("any":Str) :: List.replicate j "any" from rfl,join_more,←str_assoc3 _ ((" ":Str)++w) " ",←str_assoc3 _ (" ":Str) w,pcs_app,pcs_app,hw]
   rw [show ("any":Str) :: List.replicate j ("any":Str)=List.replicate (j+1) ("any":Str) from rfl,ih,lit_pc (x:="any") (by decide +kernel) (by decide +kernel)]
   rfl
theorem join_asc {sep:Str} (hs:Asc sep):∀j,Asc (Txt.join sep (List.replicate (j+1) ("any":Str)))∧(Txt.join sep (List.replicate (j+1) ("any":Str))).length≤(j+1)*(sep.length+3)
 | 0=>⟨asc_lit (x:="any") (by decide +kernel),by
   show ("any":Str).length≤_
   rw [show ("any":Str).length=3 by decide +kernel];omega⟩
 | j+1=>by
   obtain ⟨h1,h2⟩:=join_asc hs j
   rw [show List.replicate (j+1+1) ("any":Str)=("any":Str) :: ("any":Str) :: List.replicate j "any" from rfl,join_more,show ("any":Str) :: List.replicate j ("any":Str)=List.replicate (j+1) ("any":Str) from rfl]
   refine ⟨((asc_lit (by decide +kernel)).app hs).app h1,?_⟩
   rw [strLen_append,strLen_append,show ("any":Str).length=3 by decide +kernel,Nat.succ_mul]
   omega
theorem sep_eq (b:Bool):(if b=true then (" or ":Str) else " and ")=((" ":Str)++(if b=true then ("or":Str) else "and"))++" ":=by cases b <;> decide +kernel
theorem ft10 {k:Nat} (hk:k<9) (b:Bool):RfT (Txt.join (if b=true then (" or ":Str) else " and ") (List.replicate (31+k) ("any":Str))):=by
 have ha:Asc (if b=true then (" or ":Str) else " and "):=by cases b <;> exact asc_lit (by decide +kernel)
 have hl:(if b=true then (" or ":Str) else " and ").length≤5:=by cases b <;> decide +kernel
 have e:31+k=30+k+1:=by omega
 rw [e]
 obtain ⟨h1,h2⟩:=join_asc ha (30+k)
 have h3:=Nat.mul_le_mul (show 30+k+1≤40 by omega) (show (if b=true then (" or ":Str) else " and ").length+3≤8 by omega)
 refine rf_of h1 (by omega) ?_
 rw [sep_eq,pcs_many (by cases b <;> decide +kernel)]
 exact (rc_long b _ rfl).1 _ (by omega)
theorem rc_thirty (b:Bool):TxOk (Txt.join (if b=true then (" or ":Str) else " and ") (List.replicate 30 ("any":Str)))∧rcF (pcs (Txt.join (if b=true then (" or ":Str) else " and ") (List.replicate 30 ("any":Str))))=some (longT b 29):=by
 rw [show List.replicate 30 ("any":Str)=List.replicate (29+1) ("any":Str) from rfl]
 have ha:Asc (if b=true then (" or ":Str) else " and "):=by cases b <;> exact asc_lit (by decide +kernel)
 have hl:(if b=true then (" or ":Str) else " and ").length≤5:=by cases b <;> decide +kernel
 obtain ⟨h1,h2⟩:=join_asc ha 29
 have h3:=Nat.mul_le_mul (show 29+1≤40 by omega) (show (if b=true then (" or ":Str) else " and ").length+3≤8 by omega)
 refine ⟨Asc.tx h1 (by omega),?_⟩
 have e:=pcs_many (w:=if b=true then ("or":Str) else "and") (by cases b <;> decide +kernel) 29
 rw [←sep_eq] at e
 rw [e]
 exact (rc_long b _ rfl).2
theorem ft11:∀e∈(["","  ","(","()","not","thread","(any"]:List Str),RfT e:=by
 have key:∀e∈(["","  ","(","()","not","thread","(any"]:List Str),(decide (e.length≤100) && ((e.cps.toList.all fun c=>decide (c<128)) && (rcF (pcs e)).isNone))=true:=by decide +kernel
 intro e he
 have h:=key e he
 rw [Bool.and_eq_true,Bool.and_eq_true] at h
 exact rf_of (asc_lit h.2.1) (Nat.le_trans (of_decide_eq_true h.1) (by decide)) (Option.isNone_iff_eq_none.mp h.2.2)
theorem hitI {i j:Int} {A B:Prop} (h:i=j) (k:A):if decide (V.int i=V.int j)=true then A else B:=by
 rw [decide_eq_true (by rw [h])];exact iteT k
theorem skI {i j:Int} {A B:Prop} (h:i≠j) (k:B):if decide (V.int i=V.int j)=true then A else B:=by
 rw [decide_eq_false (fun z=>h (by injection z))];exact iteF k
theorem rds_ints {K:PySem.W.Frag} {H:Hp}:∀ns:List Int,RDs K H (ns.map V.int) (ns.map PyData.int)
 | []=>.nil
 | _ :: r=>.cons (.int _) (rds_ints r)
theorem lay_ints:∀ns:List Int,PyData.canLayAll0 (ns.map PyData.int)=true∧PyData.depthAll (ns.map PyData.int)=0
 | []=>⟨rfl,rfl⟩
 | n :: r=>by
   have q:=lay_ints r
   simp only [List.map_cons,PyData.canLayAll0,PyData.canLay0,PyData.depthAll,PyData.depth,q.1,q.2]
   exact ⟨rfl,rfl⟩
theorem shaped_ints (ns:List Int):SeqAt.shaped (.list (ns.map PyData.int))=true:=by
 have q:=lay_ints ns
 unfold SeqAt.shaped
 simp only [PyData.canLay0,PyData.depth,q.1,q.2]
 rfl
theorem flat_rep (n:Nat) (x:Str):(List.replicate n [V.str x]).flatten=(List.replicate n x).map V.str:=by
 rw [List.map_replicate]
 induction n with
 | zero=>rfl
 | succ n ih=>rw [List.replicate_succ,List.flatten_cons,ih];rfl
inductive spFlt_I (vs:List V) (H:Hp) (Q:VK):Prop
 | mk:∀(x wd:Str) (t:Tr) (wy c:Int),vs=[.str x,.int wy,.int c,.str wd]→WT x t→0≤wy→wy<11→0≤c→WordS wd→(∀y H',RfT y→Same H H'→Q (.str y) H')→spFlt_I vs H Q
def spFlt:Sp:=fun vs H Q _=>spFlt_I vs H Q
structure FQ (x o wd:Str) (t:Tr) (wy c:Int) (H:Hp) (Q:VK):Prop where
 hx:WT x t
 ho:OddT o
 w0:0≤wy
 w1:wy<11
 hc:0≤c
 k:∀y H',RfT y→Same H H'→Q (.str y) H'
section
variable {P : Program} {w : World} {K : PySem.W.Frag} {mg : Str → Option Value} {base : Heap} {a : Adr} {cdv : Value} {A : Around} {outer : List Env} {s : Shared} {H : Hp} {E : XK}
theorem flt_c (T:Txt K mg a) (FF:Funs K a) (hr:Room 1 (A.deeper (PyProof.Rows.envOfC "_law_faulty" (defScope sl_faulty) s.heap.objs.size a.f_l_faulty cdv))) :
 ∃tt,PSs (cxOf CX0 P w K mg base n_l_faulty "_law_faulty" (defScope sl_faulty) a.f_l_faulty cdv A outer s H E).nox ((defBody sl_faulty).drop 10) tt ∧
  ∀(x o wd:Str) (t:Tr) (wy c:Int) (v5:Option V) (H1:Hp) (D:Ends),FQ x o wd t wy c H1 D.rt→tt D [some (.str x),some (.int wy),some (.int c),some (.str wd),some (.str o),v5,none,none] H1:=by
 obtain ⟨fd3,F_l_places,b_l_places⟩:=FF.F_l_places
 have G_l_places:FnOk P w K mg base CX0 1 a.f_l_places fd3 ["_law_text","_law_signs"] spPlc:=ok_plc F_l_places T
 have hu64:=hr.units
 refine ⟨_,(pss_cons (ps_set (i:=6) sc_l_faulty.nd rfl (Or.inl rfl) (pe_call G_l_places hr rfl T.m_l_places F_l_places.kp b_l_places .nil pass0 (pac (pv 0) (pac pe_str pa_nil))))
  (pss_cons (ps_if (pt_cmpR (op_neD hu64) (pv 6) (pe_lstG pas_nil) (nomark _)) (pss_cons (ps_set (i:=7) sc_l_faulty.nd rfl (Or.inl rfl) (pe_ix ix_list (pv 6) (pe_op op_mod (pv 2) (pe_callB call_len_seq rfl T.b_len PySem.boot_len (pac (pv 6) pa_nil))) (fun _ _=>rfl)))
  (pss_one (ps_ret (pe_op op_add_str (pe_slice sl_str (pv 0) po_none (po_some (pv 7))) (pe_slice sl_str (pv 0) (po_some (pe_op op_add (pv 7) pe_int)) po_none))))) pss_nil)
  (pss_one (ps_ret (pe_ix ix_list (pe_lstG (pas_cons pe_str (pas_cons pe_str (pas_cons pe_str (pas_cons pe_str (pas_cons pe_str (pas_cons pe_str (pas_cons pe_str pas_nil)))))))) (pe_op op_mod (pv 2) pe_int) (fun _ _=>rfl)))))),fun x o wd t wy c v5 H1 D f=>?_⟩
 have hl:=f.hx.len
 refine ⟨_,rfl,x,rfl,by omega,fun L H2 nL s2 e2=>?_⟩
 refine ⟨_,rfl,Nat.zero_le _,fun p H3 np s3 e3=>?_⟩
 generalize hps:(List.range x.length).filter (plc x)=ps at e2
 have e2':=s3 _ _ e2
 refine ⟨.list ((ps.map fun i=>((i:Nat):Int)).map PyData.int),.list [],.lst (SqL.of e2') (rds_ints _),.lst (SqL.of e3) .nil,shaped_ints _,rfl,_,rfl,?_⟩
 cases ps with
 | nil =>
   refine iteF ⟨(by show 7≤sizeLine;decide),fun p4 H4 n4 s4 e4=>?_⟩
   obtain ⟨v,hv,ev⟩:=at_mem (xs:=(["","  ","(","()","not","thread","(any"]:List Str).map V.str) (i:=c % 7) (Int.emod_nonneg _ (by decide)) (Int.emod_lt_of_pos _ (by decide))
   obtain ⟨y,hy,rfl⟩:=List.mem_map.mp hv
   exact ⟨_,rfl,_,_,rfl,rfl,(by show (0:Int)<7;decide),p4,_,_,.str y,rfl,rfl,SqL.of e4,ev,f.k y H4 (ft11 y hy) (s2.trans (s3.trans s4))⟩
 | cons i0 r =>
   refine iteT ?_
   have hlen:(0:Int)<(((((i0 :: r).map fun i=>((i:Nat):Int)).map V.int).length:Nat):Int):=by simp only [List.length_map,List.length_cons];omega
   obtain ⟨z,hz,ez⟩:=at_ints (xs:=(i0 :: r).map fun i=>((i:Nat):Int)) (i:=c % (((((i0 :: r).map fun i=>((i:Nat):Int)).map V.int).length:Nat):Int)) (Int.emod_nonneg _ (by omega)) (by have:=Int.emod_lt_of_pos c hlen;rw [List.length_map] at this ⊢;exact this)
   obtain ⟨i,hi,rfl⟩:=List.mem_map.mp hz
   rw [←hps] at hi
   obtain ⟨hi1,hi2⟩:=List.mem_filter.mp hi
   have hi1:=List.mem_range.mp hi1
   refine ⟨_,rfl,_,rfl,_,rfl,L,_,rfl,.inl (SqL.of e2'),_,_,rfl,rfl,hlen,L,_,_,.int (i:Int),rfl,rfl,SqL.of e2',ez,?_⟩
   have l1:=sl_le x none (some (i:Int))
   have l2:=sl_le x (some ((i:Int)+1)) none
   exact ⟨_,rfl,_,rfl,_,rfl,x,rfl,(by rw [sizeLine_eq];omega),_,rfl,_,rfl,_,_,rfl,rfl,_,rfl,x,rfl,(by rw [sizeLine_eq];omega),_,_,rfl,rfl,(by rw [sizeLine_eq];omega),f.k _ H3 (ft9 f.hx hi1 hi2) (s2.trans s3)⟩
end
section
variable {P : Program} {w : World} {K : PySem.W.Frag} {mg : Str → Option Value} {base : Heap} {a : Adr} {cdv : Value} {A : Around} {outer : List Env} {s : Shared} {H : Hp} {E : XK}
theorem emod_b {c m:Int} (h:0<m):0≤c % m∧c % m<m:=⟨Int.emod_nonneg _ (by omega),Int.emod_lt_of_pos _ h⟩
theorem flt_b (T:Txt K mg a) (FF:Funs K a) (hr:Room 1 (A.deeper (PyProof.Rows.envOfC "_law_faulty" (defScope sl_faulty) s.heap.objs.size a.f_l_faulty cdv))) :
 ∃tt,PSs (cxOf CX0 P w K mg base n_l_faulty "_law_faulty" (defScope sl_faulty) a.f_l_faulty cdv A outer s H E).nox ((defBody sl_faulty).drop 6) tt ∧
  ∀(x o wd:Str) (t:Tr) (wy c:Int) (H1:Hp) (D:Ends),FQ x o wd t wy c H1 D.rt→tt D [some (.str x),some (.int wy),some (.int c),some (.str wd),some (.str o),none,none,none] H1:=by
 obtain ⟨tC,hC,gC⟩:=flt_c (P:=P) (w:=w) (base:=base) (outer:=outer) (H:=H) (E:=E) T FF hr
 refine ⟨_,(pss_cons (ps_if (PW.pt (pw_and (pt_cmpR op_eq (pv 1) pe_int (nomark _)) (pw_and1 (pt_cmpR op_eq (pe_op op_mod (pv 2) pe_int) pe_int (nomark _))))) (pss_one (ps_ret (pe_op op_add_str (pe_op op_add_str (pe_op op_add_str (pe_op op_mul_str pe_str pe_int) (pe_op op_mul_str pe_str pe_int)) pe_str) (pe_op op_mul_str pe_str pe_int)))) pss_nil)
  (pss_cons (ps_if (pt_cmpR op_eq (pv 1) pe_int (nomark _)) (pss_cons (ps_set (i:=5) sc_l_faulty.nd rfl (Or.inl rfl) (pe_op op_add pe_int (pe_op op_mod (pv 2) (pe_ix ix_list (pe_lstG (pas_cons pe_int (pas_cons pe_int pas_nil))) (pe_op op_mod (pe_op op_fdiv (pv 2) pe_int) pe_int) (fun _ _=>rfl)))))
  (pss_one (ps_ret (pe_op op_add_str (pe_op op_add_str (pe_op op_mul_str pe_str (pv 5)) (pv 0)) (pe_op op_mul_str pe_str (pv 5)))))) pss_nil)
  (pss_cons (ps_if (PW.pt (pw_and (pt_cmpR op_eq (pv 1) pe_int (nomark _)) (pw_and1 (pt_cmpR op_eq (pe_op op_mod (pv 2) pe_int) pe_int (nomark _))))) (pss_one (ps_ret (pe_bm PySem.F.plainAttrs_str PySem.F.slot_str_join PySem.F.type_str_join mt_join (pe_ix ix_list (pe_lstG (pas_cons pe_str (pas_cons pe_str pas_nil))) (pe_op op_mod (pe_op op_fdiv (pv 2) pe_int) pe_int) (fun _ _=>rfl)) (pac (pe_op op_rep (pe_lstG (pas_cons pe_str pas_nil)) (pe_op op_add pe_int (pe_op op_mod (pe_op op_fdiv (pv 2) pe_int) pe_int))) pa_nil)))) pss_nil)
  (pss_cons (ps_if (pt_cmpR op_eq (pv 1) pe_int (nomark _)) (pss_one (ps_ret (pe_ix ix_list (pe_lstG (pas_cons (pe_op op_add_str (pv 0) pe_str) (pas_cons (pe_op op_add_str (pv 0) pe_str) (pas_cons (pe_op op_add_str pe_str (pv 0)) (pas_cons (pe_op op_add_str pe_str (pv 0)) pas_nil))))) (pe_op op_mod (pv 2) pe_int) (fun _ _=>rfl)))) pss_nil)
  hC)))),fun x o wd t wy c H1 D f=>?_⟩
 have hl:=f.hx.len
 have q1:("(":Str).length=1:=by decide +kernel
 have q2:(")":Str).length=1:=by decide +kernel
 have q3:("not ":Str).length=4:=by decide +kernel
 have q4:("any":Str).length=3:=by decide +kernel
 have m1:(Txt.mul "(" 21).length=21*("(":Str).length:=len_mul "(" 21
 have m2:(Txt.mul ")" 21).length=21*(")":Str).length:=len_mul ")" 21
 have m3:(Txt.mul "not " 20).length=20*("not ":Str).length:=len_mul "not " 20
 have q5:(" and and any":Str).length≤20:=by decide +kernel
 have q6:(" or and any":Str).length≤20:=by decide +kernel
 have q7:("and ":Str).length≤20:=by decide +kernel
 have q8:("() and ":Str).length≤20:=by decide +kernel
 by_cases h7:wy=7
 ·by_cases h2:c % 2=1
  ·exact ⟨_,rfl,rfl,_,rfl,hitI h7 ⟨_,rfl,_,_,rfl,rfl,(by show (0:Int)<2;decide),rfl,_,rfl,hitI h2 ⟨_,_,rfl,rfl,(by rw [q1];decide),(by decide),(by decide),_,_,rfl,rfl,(by rw [q3];decide),(by decide),(by decide),_,_,rfl,rfl,(by rw [sizeLine_eq];(try simp only [strLen_append]);omega),_,_,rfl,rfl,(by rw [sizeLine_eq];(try simp only [strLen_append]);omega),_,_,rfl,rfl,(by rw [q2];decide),(by decide),(by decide),_,_,rfl,rfl,(by rw [sizeLine_eq];(try simp only [strLen_append]);omega),f.k _ H1 ft7a (Same.refl _)⟩⟩⟩
  ·refine ⟨_,rfl,rfl,_,rfl,hitI h7 ⟨_,rfl,_,_,rfl,rfl,(by show (0:Int)<2;decide),rfl,_,rfl,skI h2 ?_⟩⟩
   refine ⟨_,rfl,rfl,_,rfl,hitI h7 ?_⟩
   refine ⟨_,rfl,(by show 2≤sizeLine;decide),fun p H2 np s2 e2=>?_⟩
   obtain ⟨z,hz,ez⟩:=at_ints (xs:=[5,800]) (i:=c / 800 % 2) (Int.emod_nonneg _ (by decide)) (Int.emod_lt_of_pos _ (by decide))
   have hz:z=5∨z=800:=by simpa using hz
   have hz0:0<z:=by omega
   obtain ⟨b1,b2⟩:=emod_b (c:=c) hz0
   obtain ⟨N,hN⟩:∃N:Nat,41+c % z=(N:Int):=⟨(41+c % z).toNat,by omega⟩
   have mA:(Txt.mul "(" (41+c % z)).length≤900:=by rw [hN,len_mul,q1];omega
   have mB:(Txt.mul ")" (41+c % z)).length≤900:=by rw [hN,len_mul,q2];omega
   refine ⟨_,rfl,_,_,rfl,rfl,⟨by decide,by decide⟩,_,_,rfl,rfl,(by show (0:Int)<2;decide),p,_,_,.int z,rfl,rfl,SqL.of e2,ez,_,_,rfl,rfl,hz0,_,_,rfl,rfl,?_⟩
   refine ⟨_,rfl,_,_,rfl,rfl,(by rw [q1];decide),(by omega),(by omega),_,rfl,_,_,rfl,rfl,(by rw [sizeLine_eq];(try simp only [strLen_append]);omega),_,rfl,_,_,rfl,rfl,(by rw [q2];decide),(by omega),(by omega),_,_,rfl,rfl,(by rw [sizeLine_eq];(try simp only [strLen_append]);omega),?_⟩
   refine f.k _ H2 ?_ s2
   rw [hN]
   exact ft7 f.hx (by omega) (by omega)
 ·refine ⟨_,rfl,rfl,_,rfl,skI h7 ⟨_,rfl,rfl,_,rfl,skI h7 ?_⟩⟩
  by_cases h10:wy=10
  ·have h8:wy≠8:=by omega
   by_cases h2:c % 2=1
   ·refine ⟨_,rfl,rfl,_,rfl,hitI h10 ⟨_,rfl,_,_,rfl,rfl,(by show (0:Int)<2;decide),rfl,_,rfl,hitI h2 ?_⟩⟩
    refine ⟨(by show 2≤sizeLine;decide),fun p H2 np s2 e2=>?_⟩
    obtain ⟨v,hv,ev⟩:=at_mem (xs:=([" and "," or "]:List Str).map V.str) (i:=c / 2 % 2) (Int.emod_nonneg _ (by decide)) (Int.emod_lt_of_pos _ (by decide))
    obtain ⟨sep,hs,rfl⟩:=List.mem_map.mp hv
    refine ⟨_,rfl,_,_,rfl,rfl,⟨by decide,by decide⟩,_,_,rfl,rfl,(by show (0:Int)<2;decide),p,_,_,.str sep,rfl,rfl,SqL.of e2,ev,rfl,(by show 1≤sizeLine;decide),fun p3 H3 np3 s3 e3=>?_⟩
    obtain ⟨b1,b2⟩:=emod_b (c:=c / 4) (m:=9) (by decide)
    obtain ⟨N,hN⟩:∃N:Nat,c / 4 % 9=(N:Int):=⟨(c / 4 % 9).toNat,by omega⟩
    have hk:(31+c / 4 % 9).toNat=31+N:=by omega
    refine ⟨_,rfl,_,_,rfl,rfl,⟨by decide,by decide⟩,_,_,rfl,rfl,(by show (0:Int)<9;decide),_,_,rfl,rfl,p3,_,_,rfl,rfl,e3,(by omega),(by omega),(by rw [hk,sizeLine_eq];show 1*_≤_;omega),fun p4 np4=>?_⟩
    have ss:Same H1 (upd H3 p4 (.lst (List.replicate (31+c / 4 % 9).toNat [V.str "any"]).flatten)):=s2.trans (s3.trans (Same.upd_new np4))
    refine ⟨sep,p4,List.replicate (31+N) "any",rfl,rfl,SqL.of (by rw [upd_same,hk,flat_rep]),?_,?_⟩
    ·have hsl:sep.length≤5:=by
      have key:∀e∈([" and "," or "]:List Str),e.length≤5:=by decide +kernel
      exact key sep hs
     rw [List.map_replicate,List.sum_replicate_nat,List.length_replicate,q4]
     have:=Nat.mul_le_mul (show 31+N≤40 by omega) hsl
     omega
    ·refine f.k _ _ ?_ ss
     simp only [List.mem_cons,List.not_mem_nil,or_false] at hs
     rcases hs with rfl | rfl
     ·exact ft10 (k:=N) (by omega) false
     ·exact ft10 (k:=N) (by omega) true
   ·refine ⟨_,rfl,rfl,_,rfl,hitI h10 ⟨_,rfl,_,_,rfl,rfl,(by show (0:Int)<2;decide),rfl,_,rfl,skI h2 ⟨_,rfl,rfl,_,rfl,skI h8 ?_⟩⟩⟩
    exact gC x o wd t wy c none H1 D f
  ·refine ⟨_,rfl,rfl,_,rfl,skI h10 ?_⟩
   by_cases h8:wy=8
   ·refine ⟨_,rfl,rfl,_,rfl,hitI h8 ?_⟩
    refine ⟨_,rfl,_,_,rfl,rfl,(by rw [sizeLine_eq];(try simp only [strLen_append]);omega),_,rfl,_,_,rfl,rfl,(by rw [sizeLine_eq];(try simp only [strLen_append]);omega),_,rfl,_,_,rfl,rfl,(by rw [sizeLine_eq];(try simp only [strLen_append]);omega),_,rfl,_,_,rfl,rfl,(by rw [sizeLine_eq];(try simp only [strLen_append]);omega),(by show 4≤sizeLine;decide),fun p H2 np s2 e2=>?_⟩
    obtain ⟨v,hv,ev⟩:=at_mem (xs:=([x++" and and any",x++" or and any",("and ":Str)++x,("() and ":Str)++x]:List Str).map V.str) (i:=c % 4) (Int.emod_nonneg _ (by decide)) (Int.emod_lt_of_pos _ (by decide))
    obtain ⟨y,hy,rfl⟩:=List.mem_map.mp hv
    exact ⟨_,rfl,_,_,rfl,rfl,(by show (0:Int)<4;decide),p,_,_,.str y,rfl,rfl,SqL.of e2,ev,f.k y H2 (ft8 f.hx y hy) s2⟩
   ·refine ⟨_,rfl,rfl,_,rfl,skI h8 ?_⟩
    exact gC x o wd t wy c none H1 D f
end
section
variable {P : Program} {w : World} {K : PySem.W.Frag} {mg : Str → Option Value} {base : Heap} {a : Adr}
theorem ok_flt {fd:FuncData} (F:Fun K "_law_faulty" "_law_faulty" sl_faulty a.f_l_faulty fd) (T:Txt K mg a) (FF:Funs K a):FnOkT P w K mg base CX0 2 a.f_l_faulty fd ["_law_text","_law_way","_law_cell","_law_word"] spFlt:=by
 obtain ⟨fd1,F_l_leaf,b_l_leaf⟩:=FF.F_l_leaf
 have G_l_leaf:FnOkT P w K mg base CX0 1 a.f_l_leaf fd1 ["_law_word","_law_cell"] spLeafO:=ok_leafo F_l_leaf T
 obtain ⟨fd2,F_l_odd_word,b_l_odd_word⟩:=FF.F_l_odd_word
 have G_l_odd_word:FnOkT P w K mg base CX0 1 a.f_l_odd_word fd2 ["_law_word","_law_cell"] spOddW:=ok_oddw F_l_odd_word T
 refine F.okT sc_l_faulty (fun vs H Q E h=>?_) (fun cdv A outer st H vs Q E hr h=>?_)
 ·obtain ⟨x,wd,t,wy,c,rfl,_⟩:=h;rfl
 ·obtain ⟨x,wd,t,wy,c,rfl,hx,w0,w1,hc,hwd,k⟩:=h
  have hr1:Room 1 _:=hr
  obtain ⟨tB,hB,gB⟩:=flt_b (P:=P) (w:=w) (base:=base) (outer:=outer) (H:=H) (E:=E) T FF hr
  refine ⟨_,(psst_cons (pst_set (i:=4) sc_l_faulty.nd rfl (Or.inl rfl) (pet_callT G_l_leaf hr1 rfl T.m_l_leaf F_l_leaf.kp b_l_leaf .nil pass0 (pat_cons (pet_callT G_l_odd_word hr1 rfl T.m_l_odd_word F_l_odd_word.kp b_l_odd_word .nil pass0 (PA.toT (pac (pv 3) (pac (pe_op op_fdiv (pv 2) pe_int) pa_nil)))) (PA.toT (pac (pv 2) pa_nil)))))
   (pss_cons (ps_if (pt_cmpR op_lt (pv 1) pe_int (nomark _)) (pss_one (ps_ret (pe_ix ix_list (pe_lstG (pas_cons (pe_op op_add_str (pe_op op_add_str (pe_op op_add_str (pe_op op_add_str pe_str (pv 0)) pe_str) (pv 4)) pe_str) (pas_cons (pe_op op_add_str (pe_op op_add_str (pv 4) pe_str) (pv 0)) (pas_cons (pe_op op_add_str pe_str (pv 4)) pas_nil)))) (pv 1) (fun _ _=>rfl)))) pss_nil)
   (pss_cons (ps_if (pt_cmpR op_eq (pv 1) pe_int (nomark _)) (pss_one (ps_ret (pe_op op_add_str pe_str (pv 0)))) pss_nil)
   (pss_cons (ps_if (pt_cmpR op_eq (pv 1) pe_int (nomark _)) (pss_one (ps_ret (pe_op op_add_str (pv 0) (pe_ix ix_list (pe_lstG (pas_cons pe_str (pas_cons pe_str (pas_cons pe_str (pas_cons pe_str (pas_cons pe_str (pas_cons pe_str (pas_cons pe_str (pas_cons pe_str pas_nil))))))))) (pe_op op_mod (pv 2) pe_int) (fun _ _=>rfl))))) pss_nil)
   (pss_cons (ps_if (pt_cmpR op_eq (pv 1) pe_int (nomark _)) (pss_one (ps_ret (pe_op op_add_str (pe_op op_add_str pe_str (pv 0)) pe_str))) pss_nil)
   (pss_cons (ps_if (pt_cmpR op_eq (pv 1) pe_int (nomark _)) (pss_one (ps_ret (pe_op op_add_str (pe_op op_mul_str pe_str (pe_op op_add pe_int (pe_op op_mod (pv 2) (pe_ix ix_list (pe_lstG (pas_cons pe_int (pas_cons pe_int pas_nil))) (pe_op op_mod (pe_op op_fdiv (pv 2) pe_int) pe_int) (fun _ _=>rfl))))) (pv 0)))) pss_nil)
   hB)))))),?_⟩
  refine ⟨_,rfl,_,rfl,_,_,rfl,rfl,⟨by decide,by decide⟩,wd,_,rfl,hwd,Int.ediv_nonneg hc (by decide),fun z tz H1 htz hz s1=>⟨_,rfl,z,tz,c,rfl,htz,hz,hc,fun o H2 ho s2=>?_⟩⟩
  have hl:=hx.len
  have hol:=ho.2.2
  have q1:("(":Str).length=1:=by decide +kernel
  have q2:(")":Str).length=1:=by decide +kernel
  have q3:("not ":Str).length=4:=by decide +kernel
  have q4:(" and ":Str).length=5:=by decide +kernel
  have q5:(" or ":Str).length=4:=by decide +kernel
  have q6:("thread not thread (any and thread ":Str).length≤50:=by decide +kernel
  have s12:=s1.trans s2
  refine ⟨_,rfl,_,_,rfl,rfl,_,rfl,?_⟩
  by_cases h3:wy<3
  ·rw [decide_eq_true h3]
   refine iteT ⟨_,rfl,_,_,rfl,rfl,(by rw [sizeLine_eq];(try simp only [strLen_append]);omega),_,_,rfl,rfl,(by rw [sizeLine_eq];(try simp only [strLen_append]);omega),_,rfl,_,_,rfl,rfl,(by rw [sizeLine_eq];(try simp only [strLen_append]);omega),_,_,rfl,rfl,(by rw [sizeLine_eq];(try simp only [strLen_append]);omega),_,rfl,_,_,rfl,rfl,(by rw [sizeLine_eq];(try simp only [strLen_append]);omega),_,rfl,_,_,rfl,rfl,(by rw [sizeLine_eq];(try simp only [strLen_append]);omega),_,rfl,_,_,rfl,rfl,(by rw [sizeLine_eq];(try simp only [strLen_append]);omega),(by show 3≤sizeLine;decide),fun p H3 np s3 e3=>?_⟩
   obtain ⟨v,hv,ev⟩:=at_mem (xs:=([(((("(":Str)++x)++" and ")++o)++")",(o++" or ")++x,("not ":Str)++o]:List Str).map V.str) (i:=wy) w0 h3
   obtain ⟨y,hy,rfl⟩:=List.mem_map.mp hv
   refine ⟨_,rfl,p,_,_,.str y,rfl,rfl,SqL.of e3,ev,k y H3 ?_ (s12.trans s3)⟩
   simp only [List.mem_cons,List.not_mem_nil,or_false] at hy
   rcases hy with rfl | rfl | rfl
   ·exact ft0 hx ho
   ·exact ft1 hx ho
   ·exact ft2 hx ho
  rw [decide_eq_false h3]
  refine iteF ⟨_,rfl,rfl,_,rfl,?_⟩
  by_cases e3:wy=3
  ·exact hitI e3 ⟨_,rfl,_,_,rfl,rfl,(by rw [sizeLine_eq];(try simp only [strLen_append]);omega),k _ H2 (ft3 hx) s12⟩
  refine skI e3 ⟨_,rfl,rfl,_,rfl,?_⟩
  by_cases e4:wy=4
  ·refine hitI e4 ⟨_,rfl,(by show 8≤sizeLine;decide),fun p H3 np s3 e3=>?_⟩
   obtain ⟨v,hv,ev⟩:=at_mem (xs:=([" )"," any"," and"," or"," ,"," not"," ()"," to 3"]:List Str).map V.str) (i:=c % 8) (Int.emod_nonneg _ (by decide)) (Int.emod_lt_of_pos _ (by decide))
   obtain ⟨y,hy,rfl⟩:=List.mem_map.mp hv
   have hyl:y.length≤10:=by
    have key:∀e∈([" )"," any"," and"," or"," ,"," not"," ()"," to 3"]:List Str),e.length≤10:=by decide +kernel
    exact key y hy
   exact ⟨_,rfl,_,_,rfl,rfl,(by show (0:Int)<8;decide),p,_,_,.str y,rfl,rfl,SqL.of e3,ev,_,_,rfl,rfl,(by rw [sizeLine_eq];(try simp only [strLen_append]);omega),k _ H3 (ft4 hx y hy) (s12.trans s3)⟩
  refine skI e4 ⟨_,rfl,rfl,_,rfl,?_⟩
  by_cases e5:wy=5
  ·exact hitI e5 ⟨_,rfl,_,_,rfl,rfl,(by rw [sizeLine_eq];(try simp only [strLen_append]);omega),_,_,rfl,rfl,(by rw [sizeLine_eq];(try simp only [strLen_append]);omega),k _ H2 (ft5 hx) s12⟩
  refine skI e5 ⟨_,rfl,rfl,_,rfl,?_⟩
  by_cases e6:wy=6
  ·refine hitI e6 ⟨_,rfl,(by show 2≤sizeLine;decide),fun p H3 np s3 e3=>?_⟩
   obtain ⟨z,hz,ez⟩:=at_ints (xs:=[9,380]) (i:=c / 400 % 2) (Int.emod_nonneg _ (by decide)) (Int.emod_lt_of_pos _ (by decide))
   have hz:z=9∨z=380:=by simpa using hz
   have hz0:0<z:=by omega
   obtain ⟨b1,b2⟩:=emod_b (c:=c) hz0
   obtain ⟨N,hN⟩:∃N:Nat,30+c % z=(N:Int):=⟨(30+c % z).toNat,by omega⟩
   have mA:(Txt.mul "not " (30+c % z)).length≤2000:=by rw [hN,len_mul,q3];omega
   refine ⟨_,rfl,_,_,rfl,rfl,⟨by decide,by decide⟩,_,_,rfl,rfl,(by show (0:Int)<2;decide),p,_,_,.int z,rfl,rfl,SqL.of e3,ez,_,_,rfl,rfl,hz0,_,_,rfl,rfl,_,_,rfl,rfl,(by rw [q3];decide),(by omega),(by omega),_,rfl,_,_,rfl,rfl,(by rw [sizeLine_eq];(try simp only [strLen_append]);omega),?_⟩
   refine k _ H3 ?_ (s12.trans s3)
   rw [hN]
   exact ft6 hx (by omega) (by omega)
  refine skI e6 ?_
  exact gB x o wd t wy c H2 _ ⟨hx,ho,w0,w1,hc,fun y H' r s=>k y H' r (s12.trans s)⟩
end
def tdat:Tr→PyData
 | .any=>.tuple [.str "any"]
 | .ans=>.tuple [.str "answers"]
 | .word w=>.tuple [.str "word",.str w]
 | .title w=>.tuple [.str "title",.str w]
 | .frm w=>.tuple [.str "from",.str w]
 | .days l h=>.tuple [.str "day",.int l,.int h]
 | .inn w=>.tuple [.str "in",.str w]
 | .mrk w=>.tuple [.str "marked",.str w]
 | .nt u=>.tuple [.str "not",tdat u]
 | .thr u=>.tuple [.str "thread",tdat u]
 | .bth u v=>.tuple [.str "both",tdat u,tdat v]
 | .eth u v=>.tuple [.str "either",tdat u,tdat v]
theorem TAt.rd {K:PySem.W.Frag} {H:Hp} {p:Addr} {t:Tr} (h:TAt H p t):RD K H (.ref p) (tdat t):=by
 induction h with
 | any e=>exact .tup (SqT.of e) (.cons (.str _) .nil)
 | ans e=>exact .tup (SqT.of e) (.cons (.str _) .nil)
 | word e w=>exact .tup (SqT.of e) (.cons (.str _) (.cons (.str _) .nil))
 | title e w=>exact .tup (SqT.of e) (.cons (.str _) (.cons (.str _) .nil))
 | frm e w=>exact .tup (SqT.of e) (.cons (.str _) (.cons (.str _) .nil))
 | days e _=>exact .tup (SqT.of e) (.cons (.str _) (.cons (.int _) (.cons (.int _) .nil)))
 | inn e w=>exact .tup (SqT.of e) (.cons (.str _) (.cons (.str _) .nil))
 | mrk e w=>exact .tup (SqT.of e) (.cons (.str _) (.cons (.str _) .nil))
 | nt e _ ih=>exact .tup (SqT.of e) (.cons (.str _) (.cons ih .nil))
 | thr e _ ih=>exact .tup (SqT.of e) (.cons (.str _) (.cons ih .nil))
 | bth e _ _ i1 i2=>exact .tup (SqT.of e) (.cons (.str _) (.cons i1 (.cons i2 .nil)))
 | eth e _ _ i1 i2=>exact .tup (SqT.of e) (.cons (.str _) (.cons i1 (.cons i2 .nil)))
theorem TAt.lay {H:Hp} {p:Addr} {t:Tr} (h:TAt H p t):PyData.canLay0 (tdat t)=true∧PyData.depth (tdat t)≤t.dp+1:=by
 have z1:PyData.strOk "any"=true:=by decide +kernel
 have z2:PyData.strOk "answers"=true:=by decide +kernel
 have z3:PyData.strOk "word"=true:=by decide +kernel
 have z4:PyData.strOk "title"=true:=by decide +kernel
 have z5:PyData.strOk "from"=true:=by decide +kernel
 have z6:PyData.strOk "day"=true:=by decide +kernel
 have z7:PyData.strOk "in"=true:=by decide +kernel
 have z8:PyData.strOk "marked"=true:=by decide +kernel
 have z9:PyData.strOk "not"=true:=by decide +kernel
 have z10:PyData.strOk "thread"=true:=by decide +kernel
 have z11:PyData.strOk "both"=true:=by decide +kernel
 have z12:PyData.strOk "either"=true:=by decide +kernel
 induction h with
 | any e=>exact ⟨by simp [tdat,PyData.canLay0,PyData.canLayAll0,z1],by simp [tdat,PyData.depth,PyData.depthAll]⟩
 | ans e=>exact ⟨by simp [tdat,PyData.canLay0,PyData.canLayAll0,z2],by simp [tdat,PyData.depth,PyData.depthAll]⟩
 | word e w=>exact ⟨by simp [tdat,PyData.canLay0,PyData.canLayAll0,z3,w.asc.ok],by simp [tdat,PyData.depth,PyData.depthAll]⟩
 | title e w=>exact ⟨by simp [tdat,PyData.canLay0,PyData.canLayAll0,z4,w.asc.ok],by simp [tdat,PyData.depth,PyData.depthAll]⟩
 | frm e w=>exact ⟨by simp [tdat,PyData.canLay0,PyData.canLayAll0,z5,w.asc.ok],by simp [tdat,PyData.depth,PyData.depthAll]⟩
 | days e _=>exact ⟨by simp [tdat,PyData.canLay0,PyData.canLayAll0,z6],by simp [tdat,PyData.depth,PyData.depthAll]⟩
 | inn e w=>exact ⟨by simp [tdat,PyData.canLay0,PyData.canLayAll0,z7,w.asc.ok],by simp [tdat,PyData.depth,PyData.depthAll]⟩
 | mrk e w=>exact ⟨by simp [tdat,PyData.canLay0,PyData.canLayAll0,z8,w.asc.ok],by simp [tdat,PyData.depth,PyData.depthAll]⟩
 | nt e _ ih=>exact ⟨by simp [tdat,PyData.canLay0,PyData.canLayAll0,z9,ih.1],by have:=ih.2;simp only [tdat,PyData.depth,PyData.depthAll,Tr.dp];omega⟩
 | thr e _ ih=>exact ⟨by simp [tdat,PyData.canLay0,PyData.canLayAll0,z10,ih.1],by have:=ih.2;simp only [tdat,PyData.depth,PyData.depthAll,Tr.dp];omega⟩
 | bth e _ _ i1 i2=>exact ⟨by simp [tdat,PyData.canLay0,PyData.canLayAll0,z11,i1.1,i2.1],by have:=i1.2;have:=i2.2;simp only [tdat,PyData.depth,PyData.depthAll,Tr.dp];omega⟩
 | eth e _ _ i1 i2=>exact ⟨by simp [tdat,PyData.canLay0,PyData.canLayAll0,z12,i1.1,i2.1],by have:=i1.2;have:=i2.2;simp only [tdat,PyData.depth,PyData.depthAll,Tr.dp];omega⟩
theorem TAt.shaped {H:Hp} {p:Addr} {t:Tr} (h:TAt H p t) (hd:t.dp<60):SeqAt.shaped (tdat t)=true:=by
 unfold SeqAt.shaped
 rw [Bool.and_eq_true]
 have:=h.lay.2
 exact ⟨h.lay.1,decide_eq_true (by omega)⟩
theorem Txt.mtree {K:PySem.W.Frag} {mg:Str→Option Value} {a:Adr} (T:Txt K mg a):∀t:Tr,Meth K (clsOf a t) "tree" a.f_Condition_tree
 | .any=>T.M_Always_tree
 | .ans=>T.M_DoesAnswer_tree
 | .word _=>T.M_HasWord_tree
 | .title _=>T.M_HasTitleWord_tree
 | .frm _=>T.M_IsFrom_tree
 | .days _ _=>T.M_IsOfDays_tree
 | .inn _=>T.M_IsIn_tree
 | .mrk _=>T.M_IsMarked_tree
 | .nt _=>T.M_Not_tree
 | .thr _=>T.M_InThread_tree
 | .bth _ _=>T.M_Both_tree
 | .eth _ _=>T.M_Either_tree
def spLaw (K:PySem.W.Frag):Sp:=fun vs H Q _=>∃(p:Addr) (ns:List Int),vs=[.ref p]∧SqL K H p (ns.map V.int)∧ns.length≤63∧∀H',Q (.bl true) H'
theorem passND {P:Program} {w:World} {X:Cx}:Passes (CXD P w) X E0:=fun _ _ _ _ _ _ _ ⟨_,_,_,_,_,_,_,h⟩=>h.elim
theorem wt_of {H:Hp} {q:Addr} {t:Tr} (h:TB H q t) (hd:t.dp≤7):WT (wr t) t:=by
 have hs:t.sz≤256:=by
  have h1:=sz_pow t
  have:2 ^ (t.dp+1)≤2 ^ 8:=Nat.pow_le_pow_right (by decide) (by omega)
  omega
 exact ⟨h.a.pieces,h.a.asc,by have:=h.a.wlen;omega,h.a.tok,by omega,h.th⟩
section
variable {P : Program} {w : World} {K : PySem.W.Frag} {mg : Str → Option Value} {base : Heap} {a : Adr} {cdv : Value} {A : Around} {outer : List Env} {s : Shared} {H : Hp} {E : XK}
theorem law_b (T:Txt K mg a) (FF:Funs K a) (hr:Room 219 (A.deeper (PyProof.Rows.envOfC "law" (defScope slaw) s.heap.objs.size a.f_law cdv))) :
 ∃tt,PSs (cxOf CX0 P w K mg base n_law "law" (defScope slaw) a.f_law cdv A outer s H E).nox ((defBody slaw).drop 4) tt ∧
  ∀(H1:Hp) (p R q:Addr) (z:Int) (cs:List Int) (tr:Tr) (D:Ends),H1 R=some (.lst (cs.map V.int))→cs.length=13→(∀r∈cs,0≤r∧r<2147483629)→0≤z→z<2147483629→TB H1 q tr→tr.dp≤7→(∀H',D.rt (.bl true) H') →
   tt D [some (.ref p),some (.ref R),some (.int z),some (.ref q),some (.str (wr tr)),none,none] H1:=by
 obtain ⟨fd1,F_rc,b_rc⟩:=FF.F_read_condition
 have G_rc:FnOk P w K mg base (CXD P w) 167 a.f_read_condition fd1 ["text"] (spRC a):=ok_rc F_rc T FF
 obtain ⟨fd2,F_tree,b_tree⟩:=FF.F_Condition_tree
 have G_tree:FnOk P w K mg base CX0 1 a.f_Condition_tree fd2 ["self"] (spTree a):=ok_tree F_tree T
 obtain ⟨fd3,F_long,b_long⟩:=FF.F_l_long
 have G_long:FnOk P w K mg base CX0 1 a.f_l_long fd3 ["_law_sign"] spLong:=ok_long F_long T
 obtain ⟨fd4,F_flt,b_flt⟩:=FF.F_l_faulty
 have G_flt:FnOkT P w K mg base CX0 2 a.f_l_faulty fd4 ["_law_text","_law_way","_law_cell","_law_word"] spFlt:=ok_flt F_flt T FF
 obtain ⟨fd5,F_wb,b_wb⟩:=FF.F_l_word_by
 have G_wb:FnOk P w K mg base CX0 1 a.f_l_word_by fd5 ["_law_shape","_law_k"] spWordBy:=ok_wordBy F_wb T
 obtain ⟨fd6,F_ref,b_ref⟩:=FF.F_l_refused
 have G_ref:FnOk P w K mg base CX0 168 a.f_l_refused fd6 ["_law_text"] spRefd:=ok_refd F_ref T FF
 have hu64:=hr.units
 have hr167:Room 167 _:=hr.mono (by decide)
 have hr168:Room 168 _:=hr.mono (by decide)
 have hr1:Room 1 _:=hr.mono (by decide)
 have hr2:Room 2 _:=hr.mono (by decide)
 refine ⟨_,(pss_cons (ps_if (pt_cmpR op_eq (pe_op op_mod (pe_ix ix_list (pv 1) pe_int (fun _ _=>rfl)) pe_int) pe_int (nomark _))
  (pss_cons (ps_set (i:=5) sc_law.nd rfl (Or.inl rfl) (pe_ix ix_list (pe_lstG (pas_cons pe_str (pas_cons pe_str pas_nil))) (pe_op op_mod (pe_op op_fdiv (pe_ix ix_list (pv 1) pe_int (fun _ _=>rfl)) pe_int) pe_int) (fun _ _=>rfl)))
  (pss_cons (ps_if (pt_cmpR (op_neD hu64) (pe_methD0 (pe_call G_rc hr167 rfl T.m_read_condition F_rc.kp b_rc .nil passND (pac (pe_bm PySem.F.plainAttrs_str PySem.F.slot_str_join PySem.F.type_str_join mt_join (pe_op op_add_str (pe_op op_add_str pe_str (pv 5)) pe_str) (pac (pe_op op_rep (pe_lstG (pas_cons pe_str pas_nil)) pe_int) pa_nil)) pa_nil))) (pe_call G_long hr1 rfl T.m_l_long F_long.kp b_long .nil pass0 (pac (pv 5) pa_nil)) (nomark _)) (pss_one (ps_ret pe_bl)) pss_nil)
  (pss_one (ps_ret (pe_cmpR (op_eqD hu64) (pe_methD0 (pe_call G_rc hr167 rfl T.m_read_condition F_rc.kp b_rc .nil passND (pac (pv 4) pa_nil))) (pv 3) (nomark _)))))) pss_nil)
  (pss_cons (ps_set (i:=6) sc_law.nd rfl (Or.inl rfl) (pe_callZ G_flt hr2 rfl T.m_l_faulty F_flt.kp b_flt .nil pass0 (paz_later (pv 4) (paz_here (pez_op op_mod (pe_ix ix_list (pv 1) pe_int (fun _ _=>rfl)) pez_int) (pac (pe_ix ix_list (pv 1) pe_int (fun _ _=>rfl)) (pac (pe_call G_wb hr1 rfl T.m_l_word_by F_wb.kp b_wb .nil pass0 (pac (pv 2) (pac (pe_op op_mod (pe_op op_fdiv (pe_ix ix_list (pv 1) pe_int (fun _ _=>rfl)) pe_int) pe_int) pa_nil))) pa_nil))))))
  (pss_one (ps_ret (pe_and (pe_call G_ref hr168 rfl T.m_l_refused F_ref.kp b_ref .nil pass0 (pac (pv 6) pa_nil)) (pe_one (pe_cmpR (op_eqD hu64) (pe_methD0 (pe_call G_rc hr167 rfl T.m_read_condition F_rc.kp b_rc .nil passND (pac (pv 4) pa_nil))) (pv 3) (nomark _)))))))),fun H1 p R q z cs tr D hR hcl hcs z0 z1 ht hd k=>?_⟩
 have hwt:=wt_of ht hd
 have htx:TxOk (wr tr):=Asc.tx hwt.asc (by have:=hwt.len;omega)
 have hrc:rcF (pcs (wr tr))=some tr:=by rw [hwt.pc];exact rc_tk hwt.tok hwt.dp hwt.th
 have none_no:∀{G:Prop},rcF (pcs (wr tr))=none→G:=fun h=>by rw [hrc] at h;cases h
 obtain ⟨z9,e9,a90,a91⟩:=row_pick hcs 9 (by decide) (by omega)
 obtain ⟨z10,e10,a100,a101⟩:=row_pick hcs 10 (by decide) (by omega)
 obtain ⟨z11,e11,a110,a111⟩:=row_pick hcs 11 (by decide) (by omega)
 obtain ⟨z12,e12,a120,a121⟩:=row_pick hcs 12 (by decide) (by omega)
 refine ⟨_,rfl,R,_,_,_,rfl,rfl,SqL.of hR,e10,_,_,rfl,rfl,(by show (0:Int)<6;decide),rfl,_,rfl,?_⟩
 by_cases h6:z10 % 6=1
 ·refine hitI h6 ⟨(by show 2≤sizeLine;decide),fun l H2 nl s2 e2=>?_⟩
  obtain ⟨v,hv,ev⟩:=at_mem (xs:=(["and","or"]:List Str).map V.str) (i:=z10 / 6 % 2) (Int.emod_nonneg _ (by decide)) (Int.emod_lt_of_pos _ (by decide))
  obtain ⟨b,rfl⟩:∃b:Bool,v=.str (if b=true then ("or":Str) else "and"):=by
   obtain ⟨y,hy,rfl⟩:=List.mem_map.mp hv
   simp only [List.mem_cons,List.not_mem_nil,or_false] at hy
   rcases hy with rfl | rfl
   ·exact ⟨false,rfl⟩
   ·exact ⟨true,rfl⟩
  refine ⟨_,rfl,R,_,_,_,rfl,rfl,SqL.of (s2 _ _ hR),e10,_,_,rfl,rfl,⟨by decide,by decide⟩,_,_,rfl,rfl,(by show (0:Int)<2;decide),l,_,_,_,rfl,rfl,SqL.of e2,ev,?_⟩
  have q1:(" ":Str).length=1:=by decide +kernel
  have q2:(if b=true then ("or":Str) else "and").length≤3:=by cases b <;> decide +kernel
  have q3:("any":Str).length=3:=by decide +kernel
  refine ⟨_,rfl,_,_,rfl,rfl,(by rw [sizeLine_eq];(try simp only [strLen_append]);omega),_,_,rfl,rfl,(by rw [sizeLine_eq];(try simp only [strLen_append]);omega),rfl,(by show 1≤sizeLine;decide),fun l3 H3 n3 s3 e3=>?_⟩
  refine ⟨l3,_,_,rfl,rfl,e3,(by decide),(by decide),(by show 1*30≤sizeLine;decide),fun l4 n4=>?_⟩
  have s4:Same H3 (upd H3 l4 (.lst (List.replicate (30:Int).toNat [V.str "any"]).flatten)):=Same.upd_new n4
  have e4:(upd H3 l4 (.lst (List.replicate (30:Int).toNat [V.str "any"]).flatten)) l4=some (.lst ((List.replicate 30 ("any":Str)).map V.str)):=by rw [upd_same];exact congrArg (fun y=>some (HO.lst y)) (flat_rep 30 "any")
  generalize upd H3 l4 (.lst (List.replicate (30:Int).toNat [V.str "any"]).flatten)=H4 at s4 e4
  obtain ⟨t30,r30⟩:=rc_thirty b
  rw [sep_eq] at t30 r30
  refine ⟨_,l4,List.replicate 30 "any",rfl,rfl,SqL.of e4,?_,?_⟩
  ·rw [List.map_replicate,List.sum_replicate_nat,List.length_replicate,q3]
   simp only [strLen_append];omega
  ·refine ⟨_,rfl,t30,fun t ht30 y H5 s5 hc=>?_,fun hn=>by rw [r30] at hn;cases hn⟩
   rw [r30] at ht30
   cases ht30
   obtain ⟨dy,fs,ey,_,_,lt,_⟩:=hc.obj
   refine ⟨y,dy,fs,_,_,_,_,_,_,rfl,ey,T.cls _,T.mtree _,G_tree,hr1,b_tree,lt,y,_,rfl,hc,fun r hr'=>?_⟩
   refine ⟨_,rfl,b,rfl,fun p6 H6 s6 t6=>?_⟩
   have hdl:(longT b 29).dp<60:=by rw [longT_dp];decide
   refine ne_refl (hr'.mono s6).rd t6.rd (t6.shaped hdl) ⟨_,rfl,iteF ?_⟩
   have s16:=s2.trans (s3.trans (s4.trans (s5.trans s6)))
   refine ⟨_,rfl,_,rfl,htx,fun t ht7 y7 H7 s7 hc7=>?_,fun hn=>none_no hn⟩
   rw [hrc] at ht7
   cases ht7
   obtain ⟨dy7,fs7,ey7,_,_,lt7,_⟩:=hc7.obj
   exact ⟨y7,dy7,fs7,_,_,_,_,_,_,rfl,ey7,T.cls _,T.mtree _,G_tree,hr1,b_tree,lt7,y7,_,rfl,hc7,fun r hr7=>⟨_,rfl,eq_refl hr7.rd (ht.a.mono (s16.trans s7)).rd (hr7.shaped (by omega)) (k H7)⟩⟩
 ·refine skI h6 ?_
  have m11:=emod_b (c:=z11) (m:=11) (by decide)
  have m5:=emod_b (c:=z9 / 8) (m:=5) (by decide)
  refine ⟨_,rfl,_,rfl,R,_,_,_,rfl,rfl,SqL.of hR,e11,_,_,rfl,rfl,(by show (0:Int)<11;decide),_,rfl,R,_,_,_,rfl,rfl,SqL.of hR,e12,_,rfl,_,rfl,R,_,_,_,rfl,rfl,SqL.of hR,e9,_,_,rfl,rfl,⟨by decide,by decide⟩,_,_,rfl,rfl,(by show (0:Int)<5;decide),?_⟩
  refine ⟨z,_,rfl,z0,by omega,m5.1,by omega,fun H2 s2=>?_⟩
  refine ⟨_,_,tr,_,_,rfl,hwt,m11.1,m11.2,a120,wordBy_ok m5.1 (by omega),fun y H3 hy s3=>?_⟩
  refine ⟨_,rfl,y,rfl,hy.1,hy.2,fun H4 s4=>⟨_,rfl,iteT ?_⟩⟩
  refine ⟨_,rfl,_,rfl,htx,fun t ht7 y7 H7 s7 hc7=>?_,fun hn=>none_no hn⟩
  rw [hrc] at ht7
  cases ht7
  obtain ⟨dy7,fs7,ey7,_,_,lt7,_⟩:=hc7.obj
  exact ⟨y7,dy7,fs7,_,_,_,_,_,_,rfl,ey7,T.cls _,T.mtree _,G_tree,hr1,b_tree,lt7,y7,_,rfl,hc7,fun r hr7=>⟨_,rfl,eq_refl hr7.rd (ht.a.mono (s2.trans (s3.trans (s4.trans s7)))).rd (hr7.shaped (by omega)) (k H7)⟩⟩
end
section
variable {P : Program} {w : World} {K : PySem.W.Frag} {mg : Str → Option Value} {base : Heap} {a : Adr}
theorem ok_law {fd:FuncData} (F:Fun K "law" "law" slaw a.f_law fd) (T:Txt K mg a) (FF:Funs K a):FnOk P w K mg base CX0 220 a.f_law fd ["_law_script"] (spLaw K):=by
 obtain ⟨fd1,F_l_mixed,b_l_mixed⟩:=FF.F_l_mixed
 have G_l_mixed:FnOk P w K mg base CX0 2 a.f_l_mixed fd1 ["_law_script","_law_start","_law_many"] (spMixed K):=ok_mixed F_l_mixed T FF
 obtain ⟨fd2,F_l_tree_by,b_l_tree_by⟩:=FF.F_l_tree_by
 have G_l_tree_by:FnOk P w K mg base CX0 13 a.f_l_tree_by fd2 ["_law_shape","_law_cells"] spTB:=ok_tb F_l_tree_by T FF
 obtain ⟨fd3,F_l_written,b_l_written⟩:=FF.F_l_written
 have G_l_written:FnOk P w K mg base CX0 11 a.f_l_written fd3 ["_law_tree"] (spLW 10):=ok_lw F_l_written b_l_written T 10
 refine F.ok sc_law (fun vs H Q E h=>?_) (fun cdv A outer st H vs Q E hr h=>?_)
 ·obtain ⟨p,ns,rfl,_⟩:=h;rfl
 ·obtain ⟨p,ns,rfl,hp,hl,k⟩:=h
  have hr219:Room 219 _:=hr
  have hr2:Room 2 _:=hr219.mono (by decide)
  have hr13:Room 13 _:=hr219.mono (by decide)
  have hr11:Room 11 _:=hr219.mono (by decide)
  obtain ⟨tB,hB,gB⟩:=law_b (P:=P) (w:=w) (base:=base) (outer:=outer) (H:=H) (E:=E) T FF hr219
  refine ⟨_,(pss_cons (ps_set (i:=1) sc_law.nd rfl (Or.inl rfl) (pe_call G_l_mixed hr2 rfl T.m_l_mixed F_l_mixed.kp b_l_mixed .nil pass0 (pac (pv 0) (pac pe_int (pac pe_int pa_nil)))))
   (pss_cons (ps_set (i:=2) sc_law.nd rfl (Or.inl rfl) (pe_ix ix_list (pv 1) pe_int (fun _ _=>rfl)))
   (pss_cons (ps_set (i:=3) sc_law.nd rfl (Or.inl rfl) (pe_call G_l_tree_by hr13 rfl T.m_l_tree_by F_l_tree_by.kp b_l_tree_by .nil pass0 (pac (pv 2) (pac (pe_slice sl_listG (pv 1) po_none (po_some (pe_op op_add pe_int (pe_op op_mod (pe_ix ix_list (pv 1) pe_int (fun _ _=>rfl)) pe_int)))) pa_nil))))
   (pss_cons (ps_set (i:=4) sc_law.nd rfl (Or.inl rfl) (pe_call G_l_written hr11 rfl T.m_l_written F_l_written.kp b_l_written .nil pass0 (pac (pv 3) pa_nil)))
   hB)))),?_⟩
  refine ⟨_,rfl,p,ns,0,13,rfl,hp,by decide,by decide,fun R cs H1 hcl hcs nR s1 hR=>?_⟩
  obtain ⟨z8,e8,z0,z1⟩:=row_pick hcs 8 (by decide) (by omega)
  obtain ⟨z9,e9,y0,y1⟩:=row_pick hcs 9 (by decide) (by omega)
  have m:=emod_b (c:=z9) (m:=8) (by decide)
  refine ⟨_,rfl,R,_,_,_,rfl,rfl,SqL.of hR,e8,?_⟩
  refine ⟨_,rfl,_,rfl,_,rfl,R,_,_,_,rfl,rfl,SqL.of hR,e9,_,_,rfl,rfl,(by show (0:Int)<8;decide),_,_,rfl,rfl,_,rfl,R,_,rfl,SqL.of hR,fun l1 H2 n2 s2 e2=>?_⟩
  rw [cut_front V.int cs _ (by omega)] at e2
  have lc1:(cs.take (1+z9 % 8).toNat).length=(1+z9 % 8).toNat:=by rw [List.length_take];omega
  refine ⟨z8,l1,_,rfl,z0,z1,e2,(fun c hc=>(hcs c (List.mem_of_mem_take hc)).1),by omega,by omega,fun tr q H3 s3 ht hd=>?_⟩
  have hsz:tr.sz≤1100:=by
   have hp1:=sz_pow tr
   have:2 ^ (tr.dp+1)≤2 ^ 10:=Nat.pow_le_pow_right (by decide) (by omega)
   omega
  refine ⟨_,rfl,q,tr,rfl,ht.a,by omega,hsz,?_⟩
  exact gB H3 p R q z8 cs tr _ ((s2.trans s3) _ _ hR) hcl hcs z0 z1 ht (by omega) fun H'=>k H'
end
def obs (K:PySem.W.Frag):List (Option (FuncData×Option (List Value))×Bool)×Bool :=
 ([Hd.see K (Hd.gl K "_wall") "_wall",
   Hd.see K (Hd.gl K "condition_of") "condition_of",
   Hd.see K (Hd.gl K "all_among") "all_among",
   Hd.see K (Hd.gl K "is_word") "is_word",
   Hd.see K (Hd.gl K "pieces_of") "pieces_of",
   Hd.see K (Hd.gl K "deep") "deep",
   Hd.see K (Hd.gl K "read_condition") "read_condition",
   Hd.see K (Hd.gl K "_law_cell_at") "_law_cell_at",
   Hd.see K (Hd.gl K "_law_whole") "_law_whole",
   Hd.see K (Hd.gl K "_law_mixed") "_law_mixed",
   Hd.see K (Hd.gl K "_law_word_by") "_law_word_by",
   Hd.see K (Hd.gl K "_law_leaf_by") "_law_leaf_by",
   Hd.see K (Hd.gl K "_law_threads") "_law_threads",
   Hd.see K (Hd.gl K "_law_tree_by") "_law_tree_by",
   Hd.see K (Hd.gl K "_law_written") "_law_written",
   Hd.see K (Hd.gl K "_law_refused") "_law_refused",
   Hd.see K (Hd.gl K "_law_places") "_law_places",
   Hd.see K (Hd.gl K "_law_odd_word") "_law_odd_word",
   Hd.see K (Hd.gl K "_law_leaf") "_law_leaf",
   Hd.see K (Hd.gl K "_law_faulty") "_law_faulty",
   Hd.see K (Hd.gl K "_law_long") "_law_long",
   Hd.see K (Hd.gl K "law") "law",
   Hd.see K (PySem.W.findIn K (.ref (Hd.cl K "NoRule")) "__init__") "NoRule.__init__",
   Hd.see K (PySem.W.findIn K (.ref (Hd.cl K "Condition")) "__init__") "Condition.__init__",
   Hd.see K (PySem.W.findIn K (.ref (Hd.cl K "Condition")) "holds") "Condition.holds",
   Hd.see K (PySem.W.findIn K (.ref (Hd.cl K "Condition")) "truths") "Condition.truths",
   Hd.see K (PySem.W.findIn K (.ref (Hd.cl K "Condition")) "tree") "Condition.tree",
   Hd.see K (PySem.W.findIn K (.ref (Hd.cl K "Condition")) "written") "Condition.written",
   Hd.see K (PySem.W.findIn K (.ref (Hd.cl K "HasWord")) "holds") "HasWord.holds",
   Hd.see K (PySem.W.findIn K (.ref (Hd.cl K "HasTitleWord")) "holds") "HasTitleWord.holds",
   Hd.see K (PySem.W.findIn K (.ref (Hd.cl K "IsFrom")) "holds") "IsFrom.holds",
   Hd.see K (PySem.W.findIn K (.ref (Hd.cl K "IsOfDays")) "holds") "IsOfDays.holds",
   Hd.see K (PySem.W.findIn K (.ref (Hd.cl K "IsOfDays")) "written") "IsOfDays.written",
   Hd.see K (PySem.W.findIn K (.ref (Hd.cl K "IsIn")) "holds") "IsIn.holds",
   Hd.see K (PySem.W.findIn K (.ref (Hd.cl K "IsMarked")) "holds") "IsMarked.holds",
   Hd.see K (PySem.W.findIn K (.ref (Hd.cl K "DoesAnswer")) "holds") "DoesAnswer.holds",
   Hd.see K (PySem.W.findIn K (.ref (Hd.cl K "Wrapped")) "__init__") "Wrapped.__init__",
   Hd.see K (PySem.W.findIn K (.ref (Hd.cl K "Wrapped")) "written") "Wrapped.written",
   Hd.see K (PySem.W.findIn K (.ref (Hd.cl K "Not")) "holds") "Not.holds",
   Hd.see K (PySem.W.findIn K (.ref (Hd.cl K "Not")) "truths") "Not.truths",
   Hd.see K (PySem.W.findIn K (.ref (Hd.cl K "InThread")) "holds") "InThread.holds",
   Hd.see K (PySem.W.findIn K (.ref (Hd.cl K "InThread")) "truths") "InThread.truths",
   Hd.see K (PySem.W.findIn K (.ref (Hd.cl K "Joined")) "__init__") "Joined.__init__",
   Hd.see K (PySem.W.findIn K (.ref (Hd.cl K "Joined")) "written_with") "Joined.written_with",
   Hd.see K (PySem.W.findIn K (.ref (Hd.cl K "Both")) "holds") "Both.holds",
   Hd.see K (PySem.W.findIn K (.ref (Hd.cl K "Both")) "truths") "Both.truths",
   Hd.see K (PySem.W.findIn K (.ref (Hd.cl K "Both")) "written") "Both.written",
   Hd.see K (PySem.W.findIn K (.ref (Hd.cl K "Either")) "holds") "Either.holds",
   Hd.see K (PySem.W.findIn K (.ref (Hd.cl K "Either")) "truths") "Either.truths",
   Hd.see K (PySem.W.findIn K (.ref (Hd.cl K "Either")) "written") "Either.written",
   Hd.see K (PySem.W.findIn K (.ref (Hd.cl K "Reader")) "__init__") "Reader.__init__",
   Hd.see K (PySem.W.findIn K (.ref (Hd.cl K "Reader")) "ahead") "Reader.ahead",
   Hd.see K (PySem.W.findIn K (.ref (Hd.cl K "Reader")) "step") "Reader.step",
   Hd.see K (PySem.W.findIn K (.ref (Hd.cl K "Reader")) "passes") "Reader.passes",
   Hd.see K (PySem.W.findIn K (.ref (Hd.cl K "Reader")) "expect") "Reader.expect",
   Hd.see K (PySem.W.findIn K (.ref (Hd.cl K "Reader")) "read_word") "Reader.read_word",
   Hd.see K (PySem.W.findIn K (.ref (Hd.cl K "Reader")) "read_number") "Reader.read_number",
   Hd.see K (PySem.W.findIn K (.ref (Hd.cl K "Reader")) "read_leaf") "Reader.read_leaf",
   Hd.see K (PySem.W.findIn K (.ref (Hd.cl K "Reader")) "checked") "Reader.checked",
   Hd.see K (PySem.W.findIn K (.ref (Hd.cl K "Reader")) "read_single") "Reader.read_single",
   Hd.see K (PySem.W.findIn K (.ref (Hd.cl K "Reader")) "read_both") "Reader.read_both",
   Hd.see K (PySem.W.findIn K (.ref (Hd.cl K "Reader")) "read_either") "Reader.read_either",
   Hd.see K (PySem.W.findIn K (.ref (Hd.cl K "Reader")) "read_whole") "Reader.read_whole",
   Hd.see K (PySem.W.findIn K (.ref (Hd.cl K "Reader")) "read_act") "Reader.read_act"],
  [decide (Hd.gl K "Condition"=some (some (.ref (Hd.cl K "Condition")))),
   decide (Hd.gl K "Always"=some (some (.ref (Hd.cl K "Always")))),
   decide (Hd.gl K "HasWord"=some (some (.ref (Hd.cl K "HasWord")))),
   decide (Hd.gl K "HasTitleWord"=some (some (.ref (Hd.cl K "HasTitleWord")))),
   decide (Hd.gl K "IsFrom"=some (some (.ref (Hd.cl K "IsFrom")))),
   decide (Hd.gl K "IsOfDays"=some (some (.ref (Hd.cl K "IsOfDays")))),
   decide (Hd.gl K "IsIn"=some (some (.ref (Hd.cl K "IsIn")))),
   decide (Hd.gl K "IsMarked"=some (some (.ref (Hd.cl K "IsMarked")))),
   decide (Hd.gl K "DoesAnswer"=some (some (.ref (Hd.cl K "DoesAnswer")))),
   decide (Hd.gl K "Wrapped"=some (some (.ref (Hd.cl K "Wrapped")))),
   decide (Hd.gl K "Not"=some (some (.ref (Hd.cl K "Not")))),
   decide (Hd.gl K "InThread"=some (some (.ref (Hd.cl K "InThread")))),
   decide (Hd.gl K "Joined"=some (some (.ref (Hd.cl K "Joined")))),
   decide (Hd.gl K "Both"=some (some (.ref (Hd.cl K "Both")))),
   decide (Hd.gl K "Either"=some (some (.ref (Hd.cl K "Either")))),
   decide (Hd.gl K "Reader"=some (some (.ref (Hd.cl K "Reader")))),
   decide (Hd.gl K "MailError"=some (some (.ref (Hd.cl K "MailError")))),
   decide (Hd.gl K "NoRule"=some (some (.ref (Hd.cl K "NoRule")))),
   decide (Hd.gl K "NoWord"=some (some (.ref (Hd.cl K "NoWord")))),
   decide (Hd.gl K "NoLetter"=some (some (.ref (Hd.cl K "NoLetter")))),
   decide (Hd.gl K "NoName"=some (some (.ref (Hd.cl K "NoName")))),
   decide (Hd.gl K "NoParcel"=some (some (.ref (Hd.cl K "NoParcel")))),
   decide (Hd.gl K "NoRow"=some (some (.ref (Hd.cl K "NoRow")))),
   decide ((Hd.gl K "FIGURES").map (Option.map Hd.bareV)=some (some (Hd.bv (.str "0123456789")))),
   decide ((Hd.gl K "WORD_SIGNS").map (Option.map Hd.bareV)=some (some (Hd.bv (.str "abcdefghijklmnopqrstuvwxyz0123456789")))),
   decide ((Hd.gl K "MOST_WORD").map (Option.map Hd.bareV)=some (some (Hd.bv (.int 20)))),
   decide ((Hd.gl K "LAST_DAY").map (Option.map Hd.bareV)=some (some (Hd.bv (.int 9999)))),
   decide ((Hd.gl K "DAY_FIGURES").map (Option.map Hd.bareV)=some (some (Hd.bv (.int 4)))),
   decide ((Hd.gl K "MOST_DEEP").map (Option.map Hd.bareV)=some (some (Hd.bv (.int 30)))),
   decide ((Hd.gl K "MOST_WITHIN").map (Option.map Hd.bareV)=some (some (Hd.bv (.int 40)))),
   decide ((Hd.gl K "MOST_THREADS").map (Option.map Hd.bareV)=some (some (Hd.bv (.int 2)))),
   decide ((Hd.gl K "END").map (Option.map Hd.bareV)=some (some (Hd.bv (.str "")))),
   Hd.tupStrs K "BARE" ["any","answers"],
   Hd.tupStrs K "WORDED" ["word","title","from","in","marked"],
   Hd.tupStrs K "OPENING" ["(","not","thread"],
   PySem.W.plainGet K (Hd.cl K "Condition") Str.empty,
   PySem.W.hasDictIn K (Hd.cl K "Condition"),
   PySem.W.plainOver K (Hd.cl K "Condition"),
   decide (PySem.W.findIn K (.ref (Hd.cl K "Condition")) "__setattr__"=some (some (.builtin "object.__setattr__"))),
   PySem.W.keepIn K (.ref (Hd.cl K "Condition")),
   PySem.W.makesIn K (Hd.cl K "Condition"),
   decide (PySem.W.findIn K (.ref (Hd.cl K "Condition")) "shape"=some none),
   PySem.W.plainGet K (Hd.cl K "Always") Str.empty,
   PySem.W.hasDictIn K (Hd.cl K "Always"),
   PySem.W.plainOver K (Hd.cl K "Always"),
   decide (PySem.W.findIn K (.ref (Hd.cl K "Always")) "__setattr__"=some (some (.builtin "object.__setattr__"))),
   PySem.W.keepIn K (.ref (Hd.cl K "Always")),
   PySem.W.makesIn K (Hd.cl K "Always"),
   decide (PySem.W.findIn K (.ref (Hd.cl K "Always")) "__init__"=PySem.W.findIn K (.ref (Hd.cl K "Condition")) "__init__"),
   decide (PySem.W.findIn K (.ref (Hd.cl K "Always")) "holds"=PySem.W.findIn K (.ref (Hd.cl K "Condition")) "holds"),
   decide (PySem.W.findIn K (.ref (Hd.cl K "Always")) "truths"=PySem.W.findIn K (.ref (Hd.cl K "Condition")) "truths"),
   decide (PySem.W.findIn K (.ref (Hd.cl K "Always")) "tree"=PySem.W.findIn K (.ref (Hd.cl K "Condition")) "tree"),
   decide (PySem.W.findIn K (.ref (Hd.cl K "Always")) "written"=PySem.W.findIn K (.ref (Hd.cl K "Condition")) "written"),
   decide (PySem.W.findIn K (.ref (Hd.cl K "Always")) "shape"=some none),
   PySem.W.plainGet K (Hd.cl K "HasWord") Str.empty,
   PySem.W.hasDictIn K (Hd.cl K "HasWord"),
   PySem.W.plainOver K (Hd.cl K "HasWord"),
   decide (PySem.W.findIn K (.ref (Hd.cl K "HasWord")) "__setattr__"=some (some (.builtin "object.__setattr__"))),
   PySem.W.keepIn K (.ref (Hd.cl K "HasWord")),
   PySem.W.makesIn K (Hd.cl K "HasWord"),
   decide (PySem.W.findIn K (.ref (Hd.cl K "HasWord")) "__init__"=PySem.W.findIn K (.ref (Hd.cl K "Condition")) "__init__"),
   decide (PySem.W.findIn K (.ref (Hd.cl K "HasWord")) "truths"=PySem.W.findIn K (.ref (Hd.cl K "Condition")) "truths"),
   decide (PySem.W.findIn K (.ref (Hd.cl K "HasWord")) "tree"=PySem.W.findIn K (.ref (Hd.cl K "Condition")) "tree"),
   decide (PySem.W.findIn K (.ref (Hd.cl K "HasWord")) "written"=PySem.W.findIn K (.ref (Hd.cl K "Condition")) "written"),
   decide (PySem.W.findIn K (.ref (Hd.cl K "HasWord")) "shape"=some none),
   PySem.W.plainGet K (Hd.cl K "HasTitleWord") Str.empty,
   PySem.W.hasDictIn K (Hd.cl K "HasTitleWord"),
   PySem.W.plainOver K (Hd.cl K "HasTitleWord"),
   decide (PySem.W.findIn K (.ref (Hd.cl K "HasTitleWord")) "__setattr__"=some (some (.builtin "object.__setattr__"))),
   PySem.W.keepIn K (.ref (Hd.cl K "HasTitleWord")),
   PySem.W.makesIn K (Hd.cl K "HasTitleWord"),
   decide (PySem.W.findIn K (.ref (Hd.cl K "HasTitleWord")) "__init__"=PySem.W.findIn K (.ref (Hd.cl K "Condition")) "__init__"),
   decide (PySem.W.findIn K (.ref (Hd.cl K "HasTitleWord")) "truths"=PySem.W.findIn K (.ref (Hd.cl K "Condition")) "truths"),
   decide (PySem.W.findIn K (.ref (Hd.cl K "HasTitleWord")) "tree"=PySem.W.findIn K (.ref (Hd.cl K "Condition")) "tree"),
   decide (PySem.W.findIn K (.ref (Hd.cl K "HasTitleWord")) "written"=PySem.W.findIn K (.ref (Hd.cl K "Condition")) "written"),
   decide (PySem.W.findIn K (.ref (Hd.cl K "HasTitleWord")) "shape"=some none),
   PySem.W.plainGet K (Hd.cl K "IsFrom") Str.empty,
   PySem.W.hasDictIn K (Hd.cl K "IsFrom"),
   PySem.W.plainOver K (Hd.cl K "IsFrom"),
   decide (PySem.W.findIn K (.ref (Hd.cl K "IsFrom")) "__setattr__"=some (some (.builtin "object.__setattr__"))),
   PySem.W.keepIn K (.ref (Hd.cl K "IsFrom")),
   PySem.W.makesIn K (Hd.cl K "IsFrom"),
   decide (PySem.W.findIn K (.ref (Hd.cl K "IsFrom")) "__init__"=PySem.W.findIn K (.ref (Hd.cl K "Condition")) "__init__"),
   decide (PySem.W.findIn K (.ref (Hd.cl K "IsFrom")) "truths"=PySem.W.findIn K (.ref (Hd.cl K "Condition")) "truths"),
   decide (PySem.W.findIn K (.ref (Hd.cl K "IsFrom")) "tree"=PySem.W.findIn K (.ref (Hd.cl K "Condition")) "tree"),
   decide (PySem.W.findIn K (.ref (Hd.cl K "IsFrom")) "written"=PySem.W.findIn K (.ref (Hd.cl K "Condition")) "written"),
   decide (PySem.W.findIn K (.ref (Hd.cl K "IsFrom")) "shape"=some none),
   PySem.W.plainGet K (Hd.cl K "IsOfDays") Str.empty,
   PySem.W.hasDictIn K (Hd.cl K "IsOfDays"),
   PySem.W.plainOver K (Hd.cl K "IsOfDays"),
   decide (PySem.W.findIn K (.ref (Hd.cl K "IsOfDays")) "__setattr__"=some (some (.builtin "object.__setattr__"))),
   PySem.W.keepIn K (.ref (Hd.cl K "IsOfDays")),
   PySem.W.makesIn K (Hd.cl K "IsOfDays"),
   decide (PySem.W.findIn K (.ref (Hd.cl K "IsOfDays")) "__init__"=PySem.W.findIn K (.ref (Hd.cl K "Condition")) "__init__"),
   decide (PySem.W.findIn K (.ref (Hd.cl K "IsOfDays")) "truths"=PySem.W.findIn K (.ref (Hd.cl K "Condition")) "truths"),
   decide (PySem.W.findIn K (.ref (Hd.cl K "IsOfDays")) "tree"=PySem.W.findIn K (.ref (Hd.cl K "Condition")) "tree"),
   decide (PySem.W.findIn K (.ref (Hd.cl K "IsOfDays")) "shape"=some none),
   PySem.W.plainGet K (Hd.cl K "IsIn") Str.empty,
   PySem.W.hasDictIn K (Hd.cl K "IsIn"),
   PySem.W.plainOver K (Hd.cl K "IsIn"),
   decide (PySem.W.findIn K (.ref (Hd.cl K "IsIn")) "__setattr__"=some (some (.builtin "object.__setattr__"))),
   PySem.W.keepIn K (.ref (Hd.cl K "IsIn")),
   PySem.W.makesIn K (Hd.cl K "IsIn"),
   decide (PySem.W.findIn K (.ref (Hd.cl K "IsIn")) "__init__"=PySem.W.findIn K (.ref (Hd.cl K "Condition")) "__init__"),
   decide (PySem.W.findIn K (.ref (Hd.cl K "IsIn")) "truths"=PySem.W.findIn K (.ref (Hd.cl K "Condition")) "truths"),
   decide (PySem.W.findIn K (.ref (Hd.cl K "IsIn")) "tree"=PySem.W.findIn K (.ref (Hd.cl K "Condition")) "tree"),
   decide (PySem.W.findIn K (.ref (Hd.cl K "IsIn")) "written"=PySem.W.findIn K (.ref (Hd.cl K "Condition")) "written"),
   decide (PySem.W.findIn K (.ref (Hd.cl K "IsIn")) "shape"=some none),
   PySem.W.plainGet K (Hd.cl K "IsMarked") Str.empty,
   PySem.W.hasDictIn K (Hd.cl K "IsMarked"),
   PySem.W.plainOver K (Hd.cl K "IsMarked"),
   decide (PySem.W.findIn K (.ref (Hd.cl K "IsMarked")) "__setattr__"=some (some (.builtin "object.__setattr__"))),
   PySem.W.keepIn K (.ref (Hd.cl K "IsMarked")),
   PySem.W.makesIn K (Hd.cl K "IsMarked"),
   decide (PySem.W.findIn K (.ref (Hd.cl K "IsMarked")) "__init__"=PySem.W.findIn K (.ref (Hd.cl K "Condition")) "__init__"),
   decide (PySem.W.findIn K (.ref (Hd.cl K "IsMarked")) "truths"=PySem.W.findIn K (.ref (Hd.cl K "Condition")) "truths"),
   decide (PySem.W.findIn K (.ref (Hd.cl K "IsMarked")) "tree"=PySem.W.findIn K (.ref (Hd.cl K "Condition")) "tree"),
   decide (PySem.W.findIn K (.ref (Hd.cl K "IsMarked")) "written"=PySem.W.findIn K (.ref (Hd.cl K "Condition")) "written"),
   decide (PySem.W.findIn K (.ref (Hd.cl K "IsMarked")) "shape"=some none),
   PySem.W.plainGet K (Hd.cl K "DoesAnswer") Str.empty,
   PySem.W.hasDictIn K (Hd.cl K "DoesAnswer"),
   PySem.W.plainOver K (Hd.cl K "DoesAnswer"),
   decide (PySem.W.findIn K (.ref (Hd.cl K "DoesAnswer")) "__setattr__"=some (some (.builtin "object.__setattr__"))),
   PySem.W.keepIn K (.ref (Hd.cl K "DoesAnswer")),
   PySem.W.makesIn K (Hd.cl K "DoesAnswer"),
   decide (PySem.W.findIn K (.ref (Hd.cl K "DoesAnswer")) "__init__"=PySem.W.findIn K (.ref (Hd.cl K "Condition")) "__init__"),
   decide (PySem.W.findIn K (.ref (Hd.cl K "DoesAnswer")) "truths"=PySem.W.findIn K (.ref (Hd.cl K "Condition")) "truths"),
   decide (PySem.W.findIn K (.ref (Hd.cl K "DoesAnswer")) "tree"=PySem.W.findIn K (.ref (Hd.cl K "Condition")) "tree"),
   decide (PySem.W.findIn K (.ref (Hd.cl K "DoesAnswer")) "written"=PySem.W.findIn K (.ref (Hd.cl K "Condition")) "written"),
   decide (PySem.W.findIn K (.ref (Hd.cl K "DoesAnswer")) "shape"=some none),
   PySem.W.plainGet K (Hd.cl K "Wrapped") Str.empty,
   PySem.W.hasDictIn K (Hd.cl K "Wrapped"),
   PySem.W.plainOver K (Hd.cl K "Wrapped"),
   decide (PySem.W.findIn K (.ref (Hd.cl K "Wrapped")) "__setattr__"=some (some (.builtin "object.__setattr__"))),
   PySem.W.keepIn K (.ref (Hd.cl K "Wrapped")),
   PySem.W.makesIn K (Hd.cl K "Wrapped"),
   decide (PySem.W.findIn K (.ref (Hd.cl K "Wrapped")) "holds"=PySem.W.findIn K (.ref (Hd.cl K "Condition")) "holds"),
   decide (PySem.W.findIn K (.ref (Hd.cl K "Wrapped")) "truths"=PySem.W.findIn K (.ref (Hd.cl K "Condition")) "truths"),
   decide (PySem.W.findIn K (.ref (Hd.cl K "Wrapped")) "tree"=PySem.W.findIn K (.ref (Hd.cl K "Condition")) "tree"),
   decide (PySem.W.findIn K (.ref (Hd.cl K "Wrapped")) "shape"=some none),
   decide (PySem.W.findIn K (.ref (Hd.cl K "Wrapped")) "inner"=some none),
   PySem.W.plainGet K (Hd.cl K "Not") Str.empty,
   PySem.W.hasDictIn K (Hd.cl K "Not"),
   PySem.W.plainOver K (Hd.cl K "Not"),
   decide (PySem.W.findIn K (.ref (Hd.cl K "Not")) "__setattr__"=some (some (.builtin "object.__setattr__"))),
   PySem.W.keepIn K (.ref (Hd.cl K "Not")),
   PySem.W.makesIn K (Hd.cl K "Not"),
   decide (PySem.W.findIn K (.ref (Hd.cl K "Not")) "__init__"=PySem.W.findIn K (.ref (Hd.cl K "Wrapped")) "__init__"),
   decide (PySem.W.findIn K (.ref (Hd.cl K "Not")) "tree"=PySem.W.findIn K (.ref (Hd.cl K "Condition")) "tree"),
   decide (PySem.W.findIn K (.ref (Hd.cl K "Not")) "written"=PySem.W.findIn K (.ref (Hd.cl K "Wrapped")) "written"),
   decide (PySem.W.findIn K (.ref (Hd.cl K "Not")) "shape"=some none),
   decide (PySem.W.findIn K (.ref (Hd.cl K "Not")) "inner"=some none),
   PySem.W.plainGet K (Hd.cl K "InThread") Str.empty,
   PySem.W.hasDictIn K (Hd.cl K "InThread"),
   PySem.W.plainOver K (Hd.cl K "InThread"),
   decide (PySem.W.findIn K (.ref (Hd.cl K "InThread")) "__setattr__"=some (some (.builtin "object.__setattr__"))),
   PySem.W.keepIn K (.ref (Hd.cl K "InThread")),
   PySem.W.makesIn K (Hd.cl K "InThread"),
   decide (PySem.W.findIn K (.ref (Hd.cl K "InThread")) "__init__"=PySem.W.findIn K (.ref (Hd.cl K "Wrapped")) "__init__"),
   decide (PySem.W.findIn K (.ref (Hd.cl K "InThread")) "tree"=PySem.W.findIn K (.ref (Hd.cl K "Condition")) "tree"),
   decide (PySem.W.findIn K (.ref (Hd.cl K "InThread")) "written"=PySem.W.findIn K (.ref (Hd.cl K "Wrapped")) "written"),
   decide (PySem.W.findIn K (.ref (Hd.cl K "InThread")) "shape"=some none),
   decide (PySem.W.findIn K (.ref (Hd.cl K "InThread")) "inner"=some none),
   PySem.W.plainGet K (Hd.cl K "Joined") Str.empty,
   PySem.W.hasDictIn K (Hd.cl K "Joined"),
   PySem.W.plainOver K (Hd.cl K "Joined"),
   decide (PySem.W.findIn K (.ref (Hd.cl K "Joined")) "__setattr__"=some (some (.builtin "object.__setattr__"))),
   PySem.W.keepIn K (.ref (Hd.cl K "Joined")),
   PySem.W.makesIn K (Hd.cl K "Joined"),
   decide (PySem.W.findIn K (.ref (Hd.cl K "Joined")) "holds"=PySem.W.findIn K (.ref (Hd.cl K "Condition")) "holds"),
   decide (PySem.W.findIn K (.ref (Hd.cl K "Joined")) "truths"=PySem.W.findIn K (.ref (Hd.cl K "Condition")) "truths"),
   decide (PySem.W.findIn K (.ref (Hd.cl K "Joined")) "tree"=PySem.W.findIn K (.ref (Hd.cl K "Condition")) "tree"),
   decide (PySem.W.findIn K (.ref (Hd.cl K "Joined")) "written"=PySem.W.findIn K (.ref (Hd.cl K "Condition")) "written"),
   decide (PySem.W.findIn K (.ref (Hd.cl K "Joined")) "shape"=some none),
   decide (PySem.W.findIn K (.ref (Hd.cl K "Joined")) "one"=some none),
   decide (PySem.W.findIn K (.ref (Hd.cl K "Joined")) "other"=some none),
   PySem.W.plainGet K (Hd.cl K "Both") Str.empty,
   PySem.W.hasDictIn K (Hd.cl K "Both"),
   PySem.W.plainOver K (Hd.cl K "Both"),
   decide (PySem.W.findIn K (.ref (Hd.cl K "Both")) "__setattr__"=some (some (.builtin "object.__setattr__"))),
   PySem.W.keepIn K (.ref (Hd.cl K "Both")),
   PySem.W.makesIn K (Hd.cl K "Both"),
   decide (PySem.W.findIn K (.ref (Hd.cl K "Both")) "__init__"=PySem.W.findIn K (.ref (Hd.cl K "Joined")) "__init__"),
   decide (PySem.W.findIn K (.ref (Hd.cl K "Both")) "tree"=PySem.W.findIn K (.ref (Hd.cl K "Condition")) "tree"),
   decide (PySem.W.findIn K (.ref (Hd.cl K "Both")) "written_with"=PySem.W.findIn K (.ref (Hd.cl K "Joined")) "written_with"),
   decide (PySem.W.findIn K (.ref (Hd.cl K "Both")) "shape"=some none),
   decide (PySem.W.findIn K (.ref (Hd.cl K "Both")) "one"=some none),
   decide (PySem.W.findIn K (.ref (Hd.cl K "Both")) "other"=some none),
   PySem.W.plainGet K (Hd.cl K "Either") Str.empty,
   PySem.W.hasDictIn K (Hd.cl K "Either"),
   PySem.W.plainOver K (Hd.cl K "Either"),
   decide (PySem.W.findIn K (.ref (Hd.cl K "Either")) "__setattr__"=some (some (.builtin "object.__setattr__"))),
   PySem.W.keepIn K (.ref (Hd.cl K "Either")),
   PySem.W.makesIn K (Hd.cl K "Either"),
   decide (PySem.W.findIn K (.ref (Hd.cl K "Either")) "__init__"=PySem.W.findIn K (.ref (Hd.cl K "Joined")) "__init__"),
   decide (PySem.W.findIn K (.ref (Hd.cl K "Either")) "tree"=PySem.W.findIn K (.ref (Hd.cl K "Condition")) "tree"),
   decide (PySem.W.findIn K (.ref (Hd.cl K "Either")) "written_with"=PySem.W.findIn K (.ref (Hd.cl K "Joined")) "written_with"),
   decide (PySem.W.findIn K (.ref (Hd.cl K "Either")) "shape"=some none),
   decide (PySem.W.findIn K (.ref (Hd.cl K "Either")) "one"=some none),
   decide (PySem.W.findIn K (.ref (Hd.cl K "Either")) "other"=some none),
   PySem.W.plainGet K (Hd.cl K "Reader") Str.empty,
   PySem.W.hasDictIn K (Hd.cl K "Reader"),
   PySem.W.plainOver K (Hd.cl K "Reader"),
   decide (PySem.W.findIn K (.ref (Hd.cl K "Reader")) "__setattr__"=some (some (.builtin "object.__setattr__"))),
   PySem.W.keepIn K (.ref (Hd.cl K "Reader")),
   PySem.W.makesIn K (Hd.cl K "Reader"),
   decide (PySem.W.findIn K (.ref (Hd.cl K "Reader")) "pieces"=some none),
   decide (PySem.W.findIn K (.ref (Hd.cl K "Reader")) "at"=some none),
   decide (PySem.W.findIn K (.ref (Hd.cl K "Reader")) "row"=some none),
   decide (PySem.W.specialIn K (.ref (Hd.cl K "Condition")) "__getattribute__"=some (some (.builtin "type.__getattribute__"))),
   PySem.W.readsIn K (Hd.cl K "Condition") (.type "type"),
   Hd.isVal (PySem.W.findCls K (.ref (Hd.cl K "Condition")) (.type "type") "__init__") (.ref (Hd.adOf (PySem.W.findIn K (.ref (Hd.cl K "Condition")) "__init__"))),
   PySem.W.excIn K (Hd.cl K "MailError") mroVE "ValueError.__new__",
   excInI K (Hd.cl K "NoRule"),
   PySem.W.keepIn K (.ref (Hd.cl K "NoRule")),
   decide (PySem.W.findIn K (.ref (Hd.cl K "NoRule")) "__setattr__"=some (some (.builtin "object.__setattr__"))),
   overVE K (Hd.cl K "NoRule"),
   PySem.W.hasDictIn K (Hd.cl K "NoRule"),
   decide (PySem.W.findIn K (.ref (Hd.cl K "NoRule")) "row"=some none),
   subXIn K (Hd.cl K "NoRule") (Hd.cl K "MailError"),
   decide (PySem.W.specialIn K (.ref (Hd.cl K "MailError")) "__getattribute__"=some (some (.builtin "type.__getattribute__"))),
   PySem.W.readsIn K (Hd.cl K "MailError") (.type "type"),
   Hd.isVal (PySem.W.findCls K (.ref (Hd.cl K "MailError")) (.type "type") "__init__") (.builtin "ValueError.__init__"),
   decide (PySem.W.specialIn K (.builtin "object.__class__") "__get__"=some (some (.builtin "getset_descriptor.__get__"))),
   decide (PySem.W.takesIn K (.builtin "object.__class__")=some true),
   decide (PySem.W.findIn K (.ref (Hd.cl K "NoRule")) "__getattribute__"=some (some (.builtin "BaseException.__getattribute__"))),
   decide (PySem.W.findIn K (.ref (Hd.cl K "NoRule")) "__getattr__"=some none),
   PySem.W.hasDictIn K (Hd.cl K "NoRule"),
   decide (PySem.W.findIn K (.ref (Hd.cl K "NoRule")) "__class__"=some (some (.builtin "object.__class__"))),
   decide (PySem.W.mroIn K (Hd.cl K "NoRule") (.type "object")=some true),
   decide (PySem.W.mroIn K (Hd.cl K "NoRule") (.type "BaseException")=some true),
   decide (PySem.W.kitOne K (.ref (Hd.cl K "NoRule")) (.ref (Hd.cl K "NoLetter"))=some false),
   decide (PySem.W.kitOne K (.ref (Hd.cl K "NoRule")) (.ref (Hd.cl K "NoName"))=some false),
   decide (PySem.W.kitOne K (.ref (Hd.cl K "NoRule")) (.ref (Hd.cl K "NoParcel"))=some false),
   decide (PySem.W.kitOne K (.ref (Hd.cl K "NoRule")) (.ref (Hd.cl K "NoRow"))=some false),
   decide (PySem.W.kitOne K (.ref (Hd.cl K "NoRule")) (.ref (Hd.cl K "NoWord"))=some false),
   decide (PySem.W.kitOne K (.ref (Hd.cl K "NoRule")) (.ref (Hd.cl K "NoRule"))=some true),
   decide (PySem.W.kitOne K (.ref (Hd.cl K "NoRule")) (.type "ValueError")=some true),
   decide (Hd.gl K "len"=some none),
   decide (Hd.gl K "range"=some none),
   decide (Hd.gl K "isinstance"=some none),
   decide (Hd.gl K "str"=some none),
   decide (Hd.gl K "int"=some none),
   decide (Hd.gl K "bool"=some none),
   decide (Hd.gl K "tuple"=some none),
   decide (Hd.gl K "max"=some none),
   decide (Hd.gl K "all"=some none),
   decide (Hd.gl K "sorted"=some none),
   decide (Hd.gl K "ValueError"=some none)].all id)
def good:List (Option (FuncData×Option (List Value))×Bool)×Bool :=
 ([(some (Hd.bareFn "_wall" "_wall" swall,none),true),
   (some (Hd.bareFn "condition_of" "condition_of" scondition_of,none),true),
   (some (Hd.bareFn "all_among" "all_among" sall_among,none),true),
   (some (Hd.bareFn "is_word" "is_word" sis_word,none),true),
   (some (Hd.bareFn "pieces_of" "pieces_of" spieces_of,none),true),
   (some (Hd.bareFn "deep" "deep" sdeep,none),true),
   (some (Hd.bareFn "read_condition" "read_condition" sread_condition,none),true),
   (some (Hd.bareFn "_law_cell_at" "_law_cell_at" sl_cell_at,none),true),
   (some (Hd.bareFn "_law_whole" "_law_whole" sl_whole,none),true),
   (some (Hd.bareFn "_law_mixed" "_law_mixed" sl_mixed,none),true),
   (some (Hd.bareFn "_law_word_by" "_law_word_by" sl_word_by,none),true),
   (some (Hd.bareFn "_law_leaf_by" "_law_leaf_by" sl_leaf_by,none),true),
   (some (Hd.bareFn "_law_threads" "_law_threads" sl_threads,none),true),
   (some (Hd.bareFn "_law_tree_by" "_law_tree_by" sl_tree_by,none),true),
   (some (Hd.bareFn "_law_written" "_law_written" sl_written,none),true),
   (some (Hd.bareFn "_law_refused" "_law_refused" sl_refused,none),true),
   (some (Hd.bareFn "_law_places" "_law_places" sl_places,none),true),
   (some (Hd.bareFn "_law_odd_word" "_law_odd_word" sl_odd_word,none),true),
   (some (Hd.bareFn "_law_leaf" "_law_leaf" sl_leaf,none),true),
   (some (Hd.bareFn "_law_faulty" "_law_faulty" sl_faulty,none),true),
   (some (Hd.bareFn "_law_long" "_law_long" sl_long,none),true),
   (some (Hd.bareFn "law" "law" slaw,none),true),
   (some (Hd.bareFn "__init__" "NoRule.__init__" sNoRule_init,some [Hd.bv (.str ""),Hd.bv (.int 0)]),true),
   (some (Hd.bareFn "__init__" "Condition.__init__" sCondition_init,none),true),
   (some (Hd.bareFn "holds" "Condition.holds" sCondition_holds,none),true),
   (some (Hd.bareFn "truths" "Condition.truths" sCondition_truths,none),true),
   (some (Hd.bareFn "tree" "Condition.tree" sCondition_tree,none),true),
   (some (Hd.bareFn "written" "Condition.written" sCondition_written,none),true),
   (some (Hd.bareFn "holds" "HasWord.holds" sHasWord_holds,none),true),
   (some (Hd.bareFn "holds" "HasTitleWord.holds" sHasTitleWord_holds,none),true),
   (some (Hd.bareFn "holds" "IsFrom.holds" sIsFrom_holds,none),true),
   (some (Hd.bareFn "holds" "IsOfDays.holds" sIsOfDays_holds,none),true),
   (some (Hd.bareFn "written" "IsOfDays.written" sIsOfDays_written,none),true),
   (some (Hd.bareFn "holds" "IsIn.holds" sIsIn_holds,none),true),
   (some (Hd.bareFn "holds" "IsMarked.holds" sIsMarked_holds,none),true),
   (some (Hd.bareFn "holds" "DoesAnswer.holds" sDoesAnswer_holds,none),true),
   (some (Hd.bareFn "__init__" "Wrapped.__init__" sWrapped_init,none),true),
   (some (Hd.bareFn "written" "Wrapped.written" sWrapped_written,none),true),
   (some (Hd.bareFn "holds" "Not.holds" sNot_holds,none),true),
   (some (Hd.bareFn "truths" "Not.truths" sNot_truths,none),true),
   (some (Hd.bareFn "holds" "InThread.holds" sInThread_holds,none),true),
   (some (Hd.bareFn "truths" "InThread.truths" sInThread_truths,none),true),
   (some (Hd.bareFn "__init__" "Joined.__init__" sJoined_init,none),true),
   (some (Hd.bareFn "written_with" "Joined.written_with" sJoined_written_with,none),true),
   (some (Hd.bareFn "holds" "Both.holds" sBoth_holds,none),true),
   (some (Hd.bareFn "truths" "Both.truths" sBoth_truths,none),true),
   (some (Hd.bareFn "written" "Both.written" sBoth_written,none),true),
   (some (Hd.bareFn "holds" "Either.holds" sEither_holds,none),true),
   (some (Hd.bareFn "truths" "Either.truths" sEither_truths,none),true),
   (some (Hd.bareFn "written" "Either.written" sEither_written,none),true),
   (some (Hd.bareFn "__init__" "Reader.__init__" sReader_init,none),true),
   (some (Hd.bareFn "ahead" "Reader.ahead" sReader_ahead,none),true),
   (some (Hd.bareFn "step" "Reader.step" sReader_step,none),true),
   (some (Hd.bareFn "passes" "Reader.passes" sReader_passes,none),true),
   (some (Hd.bareFn "expect" "Reader.expect" sReader_expect,none),true),
   (some (Hd.bareFn "read_word" "Reader.read_word" sReader_read_word,none),true),
   (some (Hd.bareFn "read_number" "Reader.read_number" sReader_read_number,none),true),
   (some (Hd.bareFn "read_leaf" "Reader.read_leaf" sReader_read_leaf,none),true),
   (some (Hd.bareFn "checked" "Reader.checked" sReader_checked,none),true),
   (some (Hd.bareFn "read_single" "Reader.read_single" sReader_read_single,none),true),
   (some (Hd.bareFn "read_both" "Reader.read_both" sReader_read_both,none),true),
   (some (Hd.bareFn "read_either" "Reader.read_either" sReader_read_either,none),true),
   (some (Hd.bareFn "read_whole" "Reader.read_whole" sReader_read_whole,none),true),
   (some (Hd.bareFn "read_act" "Reader.read_act" sReader_read_act,none),true)],true)
theorem all_mk {l:PySem.W.OpenLaw} {w:World} {K:PySem.W.Frag} {h:Heap} {mg:Str→Option Value} {fa:Addr} (X:K.In h) (E:obs K=good) (G:h.Ns mainGlobals mg) (hfa:mg "law"=some (.ref fa)) :
 ∃fd:FuncData,(∀(s:Shared) (v:Value),BindsTo s fd ⟨[v],[]⟩ [("_law_script",v)])∧∀base:Heap,K.In base→base.Ns mainGlobals mg→FnOk l.prog w K mg base CX0 220 fa fd ["_law_script"] (spLaw K):=by
 have e1:=congrArg Prod.fst E
 have e2:=congrArg Prod.snd E
 obtain ⟨a1,k1,i1,_,F1⟩:=Hd.see_fun (st:=swall) (Hd.eq_at e1 0 rfl rfl)
 have b1:=F1.binds (ps:=["k"]) fun _ _ _ _ _ _=>by refine us_1 ?_;intros;rfl
 obtain ⟨a2,k2,i2,_,F2⟩:=Hd.see_fun (st:=scondition_of) (Hd.eq_at e1 1 rfl rfl)
 have b2:=F2.binds (ps:=["tree"]) fun _ _ _ _ _ _=>by refine us_1 ?_;intros;rfl
 obtain ⟨a3,k3,i3,_,F3⟩:=Hd.see_fun (st:=sall_among) (Hd.eq_at e1 2 rfl rfl)
 have b3:=F3.binds (ps:=["text","signs"]) fun _ _ _ _ _ _=>by refine us_2 ?_;intros;rfl
 obtain ⟨a4,k4,i4,_,F4⟩:=Hd.see_fun (st:=sis_word) (Hd.eq_at e1 3 rfl rfl)
 have b4:=F4.binds (ps:=["thing"]) fun _ _ _ _ _ _=>by refine us_1 ?_;intros;rfl
 obtain ⟨a5,k5,i5,_,F5⟩:=Hd.see_fun (st:=spieces_of) (Hd.eq_at e1 4 rfl rfl)
 have b5:=F5.binds (ps:=["text"]) fun _ _ _ _ _ _=>by refine us_1 ?_;intros;rfl
 obtain ⟨a6,k6,i6,_,F6⟩:=Hd.see_fun (st:=sdeep) (Hd.eq_at e1 5 rfl rfl)
 have b6:=F6.binds (ps:=["tree"]) fun _ _ _ _ _ _=>by refine us_1 ?_;intros;rfl
 obtain ⟨a7,k7,i7,_,F7⟩:=Hd.see_fun (st:=sread_condition) (Hd.eq_at e1 6 rfl rfl)
 have b7:=F7.binds (ps:=["text"]) fun _ _ _ _ _ _=>by refine us_1 ?_;intros;rfl
 obtain ⟨a8,k8,i8,_,F8⟩:=Hd.see_fun (st:=sl_cell_at) (Hd.eq_at e1 7 rfl rfl)
 have b8:=F8.binds (ps:=["_law_script","_law_k"]) fun _ _ _ _ _ _=>by refine us_2 ?_;intros;rfl
 obtain ⟨a9,k9,i9,_,F9⟩:=Hd.see_fun (st:=sl_whole) (Hd.eq_at e1 8 rfl rfl)
 have b9:=F9.binds (ps:=["_law_found"]) fun _ _ _ _ _ _=>by refine us_1 ?_;intros;rfl
 obtain ⟨a10,k10,i10,_,F10⟩:=Hd.see_fun (st:=sl_mixed) (Hd.eq_at e1 9 rfl rfl)
 have b10:=F10.binds (ps:=["_law_script","_law_start","_law_many"]) fun _ _ _ _ _ _=>by refine us_3 ?_;intros;rfl
 obtain ⟨a11,k11,i11,_,F11⟩:=Hd.see_fun (st:=sl_word_by) (Hd.eq_at e1 10 rfl rfl)
 have b11:=F11.binds (ps:=["_law_shape","_law_k"]) fun _ _ _ _ _ _=>by refine us_2 ?_;intros;rfl
 obtain ⟨a12,k12,i12,_,F12⟩:=Hd.see_fun (st:=sl_leaf_by) (Hd.eq_at e1 11 rfl rfl)
 have b12:=F12.binds (ps:=["_law_shape","_law_cell"]) fun _ _ _ _ _ _=>by refine us_2 ?_;intros;rfl
 obtain ⟨a13,k13,i13,_,F13⟩:=Hd.see_fun (st:=sl_threads) (Hd.eq_at e1 12 rfl rfl)
 have b13:=F13.binds (ps:=["_law_tree"]) fun _ _ _ _ _ _=>by refine us_1 ?_;intros;rfl
 obtain ⟨a14,k14,i14,_,F14⟩:=Hd.see_fun (st:=sl_tree_by) (Hd.eq_at e1 13 rfl rfl)
 have b14:=F14.binds (ps:=["_law_shape","_law_cells"]) fun _ _ _ _ _ _=>by refine us_2 ?_;intros;rfl
 obtain ⟨a15,k15,i15,_,F15⟩:=Hd.see_fun (st:=sl_written) (Hd.eq_at e1 14 rfl rfl)
 have b15:=F15.binds (ps:=["_law_tree"]) fun _ _ _ _ _ _=>by refine us_1 ?_;intros;rfl
 obtain ⟨a16,k16,i16,_,F16⟩:=Hd.see_fun (st:=sl_refused) (Hd.eq_at e1 15 rfl rfl)
 have b16:=F16.binds (ps:=["_law_text"]) fun _ _ _ _ _ _=>by refine us_1 ?_;intros;rfl
 obtain ⟨a17,k17,i17,_,F17⟩:=Hd.see_fun (st:=sl_places) (Hd.eq_at e1 16 rfl rfl)
 have b17:=F17.binds (ps:=["_law_text","_law_signs"]) fun _ _ _ _ _ _=>by refine us_2 ?_;intros;rfl
 obtain ⟨a18,k18,i18,_,F18⟩:=Hd.see_fun (st:=sl_odd_word) (Hd.eq_at e1 17 rfl rfl)
 have b18:=F18.binds (ps:=["_law_word","_law_cell"]) fun _ _ _ _ _ _=>by refine us_2 ?_;intros;rfl
 obtain ⟨a19,k19,i19,_,F19⟩:=Hd.see_fun (st:=sl_leaf) (Hd.eq_at e1 18 rfl rfl)
 have b19:=F19.binds (ps:=["_law_word","_law_cell"]) fun _ _ _ _ _ _=>by refine us_2 ?_;intros;rfl
 obtain ⟨a20,k20,i20,_,F20⟩:=Hd.see_fun (st:=sl_faulty) (Hd.eq_at e1 19 rfl rfl)
 have b20:=F20.binds (ps:=["_law_text","_law_way","_law_cell","_law_word"]) fun _ _ _ _ _ _=>by refine us_4 ?_;intros;rfl
 obtain ⟨a21,k21,i21,_,F21⟩:=Hd.see_fun (st:=sl_long) (Hd.eq_at e1 20 rfl rfl)
 have b21:=F21.binds (ps:=["_law_sign"]) fun _ _ _ _ _ _=>by refine us_1 ?_;intros;rfl
 obtain ⟨a22,k22,i22,_,F22⟩:=Hd.see_fun (st:=slaw) (Hd.eq_at e1 21 rfl rfl)
 have b22:=F22.binds (ps:=["_law_script"]) fun _ _ _ _ _ _=>by refine us_1 ?_;intros;rfl
 obtain ⟨a23,k23,i23,D23,kV23,dc23,pm23,an23,cd23,ct23,o23,it23,Dn23,F23,t23,s23,m23⟩:=Hd.see_funD (st:=sNoRule_init) (Hd.eq_at e1 22 rfl rfl)
 obtain ⟨dv23_0,dv23_1,rfl,rd23_0,rd23_1⟩:=Hd.map2 m23
 have b23_0:Binds K (PySem.W.fnOf "__init__" "NoRule.__init__" (defArgs sNoRule_init) (defBody sNoRule_init) (defScope sNoRule_init) (.ref D23) kV23 dc23 pm23 an23 cd23 ct23) ["self","words","row"] [dv23_0,dv23_1]:=fun s us X' hl=>have hl':us.length=1:=(by simpa using hl);(by clear hl;revert hl';revert us;refine us_1 ?_;intros;exact PySem.W.binds_K (fd:=PySem.W.fnOf "__init__" "NoRule.__init__" (defArgs sNoRule_init) (defBody sNoRule_init) (defScope sNoRule_init) (.ref D23) kV23 dc23 pm23 an23 cd23 ct23) X' rfl t23 s23 rfl rfl)
 have b23_1:Binds K (PySem.W.fnOf "__init__" "NoRule.__init__" (defArgs sNoRule_init) (defBody sNoRule_init) (defScope sNoRule_init) (.ref D23) kV23 dc23 pm23 an23 cd23 ct23) ["self","words","row"] [dv23_1]:=fun s us X' hl=>have hl':us.length=2:=(by simpa using hl);(by clear hl;revert hl';revert us;refine us_2 ?_;intros;exact PySem.W.binds_K (fd:=PySem.W.fnOf "__init__" "NoRule.__init__" (defArgs sNoRule_init) (defBody sNoRule_init) (defScope sNoRule_init) (.ref D23) kV23 dc23 pm23 an23 cd23 ct23) X' rfl t23 s23 rfl rfl)
 have b23_2:Binds K (PySem.W.fnOf "__init__" "NoRule.__init__" (defArgs sNoRule_init) (defBody sNoRule_init) (defScope sNoRule_init) (.ref D23) kV23 dc23 pm23 an23 cd23 ct23) ["self","words","row"] []:=fun s us X' hl=>have hl':us.length=3:=(by simpa using hl);(by clear hl;revert hl';revert us;refine us_3 ?_;intros;exact PySem.W.binds_K (fd:=PySem.W.fnOf "__init__" "NoRule.__init__" (defArgs sNoRule_init) (defBody sNoRule_init) (defScope sNoRule_init) (.ref D23) kV23 dc23 pm23 an23 cd23 ct23) X' rfl t23 s23 rfl rfl)
 obtain ⟨a24,k24,i24,_,F24⟩:=Hd.see_fun (st:=sCondition_init) (Hd.eq_at e1 23 rfl rfl)
 have b24:=F24.binds (ps:=["self","tree"]) fun _ _ _ _ _ _=>by refine us_2 ?_;intros;rfl
 obtain ⟨a25,k25,i25,_,F25⟩:=Hd.see_fun (st:=sCondition_holds) (Hd.eq_at e1 24 rfl rfl)
 have b25:=F25.binds (ps:=["self","card","others"]) fun _ _ _ _ _ _=>by refine us_3 ?_;intros;rfl
 obtain ⟨a26,k26,i26,_,F26⟩:=Hd.see_fun (st:=sCondition_truths) (Hd.eq_at e1 25 rfl rfl)
 have b26:=F26.binds (ps:=["self","cards"]) fun _ _ _ _ _ _=>by refine us_2 ?_;intros;rfl
 obtain ⟨a27,k27,i27,_,F27⟩:=Hd.see_fun (st:=sCondition_tree) (Hd.eq_at e1 26 rfl rfl)
 have b27:=F27.binds (ps:=["self"]) fun _ _ _ _ _ _=>by refine us_1 ?_;intros;rfl
 obtain ⟨a28,k28,i28,_,F28⟩:=Hd.see_fun (st:=sCondition_written) (Hd.eq_at e1 27 rfl rfl)
 have b28:=F28.binds (ps:=["self"]) fun _ _ _ _ _ _=>by refine us_1 ?_;intros;rfl
 obtain ⟨a29,k29,i29,_,F29⟩:=Hd.see_fun (st:=sHasWord_holds) (Hd.eq_at e1 28 rfl rfl)
 have b29:=F29.binds (ps:=["self","card","others"]) fun _ _ _ _ _ _=>by refine us_3 ?_;intros;rfl
 obtain ⟨a30,k30,i30,_,F30⟩:=Hd.see_fun (st:=sHasTitleWord_holds) (Hd.eq_at e1 29 rfl rfl)
 have b30:=F30.binds (ps:=["self","card","others"]) fun _ _ _ _ _ _=>by refine us_3 ?_;intros;rfl
 obtain ⟨a31,k31,i31,_,F31⟩:=Hd.see_fun (st:=sIsFrom_holds) (Hd.eq_at e1 30 rfl rfl)
 have b31:=F31.binds (ps:=["self","card","others"]) fun _ _ _ _ _ _=>by refine us_3 ?_;intros;rfl
 obtain ⟨a32,k32,i32,_,F32⟩:=Hd.see_fun (st:=sIsOfDays_holds) (Hd.eq_at e1 31 rfl rfl)
 have b32:=F32.binds (ps:=["self","card","others"]) fun _ _ _ _ _ _=>by refine us_3 ?_;intros;rfl
 obtain ⟨a33,k33,i33,_,F33⟩:=Hd.see_fun (st:=sIsOfDays_written) (Hd.eq_at e1 32 rfl rfl)
 have b33:=F33.binds (ps:=["self"]) fun _ _ _ _ _ _=>by refine us_1 ?_;intros;rfl
 obtain ⟨a34,k34,i34,_,F34⟩:=Hd.see_fun (st:=sIsIn_holds) (Hd.eq_at e1 33 rfl rfl)
 have b34:=F34.binds (ps:=["self","card","others"]) fun _ _ _ _ _ _=>by refine us_3 ?_;intros;rfl
 obtain ⟨a35,k35,i35,_,F35⟩:=Hd.see_fun (st:=sIsMarked_holds) (Hd.eq_at e1 34 rfl rfl)
 have b35:=F35.binds (ps:=["self","card","others"]) fun _ _ _ _ _ _=>by refine us_3 ?_;intros;rfl
 obtain ⟨a36,k36,i36,_,F36⟩:=Hd.see_fun (st:=sDoesAnswer_holds) (Hd.eq_at e1 35 rfl rfl)
 have b36:=F36.binds (ps:=["self","card","others"]) fun _ _ _ _ _ _=>by refine us_3 ?_;intros;rfl
 obtain ⟨a37,k37,i37,_,F37⟩:=Hd.see_fun (st:=sWrapped_init) (Hd.eq_at e1 36 rfl rfl)
 have b37:=F37.binds (ps:=["self","tree"]) fun _ _ _ _ _ _=>by refine us_2 ?_;intros;rfl
 obtain ⟨a38,k38,i38,_,F38⟩:=Hd.see_fun (st:=sWrapped_written) (Hd.eq_at e1 37 rfl rfl)
 have b38:=F38.binds (ps:=["self"]) fun _ _ _ _ _ _=>by refine us_1 ?_;intros;rfl
 obtain ⟨a39,k39,i39,_,F39⟩:=Hd.see_fun (st:=sNot_holds) (Hd.eq_at e1 38 rfl rfl)
 have b39:=F39.binds (ps:=["self","card","others"]) fun _ _ _ _ _ _=>by refine us_3 ?_;intros;rfl
 obtain ⟨a40,k40,i40,_,F40⟩:=Hd.see_fun (st:=sNot_truths) (Hd.eq_at e1 39 rfl rfl)
 have b40:=F40.binds (ps:=["self","cards"]) fun _ _ _ _ _ _=>by refine us_2 ?_;intros;rfl
 obtain ⟨a41,k41,i41,_,F41⟩:=Hd.see_fun (st:=sInThread_holds) (Hd.eq_at e1 40 rfl rfl)
 have b41:=F41.binds (ps:=["self","card","others"]) fun _ _ _ _ _ _=>by refine us_3 ?_;intros;rfl
 obtain ⟨a42,k42,i42,_,F42⟩:=Hd.see_fun (st:=sInThread_truths) (Hd.eq_at e1 41 rfl rfl)
 have b42:=F42.binds (ps:=["self","cards"]) fun _ _ _ _ _ _=>by refine us_2 ?_;intros;rfl
 obtain ⟨a43,k43,i43,_,F43⟩:=Hd.see_fun (st:=sJoined_init) (Hd.eq_at e1 42 rfl rfl)
 have b43:=F43.binds (ps:=["self","tree"]) fun _ _ _ _ _ _=>by refine us_2 ?_;intros;rfl
 obtain ⟨a44,k44,i44,_,F44⟩:=Hd.see_fun (st:=sJoined_written_with) (Hd.eq_at e1 43 rfl rfl)
 have b44:=F44.binds (ps:=["self","between"]) fun _ _ _ _ _ _=>by refine us_2 ?_;intros;rfl
 obtain ⟨a45,k45,i45,_,F45⟩:=Hd.see_fun (st:=sBoth_holds) (Hd.eq_at e1 44 rfl rfl)
 have b45:=F45.binds (ps:=["self","card","others"]) fun _ _ _ _ _ _=>by refine us_3 ?_;intros;rfl
 obtain ⟨a46,k46,i46,_,F46⟩:=Hd.see_fun (st:=sBoth_truths) (Hd.eq_at e1 45 rfl rfl)
 have b46:=F46.binds (ps:=["self","cards"]) fun _ _ _ _ _ _=>by refine us_2 ?_;intros;rfl
 obtain ⟨a47,k47,i47,_,F47⟩:=Hd.see_fun (st:=sBoth_written) (Hd.eq_at e1 46 rfl rfl)
 have b47:=F47.binds (ps:=["self"]) fun _ _ _ _ _ _=>by refine us_1 ?_;intros;rfl
 obtain ⟨a48,k48,i48,_,F48⟩:=Hd.see_fun (st:=sEither_holds) (Hd.eq_at e1 47 rfl rfl)
 have b48:=F48.binds (ps:=["self","card","others"]) fun _ _ _ _ _ _=>by refine us_3 ?_;intros;rfl
 obtain ⟨a49,k49,i49,_,F49⟩:=Hd.see_fun (st:=sEither_truths) (Hd.eq_at e1 48 rfl rfl)
 have b49:=F49.binds (ps:=["self","cards"]) fun _ _ _ _ _ _=>by refine us_2 ?_;intros;rfl
 obtain ⟨a50,k50,i50,_,F50⟩:=Hd.see_fun (st:=sEither_written) (Hd.eq_at e1 49 rfl rfl)
 have b50:=F50.binds (ps:=["self"]) fun _ _ _ _ _ _=>by refine us_1 ?_;intros;rfl
 obtain ⟨a51,k51,i51,_,F51⟩:=Hd.see_fun (st:=sReader_init) (Hd.eq_at e1 50 rfl rfl)
 have b51:=F51.binds (ps:=["self","text","row"]) fun _ _ _ _ _ _=>by refine us_3 ?_;intros;rfl
 obtain ⟨a52,k52,i52,_,F52⟩:=Hd.see_fun (st:=sReader_ahead) (Hd.eq_at e1 51 rfl rfl)
 have b52:=F52.binds (ps:=["self"]) fun _ _ _ _ _ _=>by refine us_1 ?_;intros;rfl
 obtain ⟨a53,k53,i53,_,F53⟩:=Hd.see_fun (st:=sReader_step) (Hd.eq_at e1 52 rfl rfl)
 have b53:=F53.binds (ps:=["self"]) fun _ _ _ _ _ _=>by refine us_1 ?_;intros;rfl
 obtain ⟨a54,k54,i54,_,F54⟩:=Hd.see_fun (st:=sReader_passes) (Hd.eq_at e1 53 rfl rfl)
 have b54:=F54.binds (ps:=["self","wanted"]) fun _ _ _ _ _ _=>by refine us_2 ?_;intros;rfl
 obtain ⟨a55,k55,i55,_,F55⟩:=Hd.see_fun (st:=sReader_expect) (Hd.eq_at e1 54 rfl rfl)
 have b55:=F55.binds (ps:=["self","wanted"]) fun _ _ _ _ _ _=>by refine us_2 ?_;intros;rfl
 obtain ⟨a56,k56,i56,_,F56⟩:=Hd.see_fun (st:=sReader_read_word) (Hd.eq_at e1 55 rfl rfl)
 have b56:=F56.binds (ps:=["self"]) fun _ _ _ _ _ _=>by refine us_1 ?_;intros;rfl
 obtain ⟨a57,k57,i57,_,F57⟩:=Hd.see_fun (st:=sReader_read_number) (Hd.eq_at e1 56 rfl rfl)
 have b57:=F57.binds (ps:=["self","least","most"]) fun _ _ _ _ _ _=>by refine us_3 ?_;intros;rfl
 obtain ⟨a58,k58,i58,_,F58⟩:=Hd.see_fun (st:=sReader_read_leaf) (Hd.eq_at e1 57 rfl rfl)
 have b58:=F58.binds (ps:=["self","kind"]) fun _ _ _ _ _ _=>by refine us_2 ?_;intros;rfl
 obtain ⟨a59,k59,i59,_,F59⟩:=Hd.see_fun (st:=sReader_checked) (Hd.eq_at e1 58 rfl rfl)
 have b59:=F59.binds (ps:=["self","tree"]) fun _ _ _ _ _ _=>by refine us_2 ?_;intros;rfl
 obtain ⟨a60,k60,i60,_,F60⟩:=Hd.see_fun (st:=sReader_read_single) (Hd.eq_at e1 59 rfl rfl)
 have b60:=F60.binds (ps:=["self","within","threads"]) fun _ _ _ _ _ _=>by refine us_3 ?_;intros;rfl
 obtain ⟨a61,k61,i61,_,F61⟩:=Hd.see_fun (st:=sReader_read_both) (Hd.eq_at e1 60 rfl rfl)
 have b61:=F61.binds (ps:=["self","within","threads"]) fun _ _ _ _ _ _=>by refine us_3 ?_;intros;rfl
 obtain ⟨a62,k62,i62,_,F62⟩:=Hd.see_fun (st:=sReader_read_either) (Hd.eq_at e1 61 rfl rfl)
 have b62:=F62.binds (ps:=["self","within","threads"]) fun _ _ _ _ _ _=>by refine us_3 ?_;intros;rfl
 obtain ⟨a63,k63,i63,_,F63⟩:=Hd.see_fun (st:=sReader_read_whole) (Hd.eq_at e1 62 rfl rfl)
 have b63:=F63.binds (ps:=["self"]) fun _ _ _ _ _ _=>by refine us_1 ?_;intros;rfl
 obtain ⟨a64,k64,i64,_,F64⟩:=Hd.see_fun (st:=sReader_read_act) (Hd.eq_at e1 63 rfl rfl)
 have b64:=F64.binds (ps:=["self"]) fun _ _ _ _ _ _=>by refine us_1 ?_;intros;rfl
 have e:Value.ref fa=.ref (Hd.adOf (Hd.gl K "law")):=Option.some.inj (hfa.symm.trans (PySem.W.mg_of X G a22))
 injection e with e
 subst e
 let A:Adr:={ f_wall:=Hd.adOf (Hd.gl K "_wall"),f_condition_of:=Hd.adOf (Hd.gl K "condition_of"),f_all_among:=Hd.adOf (Hd.gl K "all_among"),f_is_word:=Hd.adOf (Hd.gl K "is_word"),f_pieces_of:=Hd.adOf (Hd.gl K "pieces_of"),f_deep:=Hd.adOf (Hd.gl K "deep"),f_read_condition:=Hd.adOf (Hd.gl K "read_condition"),f_l_cell_at:=Hd.adOf (Hd.gl K "_law_cell_at"),f_l_whole:=Hd.adOf (Hd.gl K "_law_whole"),f_l_mixed:=Hd.adOf (Hd.gl K "_law_mixed"),f_l_word_by:=Hd.adOf (Hd.gl K "_law_word_by"),f_l_leaf_by:=Hd.adOf (Hd.gl K "_law_leaf_by"),f_l_threads:=Hd.adOf (Hd.gl K "_law_threads"),f_l_tree_by:=Hd.adOf (Hd.gl K "_law_tree_by"),f_l_written:=Hd.adOf (Hd.gl K "_law_written"),f_l_refused:=Hd.adOf (Hd.gl K "_law_refused"),f_l_places:=Hd.adOf (Hd.gl K "_law_places"),f_l_odd_word:=Hd.adOf (Hd.gl K "_law_odd_word"),f_l_leaf:=Hd.adOf (Hd.gl K "_law_leaf"),f_l_faulty:=Hd.adOf (Hd.gl K "_law_faulty"),f_l_long:=Hd.adOf (Hd.gl K "_law_long"),f_law:=Hd.adOf (Hd.gl K "law"),f_NoRule_init:=Hd.adOf (PySem.W.findIn K (.ref (Hd.cl K "NoRule")) "__init__"),f_Condition_init:=Hd.adOf (PySem.W.findIn K (.ref (Hd.cl K "Condition")) "__init__"),f_Condition_holds:=Hd.adOf (PySem.W.findIn K (.ref (Hd.cl K "Condition")) "holds"),f_Condition_truths:=Hd.adOf (PySem.W.findIn K (.ref (Hd.cl K "Condition")) "truths"),f_Condition_tree:=Hd.adOf (PySem.W.findIn K (.ref (Hd.cl K "Condition")) "tree"),f_Condition_written:=Hd.adOf (PySem.W.findIn K (.ref (Hd.cl K "Condition")) "written"),f_HasWord_holds:=Hd.adOf (PySem.W.findIn K (.ref (Hd.cl K "HasWord")) "holds"),f_HasTitleWord_holds:=Hd.adOf (PySem.W.findIn K (.ref (Hd.cl K "HasTitleWord")) "holds"),f_IsFrom_holds:=Hd.adOf (PySem.W.findIn K (.ref (Hd.cl K "IsFrom")) "holds"),f_IsOfDays_holds:=Hd.adOf (PySem.W.findIn K (.ref (Hd.cl K "IsOfDays")) "holds"),f_IsOfDays_written:=Hd.adOf (PySem.W.findIn K (.ref (Hd.cl K "IsOfDays")) "written"),f_IsIn_holds:=Hd.adOf (PySem.W.findIn K (.ref (Hd.cl K "IsIn")) "holds"),f_IsMarked_holds:=Hd.adOf (PySem.W.findIn K (.ref (Hd.cl K "IsMarked")) "holds"),f_DoesAnswer_holds:=Hd.adOf (PySem.W.findIn K (.ref (Hd.cl K "DoesAnswer")) "holds"),f_Wrapped_init:=Hd.adOf (PySem.W.findIn K (.ref (Hd.cl K "Wrapped")) "__init__"),f_Wrapped_written:=Hd.adOf (PySem.W.findIn K (.ref (Hd.cl K "Wrapped")) "written"),f_Not_holds:=Hd.adOf (PySem.W.findIn K (.ref (Hd.cl K "Not")) "holds"),f_Not_truths:=Hd.adOf (PySem.W.findIn K (.ref (Hd.cl K "Not")) "truths"),f_InThread_holds:=Hd.adOf (PySem.W.findIn K (.ref (Hd.cl K "InThread")) "holds"),f_InThread_truths:=Hd.adOf (PySem.W.findIn K (.ref (Hd.cl K "InThread")) "truths"),f_Joined_init:=Hd.adOf (PySem.W.findIn K (.ref (Hd.cl K "Joined")) "__init__"),f_Joined_written_with:=Hd.adOf (PySem.W.findIn K (.ref (Hd.cl K "Joined")) "written_with"),f_Both_holds:=Hd.adOf (PySem.W.findIn K (.ref (Hd.cl K "Both")) "holds"),f_Both_truths:=Hd.adOf (PySem.W.findIn K (.ref (Hd.cl K "Both")) "truths"),f_Both_written:=Hd.adOf (PySem.W.findIn K (.ref (Hd.cl K "Both")) "written"),f_Either_holds:=Hd.adOf (PySem.W.findIn K (.ref (Hd.cl K "Either")) "holds"),f_Either_truths:=Hd.adOf (PySem.W.findIn K (.ref (Hd.cl K "Either")) "truths"),f_Either_written:=Hd.adOf (PySem.W.findIn K (.ref (Hd.cl K "Either")) "written"),f_Reader_init:=Hd.adOf (PySem.W.findIn K (.ref (Hd.cl K "Reader")) "__init__"),f_Reader_ahead:=Hd.adOf (PySem.W.findIn K (.ref (Hd.cl K "Reader")) "ahead"),f_Reader_step:=Hd.adOf (PySem.W.findIn K (.ref (Hd.cl K "Reader")) "step"),f_Reader_passes:=Hd.adOf (PySem.W.findIn K (.ref (Hd.cl K "Reader")) "passes"),f_Reader_expect:=Hd.adOf (PySem.W.findIn K (.ref (Hd.cl K "Reader")) "expect"),f_Reader_read_word:=Hd.adOf (PySem.W.findIn K (.ref (Hd.cl K "Reader")) "read_word"),f_Reader_read_number:=Hd.adOf (PySem.W.findIn K (.ref (Hd.cl K "Reader")) "read_number"),f_Reader_read_leaf:=Hd.adOf (PySem.W.findIn K (.ref (Hd.cl K "Reader")) "read_leaf"),f_Reader_checked:=Hd.adOf (PySem.W.findIn K (.ref (Hd.cl K "Reader")) "checked"),f_Reader_read_single:=Hd.adOf (PySem.W.findIn K (.ref (Hd.cl K "Reader")) "read_single"),f_Reader_read_both:=Hd.adOf (PySem.W.findIn K (.ref (Hd.cl K "Reader")) "read_both"),f_Reader_read_either:=Hd.adOf (PySem.W.findIn K (.ref (Hd.cl K "Reader")) "read_either"),f_Reader_read_whole:=Hd.adOf (PySem.W.findIn K (.ref (Hd.cl K "Reader")) "read_whole"),f_Reader_read_act:=Hd.adOf (PySem.W.findIn K (.ref (Hd.cl K "Reader")) "read_act"),C_Condition:=Hd.cl K "Condition",C_Always:=Hd.cl K "Always",C_HasWord:=Hd.cl K "HasWord",C_HasTitleWord:=Hd.cl K "HasTitleWord",C_IsFrom:=Hd.cl K "IsFrom",C_IsOfDays:=Hd.cl K "IsOfDays",C_IsIn:=Hd.cl K "IsIn",C_IsMarked:=Hd.cl K "IsMarked",C_DoesAnswer:=Hd.cl K "DoesAnswer",C_Wrapped:=Hd.cl K "Wrapped",C_Not:=Hd.cl K "Not",C_InThread:=Hd.cl K "InThread",C_Joined:=Hd.cl K "Joined",C_Both:=Hd.cl K "Both",C_Either:=Hd.cl K "Either",C_Reader:=Hd.cl K "Reader",C_MailError:=Hd.cl K "MailError",C_NoRule:=Hd.cl K "NoRule",C_NoWord:=Hd.cl K "NoWord",C_NoLetter:=Hd.cl K "NoLetter",C_NoName:=Hd.cl K "NoName",C_NoParcel:=Hd.cl K "NoParcel",C_NoRow:=Hd.cl K "NoRow" }
 have T:Txt K mg A:=⟨PySem.W.mg_of X G a1,
  PySem.W.mg_of X G a2,
  PySem.W.mg_of X G a3,
  PySem.W.mg_of X G a4,
  PySem.W.mg_of X G a5,
  PySem.W.mg_of X G a6,
  PySem.W.mg_of X G a7,
  PySem.W.mg_of X G a8,
  PySem.W.mg_of X G a9,
  PySem.W.mg_of X G a10,
  PySem.W.mg_of X G a11,
  PySem.W.mg_of X G a12,
  PySem.W.mg_of X G a13,
  PySem.W.mg_of X G a14,
  PySem.W.mg_of X G a15,
  PySem.W.mg_of X G a16,
  PySem.W.mg_of X G a17,
  PySem.W.mg_of X G a18,
  PySem.W.mg_of X G a19,
  PySem.W.mg_of X G a20,
  PySem.W.mg_of X G a21,
  PySem.W.mg_of X G a22,
  Hd.const_at X G (of_decide_eq_true (Hd.all_at e2 23 rfl)),
  Hd.const_at X G (of_decide_eq_true (Hd.all_at e2 24 rfl)),
  Hd.const_at X G (of_decide_eq_true (Hd.all_at e2 25 rfl)),
  Hd.const_at X G (of_decide_eq_true (Hd.all_at e2 26 rfl)),
  Hd.const_at X G (of_decide_eq_true (Hd.all_at e2 27 rfl)),
  Hd.const_at X G (of_decide_eq_true (Hd.all_at e2 28 rfl)),
  Hd.const_at X G (of_decide_eq_true (Hd.all_at e2 29 rfl)),
  Hd.const_at X G (of_decide_eq_true (Hd.all_at e2 30 rfl)),
  Hd.const_at X G (of_decide_eq_true (Hd.all_at e2 31 rfl)),
  Hd.tup_at X G (Hd.all_at e2 32 rfl),
  Hd.tup_at X G (Hd.all_at e2 33 rfl),
  Hd.tup_at X G (Hd.all_at e2 34 rfl),
  PySem.W.mg_none_of X G (of_decide_eq_true (Hd.all_at e2 238 rfl)),
  PySem.W.mg_none_of X G (of_decide_eq_true (Hd.all_at e2 239 rfl)),
  PySem.W.mg_none_of X G (of_decide_eq_true (Hd.all_at e2 240 rfl)),
  PySem.W.mg_none_of X G (of_decide_eq_true (Hd.all_at e2 241 rfl)),
  PySem.W.mg_none_of X G (of_decide_eq_true (Hd.all_at e2 242 rfl)),
  PySem.W.mg_none_of X G (of_decide_eq_true (Hd.all_at e2 243 rfl)),
  PySem.W.mg_none_of X G (of_decide_eq_true (Hd.all_at e2 244 rfl)),
  PySem.W.mg_none_of X G (of_decide_eq_true (Hd.all_at e2 245 rfl)),
  PySem.W.mg_none_of X G (of_decide_eq_true (Hd.all_at e2 246 rfl)),
  PySem.W.mg_none_of X G (of_decide_eq_true (Hd.all_at e2 247 rfl)),
  PySem.W.mg_of X G (of_decide_eq_true (Hd.all_at e2 0 rfl)),
  ⟨(Hd.all_at e2 35 rfl),(Hd.all_at e2 36 rfl),(Hd.all_at e2 37 rfl),(of_decide_eq_true (Hd.all_at e2 38 rfl))⟩,
  ⟨(Hd.all_at e2 40 rfl),a24,i24,(Hd.all_at e2 39 rfl)⟩,
  ⟨a25,i25,k25⟩,
  ⟨a26,i26,k26⟩,
  ⟨a27,i27,k27⟩,
  ⟨a28,i28,k28⟩,
  (Hd.no_at (Hd.all_at e2 41 rfl)),
  PySem.W.mg_of X G (of_decide_eq_true (Hd.all_at e2 1 rfl)),
  ⟨(Hd.all_at e2 42 rfl),(Hd.all_at e2 43 rfl),(Hd.all_at e2 44 rfl),(of_decide_eq_true (Hd.all_at e2 45 rfl))⟩,
  ⟨(Hd.all_at e2 47 rfl),((of_decide_eq_true (Hd.all_at e2 48 rfl)).trans a24),i24,(Hd.all_at e2 46 rfl)⟩,
  ⟨((of_decide_eq_true (Hd.all_at e2 49 rfl)).trans a25),i25,k25⟩,
  ⟨((of_decide_eq_true (Hd.all_at e2 50 rfl)).trans a26),i26,k26⟩,
  ⟨((of_decide_eq_true (Hd.all_at e2 51 rfl)).trans a27),i27,k27⟩,
  ⟨((of_decide_eq_true (Hd.all_at e2 52 rfl)).trans a28),i28,k28⟩,
  (Hd.no_at (Hd.all_at e2 53 rfl)),
  PySem.W.mg_of X G (of_decide_eq_true (Hd.all_at e2 2 rfl)),
  ⟨(Hd.all_at e2 54 rfl),(Hd.all_at e2 55 rfl),(Hd.all_at e2 56 rfl),(of_decide_eq_true (Hd.all_at e2 57 rfl))⟩,
  ⟨(Hd.all_at e2 59 rfl),((of_decide_eq_true (Hd.all_at e2 60 rfl)).trans a24),i24,(Hd.all_at e2 58 rfl)⟩,
  ⟨a29,i29,k29⟩,
  ⟨((of_decide_eq_true (Hd.all_at e2 61 rfl)).trans a26),i26,k26⟩,
  ⟨((of_decide_eq_true (Hd.all_at e2 62 rfl)).trans a27),i27,k27⟩,
  ⟨((of_decide_eq_true (Hd.all_at e2 63 rfl)).trans a28),i28,k28⟩,
  (Hd.no_at (Hd.all_at e2 64 rfl)),
  PySem.W.mg_of X G (of_decide_eq_true (Hd.all_at e2 3 rfl)),
  ⟨(Hd.all_at e2 65 rfl),(Hd.all_at e2 66 rfl),(Hd.all_at e2 67 rfl),(of_decide_eq_true (Hd.all_at e2 68 rfl))⟩,
  ⟨(Hd.all_at e2 70 rfl),((of_decide_eq_true (Hd.all_at e2 71 rfl)).trans a24),i24,(Hd.all_at e2 69 rfl)⟩,
  ⟨a30,i30,k30⟩,
  ⟨((of_decide_eq_true (Hd.all_at e2 72 rfl)).trans a26),i26,k26⟩,
  ⟨((of_decide_eq_true (Hd.all_at e2 73 rfl)).trans a27),i27,k27⟩,
  ⟨((of_decide_eq_true (Hd.all_at e2 74 rfl)).trans a28),i28,k28⟩,
  (Hd.no_at (Hd.all_at e2 75 rfl)),
  PySem.W.mg_of X G (of_decide_eq_true (Hd.all_at e2 4 rfl)),
  ⟨(Hd.all_at e2 76 rfl),(Hd.all_at e2 77 rfl),(Hd.all_at e2 78 rfl),(of_decide_eq_true (Hd.all_at e2 79 rfl))⟩,
  ⟨(Hd.all_at e2 81 rfl),((of_decide_eq_true (Hd.all_at e2 82 rfl)).trans a24),i24,(Hd.all_at e2 80 rfl)⟩,
  ⟨a31,i31,k31⟩,
  ⟨((of_decide_eq_true (Hd.all_at e2 83 rfl)).trans a26),i26,k26⟩,
  ⟨((of_decide_eq_true (Hd.all_at e2 84 rfl)).trans a27),i27,k27⟩,
  ⟨((of_decide_eq_true (Hd.all_at e2 85 rfl)).trans a28),i28,k28⟩,
  (Hd.no_at (Hd.all_at e2 86 rfl)),
  PySem.W.mg_of X G (of_decide_eq_true (Hd.all_at e2 5 rfl)),
  ⟨(Hd.all_at e2 87 rfl),(Hd.all_at e2 88 rfl),(Hd.all_at e2 89 rfl),(of_decide_eq_true (Hd.all_at e2 90 rfl))⟩,
  ⟨(Hd.all_at e2 92 rfl),((of_decide_eq_true (Hd.all_at e2 93 rfl)).trans a24),i24,(Hd.all_at e2 91 rfl)⟩,
  ⟨a32,i32,k32⟩,
  ⟨((of_decide_eq_true (Hd.all_at e2 94 rfl)).trans a26),i26,k26⟩,
  ⟨((of_decide_eq_true (Hd.all_at e2 95 rfl)).trans a27),i27,k27⟩,
  ⟨a33,i33,k33⟩,
  (Hd.no_at (Hd.all_at e2 96 rfl)),
  PySem.W.mg_of X G (of_decide_eq_true (Hd.all_at e2 6 rfl)),
  ⟨(Hd.all_at e2 97 rfl),(Hd.all_at e2 98 rfl),(Hd.all_at e2 99 rfl),(of_decide_eq_true (Hd.all_at e2 100 rfl))⟩,
  ⟨(Hd.all_at e2 102 rfl),((of_decide_eq_true (Hd.all_at e2 103 rfl)).trans a24),i24,(Hd.all_at e2 101 rfl)⟩,
  ⟨a34,i34,k34⟩,
  ⟨((of_decide_eq_true (Hd.all_at e2 104 rfl)).trans a26),i26,k26⟩,
  ⟨((of_decide_eq_true (Hd.all_at e2 105 rfl)).trans a27),i27,k27⟩,
  ⟨((of_decide_eq_true (Hd.all_at e2 106 rfl)).trans a28),i28,k28⟩,
  (Hd.no_at (Hd.all_at e2 107 rfl)),
  PySem.W.mg_of X G (of_decide_eq_true (Hd.all_at e2 7 rfl)),
  ⟨(Hd.all_at e2 108 rfl),(Hd.all_at e2 109 rfl),(Hd.all_at e2 110 rfl),(of_decide_eq_true (Hd.all_at e2 111 rfl))⟩,
  ⟨(Hd.all_at e2 113 rfl),((of_decide_eq_true (Hd.all_at e2 114 rfl)).trans a24),i24,(Hd.all_at e2 112 rfl)⟩,
  ⟨a35,i35,k35⟩,
  ⟨((of_decide_eq_true (Hd.all_at e2 115 rfl)).trans a26),i26,k26⟩,
  ⟨((of_decide_eq_true (Hd.all_at e2 116 rfl)).trans a27),i27,k27⟩,
  ⟨((of_decide_eq_true (Hd.all_at e2 117 rfl)).trans a28),i28,k28⟩,
  (Hd.no_at (Hd.all_at e2 118 rfl)),
  PySem.W.mg_of X G (of_decide_eq_true (Hd.all_at e2 8 rfl)),
  ⟨(Hd.all_at e2 119 rfl),(Hd.all_at e2 120 rfl),(Hd.all_at e2 121 rfl),(of_decide_eq_true (Hd.all_at e2 122 rfl))⟩,
  ⟨(Hd.all_at e2 124 rfl),((of_decide_eq_true (Hd.all_at e2 125 rfl)).trans a24),i24,(Hd.all_at e2 123 rfl)⟩,
  ⟨a36,i36,k36⟩,
  ⟨((of_decide_eq_true (Hd.all_at e2 126 rfl)).trans a26),i26,k26⟩,
  ⟨((of_decide_eq_true (Hd.all_at e2 127 rfl)).trans a27),i27,k27⟩,
  ⟨((of_decide_eq_true (Hd.all_at e2 128 rfl)).trans a28),i28,k28⟩,
  (Hd.no_at (Hd.all_at e2 129 rfl)),
  PySem.W.mg_of X G (of_decide_eq_true (Hd.all_at e2 9 rfl)),
  ⟨(Hd.all_at e2 130 rfl),(Hd.all_at e2 131 rfl),(Hd.all_at e2 132 rfl),(of_decide_eq_true (Hd.all_at e2 133 rfl))⟩,
  ⟨(Hd.all_at e2 135 rfl),a37,i37,(Hd.all_at e2 134 rfl)⟩,
  ⟨((of_decide_eq_true (Hd.all_at e2 136 rfl)).trans a25),i25,k25⟩,
  ⟨((of_decide_eq_true (Hd.all_at e2 137 rfl)).trans a26),i26,k26⟩,
  ⟨((of_decide_eq_true (Hd.all_at e2 138 rfl)).trans a27),i27,k27⟩,
  ⟨a38,i38,k38⟩,
  (Hd.no_at (Hd.all_at e2 139 rfl)),
  (Hd.no_at (Hd.all_at e2 140 rfl)),
  PySem.W.mg_of X G (of_decide_eq_true (Hd.all_at e2 10 rfl)),
  ⟨(Hd.all_at e2 141 rfl),(Hd.all_at e2 142 rfl),(Hd.all_at e2 143 rfl),(of_decide_eq_true (Hd.all_at e2 144 rfl))⟩,
  ⟨(Hd.all_at e2 146 rfl),((of_decide_eq_true (Hd.all_at e2 147 rfl)).trans a37),i37,(Hd.all_at e2 145 rfl)⟩,
  ⟨a39,i39,k39⟩,
  ⟨a40,i40,k40⟩,
  ⟨((of_decide_eq_true (Hd.all_at e2 148 rfl)).trans a27),i27,k27⟩,
  ⟨((of_decide_eq_true (Hd.all_at e2 149 rfl)).trans a38),i38,k38⟩,
  (Hd.no_at (Hd.all_at e2 150 rfl)),
  (Hd.no_at (Hd.all_at e2 151 rfl)),
  PySem.W.mg_of X G (of_decide_eq_true (Hd.all_at e2 11 rfl)),
  ⟨(Hd.all_at e2 152 rfl),(Hd.all_at e2 153 rfl),(Hd.all_at e2 154 rfl),(of_decide_eq_true (Hd.all_at e2 155 rfl))⟩,
  ⟨(Hd.all_at e2 157 rfl),((of_decide_eq_true (Hd.all_at e2 158 rfl)).trans a37),i37,(Hd.all_at e2 156 rfl)⟩,
  ⟨a41,i41,k41⟩,
  ⟨a42,i42,k42⟩,
  ⟨((of_decide_eq_true (Hd.all_at e2 159 rfl)).trans a27),i27,k27⟩,
  ⟨((of_decide_eq_true (Hd.all_at e2 160 rfl)).trans a38),i38,k38⟩,
  (Hd.no_at (Hd.all_at e2 161 rfl)),
  (Hd.no_at (Hd.all_at e2 162 rfl)),
  PySem.W.mg_of X G (of_decide_eq_true (Hd.all_at e2 12 rfl)),
  ⟨(Hd.all_at e2 163 rfl),(Hd.all_at e2 164 rfl),(Hd.all_at e2 165 rfl),(of_decide_eq_true (Hd.all_at e2 166 rfl))⟩,
  ⟨(Hd.all_at e2 168 rfl),a43,i43,(Hd.all_at e2 167 rfl)⟩,
  ⟨((of_decide_eq_true (Hd.all_at e2 169 rfl)).trans a25),i25,k25⟩,
  ⟨((of_decide_eq_true (Hd.all_at e2 170 rfl)).trans a26),i26,k26⟩,
  ⟨((of_decide_eq_true (Hd.all_at e2 171 rfl)).trans a27),i27,k27⟩,
  ⟨((of_decide_eq_true (Hd.all_at e2 172 rfl)).trans a28),i28,k28⟩,
  ⟨a44,i44,k44⟩,
  (Hd.no_at (Hd.all_at e2 173 rfl)),
  (Hd.no_at (Hd.all_at e2 174 rfl)),
  (Hd.no_at (Hd.all_at e2 175 rfl)),
  PySem.W.mg_of X G (of_decide_eq_true (Hd.all_at e2 13 rfl)),
  ⟨(Hd.all_at e2 176 rfl),(Hd.all_at e2 177 rfl),(Hd.all_at e2 178 rfl),(of_decide_eq_true (Hd.all_at e2 179 rfl))⟩,
  ⟨(Hd.all_at e2 181 rfl),((of_decide_eq_true (Hd.all_at e2 182 rfl)).trans a43),i43,(Hd.all_at e2 180 rfl)⟩,
  ⟨a45,i45,k45⟩,
  ⟨a46,i46,k46⟩,
  ⟨((of_decide_eq_true (Hd.all_at e2 183 rfl)).trans a27),i27,k27⟩,
  ⟨a47,i47,k47⟩,
  ⟨((of_decide_eq_true (Hd.all_at e2 184 rfl)).trans a44),i44,k44⟩,
  (Hd.no_at (Hd.all_at e2 185 rfl)),
  (Hd.no_at (Hd.all_at e2 186 rfl)),
  (Hd.no_at (Hd.all_at e2 187 rfl)),
  PySem.W.mg_of X G (of_decide_eq_true (Hd.all_at e2 14 rfl)),
  ⟨(Hd.all_at e2 188 rfl),(Hd.all_at e2 189 rfl),(Hd.all_at e2 190 rfl),(of_decide_eq_true (Hd.all_at e2 191 rfl))⟩,
  ⟨(Hd.all_at e2 193 rfl),((of_decide_eq_true (Hd.all_at e2 194 rfl)).trans a43),i43,(Hd.all_at e2 192 rfl)⟩,
  ⟨a48,i48,k48⟩,
  ⟨a49,i49,k49⟩,
  ⟨((of_decide_eq_true (Hd.all_at e2 195 rfl)).trans a27),i27,k27⟩,
  ⟨a50,i50,k50⟩,
  ⟨((of_decide_eq_true (Hd.all_at e2 196 rfl)).trans a44),i44,k44⟩,
  (Hd.no_at (Hd.all_at e2 197 rfl)),
  (Hd.no_at (Hd.all_at e2 198 rfl)),
  (Hd.no_at (Hd.all_at e2 199 rfl)),
  PySem.W.mg_of X G (of_decide_eq_true (Hd.all_at e2 15 rfl)),
  ⟨(Hd.all_at e2 200 rfl),(Hd.all_at e2 201 rfl),(Hd.all_at e2 202 rfl),(of_decide_eq_true (Hd.all_at e2 203 rfl))⟩,
  ⟨(Hd.all_at e2 205 rfl),a51,i51,(Hd.all_at e2 204 rfl)⟩,
  ⟨a52,i52,k52⟩,
  ⟨a53,i53,k53⟩,
  ⟨a54,i54,k54⟩,
  ⟨a55,i55,k55⟩,
  ⟨a56,i56,k56⟩,
  ⟨a57,i57,k57⟩,
  ⟨a58,i58,k58⟩,
  ⟨a59,i59,k59⟩,
  ⟨a60,i60,k60⟩,
  ⟨a61,i61,k61⟩,
  ⟨a62,i62,k62⟩,
  ⟨a63,i63,k63⟩,
  ⟨a64,i64,k64⟩,
  (Hd.no_at (Hd.all_at e2 206 rfl)),
  (Hd.no_at (Hd.all_at e2 207 rfl)),
  (Hd.no_at (Hd.all_at e2 208 rfl)),
  ⟨(of_decide_eq_true (Hd.all_at e2 209 rfl)),(Hd.all_at e2 210 rfl),Hd.isVal_of (Hd.all_at e2 211 rfl),rfl,k24⟩,
  PySem.W.mg_of X G (of_decide_eq_true (Hd.all_at e2 16 rfl)),
  ⟨(Hd.all_at e2 212 rfl)⟩,
  PySem.W.mg_of X G (of_decide_eq_true (Hd.all_at e2 17 rfl)),
  ⟨(Hd.all_at e2 213 rfl)⟩,
  ⟨a23,i23,k23⟩,
  (Hd.all_at e2 214 rfl),
  ⟨(of_decide_eq_true (Hd.all_at e2 215 rfl)),(Hd.all_at e2 216 rfl),(of_decide_eq_true (Hd.all_at e2 218 rfl)),(Hd.all_at e2 217 rfl)⟩,
  SubX.of (Hd.all_at e2 219 rfl),
  ⟨(of_decide_eq_true (Hd.all_at e2 220 rfl)),(Hd.all_at e2 221 rfl),Hd.isVal_of (Hd.all_at e2 222 rfl)⟩,
  PySem.W.mg_of X G (of_decide_eq_true (Hd.all_at e2 18 rfl)),
  PySem.W.mg_of X G (of_decide_eq_true (Hd.all_at e2 19 rfl)),
  PySem.W.mg_of X G (of_decide_eq_true (Hd.all_at e2 20 rfl)),
  PySem.W.mg_of X G (of_decide_eq_true (Hd.all_at e2 21 rfl)),
  PySem.W.mg_of X G (of_decide_eq_true (Hd.all_at e2 22 rfl)),
  ⟨(of_decide_eq_true (Hd.all_at e2 225 rfl)),(of_decide_eq_true (Hd.all_at e2 226 rfl)),(Hd.all_at e2 227 rfl),(of_decide_eq_true (Hd.all_at e2 228 rfl)),(of_decide_eq_true (Hd.all_at e2 223 rfl)),(of_decide_eq_true (Hd.all_at e2 224 rfl)),(of_decide_eq_true (Hd.all_at e2 229 rfl)),(of_decide_eq_true (Hd.all_at e2 230 rfl))⟩,
  (of_decide_eq_true (Hd.all_at e2 231 rfl)),
  (of_decide_eq_true (Hd.all_at e2 232 rfl)),
  (of_decide_eq_true (Hd.all_at e2 233 rfl)),
  (of_decide_eq_true (Hd.all_at e2 234 rfl)),
  (of_decide_eq_true (Hd.all_at e2 235 rfl)),
  (of_decide_eq_true (Hd.all_at e2 236 rfl)),
  (of_decide_eq_true (Hd.all_at e2 237 rfl)),
  PySem.W.mg_none_of X G (of_decide_eq_true (Hd.all_at e2 248 rfl)),
  trivial⟩
 have FF:Funs K A:=⟨⟨_,F1,b1⟩,⟨_,F2,b2⟩,⟨_,F3,b3⟩,⟨_,F4,b4⟩,⟨_,F5,b5⟩,⟨_,F6,b6⟩,⟨_,F7,b7⟩,⟨_,F8,b8⟩,⟨_,F9,b9⟩,⟨_,F10,b10⟩,⟨_,F11,b11⟩,⟨_,F12,b12⟩,⟨_,F13,b13⟩,⟨_,F14,b14⟩,⟨_,F15,b15⟩,⟨_,F16,b16⟩,⟨_,F17,b17⟩,⟨_,F18,b18⟩,⟨_,F19,b19⟩,⟨_,F20,b20⟩,⟨_,F21,b21⟩,⟨_,F22,b22⟩,⟨_,F23,b23_2,⟨_,(.cons (Hd.bare_rel rd23_0) (.cons (Hd.bare_rel rd23_1) .nil)),b23_0⟩,⟨_,(.cons (Hd.bare_rel rd23_1) .nil),b23_1⟩⟩,⟨_,F24,b24⟩,⟨_,F25,b25⟩,⟨_,F26,b26⟩,⟨_,F27,b27⟩,⟨_,F28,b28⟩,⟨_,F29,b29⟩,⟨_,F30,b30⟩,⟨_,F31,b31⟩,⟨_,F32,b32⟩,⟨_,F33,b33⟩,⟨_,F34,b34⟩,⟨_,F35,b35⟩,⟨_,F36,b36⟩,⟨_,F37,b37⟩,⟨_,F38,b38⟩,⟨_,F39,b39⟩,⟨_,F40,b40⟩,⟨_,F41,b41⟩,⟨_,F42,b42⟩,⟨_,F43,b43⟩,⟨_,F44,b44⟩,⟨_,F45,b45⟩,⟨_,F46,b46⟩,⟨_,F47,b47⟩,⟨_,F48,b48⟩,⟨_,F49,b49⟩,⟨_,F50,b50⟩,⟨_,F51,b51⟩,⟨_,F52,b52⟩,⟨_,F53,b53⟩,⟨_,F54,b54⟩,⟨_,F55,b55⟩,⟨_,F56,b56⟩,⟨_,F57,b57⟩,⟨_,F58,b58⟩,⟨_,F59,b59⟩,⟨_,F60,b60⟩,⟨_,F61,b61⟩,⟨_,F62,b62⟩,⟨_,F63,b63⟩,⟨_,F64,b64⟩⟩
 obtain ⟨_,_,kV,doc,pm,an,cdv,ct,_,rfl,_,_⟩:=F22.ex
 exact ⟨_,fun s v=>.of_eq rfl,fun base _ _=>ok_law F22 T FF⟩
abbrev PP:Program:=PySem.Challenge.pw_mailroom_k15_conditions_refused
def loose:List Str:=(["_wall","MailError","NoWord","NoLetter","NoRule","NoName","NoParcel","NoRow","Condition","Always","HasWord","HasTitleWord","IsFrom","IsOfDays","IsIn","IsMarked","DoesAnswer","Wrapped","Not","InThread","Joined","Both","Either","condition_of","FIGURES","WORD_SIGNS","MOST_WORD","all_among","is_word","LAST_DAY","DAY_FIGURES","MOST_DEEP","MOST_WITHIN","MOST_THREADS","BARE","WORDED","OPENING","END","pieces_of","deep","Reader","read_condition","_law_cell_at","_law_whole","_law_mixed","_law_word_by","_law_text_by","_law_parts_by","_law_card_by","_law_leaf_by","_law_threads","_law_tree_by","_law_written","_law_refused","_law_places","_law_odd_word","_law_leaf","_law_faulty","_law_long"]:List String).map Str.ofString
theorem seen (w:World) (os:OsState):(Hd.runT (Hd.stepQ Hd.denQ PP w) (Hd.okQ 11 (some (.ref 6))) 20000 (Hd.S0 w os) (PySem.W.topStub PP)).map (fun s=>(Hd.chk PP w.params s.abs,Hd.seenQ (PySem.W.view PP [64]) loose (PySem.importedModules PP.main.body) (fun s=>PySem.W.recOk [] s) true s.abs,obs (Hd.fragT s)))=some (true,PySem.W.openGood (PySem.W.view PP [64]) loose,good):=by kernel_rfl
theorem look:PySem.W.Fast.tw9446332074065402090 PySem.Challenge.rw_mailroom_k15_conditions_refused=true:=by kernel_rfl
theorem opens:PySem.W.opening PP=PySem.W.plainProg PP.main.scope.names:=by kernel_rfl
theorem fence (s:Shared):fenceModules? PP s=some s:=by kernel_rfl
end K15
open PySem PySem.W PyProof.Rows
set_option maxRecDepth 100000 in
set_option maxHeartbeats 0 in
theorem PySem.Challenge.cw_mailroom_k15_conditions_refused_holds : PySem.Challenge.rw_mailroom_k15_conditions_refused.Holds := by
 refine Hd.close (q:=view K15.PP [64]) (loose:=K15.loose) (N:=20000) (obs:=K15.obs) (good:=K15.good) K15.look K15.opens rfl K15.fence K15.seen rfl rfl rfl rfl (by decide +kernel) ⟨rfl,rfl,rfl,rfl,rfl,by decide +kernel⟩ ?hw ?hc
 case hw=>w_witness2
 case hc=>exact Hd.walk (n:=63) (k:=220) (x:="_law_script") (sp:=K15.spLaw) rfl (by decide) rfl ⟨rfl,by decide,by decide,rfl⟩ (fun w K mg fa h KX y G hmg=>K15.all_mk KX y G hmg) (fun _ _ a ns hl _ hS=>⟨a,ns,rfl,hS,hl,fun _=>rfl⟩)
#print axioms PySem.Challenge.cw_mailroom_k15_conditions_refused_holds
