import PyProof.Rows.All
import Wide.All
import OpenK.AllK
import Wide.FinOn
import Lean
import PyProof.EqAt
import PyProof.EqKinds
import PyProof.TupleCall
import PyProof.P3In
import KE.KDictLaws
import PyProof.Rows.SetFrom
import KE.KRevSl
import KE.KIntText
import KE.KLcPair
import KE.KIsAll
import PyProof.ExcArgsOwn
import PyProof.ExcAttrAll.ValueError
import PyProof.NsDelKeeps
import PyProof.Rows.CountFlat
import KE.RegKIsAll
import PyProof.WalksMore
import PyProof.FString5
import KE.KListMore
import PyProof.ZipIter
import PyProof.FString
import PySem.Challenge.RW_mailroom_k16_rules_run
noncomputable section
set_option Elab.async false
set_option linter.all false
set_option maxRecDepth 100000
namespace L2
open PySem PySem.Spec PyProof.Rows
abbrev Key:=Sum Int Str
def KB:Key→Value→Bool
 | .inl k,v=>Value.isInt k v
 | .inr x,v=>Value.isStrOf x v
def keyH (w:World):Key→Int
 | .inl k=>hashInt k
 | .inr x=>hashStr w x
theorem Zm:∀{k:Key} {v:Value},KB k v=true→(∃i t,k=Sum.inl i∧v=Value.int i t)∨(∃x t,k=Sum.inr x∧v=Value.str x t)
 | .inl i,v,h=>by
   obtain ⟨t,e⟩:=Value.isInt_shape (k:=i) (v:=v) h
   exact .inl ⟨i,t,rfl,e⟩
 | .inr x,v,h=>by
   obtain ⟨t,e⟩:=Value.isStrOf_shape (x:=x) (v:=v) h
   exact .inr ⟨x,t,rfl,e⟩
theorem Qd9 (i:Int) (t:Tok):KB (.inl i) (.int i t)=true:=by simp [KB,Value.isInt]
theorem Qd8 (x:Str) (t:Tok):KB (.inr x) (.str x t)=true:=by simp [KB,Value.isStrOf]
theorem QiI (a b:Int):decide ((Sum.inl a:Key)=Sum.inl b)=(a == b):=by
 by_cases e:a=b
 ·subst e;simp
 ·have h:¬(Sum.inl a:Key)=Sum.inl b:=fun q=>e (Sum.inl.inj q)
  rw [decide_eq_false h]
  exact (beq_eq_false_iff_ne.mpr e).symm
theorem QiF (a b:Str):decide ((Sum.inr a:Key)=Sum.inr b)=decide (a=b):=by
 by_cases e:a=b
 ·subst e;simp
 ·have h:¬(Sum.inr a:Key)=Sum.inr b:=fun q=>e (Sum.inr.inj q)
  rw [decide_eq_false h,decide_eq_false e]
theorem QiH (a:Int) (b:Str):decide ((Sum.inl a:Key)=Sum.inr b)=false:=decide_eq_false (fun q=>nomatch q)
theorem QiG (a:Str) (b:Int):decide ((Sum.inr a:Key)=Sum.inl b)=false:=decide_eq_false (fun q=>nomatch q)
def Za (prog:Program) (w:World):PySem.KeyKind prog w Key where
 is:=KB
 hash:=keyH w
 inj:=fun v a b ha hb=>by
  rcases Zm ha with ⟨i,t,rfl,rfl⟩ | ⟨x,t,rfl,rfl⟩
  ·rcases Zm hb with ⟨j,u,rfl,e⟩ | ⟨y,u,rfl,e⟩
   ·injection e with e1 _;rw [e1]
   ·exact nomatch e
  ·rcases Zm hb with ⟨j,u,rfl,e⟩ | ⟨y,u,rfl,e⟩
   ·exact nomatch e
   ·injection e with e1 _;rw [e1]
 byValue:=fun k v h=>by
  rcases Zm h with ⟨i,t,rfl,rfl⟩ | ⟨x,t,rfl,rfl⟩ <;> rfl
 pyHash:=fun hv h=>by
  rcases Zm hv with ⟨i,t,rfl,rfl⟩ | ⟨x,t,rfl,rfl⟩
  ·exact wpAny_pyHash_int h
  ·exact wpAny_pyHash_str h
 eqBool:=fun hu hv h=>by
  rcases Zm hu with ⟨i,t,rfl,rfl⟩ | ⟨x,t,rfl,rfl⟩
  ·rcases Zm hv with ⟨j,u,rfl,rfl⟩ | ⟨y,u,rfl,rfl⟩
   ·rw [QiI] at h;exact wpAny_eqBool_int h
   ·rw [QiH] at h;exact SeqAt.EqAt.int_str i t y u _ _ _ _ h
  ·rcases Zm hv with ⟨j,u,rfl,rfl⟩ | ⟨y,u,rfl,rfl⟩
   ·rw [QiG] at h;exact SeqAt.EqAt.str_int x t j u _ _ _ _ h
   ·rw [QiF] at h;exact wpAny_eqBool_str h
 «strs»:=fun k x t v h=>by
  rcases Zm h with ⟨i,u,rfl,e⟩ | ⟨y,u,rfl,e⟩
  ·exact nomatch e
  ·injection e with e1 _
   subst e1
   cases v <;> rfl
theorem Qbz (prog:Program) (w:World) (i:Int) (t:Tok):(Za prog w).is (.inl i) (.int i t)=true:=Qd9 i t
theorem Qby (prog:Program) (w:World) (x:Str) (t:Tok):(Za prog w).is (.inr x) (.str x t)=true:=Qd8 x t
end L2
namespace L2
open PySem PySem.Spec PyProof.Rows
inductive V where
 | non | bl (b:Bool) | int (i:Int) | str (x:Str) | byt (b:Array UInt8) | flt (b:UInt64) | ref (a:Addr) | ty (n:String)
 deriving DecidableEq
def QQ:V→Value→Prop
 | .non,u=>u=Value.none
 | .bl b,u=>u=Value.bool b
 | .int i,u=>∃t,u=Value.int i t
 | .str x,u=>∃t,u=Value.str x t
 | .byt b,u=>∃t,u=Value.bytes b t
 | .flt b,u=>∃t,u=Value.float b t
 | .ref a,u=>u=Value.ref a
 | .ty n,u=>u=Value.type n
abbrev QW:List V→List Value→Prop:=Paired QQ
theorem QW.length {xs:List V} {us:List Value} (r:QW xs us):xs.length=us.length:=Paired.length r
theorem QW.get:∀{xs:List V} {us:List Value} {i:Nat} {x:V},QW xs us→xs[i]?=some x→∃u,us[i]?=some u∧QQ x u
 | _,_,_,_,.nil,e=>by simp at e
 | _,_,0,_,.cons r _,e=>by simp at e;subst e;exact ⟨_,rfl,r⟩
 | _,_,i+1,x,.cons _ t,e=>by
   obtain ⟨u,h1,h2⟩:=QW.get (i:=i) (x:=x) t (by simpa using e)
   exact ⟨u,by simpa using h1,h2⟩
theorem QW.append:∀{xs ys:List V} {us ws:List Value},QW xs us→QW ys ws→QW (xs++ys) (us++ws)
 | _,_,_,_,.nil,s=>s
 | _,_,_,_,.cons r t,s=>.cons r (QW.append t s)
theorem QW.take:∀{xs:List V} {us:List Value} (n:Nat),QW xs us→QW (xs.take n) (us.take n)
 | _,_,0,_=>.nil
 | _,_,_+1,.nil=>.nil
 | _,_,n+1,.cons r t=>.cons r (QW.take n t)
theorem QW.drop:∀{xs:List V} {us:List Value} (n:Nat),QW xs us→QW (xs.drop n) (us.drop n)
 | _,_,0,r=>r
 | _,_,_+1,.nil=>.nil
 | _,_,n+1,.cons _ t=>QW.drop n t
def Y9:Option V→Option Value→Prop
 | some v,some u=>QQ v u
 | none,none=>True
 | _,_=>False
def KV {κ:Type}:List (κ×V)→List (κ×Value)→Prop:=Paired fun (p:κ×V) (q:κ×Value)=>p.1=q.1∧QQ p.2 q.2
def kV:Key→V
 | .inl i=>.int i
 | .inr x=>.str x
inductive HO where
 | lst (xs:List V)
 | tup (xs:List V)
 | dK (kvs:List (Key×V)) | dT (kvs:List (List Key×V))
 | set (S:Int→Bool) (n:Nat)
 | ins (C dx:Addr) (fs:List (Str×V))
 | own (x:Addr)
 | xd (fs:List (Str×V))
 | met (f x:Addr)
 | rng (lo hi:Int)
 | frz (o:Obj) (u:HO)
 | tbl (ps:Array Value)
 | ext (φ:Heap→Prop)
abbrev Hp:=Addr→Option HO
def upd (H:Hp) (a:Addr) (o:HO):Hp:=fun b=>if b=a then some o else H b
theorem Qh {H:Hp} {a:Addr} {o:HO}:upd H a o a=some o:=by unfold upd;rw [if_pos rfl]
theorem Qk {H:Hp} {a b:Addr} {o:HO} (h:b≠a):upd H a o b=H b:=by unfold upd;rw [if_neg h]
theorem G4 {H:Hp} {a:Addr} {o u:HO}:upd (upd H a o) a u=upd H a u:=by
 funext b;unfold upd;split <;> rfl
theorem Zq {H:Hp} {a b:Addr} {o u:HO} (h:H a=some o) (h':H b=some u) (d:o≠u):a≠b:=by
 intro e;subst e;rw [h] at h';exact d (Option.some.inj h')
theorem Qu {H:Hp} {a b:Addr} {o:HO} (h:H a=some o) (h':H b=none):a≠b:=by
 intro e;subst e;rw [h] at h';cases h'
section
variable (P : Program) (w : World)
def Zi (H:Hp) (h:Heap) (a:Addr):HO→Prop
 | .lst xs=>xs.length≤sizeLine∧∃(its:List Value) (n:Nat),QW xs its∧h.get? a=some { cls:=.type "list",data:=.seq its.toArray n }
 | .tup xs=>xs.length≤sizeLine∧∃its:List Value,QW xs its∧IsTup h a its.toArray
 | .dK kvs=>kvs.length≤sizeLine∧(a == sysModules)=false∧∃vs,KV kvs vs∧h.DictOf (Za P w) a vs
 | .dT kvs=>kvs.length≤sizeLine∧(a == sysModules)=false∧∃xs:List (List Key×Addr×Value),
    Paired (fun (p:List Key×V) (q:List Key×Addr×Value)=>p.1=q.1∧H q.2.1=some (.tup (p.1.map kV))∧QQ p.2 q.2.2) kvs xs ∧
    ∃o es ep,h.get? a=some o∧o.ExactDict∧o.data=.dict es ep∧es.toList=xs.map (entryOfKey (tupleKind (Za P w)))∧(xs.map (·.1)).Nodup
 | .set S n=>h.SetOf (intKind P w) a S n
 | .ins C dx fs=>H dx=some (.own a)∧fs.length≤1000∧dx≠a∧h.get? a=some (PySem.W.instObj C dx) ∧
    ∃mA,h.Ns1 dx mA∧(∀f,Y9 (fs.lookup f) (mA f))∧PySem.Within mA (fs.map (·.1))
 | .own _=>∃o,h.get? a=some o
 | .xd fs=>∃mA,h.Ns1 a mA∧∀f,Y9 (fs.lookup f) (mA f)
 | .rng lo hi=>∃t u v,h.get? a=some { cls:=.type "range",data:=.fields #[.int lo t,.int hi u,.int 1 v] }
 | .frz o u=>h.get? a=some o∧Zi H h a u
 | .tbl ps=>h.get? a=some { cls:=.none,data:=.fields ps }
 | .met f x=>h.get? a=some (PySem.W.methodObj (.ref f) (.ref x))
 | .ext φ=>φ h∧(∃o,h.get? a=some o)∧∀h1 h2:Heap,φ h1→(∀o,h1.get? a=some o→h2.get? a=some o)→φ h2
def HOk (H:Hp) (h:Heap):Prop:=∀a o,H a=some o→Zi P w H h a o
end
section
variable {P : Program} {w : World} {H H' : Hp} {h h' : Heap} {a : Addr} {o : HO}
theorem Zi.lt (x:Zi P w H h a o):a<h.objs.size:=by
 cases o with
 | lst xs=>obtain ⟨_,_,_,_,e⟩:=x;exact Heap.lt_size e
 | tup xs=>obtain ⟨_,_,_,p⟩:=x;exact p.lt
 | dK kvs=>obtain ⟨_,_,_,_,o,_,_,e,_⟩:=x;exact Heap.lt_size e
 | dT kvs=>obtain ⟨_,_,_,_,o,_,_,e,_⟩:=x;exact Heap.lt_size e
 | set S n=>obtain ⟨o,_,_,_,e,_⟩:=x;exact Heap.lt_size e
 | ins C dx fs=>obtain ⟨_,_,_,e,_⟩:=x;exact Heap.lt_size e
 | own y=>obtain ⟨_,e⟩:=x;exact Heap.lt_size e
 | xd fs=>obtain ⟨_,⟨_,_,_,e,_⟩,_⟩:=x;exact Heap.lt_size e
 | rng lo hi=>obtain ⟨_,_,_,e⟩:=x;exact Heap.lt_size e
 | frz ob u=>obtain ⟨e,_⟩:=x;exact Heap.lt_size e
 | tbl ps=>exact Heap.lt_size (show h.get? a=some _ from x)
 | met f y=>exact Heap.lt_size (show h.get? a=some _ from x)
 | ext φ=>obtain ⟨_,⟨_,e⟩,_⟩:=x;exact Heap.lt_size e
theorem Paired.mapP {α β:Type} {F G:α→β→Prop}:∀{l₁:List α} {l₂:List β},Paired F l₁ l₂→(∀a b,F a b→G a b)→Paired G l₁ l₂
 | _,_,.nil,_=>.nil
 | _,_,.cons r t,f=>.cons (f _ _ r) (Paired.mapP t f)
theorem Zi.stay (x:Zi P w H h a o) (k:∀b u,(b=a∨H b=some (.own a))→h.get? b=some u→h'.get? b=some u)
 (ho:∀b,H b=some (.own a)→H' b=some (.own a)) (ht:∀b xs,H b=some (.tup xs)→H' b=some (.tup xs)):Zi P w H' h' a o:=by
 induction o with
 | lst xs=>obtain ⟨z,its,n,r,e⟩:=x;exact ⟨z,its,n,r,k _ _ (.inl rfl) e⟩
 | tup xs=>obtain ⟨z,its,r,ob,e,c⟩:=x;exact ⟨z,its,r,ob,k _ _ (.inl rfl) e,c⟩
 | dK kvs=>obtain ⟨z,y,vs,r,ob,es,ep,e,c⟩:=x;exact ⟨z,y,vs,r,ob,es,ep,k _ _ (.inl rfl) e,c⟩
 | dT kvs =>
   obtain ⟨z,y,xs,r,ob,es,ep,e,c⟩:=x
   exact ⟨z,y,xs,Paired.mapP r fun p q z=>⟨z.1,ht _ _ z.2.1,z.2.2⟩,ob,es,ep,k _ _ (.inl rfl) e,c⟩
 | set S n=>obtain ⟨ob,es,ep,t,e,c⟩:=x;exact ⟨ob,es,ep,t,k _ _ (.inl rfl) e,c⟩
 | ins C dx fs =>
   obtain ⟨d,z,ne,e,mA,⟨od,es,ep,e2,c⟩,r⟩:=x
   exact ⟨ho _ d,z,ne,k _ _ (.inl rfl) e,mA,⟨od,es,ep,k _ _ (.inr d) e2,c⟩,r⟩
 | own y=>obtain ⟨ob,e⟩:=x;exact ⟨ob,k _ _ (.inl rfl) e⟩
 | xd fs=>obtain ⟨mA,⟨od,es,ep,e,c⟩,r⟩:=x;exact ⟨mA,⟨od,es,ep,k _ _ (.inl rfl) e,c⟩,r⟩
 | rng lo hi=>obtain ⟨t,u,v,e⟩:=x;exact ⟨t,u,v,k _ _ (.inl rfl) e⟩
 | frz ob u ih=>obtain ⟨e,q⟩:=x;exact ⟨k _ _ (.inl rfl) e,ih q⟩
 | tbl ps =>
   have e:h.get? a=some { cls:=.none,data:=.fields ps }:=x
   show h'.get? a=some { cls:=.none,data:=.fields ps }
   exact k a _ (.inl rfl) e
 | met f y =>
   have e:h.get? a=some (PySem.W.methodObj (.ref f) (.ref y)):=x
   show h'.get? a=some (PySem.W.methodObj (.ref f) (.ref y))
   exact k a _ (.inl rfl) e
 | ext φ=>obtain ⟨p,⟨o,e⟩,st⟩:=x;exact ⟨st _ _ p fun o q=>k _ _ (.inl rfl) q,⟨o,k _ _ (.inl rfl) e⟩,st⟩
theorem HOk.lt (x:HOk P w H h) (e:H a=some o):a<h.objs.size:=(x a o e).lt
theorem HOk.fresh (x:HOk P w H h) (e:h.objs.size≤a):H a=none:=by
 cases q:H a with
 | none=>rfl
 | some u=>exact absurd (Nat.lt_of_lt_of_le (x.lt q) e) (Nat.lt_irrefl _)
theorem HOk.kept (x:HOk P w H h) (k:∀b u,h.get? b=some u→h'.get? b=some u):HOk P w H h':=fun a o e =>
 (x a o e).stay (fun b u _ q=>k b u q) (fun _ q=>q) fun _ _ q=>q
theorem HOk.laid (x:HOk P w H h) (k:∀b u,h.get? b=some u→h'.get? b=some u) (hp:h.objs.size≤a) (new:Zi P w (upd H a o) h' a o):HOk P w (upd H a o) h':=fun b u e=>by
 have hn:=x.fresh hp
 by_cases hb:b=a
 ·subst hb;rw [Qh] at e;cases e;exact new
 ·rw [Qk hb] at e
  exact (x b u e).stay (fun c v _ q=>k c v q) (fun c q=>by rw [Qk (Qu q hn)];exact q) fun c xs q=>by rw [Qk (Qu q hn)];exact q
end
def Rd (H:Hp) (a:Addr) (u:HO):Prop:=H a=some u∨∃o,H a=some (.frz o u)
theorem Rd.ok {P:Program} {w:World} {H:Hp} {h:Heap} {a:Addr} {u:HO} (r:Rd H a u) (x:HOk P w H h):Zi P w H h a u:=by
 rcases r with r | ⟨o,r⟩
 ·exact x a u r
 ·obtain ⟨_,q⟩:=x a _ r
  exact q
def Mut:Option HO→Prop
 | some (.lst _)=>True
 | some (.dK _)=>True
 | some (.dT _)=>True
 | some (.set _ _)=>True
 | some (.ins _ _ _)=>True
 | some (.ext _)=>True
 | _=>False
section
variable {P : Program} {w : World} {H : Hp} {h h' : Heap} {x e : Addr} {o' : HO}
theorem HOk.write (ok:HOk P w H h) (mu:Mut (H x)) (he:e=x∨H e=some (.own x)) (k:∀b u,b≠e→h.get? b=some u→h'.get? b=some u) (heo:∃u,h'.get? e=some u)
 (new:Zi P w (upd H x o') h' x o'):HOk P w (upd H x o') h':=fun b u q=>by
 have nown:∀c y,H c=some (.own y)→c≠x:=fun c y r z=>by subst z;rw [r] at mu;exact mu
 have ntup:∀c xs,H c=some (.tup xs)→c≠x:=fun c xs r z=>by subst z;rw [r] at mu;exact mu
 by_cases hb:b=x
 ·subst hb;rw [Qh] at q;cases q;exact new
 ·rw [Qk hb] at q
  by_cases hbe:b=e
  ·have q':H b=some (.own x):=by
    rcases he with z | z
    ·exact absurd (hbe.trans z) hb
    ·rw [hbe];exact z
   rw [q] at q';cases q'
   obtain ⟨v,hv⟩:=heo
   exact ⟨v,by rw [hbe];exact hv⟩
  ·refine (ok b u q).stay (fun c v hc r=>k c v ?_ r) (fun c r=>by rw [Qk (nown c b r)];exact r) fun c xs r=>by rw [Qk (ntup c xs r)];exact r
   rcases hc with rfl | hc
   ·exact hbe
   ·rintro rfl
    rcases he with z | z
    ·exact nown c b hc z
    ·rw [hc] at z;cases z;exact hb rfl
end
structure Un (fs ex:List Addr) (H H':Hp) (h h':Heap):Prop where
 keep:∀b o,h.get? b=some o→H b=none→b∉fs→b∉ex→h'.get? b=some o
 slot:∀b o,h.get? b=some o→H b=none→b∈fs→b∉ex→∃sl,h'.get? b=some { o with slots:=sl }
 free:∀b o,h.get? b=some o→H b=none→b∉ex→H' b=none
 there:∀b o,h.get? b=some o→b∉ex→∃o',h'.get? b=some o'
 tups:∀b xs,H b=some (.tup xs)→H' b=some (.tup xs)
 frzs:∀b o u,H b=some (.frz o u)→H' b=some (.frz o u)
 tbls:∀b ps,H b=some (.tbl ps)→∃more,H' b=some (.tbl (ps++more))
section
variable {fs fs' ex ex' : List Addr} {H H1 H2 : Hp} {h h1 h2 h' : Heap} {a x e : Addr} {o : HO}
theorem Un.any (u:Un fs ex H H1 h h1) {b:Addr} {ob:Obj} (q:h.get? b=some ob) (n:H b=none) (hx:b∉ex):∃sl,h1.get? b=some { ob with slots:=sl }:=by
 by_cases hb:b∈fs
 ·exact u.slot b ob q n hb hx
 ·exact ⟨ob.slots,u.keep b ob q n hb hx⟩
theorem Un.kept (k:∀b u,h.get? b=some u→h'.get? b=some u):Un fs ex H H h h' :=
 ⟨fun b ob q _ _ _=>k b ob q,fun b ob q _ _ _=>⟨ob.slots,k b ob q⟩,fun _ _ _ n _=>n,fun b ob q _=>⟨ob,k b ob q⟩,fun _ _ q=>q,fun _ _ _ q=>q,fun _ ps q=>⟨#[],by rw [q];simp⟩⟩
theorem Un.refl:Un fs ex H H h h:=Un.kept fun _ _ q=>q
theorem Un.laid (k:∀b u,h.get? b=some u→h'.get? b=some u) (hp:h.objs.size≤a) (hn:H a=none):Un fs ex H (upd H a o) h h' where
 keep:=fun b u q _ _ _=>k b u q
 slot:=fun b u q _ _ _=>⟨u.slots,k b u q⟩
 free:=fun b u q n _=>by rw [Qk (Nat.ne_of_lt (Nat.lt_of_lt_of_le (Heap.lt_size q) hp))];exact n
 there:=fun b u q _=>⟨u,k b u q⟩
 tups:=fun b xs q=>by rw [Qk (Qu q hn)];exact q
 frzs:=fun b u xs q=>by rw [Qk (Qu q hn)];exact q
 tbls:=fun b ps q=>⟨#[],by rw [Qk (Qu q hn),q];simp⟩
theorem Un.write (mu:Mut (H x)) (he:e=x∨H e=some (.own x)) (k:∀b u,b≠e→h.get? b=some u→h'.get? b=some u) (heo:∃u,h'.get? e=some u):Un fs ex H (upd H x o) h h':=by
 have hx:∀b,H b=none→b≠x:=fun b n z=>by subst z;rw [n] at mu;exact mu
 have hb:∀b,H b=none→b≠e:=fun b n z=>by
  subst z
  rcases he with r | r
  ·exact hx b n r
  ·rw [n] at r;cases r
 have hm:∀b u,H b=some u→¬Mut (some u)→b≠x:=fun b u q nm z=>by subst z;rw [q] at mu;exact nm mu
 refine ⟨fun b u q n _ _=>k b u (hb b n) q,fun b u q n _ _=>⟨u.slots,k b u (hb b n) q⟩,fun b u q n _=>by rw [Qk (hx b n)];exact n,fun b u q _=>?_,
  fun b xs q=>by rw [Qk (hm b _ q fun z=>z)];exact q,fun b u xs q=>by rw [Qk (hm b _ q fun z=>z)];exact q,fun b ps q=>⟨#[],by rw [Qk (hm b _ q fun z=>z),q];simp⟩⟩
 by_cases hbe:b=e
 ·subst hbe;exact heo
 ·exact ⟨u,k b u hbe q⟩
end
def trk (h:Heap) (H:Hp):List Addr:=(List.range h.objs.size).filter fun a=>(H a).isSome
def Qaz (h:Heap) (H:Hp):Heap:=PySem.W.hideAll h (trk h H)
theorem Qei (h:Heap) (H:Hp):(Qaz h H).objs.size=h.objs.size:=PySem.W.hideAll_size _ _
theorem Qgp {h:Heap} {H:Hp} {b:Addr} {o:Obj} (e:h.get? b=some o) (n:H b=none):(Qaz h H).get? b=some o :=
 PySem.W.hideAll_get _ e fun hm=>by
  have q:(H b).isSome=true:=(List.mem_filter.mp hm).2
  rw [n] at q;simp at q
theorem Qhm {h:Heap} {H:Hp} {b:Addr} {o:Obj} (e:(Qaz h H).get? b=some o):h.get? b=some o∧H b=none:=by
 have e':h.get? b=some o:=PySem.W.of_hideAll (trk h H) e
 refine ⟨e',?_⟩
 cases q:H b with
 | none=>rfl
 | some x =>
   have hm:b∈trk h H:=List.mem_filter.mpr ⟨List.mem_range.mpr (Heap.lt_size e'),by simp [q]⟩
   have z:(Qaz h H).get? b=none:=PySem.W.hideAll_none (trk h H) hm
   rw [z] at e;cases e
end L2
namespace L2
open PySem PySem.Spec PyProof.Rows
structure Mod (K:PySem.W.Frag) (mg:Str→Option Value) (base:Heap):Prop where
 kin:K.In base
 glob:base.Ns mainGlobals mg
 blt:∃mb,base.Ns builtinsNs mb∧∀x:Str,x≠"__name__"→mb x=bootBuiltins x
 nolimit:base.NoLimit
structure Cx where
 prog:Program
 w:World
 K:PySem.W.Frag
 mg:Str→Option Value
 base:Heap
 A:Around
 N:List Str
 s₀:Shared
 H₀:Hp
 env:Env
 outer:List Env
 stack:List Env
 ex:List Addr
 fn:Str→Bool
 calm:Bool
 pn:List (Addr×Obj)
 xe:Value→Shared→Prop
def frs (l:List Env):List Addr:=l.filterMap (·.frame)
abbrev Cx.fs (X:Cx):List Addr:=frs X.outer
def Vis (sc:Scope) (x:Str):Prop:=sc.names.lookup x=some .local∨sc.names.lookup x=some .cell∨sc.names.lookup x=some .free
def Loc (sc:Scope) (x:Str):Prop:=sc.names.lookup x=some .local∨sc.names.lookup x=some .cell
def Look (env:Env) (h:Heap) (m:Str→Option Value) (x:Str) (u:Value):Prop :=
 (env.kindOf x=some .local∧m x=some u)∨((env.kindOf x=some .cell∨env.kindOf x=some .free)∧∃c,env.cells.lookup x=some c∧h.IsCell c (some u))
structure Cx.Ok (X:Cx):Prop where
 mod:Mod X.K X.mg X.base
 kind:X.env.scope.kind=.function
 glob:X.env.globals=mainGlobals
 blt:X.env.builtins=builtinsNs
 above:X.s₀.heap.objs.size≤X.env.locals
 inj:∀x y c,X.env.cells.lookup x=some c→X.env.cells.lookup y=some c→x=y
 has:∀x,(X.env.kindOf x=some .cell∨X.env.kindOf x=some .free)→∃c,X.env.cells.lookup x=some c
 cab:∀x c,X.fn x=true→X.env.cells.lookup x=some c→X.s₀.heap.objs.size≤c
 hd:X.calm=true→X.A.handled=none
 frames:X.A.frames=some X.stack
 stk:X.stack=X.outer∨(X.stack=X.env :: X.outer∧X.env.frame=some X.env.locals)
 exf:∀b∈X.ex,b≠X.env.locals∧∀x c,X.env.cells.lookup x=some c→c≠b
 bs:∀b o,X.base.get? b=some o→X.s₀.heap.get? b=some o∧X.H₀ b=none
 bsz:X.base.objs.size≤X.s₀.heap.objs.size
 noex:∀b o,X.base.get? b=some o→b∉X.ex
 exfs:∀b∈X.ex,b∉X.fs
 funs:X.s₀.heap.FunFrames X.base X.outer
 frf:∀b∈X.fs,X.H₀ b=none
structure Inv (X:Cx) (pins:List (Addr×Obj)) (σ:List (Option V)) (H:Hp) (s:Shared):Prop where
 ok:X.Ok
 os:s.os=X.s₀.os
 bare:AllBare s.gens
 base:Un X.fs X.ex X.H₀ H X.s₀.heap s.heap
 loc:∃m,s.heap.Ns X.env.locals m∧∀(i:Nat) (x:Str) (v:V),X.N[i]?=some x→σ[i]?=some (some v)→Vis X.env.scope x→∃u,QQ v u∧Look X.env s.heap m x u
 cell:∀x c,X.env.cells.lookup x=some c→∃v,s.heap.IsCell c v
 free:H X.env.locals=none
 freeC:∀x c,X.env.cells.lookup x=some c→H c=none
 pin:∀p∈X.pn++pins,s.heap.get? p.1=some p.2∧H p.1=none∧p.1≠X.env.locals∧p.1∉X.fs∧∀v,p.2.data≠.cell v
 hok:HOk X.prog X.w H s.heap
 len:σ.length=X.N.length
section
variable {X : Cx} {pins : List (Addr × Obj)} {σ : List (Option V)} {H H' : Hp} {s : Shared} {h' : Heap}
theorem Cx.Ok.nofr (ok:X.Ok) {b:Addr} {o:Obj} (e:X.base.get? b=some o):b∉X.fs:=fun hb=>by
 have:=(ok.funs.mem hb).1
 rw [e] at this;cases this
theorem Inv.bs (I:Inv X pins σ H s):∀b o,X.base.get? b=some o→s.heap.get? b=some o∧H b=none:=fun b o e =>
 ⟨I.base.keep b o (I.ok.bs b o e).1 (I.ok.bs b o e).2 (I.ok.nofr e) (I.ok.noex b o e),I.base.free b o (I.ok.bs b o e).1 (I.ok.bs b o e).2 (I.ok.noex b o e)⟩
theorem Inv.bk (I:Inv X pins σ H s):∀b o,X.base.get? b=some o→s.heap.get? b=some o:=fun b o e=>(I.bs b o e).1
theorem Inv.mod (I:Inv X pins σ H s):Mod X.K X.mg X.base:=I.ok.mod
theorem Inv.kIn (I:Inv X pins σ H s):X.K.In s.heap:=I.ok.mod.kin.keeps I.bk
theorem Inv.lt (I:Inv X pins σ H s):X.env.locals<s.heap.objs.size:=let ⟨_,hn,_⟩:=I.loc;hn.lt
theorem Inv.sz (I:Inv X pins σ H s):X.s₀.heap.objs.size≤s.heap.objs.size:=Nat.le_trans I.ok.above (Nat.le_of_lt I.lt)
theorem Inv.nofs (I:Inv X pins σ H s) {a:Addr} (h:s.heap.objs.size≤a):a∉X.fs:=fun hb=>by
 obtain ⟨_,o,ho,_⟩:=I.ok.funs.mem hb
 exact absurd (Nat.lt_of_lt_of_le (Heap.lt_size ho) (Nat.le_trans I.sz h)) (Nat.lt_irrefl _)
theorem Inv.cne (I:Inv X pins σ H s):∀x c,X.env.cells.lookup x=some c→c≠X.env.locals:=fun x c e z=>by
 obtain ⟨v,o,ho,hd⟩:=I.cell x c e
 obtain ⟨m,⟨o',es,ep,ho',hd',_⟩,_⟩:=I.loc
 rw [z,ho'] at ho;cases ho;rw [hd'] at hd;cases hd
theorem Inv.funs (I:Inv X pins σ H s):s.heap.FunFrames X.base X.outer:=by
 have all:∀(l:List Env),(∀b∈frs l,b∈X.fs)→X.s₀.heap.FunFrames X.base l→s.heap.FunFrames X.base l:=by
  intro l
  induction l with
  | nil=>intro _ _;trivial
  | cons env r ih =>
    intro hs hl
    obtain ⟨hk,⟨L,o,hf,hn,ho,hd⟩,hr⟩:=hl
    have hL:L∈X.fs:=hs L (by unfold frs;rw [List.filterMap_cons,hf];exact List.mem_cons_self)
    obtain ⟨sl,e⟩:=I.base.slot L o ho (I.ok.frf L hL) hL fun z=>I.ok.exfs L z hL
    exact ⟨hk,⟨L,_,hf,hn,e,hd⟩,ih (fun b hb=>hs b (by unfold frs;rw [List.filterMap_cons,hf];exact List.mem_cons_of_mem _ hb)) hr⟩
 exact all X.outer (fun _ hb=>hb) I.ok.funs
theorem Inv.stack (I:Inv X pins σ H s):s.heap.FunFrames X.base X.stack:=by
 rcases I.ok.stk with e | ⟨e,hf⟩
 ·rw [e];exact I.funs
 ·rw [e]
  obtain ⟨m,hn,_⟩:=I.loc
  refine .cons (by rw [I.ok.kind];decide) hf hn ?_ I.funs
  exact Heap.get?_none_of_le (Nat.le_trans I.ok.bsz I.ok.above)
theorem Inv.stkSub (I:Inv X pins σ H s):∀b∈frs X.stack,b∈X.env.locals :: X.fs:=fun b hb=>by
 rcases I.ok.stk with e | ⟨e,hf⟩
 ·rw [e] at hb;exact List.mem_cons_of_mem _ hb
 ·rw [e] at hb
  unfold frs at hb
  rw [List.filterMap_cons,hf] at hb
  exact hb
theorem Inv.stkFree (I:Inv X pins σ H s):∀b∈frs X.stack,H b=none:=fun b hb=>by
 rcases List.mem_cons.mp (I.stkSub b hb) with e | hb
 ·rw [e];exact I.free
 ·obtain ⟨_,o,ho,_⟩:=I.ok.funs.mem hb
  exact I.base.free b o ho (I.ok.frf b hb) fun z=>I.ok.exfs b z hb
theorem Inv.step {g':Array GenState} {t':Nat} {d':Drawn} {ch:List Addr} (I:Inv X pins σ H s)
 (hch:∀b∈ch,(b∈X.ex∨X.s₀.heap.objs.size≤b)∧b≠X.env.locals∧(∀x c,X.env.cells.lookup x=some c→c≠b)∧∀p∈X.pn++pins,p.1≠b)
 (keep:∀b o,b≠X.env.locals→b∉X.fs→b∉ch→s.heap.get? b=some o→H b=none→h'.get? b=some o)
 (slot:∀b o,b≠X.env.locals→b∈X.fs→b∉ch→s.heap.get? b=some o→H b=none→∃sl,h'.get? b=some { o with slots:=sl }) (free:∀b o,b∉ch→s.heap.get? b=some o→H b=none→H' b=none)
 (there:∀b o,b∉ch→s.heap.get? b=some o→∃o',h'.get? b=some o')
 (tups:∀b xs,H b=some (.tup xs)→H' b=some (.tup xs)) (frzs:∀b o u,H b=some (.frz o u)→H' b=some (.frz o u)) (tbls:∀b ps,H b=some (.tbl ps)→∃more,H' b=some (.tbl (ps++more)))
 (ns:∀m,s.heap.Ns X.env.locals m→h'.Ns X.env.locals m) (hok:HOk X.prog X.w H' h') (hg:AllBare g') :
 Inv X pins σ H' { s with heap:=h',gens:=g',drawn:=d',toks:=t' }:=by
 have neL:∀b o,X.s₀.heap.get? b=some o→b≠X.env.locals:=fun b o e=>Nat.ne_of_lt (Nat.lt_of_lt_of_le (Heap.lt_size e) I.ok.above)
 have neC:∀b o,X.s₀.heap.get? b=some o→b∉X.ex→b∉ch:=fun b o e hx hb=>by
  rcases (hch b hb).1 with z | z
  ·exact hx z
  ·exact absurd (Nat.lt_of_lt_of_le (Heap.lt_size e) z) (Nat.lt_irrefl _)
 have cellK:∀x c,X.env.cells.lookup x=some c→∀v,s.heap.IsCell c v→h'.IsCell c v:=fun x c e v ⟨o,ho,hd⟩=>by
  have nch:c∉ch:=fun z=>(hch c z).2.2.1 x c e rfl
  by_cases hc:c∈X.fs
  ·obtain ⟨sl,q⟩:=slot c o (I.cne x c e) hc nch ho (I.freeC x c e)
   exact ⟨_,q,hd⟩
  ·exact ⟨o,keep c o (I.cne x c e) hc nch ho (I.freeC x c e),hd⟩
 refine ⟨I.ok,I.os,hg,⟨fun b o e n hb hx=>?_,fun b o e n hb hx=>?_,fun b o e n hx=>?_,fun b o e hx=>?_,fun b xs e=>tups b xs (I.base.tups b xs e),fun b o xs e=>frzs b o xs (I.base.frzs b o xs e),fun b ps e=>?_⟩,?_,fun x c e=>?_,?_,fun x c e=>?_,fun p hp=>?_,hok,I.len⟩
 ·exact keep b o (neL b o e) hb (neC b o e hx) (I.base.keep b o e n hb hx) (I.base.free b o e n hx)
 ·obtain ⟨sl,e1⟩:=I.base.slot b o e n hb hx
  obtain ⟨sl',e2⟩:=slot b _ (neL b o e) hb (neC b o e hx) e1 (I.base.free b o e n hx)
  exact ⟨sl',e2⟩
 ·obtain ⟨o',e1⟩:=I.base.there b o e hx
  exact free b o' (neC b o e hx) e1 (I.base.free b o e n hx)
 ·obtain ⟨o',e1⟩:=I.base.there b o e hx
  exact there b o' (neC b o e hx) e1
 ·obtain ⟨m1,e1⟩:=I.base.tbls b ps e
  obtain ⟨m2,e2⟩:=tbls b _ e1
  exact ⟨m1++m2,by rw [e2,Array.append_assoc]⟩
 ·obtain ⟨m,hn,hl⟩:=I.loc
  refine ⟨m,ns m hn,fun i x v e1 e2 e3=>?_⟩
  obtain ⟨u,r,l⟩:=hl i x v e1 e2 e3
  refine ⟨u,r,?_⟩
  rcases l with l | ⟨k,c,e,z⟩
  ·exact .inl l
  ·exact .inr ⟨k,c,e,cellK x c e _ z⟩
 ·obtain ⟨v,z⟩:=I.cell x c e
  exact ⟨v,cellK x c e v z⟩
 ·obtain ⟨m,⟨o,_,_,ho,_⟩,_⟩:=I.loc
  exact free _ o (fun z=>(hch _ z).2.1 rfl) ho I.free
 ·obtain ⟨v,o,ho,hd⟩:=I.cell x c e
  exact free c o (fun z=>(hch c z).2.2.1 x c e rfl) ho (I.freeC x c e)
 ·obtain ⟨e,n,ne,nf,d⟩:=I.pin p hp
  have nch:p.1∉ch:=fun z=>(hch p.1 z).2.2.2 p hp rfl
  exact ⟨keep p.1 p.2 ne nf nch e n,free p.1 p.2 nch e n,ne,nf,d⟩
theorem Inv.un {t':Nat} (I:Inv X pins σ H s) (u:Un X.fs [] H H' s.heap h') (hok:HOk X.prog X.w H' h'):Inv X pins σ H' { s with heap:=h',toks:=t' }:=by
 obtain ⟨m,⟨o,es,ep,ho,r⟩,_⟩:=id I.loc
 obtain ⟨sl,hL⟩:=u.any ho I.free (by simp)
 exact I.step (g':=s.gens) (d':=s.drawn) (ch:=[]) (fun _ z=>nomatch z) (fun b o _ hb _ e n=>u.keep b o e n hb (by simp)) (fun b o _ hb _ e n=>u.slot b o e n hb (by simp)) (fun b o _ e n=>u.free b o e n (by simp)) (fun b o _ e=>u.there b o e (by simp)) u.tups u.frzs u.tbls (fun m' hm=>by
  obtain ⟨o',es',ep',ho',r'⟩:=hm
  rw [ho] at ho';cases ho'
  exact ⟨_,es',ep',hL,r'⟩) hok I.bare
theorem Inv.call {g':Array GenState} {t':Nat} {d':Drawn} {ch:List Addr} (I:Inv X pins σ H s) (u:Un (frs X.stack) ch H H' s.heap h') (hok:HOk X.prog X.w H' h') (hg:AllBare g')
 (hch:∀b∈ch,(b∈X.ex∨X.s₀.heap.objs.size≤b)∧b≠X.env.locals∧(∀x c,X.env.cells.lookup x=some c→c≠b)∧∀p∈X.pn++pins,p.1≠b) :
 Inv X pins σ H' { s with heap:=h',gens:=g',drawn:=d',toks:=t' }:=by
 obtain ⟨m,⟨o,es,ep,ho,r⟩,_⟩:=id I.loc
 obtain ⟨sl,hL⟩:=u.any ho I.free fun z=>(hch _ z).2.1 rfl
 exact I.step (ch:=ch) hch (fun b o hL hb hc e n=>u.keep b o e n (fun z=>(List.mem_cons.mp (I.stkSub b z)).elim hL hb) hc) (fun b o _ _ hc e n=>u.any e n hc) (fun b o hc e n=>u.free b o e n hc) (fun b o hc e=>u.there b o e hc) u.tups u.frzs u.tbls (fun m' hm=>by
  obtain ⟨o',es',ep',ho',r'⟩:=hm
  rw [ho] at ho';cases ho'
  exact ⟨_,es',ep',hL,r'⟩) hok hg
theorem Inv.turned {t':Nat} {it:Addr} (I:Inv X pins σ H s) (k:∀b o,b≠it→s.heap.get? b=some o→h'.get? b=some o) (hn:H it=none) (hL:it≠X.env.locals)
 (h1:it∈X.ex∨X.s₀.heap.objs.size≤it) (h2:∀x c,X.env.cells.lookup x=some c→c≠it) (h3:∀p∈X.pn++pins,p.1≠it):Inv X pins σ H { s with heap:=h',toks:=t' }:=by
 have nit:∀b u,H b=some u→b≠it:=fun b u e z=>by rw [z,hn] at e;cases e
 refine I.step (g':=s.gens) (d':=s.drawn) (ch:=[it]) (fun b hb=>?_) (fun b o _ _ hc e _=>k b o (fun z=>hc (by simp [z])) e) (fun b o _ _ hc e _=>⟨o.slots,k b o (fun z=>hc (by simp [z])) e⟩) (fun _ _ _ _ n=>n)
  (fun b o hc e=>⟨o,k b o (fun z=>hc (by simp [z])) e⟩) (fun _ _ e=>e) (fun _ _ _ e=>e) (fun b ps e=>⟨#[],by rw [e];simp⟩) (fun m hm=>?_) (fun b u e=>?_) I.bare
 ·have e:b=it:=by simpa using hb
  subst e
  exact ⟨h1,hL,h2,h3⟩
 ·obtain ⟨o,es,ep,ho,r⟩:=hm
  exact ⟨o,es,ep,k _ o (Ne.symm hL) ho,r⟩
 ·refine (I.hok b u e).stay (fun c v hc q=>k c v ?_ q) (fun _ q=>q) fun _ _ q=>q
  rcases hc with z | z
  ·rw [z];exact nit b u e
  ·exact nit c _ z
theorem Inv.tok (I:Inv X pins σ H s) (t:Nat):Inv X pins σ H { s with toks:=t }:=I.un (h':=s.heap) (t':=t) Un.refl I.hok
theorem Inv.kept {t':Nat} (I:Inv X pins σ H s) (k:∀b u,s.heap.get? b=some u→h'.get? b=some u):Inv X pins σ H { s with heap:=h',toks:=t' }:=I.un (Un.kept k) (I.hok.kept k)
theorem Inv.laid {a:Addr} {o:HO} {t':Nat} (I:Inv X pins σ H s) (k:∀b u,s.heap.get? b=some u→h'.get? b=some u) (hp:s.heap.objs.size≤a) (new:Zi X.prog X.w (upd H a o) h' a o) :
 Inv X pins σ (upd H a o) { s with heap:=h',toks:=t' }:=I.un (Un.laid k hp (I.hok.fresh hp)) (I.hok.laid k hp new)
theorem Inv.write {x e:Addr} {o:HO} {t':Nat} (I:Inv X pins σ H s) (mu:Mut (H x)) (he:e=x∨H e=some (.own x)) (k:∀b u,b≠e→s.heap.get? b=some u→h'.get? b=some u) (heo:∃u,h'.get? e=some u)
 (new:Zi X.prog X.w (upd H x o) h' x o):Inv X pins σ (upd H x o) { s with heap:=h',toks:=t' }:=I.un (Un.write mu he k heo) (I.hok.write mu he k heo new)
theorem Inv.pins_of {pins':List (Addr×Obj)} (I:Inv X pins σ H s) (h:∀p∈pins',s.heap.get? p.1=some p.2∧H p.1=none∧p.1≠X.env.locals∧p.1∉X.fs∧∀v,p.2.data≠.cell v):Inv X pins' σ H s :=
 ⟨I.ok,I.os,I.bare,I.base,I.loc,I.cell,I.free,I.freeC,fun p hp=>(List.mem_append.mp hp).elim (fun z=>I.pin p (List.mem_append_left _ z)) (h p),I.hok,I.len⟩
theorem Qbg {N:List Str} (hN:N.Nodup) {i j:Nat} {x:Str} (a:N[i]?=some x) (b:N[j]?=some x):i=j:=by
 obtain ⟨h1,e1⟩:=List.getElem?_eq_some_iff.mp a
 obtain ⟨h2,e2⟩:=List.getElem?_eq_some_iff.mp b
 exact (List.getElem_inj hN).mp (e1.trans e2.symm)
theorem WG {M:Model} {A:Around} {E:Value→Shared→Prop} {i:Nat} {x:Str} {v:V} {u:Value} {Q:Unit→Shared→Prop} (I:Inv X pins σ H s) (hN:X.N.Nodup) (hi:X.N[i]?=some x) (hx:Loc X.env.scope x) (r:QQ v u)
 (h:∀s',Inv X pins (σ.set i (some v)) H s'→(∃a,Heap.SameBut a s.heap s'.heap∧(a=X.env.locals∨X.env.cells.lookup x=some a))→Q () s') (hf:X.fn x=true∨X.env.scope.names.lookup x=some .local:=by first | exact .inl rfl | exact .inr rfl | assumption):wpAny M A (storeName X.env x u) Q E s:=by
 obtain ⟨m,hn,hl⟩:=id I.loc
 have hcls:(X.env.scope.kind == .class || (X.env.scope.kind == .module && X.env.locals != X.env.globals))=false:=by rw [I.ok.kind];rfl
 have hiσ:i<σ.length:=by rw [I.len];exact (List.getElem?_eq_some_iff.mp hi).1
 have cne:=I.cne
 have tracked:∀{a:Addr} {h':Heap},(∃o,s.heap.get? a=some o∧H a=none)→Heap.SameBut a s.heap h'→HOk X.prog X.w H h':=fun {a h'} ha hs b ob e=>by
  obtain ⟨_,_,hfree⟩:=ha
  refine (I.hok b ob e).stay (fun c w' hc q=>(hs.2 c ?_).trans q) (fun _ q=>q) fun _ _ q=>q
  rintro rfl
  rcases hc with rfl | hc
  ·rw [hfree] at e;cases e
  ·rw [hfree] at hc;cases hc
 rcases hx with hk | hk
 ·refine wpAny_storeName_local hk hn (fun h' hn' hs=>?_) hcls
  obtain ⟨oL,_,_,hoL,_⟩:=id hn
  refine h _ ⟨I.ok,I.os,I.bare,⟨fun b o e n hb hx=>?_,fun b o e n hb hx=>?_,I.base.free,fun b o e hx=>?_,I.base.tups,I.base.frzs,I.base.tbls⟩,⟨_,hn',fun j y v' e1 e2 e3=>?_⟩,fun y c e=>?_,I.free,I.freeC,fun p hp=>?_,tracked ⟨oL,hoL,I.free⟩ hs,by simpa using I.len⟩ ⟨_,hs,.inl rfl⟩
  ·exact (hs.2 b (Nat.ne_of_lt (Nat.lt_of_lt_of_le (Heap.lt_size e) I.ok.above))).trans (I.base.keep b o e n hb hx)
  ·obtain ⟨sl,e1⟩:=I.base.slot b o e n hb hx
   exact ⟨sl,(hs.2 b (Nat.ne_of_lt (Nat.lt_of_lt_of_le (Heap.lt_size e) I.ok.above))).trans e1⟩
  ·obtain ⟨o',e1⟩:=I.base.there b o e hx
   exact ⟨o',(hs.2 b (Nat.ne_of_lt (Nat.lt_of_lt_of_le (Heap.lt_size e) I.ok.above))).trans e1⟩
  ·by_cases hj:j=i
   ·subst hj
    rw [hi] at e1;cases e1
    rw [List.getElem?_set_self hiσ] at e2
    cases e2
    exact ⟨u,r,.inl ⟨hk,by simp⟩⟩
   ·rw [List.getElem?_set_ne (Ne.symm hj)] at e2
    obtain ⟨u',r',q⟩:=hl j y v' e1 e2 e3
    refine ⟨u',r',?_⟩
    rcases q with ⟨k,e⟩ | ⟨k,c,e,z⟩
    ·refine .inl ⟨k,?_⟩
     have:y≠x:=fun e=>hj (Qbg hN e1 (e▸hi))
     simp [this,e]
    ·exact .inr ⟨k,c,e,z.sameBut hs (cne y c e)⟩
  ·obtain ⟨w',z⟩:=I.cell y c e
   exact ⟨w',z.sameBut hs (cne y c e)⟩
  ·obtain ⟨e,n,ne,nf,d⟩:=I.pin p hp
   exact ⟨(hs.2 p.1 ne).trans e,n,ne,nf,d⟩
 ·have hfn:X.fn x=true:=by
   rcases hf with z | z
   ·exact z
   ·rw [z] at hk;cases hk
  obtain ⟨c,hc⟩:=I.ok.has x (.inl hk)
  obtain ⟨w',z⟩:=I.cell x c hc
  refine wpAny_storeName_cell I.ok.kind hk hc z (fun h' hc' hs=>?_)
  obtain ⟨oc,hoc,hocd⟩:=id z
  refine h { s with heap:=h' } ⟨I.ok,I.os,I.bare,⟨fun b o e n hb hx=>?_,fun b o e n hb hx=>?_,I.base.free,fun b o e hx=>?_,I.base.tups,I.base.frzs,I.base.tbls⟩,⟨m,hn.sameBut hs (Ne.symm (cne x c hc)),fun j y v' e1 e2 e3=>?_⟩,fun y c' e=>?_,I.free,I.freeC,fun p hp=>?_,tracked ⟨oc,hoc,I.freeC x c hc⟩ hs,by simpa using I.len⟩ ⟨c,hs,.inr hc⟩
  ·exact (hs.2 b (Nat.ne_of_lt (Nat.lt_of_lt_of_le (Heap.lt_size e) (I.ok.cab x c hfn hc)))).trans (I.base.keep b o e n hb hx)
  ·obtain ⟨sl,e1⟩:=I.base.slot b o e n hb hx
   exact ⟨sl,(hs.2 b (Nat.ne_of_lt (Nat.lt_of_lt_of_le (Heap.lt_size e) (I.ok.cab x c hfn hc)))).trans e1⟩
  ·obtain ⟨o',e1⟩:=I.base.there b o e hx
   exact ⟨o',(hs.2 b (Nat.ne_of_lt (Nat.lt_of_lt_of_le (Heap.lt_size e) (I.ok.cab x c hfn hc)))).trans e1⟩
  ·by_cases hj:j=i
   ·subst hj
    rw [hi] at e1;cases e1
    rw [List.getElem?_set_self hiσ] at e2
    cases e2
    exact ⟨u,r,.inr ⟨.inl hk,c,hc,hc'⟩⟩
   ·rw [List.getElem?_set_ne (Ne.symm hj)] at e2
    obtain ⟨u',r',q⟩:=hl j y v' e1 e2 e3
    refine ⟨u',r',?_⟩
    rcases q with q | ⟨k,c',e,z'⟩
    ·exact .inl q
    ·refine .inr ⟨k,c',e,z'.sameBut hs ?_⟩
     rintro rfl
     exact hj (Qbg hN e1 (I.ok.inj _ _ _ e hc▸hi))
  ·by_cases hcc:c'=c
   ·subst hcc;exact ⟨_,hc'⟩
   ·obtain ⟨w2,z2⟩:=I.cell y c' e
    exact ⟨w2,z2.sameBut hs hcc⟩
  ·obtain ⟨e,n,ne,nf,d⟩:=I.pin p hp
   refine ⟨(hs.2 p.1 ?_).trans e,n,ne,nf,d⟩
   intro q
   rw [q,hoc] at e
   have q':oc=p.2:=Option.some.inj e
   exact d w' (by rw [←q'];exact hocd)
theorem QaP {M:Model} {A:Around} {E:Value→Shared→Prop} {i:Nat} {x:Str} {v:V} {u:Value} {Q:Unit→Shared→Prop} (I:Inv X pins σ H s) (hN:X.N.Nodup) (hi:X.N[i]?=some x) (hx:Loc X.env.scope x) (r:QQ v u)
 (h:∀s',Inv X pins (σ.set i (some v)) H s'→Q () s') (hf:X.fn x=true∨X.env.scope.names.lookup x=some .local:=by first | exact .inl rfl | exact .inr rfl | assumption):wpAny M A (storeName X.env x u) Q E s :=
 WG I hN hi hx r (fun s' I' _=>h s' I') hf
theorem Inv.call' {s':Shared} {ch:List Addr} (I:Inv X pins σ H s) (ho:s'.os=s.os) (u:Un (frs X.stack) ch H H' s.heap s'.heap) (hok:HOk X.prog X.w H' s'.heap) (hg:AllBare s'.gens)
 (hch:∀b∈ch,(b∈X.ex∨X.s₀.heap.objs.size≤b)∧b≠X.env.locals∧(∀x c,X.env.cells.lookup x=some c→c≠b)∧∀p∈X.pn++pins,p.1≠b):Inv X pins σ H' s':=by
 obtain ⟨h',g',d',t',o'⟩:=s'
 have e:o'=s.os:=ho
 subst e
 exact I.call (g':=g') (t':=t') (d':=d') u hok hg hch
end
abbrev XK:=Value→Option Addr→Hp→Prop
abbrev St:=List (Option V)
abbrev VK:=V→Hp→Prop
abbrev TE:=St→Hp→VK→Prop
abbrev TT:=St→Hp→(Bool→Hp→Prop)→Prop
abbrev TA:=St→Hp→(List V→Hp→Prop)→Prop
structure VY where
 nx:St→Hp→Prop
 rt:VK
 bk:St→Hp→Prop:=fun _ _=>False
 ct:St→Hp→Prop:=fun _ _=>False
abbrev TS:=VY→St→Hp→Prop
inductive EP (X:Cx) (pins:List (Addr×Obj)) (σ:St) (Q:VK) (u:Value) (s':Shared):Prop
 | mk:∀v H',Inv X pins σ H' s'→QQ v u→Q v H'→EP X pins σ Q u s'
inductive TP (X:Cx) (pins:List (Addr×Obj)) (σ:St) (Q:Bool→Hp→Prop) (b:Bool) (s':Shared):Prop
 | mk:∀H',Inv X pins σ H' s'→Q b H'→TP X pins σ Q b s'
inductive AP (X:Cx) (pins:List (Addr×Obj)) (σ:St) (Q:List V→Hp→Prop) (us:List Value) (s':Shared):Prop
 | mk:∀vs H',Inv X pins σ H' s'→QW vs us→Q vs H'→AP X pins σ Q us s'
inductive SPn (X:Cx) (pins:List (Addr×Obj)) (N:St→Hp→Prop) (s':Shared):Prop
 | mk:∀σ' H',Inv X pins σ' H' s'→N σ' H'→SPn X pins N s'
inductive SPr (X:Cx) (pins:List (Addr×Obj)) (N:VK) (u:Value) (s':Shared):Prop
 | mk:∀v σ' H',Inv X pins σ' H' s'→QQ v u→N v H'→SPr X pins N u s'
def SP (X:Cx) (pins:List (Addr×Obj)) (D:VY) (f:Flow) (s':Shared):Prop :=
 match f with
 | .next=>SPn X pins D.nx s'
 | .brk=>SPn X pins D.bk s'
 | .cont=>SPn X pins D.ct s'
 | .ret u=>SPr X pins D.rt u s'
def PE (X:Cx) (e:Expr) (t:TE):Prop :=
 ∀(pins:List (Addr×Obj)) (s:Shared) (σ:St) (H:Hp) (Q:VK),Inv X pins σ H s→t σ H Q→wpAny (model X.prog X.w) X.A (eval e X.env) (EP X pins σ Q) X.xe s
def PT (X:Cx) (e:Expr) (t:TT):Prop :=
 ∀(pins:List (Addr×Obj)) (s:Shared) (σ:St) (H:Hp) (Q:Bool→Hp→Prop),Inv X pins σ H s→t σ H Q→wpAny (model X.prog X.w) X.A (isTrue e X.env (eval e X.env)) (TP X pins σ Q) X.xe s
def PW (X:Cx) (e:Expr) (t:TT):Prop :=
 ∀(whole:Sem Value) (pins:List (Addr×Obj)) (s:Shared) (σ:St) (H:Hp) (Q:Bool→Hp→Prop),Inv X pins σ H s→t σ H Q→wpAny (model X.prog X.w) X.A (isTrue e X.env whole) (TP X pins σ Q) X.xe s
theorem PW.pt {X:Cx} {e:Expr} {t:TT} (h:PW X e t):PT X e t:=h _
def PA (X:Cx) (es:List Expr) (t:TA):Prop :=
 ∀(pos:Pos) (pins:List (Addr×Obj)) (s:Shared) (σ:St) (H:Hp) (Q:List V→Hp→Prop),Inv X pins σ H s→t σ H Q→wpAny (model X.prog X.w) X.A (spliced (backTo pos (starEach es X.env))) (AP X pins σ Q) X.xe s
def PS (X:Cx) (st:Stmt) (t:TS):Prop :=
 ∀(pins:List (Addr×Obj)) (s:Shared) (σ:St) (H:Hp) (D:VY),Inv X pins σ H s→t D σ H→wpAny (model X.prog X.w) X.A (exec st X.env) (SP X pins D) X.xe s
def PSs (X:Cx) (st:List Stmt) (t:TS):Prop :=
 ∀(pins:List (Addr×Obj)) (s:Shared) (σ:St) (H:Hp) (D:VY),Inv X pins σ H s→t D σ H→wpAny (model X.prog X.w) X.A (execs st X.env) (SP X pins D) X.xe s
theorem thn {α:Type} {t:Sem α} {Q Q':α→Shared→Prop} {M:Model} {A:Around} {E:Value→Shared→Prop} {s:Shared} (h:wpAny M A t Q E s) (hQ:∀a s,Q a s→Q' a s):wpAny M A t Q' E s:=wpAny_mono h hQ fun _ _ x=>x
end L2
namespace L2
open PySem PySem.Spec PyProof.Rows
section
variable {X : Cx}
inductive QeE (i:Nat) (σ:St) (H:Hp) (Q:VK):Prop
 | mk:∀v,σ[i]?=some (some v)→Q v H→QeE i σ H Q
def tVar (i:Nat):TE:=fun σ H Q=>QeE i σ H Q
def tC (v:V):TE:=fun _ H Q=>Q v H
theorem Qis {i:Nat} {x:Str} {pos:Pos} (hN:X.N[i]?=some x) (hv:Vis X.env.scope x) (hd:(x == ("__debug__":Str))=false:=by decide) (hcd:(x == ("__classdict__":Str))=false:=by decide):PE X (.Name x pos) (tVar i):=by
 intro pins s σ H Q I h
 obtain ⟨v,e,h⟩:=h
 obtain ⟨m,hn,hl⟩:=I.loc
 obtain ⟨u,r,l⟩:=hl i x v hN e hv
 have fin:EP X pins σ Q u s:=⟨v,H,I,r,h⟩
 rcases l with ⟨hk,hm⟩ | ⟨hk,c,hc,hcell⟩
 ·exact wpAny_Name (wpAny_loadName_local I.ok.kind hk hn hm fin) hd
 ·rcases hk with hk | hk
  ·exact wpAny_Name (wpAny_loadName_cell I.ok.kind hk hc hcell fin) hd
  ·exact wpAny_Name (wpAny_loadName_free I.ok.kind hk hc hcell fin hcd) hd
theorem Qa {i j pos}:PE X (.Constant (.int i) j pos) (tC (.int i)):=fun _ _ _ H _ I h=>wpAny_Constant_int ⟨.int i,H,I.tok _,⟨_,rfl⟩,h⟩
theorem Yu {b j pos}:PE X (.Constant (.bool b) j pos) (tC (.bl b)):=fun _ _ _ H _ I h=>Constant_bool ⟨.bl b,H,I,rfl,h⟩
theorem Qan {j pos}:PE X (.Constant .none j pos) (tC .non):=fun _ _ _ H _ I h=>Constant_none ⟨.non,H,I,rfl,h⟩
theorem Qi {x j pos}:PE X (.Constant (.str x) j pos) (tC (.str x)):=fun _ _ _ H _ I h=>Calls.Constant_str ⟨.str x,H,I.tok _,⟨_,rfl⟩,h⟩
def Gl (X:Cx) (x:Str):Prop:=X.env.kindOf x=some .globalImplicit
theorem Qay {E:Value→Shared→Prop} {pins:List (Addr×Obj)} {s:Shared} {σ:St} {H:Hp} {x:Str} {u:Value} {pos:Pos} {Q:Value→Shared→Prop} (I:Inv X pins σ H s) (hg:Gl X x) (hm:X.mg x=some u) (h:Q u s)
 (hd:(x == ("__debug__":Str))=false:=by decide):wpAny (model X.prog X.w) X.A (eval (.Name x pos) X.env) Q E s :=
 Calls.Name_function_global I.ok.kind hg (Calls.loadGlobal_global (by rw [I.ok.glob];exact I.mod.glob.keeps I.bk) hm h) hd
theorem W0 {E:Value→Shared→Prop} {pins:List (Addr×Obj)} {s:Shared} {σ:St} {H:Hp} {x:Str} {u:Value} {pos:Pos} {Q:Value→Shared→Prop} (I:Inv X pins σ H s) (hg:Gl X x) (hm:X.mg x=none) (hv:bootBuiltins x=some u) (h:Q u s)
 (hn:x≠"__name__":=by decide) (hd:(x == ("__debug__":Str))=false:=by decide):wpAny (model X.prog X.w) X.A (eval (.Name x pos) X.env) Q E s:=by
 obtain ⟨mb,h1,h2⟩:=I.mod.blt
 exact Calls.Name_function_global I.ok.kind hg (Calls.loadGlobal_builtin (by rw [I.ok.glob];exact I.mod.glob.keeps I.bk) hm (by rw [I.ok.blt];exact h1.keeps I.bk) ((h2 x hn).trans hv) h) hd
theorem Qdf {x:Str} {v:V} {u:Value} {pos:Pos} (hg:Gl X x) (hm:X.mg x=some u) (r:QQ v u) (hd:(x == ("__debug__":Str))=false:=by decide):PE X (.Name x pos) (tC v) :=
 fun _ _ _ H _ I h=>Qay I hg hm ⟨v,H,I,r,h⟩ hd
theorem Yi {x:Str} {v:V} {u:Value} {pos:Pos} (hg:Gl X x) (hm:X.mg x=none) (hv:bootBuiltins x=some u) (r:QQ v u) (hn:x≠"__name__":=by decide) (hd:(x == ("__debug__":Str))=false:=by decide):PE X (.Name x pos) (tC v) :=
 fun _ _ _ H _ I h=>W0 I hg hm hv ⟨v,H,I,r,h⟩ hn hd
variable {a b : Expr} {ta tb : TE} {pos : Pos}
def PC (X:Cx) (op:CmpOp) (a b:Expr) (t:TE):Prop :=
 ∀(pins:List (Addr×Obj)) (s:Shared) (σ:St) (H:Hp) (Q:VK),Inv X pins σ H s→t σ H Q →
  wpAny (model X.prog X.w) X.A (eval a X.env) (fun v s₁=>wpAny (model X.prog X.w) X.A (eval b X.env) (fun u s₂=>wpAny (model X.prog X.w) X.A (compareOp op v u) (EP X pins σ Q) X.xe s₂) X.xe s₁) X.xe s
inductive tB_I (Q:(Bool→Hp→Prop)) (x:V) (H1:Hp):Prop
 | mk:∀c,x=.bl c→Q c H1→tB_I Q x H1
def tB (t:TE):TT:=fun σ H Q=>t σ H fun x H1=>tB_I Q x H1
theorem Qiu {op:CmpOp} {t:TE} (h:PC X op a b t) (h1:behindInMarks op b=false:=by first | exact nobehind _ (by decide) (by decide) | rfl):PE X (.Compare a [op] [b] pos) t:=fun pins s σ H Q I hw=>wpAny_Compare1 (h pins s σ H Q I hw) h1
theorem Js {e:Expr} {t:TE} (h:PE X e t) (he:∀whole,isTrue e X.env whole=(do let v ←whole;standAt e.pos;holding [v] (truthy v)):=by intro _;rfl):PT X e (tB t):=by
 intro pins s σ H Q I hw
 refine isTrue_plain (thn (h pins s σ H _ I hw) fun v s1 ⟨x,H1,I1,r1,q1⟩=>?_) (he _)
 obtain ⟨d,rfl,q⟩:=q1
 cases r1
 exact wpAny_truthy_bool ⟨H1,I1,q⟩
variable {tA tB' : TT} {rest : List Expr}
def tAnd (t u:TT):TT:=fun σ H Q=>t σ H fun c H1=>if c=true then u σ H1 Q else Q false H1
def tOr (t u:TT):TT:=fun σ H Q=>t σ H fun c H1=>if c=true then Q true H1 else u σ H1 Q
def tNot (t:TT):TT:=fun σ H Q=>t σ H fun c H1=>Q (!c) H1
theorem XG (ha:PT X a tA):PW X (.BoolOp .And [a] pos) tA:=by
 intro wh pins s σ H Q I h
 refine isTrue_and (thn (ha pins s σ H Q I h) fun c s1 e=>?_)
 cases c with
 | true=>exact isTrue_and_nil e
 | false=>exact e
theorem VP (ha:PT X a tA):PW X (.BoolOp .Or [a] pos) tA:=by
 intro wh pins s σ H Q I h
 refine isTrue_or (thn (ha pins s σ H Q I h) fun c s1 e=>?_)
 cases c with
 | false=>exact isTrue_or_nil e
 | true=>exact e
theorem Ka (ha:PT X a tA) (hb:PW X (.BoolOp .And (b :: rest) pos) tB'):PW X (.BoolOp .And (a :: b :: rest) pos) (tAnd tA tB'):=by
 intro wh pins s σ H Q I h
 refine isTrue_and (thn (ha pins s σ H _ I h) fun c s1 ⟨H1,I1,q1⟩=>?_)
 cases c with
 | true=>exact hb wh pins s1 σ H1 Q I1 q1
 | false=>exact ⟨H1,I1,q1⟩
theorem Wf (ha:PT X a tA) (hb:PW X (.BoolOp .Or (b :: rest) pos) tB'):PW X (.BoolOp .Or (a :: b :: rest) pos) (tOr tA tB'):=by
 intro wh pins s σ H Q I h
 refine isTrue_or (thn (ha pins s σ H _ I h) fun c s1 ⟨H1,I1,q1⟩=>?_)
 cases c with
 | true=>exact ⟨H1,I1,q1⟩
 | false=>exact hb wh pins s1 σ H1 Q I1 q1
theorem YX (ha:PT X a tA):PT X (.UnaryOp .Not a pos) (tNot tA):=by
 intro pins s σ H Q I h
 exact isTrue_not (thn (ha pins s σ H (fun c H1=>Q (!c) H1) I h) fun c s1 ⟨H1,I1,q1⟩=>⟨H1,I1,q1⟩)
inductive QcU (tb:TE) (σ:St) (Q:VK) (x:V) (H1:Hp):Prop
 | mk:∀c,x=.bl c→(if c=true then tb σ H1 Q else Q (.bl false) H1)→QcU tb σ Q x H1
def tAndV (ta tb:TE):TE:=fun σ H Q=>ta σ H fun x H1=>QcU tb σ Q x H1
inductive QeF (tb:TE) (σ:St) (Q:VK) (x:V) (H1:Hp):Prop
 | mk:∀c,x=.bl c→(if c=true then Q (.bl true) H1 else tb σ H1 Q)→QeF tb σ Q x H1
def tOrV (ta tb:TE):TE:=fun σ H Q=>ta σ H fun x H1=>QeF tb σ Q x H1
inductive QcQ (Q:VK) (x:V) (H1:Hp):Prop
 | mk:∀c,x=.bl c→Q (.bl (!c)) H1→QcQ Q x H1
def tNotV (ta:TE):TE:=fun σ H Q=>ta σ H fun x H1=>QcQ Q x H1
theorem YY {op} {t:TE} (h:PE X a t):PE X (.BoolOp op [a] pos) t:=fun pins s σ H Q I hw=>BoolOp_one (h pins s σ H Q I hw)
theorem U9 (ha:PE X a ta) (hb:PE X (.BoolOp .And (b :: rest) pos) tb):PE X (.BoolOp .And (a :: b :: rest) pos) (tAndV ta tb):=by
 intro pins s σ H Q I h
 refine BoolOp_and (thn (ha pins s σ H _ I h) fun v s1 ⟨x,H1,I1,r1,q1⟩=>?_)
 obtain ⟨c,rfl,q1⟩:=q1
 cases r1
 refine wpAny_truthy_bool ?_
 cases c with
 | true=>exact hb pins s1 σ H1 Q I1 q1
 | false=>exact ⟨.bl false,H1,I1,rfl,q1⟩
theorem Qde (ha:PE X a ta) (hb:PE X (.BoolOp .Or (b :: rest) pos) tb):PE X (.BoolOp .Or (a :: b :: rest) pos) (tOrV ta tb):=by
 intro pins s σ H Q I h
 refine BoolOp_or (thn (ha pins s σ H _ I h) fun v s1 ⟨x,H1,I1,r1,q1⟩=>?_)
 obtain ⟨c,rfl,q1⟩:=q1
 cases r1
 refine wpAny_truthy_bool ?_
 cases c with
 | false=>exact hb pins s1 σ H1 Q I1 q1
 | true=>exact ⟨.bl true,H1,I1,rfl,q1⟩
theorem Qam (ha:PE X a ta):PE X (.UnaryOp .Not a pos) (tNotV ta):=by
 intro pins s σ H Q I h
 refine UnaryOp_ (thn (ha pins s σ H _ I h) fun v s1 ⟨x,H1,I1,r1,q1⟩=>?_)
 obtain ⟨c,rfl,q1⟩:=q1
 cases r1
 exact not_of (wpAny_truthy_bool ⟨.bl (!c),H1,I1,rfl,q1⟩)
def tIf (t:TT) (ta tb:TE):TE:=fun σ H Q=>t σ H fun c H1=>if c=true then ta σ H1 Q else tb σ H1 Q
theorem Kd {c:Expr} (hc:PT X c tA) (ha:PE X a ta) (hb:PE X b tb):PE X (.IfExp c a b pos) (tIf tA ta tb):=by
 intro pins s σ H Q I h
 refine wpAny_IfExp (thn (hc pins s σ H _ I h) fun d s1 ⟨H1,I1,q1⟩=>?_)
 cases d with
 | true=>exact ha pins s1 σ H1 Q I1 q1
 | false=>exact hb pins s1 σ H1 Q I1 q1
end
end L2
namespace L2
open PySem PySem.Spec PyProof.Rows
def SqL (K:PySem.W.Frag) (H:Hp) (a:Addr) (xs:List V):Prop :=
 Rd H a (.lst xs) ∨
  ∃(o:Obj) (its:Array Value) (n:Nat),K.lookup a=some o∧o.cls=.type "list"∧o.dict=none∧o.data=.seq its n∧its.size≤sizeLine∧QW xs its.toList
def SqT (K:PySem.W.Frag) (H:Hp) (a:Addr) (xs:List V):Prop :=
 Rd H a (.tup xs) ∨
  ∃(o:Obj) (its:Array Value) (n:Nat),K.lookup a=some o∧o.cls=.type "tuple"∧o.data=.seq its n∧its.size≤sizeLine∧QW xs its.toList
def absV:Value→Option V
 | .none=>some .non
 | .bool b=>some (.bl b)
 | .int i _=>some (.int i)
 | .str x _=>some (.str x)
 | .bytes b _=>some (.byt b)
 | .float b _=>some (.flt b)
 | .ref a=>some (.ref a)
 | .type n=>some (.ty n)
 | _=>none
theorem QQ.abs {x:V} {u:Value} (r:QQ x u):absV u=some x:=by
 cases x with
 | non=>cases r;rfl
 | bl _=>cases r;rfl
 | int _=>obtain ⟨t,rfl⟩:=r;rfl
 | str _=>obtain ⟨t,rfl⟩:=r;rfl
 | byt _=>obtain ⟨t,rfl⟩:=r;rfl
 | flt _=>obtain ⟨t,rfl⟩:=r;rfl
 | ref _=>cases r;rfl
 | ty _=>cases r;rfl
theorem QQ.inj {x y:V} {u:Value} (r:QQ x u) (q:QQ y u):x=y:=Option.some.inj (r.abs.symm.trans q.abs)
theorem QW.inj:∀{xs ys:List V} {us:List Value},QW xs us→QW ys us→xs=ys
 | _,_,_,.nil,.nil=>rfl
 | _,_,_,.cons r t,.cons r' t'=>by rw [r.inj r',QW.inj t t']
section
variable {X : Cx} {pins : List (Addr × Obj)} {σ : St} {H : Hp} {s : Shared} {a : Addr} {xs ys : List V}
theorem SqL.of {K:PySem.W.Frag} (h:H a=some (.lst xs)):SqL K H a xs:=.inl (.inl h)
theorem SqT.of {K:PySem.W.Frag} (h:H a=some (.tup xs)):SqT K H a xs:=.inl (.inl h)
theorem Inv.list (I:Inv X pins σ H s) (h:SqL X.K H a xs):∃its:List Value,QW xs its∧PlainL s.heap a its.toArray∧xs.length≤sizeLine:=by
 rcases h with h | ⟨o,its,n,hk,hc,hd,hs,hz,r⟩
 ·obtain ⟨z,its,n,r,e⟩:=h.ok I.hok
  exact ⟨its,r,⟨_,n,e,rfl,rfl,rfl⟩,z⟩
 ·refine ⟨its.toList,r,⟨o,n,I.kIn a o hk,hc,hd,by simpa using hs⟩,?_⟩
  have e:=r.length
  simp only [Array.length_toList] at e
  omega
theorem Inv.tuple (I:Inv X pins σ H s) (h:SqT X.K H a xs):∃its:List Value,QW xs its∧IsTup s.heap a its.toArray∧xs.length≤sizeLine:=by
 rcases h with h | ⟨o,its,n,hk,hc,hs,hz,r⟩
 ·obtain ⟨z,its,r,p⟩:=h.ok I.hok
  exact ⟨its,r,p,z⟩
 ·refine ⟨its.toList,r,⟨o,I.kIn a o hk,hc,n,by simpa using hs⟩,?_⟩
  have e:=r.length
  simp only [Array.length_toList] at e
  omega
theorem Inv.list_inj (I:Inv X pins σ H s) (h:SqL X.K H a xs) (h':SqL X.K H a ys):xs=ys:=by
 obtain ⟨its,r,⟨o,n,e,_,_,d⟩,_⟩:=I.list h
 obtain ⟨its',r',⟨o',n',e',_,_,d'⟩,_⟩:=I.list h'
 rw [e] at e';cases e'
 rw [d] at d'
 injection d' with d1 _
 have:its=its':=by simpa using congrArg Array.toList d1
 subst this
 exact r.inj r'
theorem Inv.tuple_inj (I:Inv X pins σ H s) (h:SqT X.K H a xs) (h':SqT X.K H a ys):xs=ys:=by
 obtain ⟨its,r,⟨o,e,_,n,d⟩,_⟩:=I.tuple h
 obtain ⟨its',r',⟨o',e',_,n',d'⟩,_⟩:=I.tuple h'
 rw [e] at e';cases e'
 rw [d] at d'
 injection d' with d1 _
 have:its=its':=by simpa using congrArg Array.toList d1
 subst this
 exact r.inj r'
end
abbrev Cx.wish (X:Cx) (E:Value→Shared→Prop):Cx:={ X with xe:=E }
abbrev Cx.nox (X:Cx):Cx:=X.wish fun _ _=>False
theorem Cx.Ok.wish {X:Cx} (ok:X.Ok) (E:Value→Shared→Prop):(X.wish E).Ok :=
 ⟨ok.mod,ok.kind,ok.glob,ok.blt,ok.above,ok.inj,ok.has,ok.cab,ok.hd,ok.frames,ok.stk,ok.exf,ok.bs,ok.bsz,ok.noex,ok.exfs,ok.funs,ok.frf⟩
theorem Cx.Ok.unwish {X:Cx} {E:Value→Shared→Prop} (ok:(X.wish E).Ok):X.Ok :=
 ⟨ok.mod,ok.kind,ok.glob,ok.blt,ok.above,ok.inj,ok.has,ok.cab,ok.hd,ok.frames,ok.stk,ok.exf,ok.bs,ok.bsz,ok.noex,ok.exfs,ok.funs,ok.frf⟩
section
variable {X : Cx} {pins : List (Addr × Obj)} {σ : St} {H : Hp} {s : Shared} {E : Value → Shared → Prop}
theorem Inv.wish (I:Inv X pins σ H s) (E:Value→Shared→Prop):Inv (X.wish E) pins σ H s:=⟨I.ok.wish E,I.os,I.bare,I.base,I.loc,I.cell,I.free,I.freeC,I.pin,I.hok,I.len⟩
theorem Inv.unwish (I:Inv (X.wish E) pins σ H s):Inv X pins σ H s:=⟨I.ok.unwish,I.os,I.bare,I.base,I.loc,I.cell,I.free,I.freeC,I.pin,I.hok,I.len⟩
theorem SP.unwish {D:VY} {f:Flow} {s':Shared} (h:SP (X.wish E) pins D f s'):SP X pins D f s':=by
 cases f with
 | next=>obtain ⟨σ',H',I,q⟩:=h;exact ⟨σ',H',I.unwish,q⟩
 | brk=>obtain ⟨σ',H',I,q⟩:=h;exact ⟨σ',H',I.unwish,q⟩
 | cont=>obtain ⟨σ',H',I,q⟩:=h;exact ⟨σ',H',I.unwish,q⟩
 | ret u=>obtain ⟨v,σ',H',I,r,q⟩:=h;exact ⟨v,σ',H',I.unwish,r,q⟩
theorem PSs.nox {st:List Stmt} {t:TS} (h:PSs X.nox st t):PSs X st t:=fun pins s σ H D I hw =>
 wpAny_mono (h pins s σ H D (I.wish _) hw) (fun _ _ q=>q.unwish) fun _ _ z=>False.elim z
end
section
variable {X : Cx} {st : Stmt} {rest : List Stmt} {t u : TS} {e : Expr} {te : TE} {pos : Pos}
def tNext:TS:=fun D σ H=>D.nx σ H
def Qb8 (t u:TS):TS:=fun D σ H=>t { D with nx:=u D } σ H
theorem QB:PSs X [] tNext:=fun _ _ σ H _ I h=>wpAny_execs_nil ⟨σ,H,I,h⟩
theorem Qb (h1:PS X st t) (h2:PSs X rest u):PSs X (st :: rest) (Qb8 t u):=by
 intro pins s σ H D I h
 refine wpAny_execs_cons (thn (h1 pins s σ H { D with nx:=u D } I h) fun f s1 q=>?_)
 cases f with
 | next =>
   obtain ⟨σ',H',I',q⟩:=q
   exact h2 pins s1 σ' H' D I' q
 | ret v=>exact q
 | brk=>exact q
 | cont=>exact q
theorem Qd (h1:PS X st t):PSs X [st] t:=by
 intro pins s σ H D I h
 refine wpAny_execs_cons (thn (h1 pins s σ H D I h) fun f s1 q=>?_)
 cases f with
 | next=>exact wpAny_execs_nil q
 | ret v=>exact q
 | brk=>exact q
 | cont=>exact q
def Qig:TS:=fun D σ H=>D.bk σ H
theorem Qa8:PS X (.Break pos) Qig:=fun _ _ σ H _ I h=>wpAny_Break ⟨σ,H,I,h⟩
theorem Inv.quiet {pins:List (Addr×Obj)} {σ:St} {H:Hp} {s:Shared} (I:Inv X pins σ H s):interactive X.env=false:=by simp [interactive,I.ok.kind]
def tDrop (te:TE):TS:=fun D σ H=>te σ H fun _ H1=>D.nx σ H1
theorem Q9 (he:PE X e te) (hs:swapsWith e none pos.line X.env=pure false:=by rfl):PS X (.Expr e pos) (tDrop te):=by
 intro pins s σ H D I h
 exact wpAny_Expr_any (thn (he pins s σ H _ I h) fun v s1 ⟨x,H1,I1,r1,q1⟩=>⟨σ,H1,I1,q1⟩) I.quiet hs
def tRet (te:TE):TS:=fun D σ H=>te σ H D.rt
theorem Qo (he:PE X e te):PS X (.Return (some e) pos) (tRet te):=by
 intro pins s σ H D I h
 exact wpAny_Return_some (thn (he pins s σ H _ I h) fun v s1 ⟨x,H1,I1,r1,q1⟩=>⟨x,σ,H1,I1,r1,q1⟩)
def tIfS (c:TT) (t u:TS):TS:=fun D σ H=>c σ H fun b H1=>if b=true then t D σ H1 else u D σ H1
theorem QK {c:Expr} {a b:List Stmt} {tc:TT} (hc:PT X c tc) (ha:PSs X a t) (hb:PSs X b u):PS X (.If c a b pos) (tIfS tc t u):=by
 intro pins s σ H D I h
 refine wpAny_If (thn (hc pins s σ H _ I h) fun d s1 ⟨H1,I1,q1⟩=>?_)
 cases d with
 | true=>exact ha pins s1 σ H1 D I1 q1
 | false=>exact hb pins s1 σ H1 D I1 q1
def QeG:TS:=fun _ _ _=>False
theorem U4:PS X st QeG:=fun _ _ _ _ _ _ h=>h.elim
theorem Gs {sts:List Stmt}:PSs X sts QeG:=fun _ _ _ _ _ _ h=>h.elim
end
abbrev TG:=V→St→Hp→(St→Hp→Prop)→Prop
abbrev TGs:=List V→St→Hp→(St→Hp→Prop)→Prop
def PG (X:Cx) (target:Expr) (t:TG):Prop :=
 ∀(pins:List (Addr×Obj)) (s:Shared) (σ:St) (H:Hp) (v:V) (u:Value) (Q:St→Hp→Prop),Inv X pins σ H s→QQ v u→t v σ H Q →
  wpAny (model X.prog X.w) X.A (assign target X.env u) (fun _ s'=>∃σ' H',Inv X pins σ' H' s'∧Q σ' H') X.xe s
def PGs (X:Cx) (ts:List Expr) (t:TGs):Prop :=
 ∀(pins:List (Addr×Obj)) (s:Shared) (σ:St) (H:Hp) (vs:List V) (us:List Value) (Q:St→Hp→Prop),Inv X pins σ H s→QW vs us→t vs σ H Q →
  wpAny (model X.prog X.w) X.A (assignInOrder ((assignEach ts X.env).map (·.2)) us) (fun _ s'=>∃σ' H',Inv X pins σ' H' s'∧Q σ' H') X.xe s
section
variable {X : Cx} {pos : Pos}
def Wr (i:Nat):TG:=fun v σ H Q=>Q (σ.set i (some v)) H
theorem QR {i:Nat} {x:Str} (hN:X.N.Nodup) (hi:X.N[i]?=some x) (hx:Loc X.env.scope x) (hf:X.fn x=true∨X.env.scope.names.lookup x=some .local:=by first | exact .inl rfl | exact .inr rfl | assumption):PG X (.Name x pos) (Wr i):=by
 intro pins s σ H v u Q I r h
 exact wpAny_assign_Name (QaP I hN hi hx r (fun s' I'=>⟨_,H,I',h⟩) hf)
def gNil:TGs:=fun vs σ H Q=>vs=[]∧Q σ H
def Qgr (t:TG) (u:TGs):TGs:=fun vs σ H Q=>∃v r,vs=v :: r∧t v σ H fun σ' H'=>u r σ' H' Q
theorem Vr:PGs X [] gNil:=by
 intro pins s σ H vs us Q I r h
 obtain ⟨e,h⟩:=h
 subst e
 cases r
 exact assignInOrder_nil ⟨σ,H,I,h⟩
theorem Zy {e:Expr} {es:List Expr} {t:TG} {u:TGs} (h1:PG X e t) (h2:PGs X es u)
 (hs:(assignEach (e :: es) X.env).map (·.2)=assign e X.env :: (assignEach es X.env).map (·.2):=by rfl):PGs X (e :: es) (Qgr t u):=by
 intro pins s σ H vs us Q I r h
 obtain ⟨v,vr,e1,h⟩:=h
 subst e1
 cases r with
 | cons r rr =>
   rw [hs]
   refine assignInOrder_cons (thn (h1 pins s σ H _ _ _ I r h) fun _ s1 ⟨σ1,H1,I1,q1⟩=>?_)
   exact h2 pins s1 σ1 H1 _ _ Q I1 rr q1
def gTup (K:PySem.W.Frag) (n:Nat) (t:TGs):TG:=fun v σ H Q=>∃a xs,v=.ref a∧SqT K H a xs∧xs.length=n∧t xs σ H Q
theorem WQ {es:List Expr} {k:Nat} {t:TGs} {n:Nat} (hc:X.calm=true) (h:PGs X es t)
 (hn:(assignEach es X.env).length=n:=by rfl) (hst:(assignEach es X.env).findIdx? (·.1)=none:=by rfl):PG X (.Tuple es k pos) (gTup X.K n t):=by
 intro pins s σ H v u Q I r hw
 obtain ⟨a,xs,e1,hq,hl,hw⟩:=hw
 subst e1
 cases r
 obtain ⟨its,rv,ht,hz⟩:=I.tuple hq
 refine assign_Tuple_tuple (I.ok.hd hc) ht (by simp [hn,←hl,rv.length]) hst fun h' hx=>?_
 have I1:Inv X pins σ H { s with heap:=h' }:=I.kept (t':=s.toks) fun b o e=>hx b o (Nat.ne_of_lt (Heap.lt_size e)) e
 exact h pins _ σ H xs _ Q I1 (by simpa using rv) hw
def QeN (te:TE) (g:TG):TS:=fun D σ H=>te σ H fun x H1=>g x σ H1 D.nx
theorem Qcm {tg e:Expr} {te:TE} {g:TG} (he:PE X e te) (hg:PG X tg g) (hs:swapsWithSole [tg] e pos.line X.env=pure false:=by rfl) (hw:swappedStores [tg] e X.env=pure none:=by rfl)
 (h1:(assignEach [tg] X.env).map (·.2)=[assign tg X.env]:=by rfl):PS X (.Assign [tg] e pos) (QeN te g):=by
 intro pins s σ H D I h
 refine wpAny_Assign_stores (thn (he pins s σ H _ I h) fun v s1 ⟨x,H1,I1,r1,q1⟩=>?_) hs hw
 rw [h1]
 exact thn (hg pins s1 σ H1 x v _ I1 r1 q1) fun _ s2 ⟨σ2,H2,I2,q2⟩=>⟨σ2,H2,I2,q2⟩
theorem Qv {i:Nat} {x:Str} {e:Expr} {te:TE} {pos':Pos} (hN:X.N.Nodup) (hi:X.N[i]?=some x) (hx:Loc X.env.scope x) (he:PE X e te) (hs:swapsWith e (some (.Name x pos')) pos.line X.env=pure false:=by rfl) (hf:X.fn x=true∨X.env.scope.names.lookup x=some .local:=by first | exact .inl rfl | exact .inr rfl | assumption) :
 PS X (.Assign [.Name x pos'] e pos) (QeN te (Wr i)):=by
 intro pins s σ H D I h
 refine wpAny_Assign_Name (thn (he pins s σ H _ I h) fun v s1 ⟨y,H1,I1,r1,q1⟩=>?_) hs
 exact QaP I1 hN hi hx r1 (fun s2 I2=>⟨_,H1,I2,q1⟩) hf
end
section
variable {X : Cx} {pos : Pos}
inductive QaK (c:TT) (tb:TS) (D:VY) (σ:St) (H:Hp):Prop
 | mk:∀W:Nat→St→Hp→Prop,(∃m,W m σ H)→(∀m σ H,W m σ H→c σ H fun b H1=>if b=true then ∃N:St→Hp→Prop,(∀σ' H',N σ' H'→∃m',m'<m∧W m' σ' H')∧tb { D with nx:=N,ct:=N,bk:=D.nx } σ H1 else D.nx σ H1)→QaK c tb D σ H
def QeD (c:TT) (tb:TS):TS:=fun D σ H=>QaK c tb D σ H
theorem Qfy {c:Expr} {body:List Stmt} {tc:TT} {tb:TS} (hp:PassesOwn (model X.prog X.w) X.A X.env X.xe) (hc:PT X c tc) (hb:PSs X body tb):PS X (.While c body [] pos) (QeD tc tb):=by
 intro pins s σ H D I h
 obtain ⟨W,⟨m0,w0⟩,turn⟩:=h
 refine wpAny_While (codeAny_whileLoop (fun n s'=>∃σ' H',Inv X pins σ' H' s'∧W n σ' H') ?_ m0 ⟨σ,H,I,w0⟩)
 rintro n s1 ⟨σ1,H1,I1,w1⟩
 refine wpAny_passesOwn hp (thn (hc pins s1 σ1 H1 _ I1 (turn n σ1 H1 w1)) fun b s2 ⟨H2,I2,q2⟩=>?_)
 cases b with
 | true =>
   obtain ⟨N,hN,q2⟩:=q2
   rw [if_pos rfl]
   refine wpAny_passesOwn hp (thn (hb pins s2 σ1 H2 _ I2 q2) fun f s3 q3=>?_)
   cases f with
   | next =>
     obtain ⟨σ3,H3,I3,n3⟩:=q3
     obtain ⟨m',hm,w3⟩:=hN σ3 H3 n3
     exact ⟨m',hm,σ3,H3,I3,w3⟩
   | cont =>
     obtain ⟨σ3,H3,I3,n3⟩:=q3
     obtain ⟨m',hm,w3⟩:=hN σ3 H3 n3
     exact ⟨m',hm,σ3,H3,I3,w3⟩
   | brk=>exact q3
   | ret v=>exact q3
 | false =>
   rw [if_neg Bool.false_ne_true]
   exact wpAny_execs_nil ⟨σ1,H2,I2,q2⟩
end
structure It where
 go:Nat→Hp→Prop
 yld:Nat→Hp→V→Hp→Prop
 stop:Nat→Hp→Prop
def Xy (X:Cx) (pins:List (Addr×Obj)) (H:Hp) (b:Addr):Prop :=
 H b=none∧b≠X.env.locals∧b∉X.fs∧(b∈X.ex∨X.s₀.heap.objs.size≤b)∧(∀x c,X.env.cells.lookup x=some c→c≠b)∧∀p∈X.pn++pins,p.1≠b
theorem Inv.fpOk {X:Cx} {pins:List (Addr×Obj)} {σ:St} {H H':Hp} {s:Shared} {b:Addr} (I:Inv X pins σ H s) (hb:s.heap.objs.size≤b) (hn:H' b=none):Xy X pins H' b:=by
 refine ⟨hn,Nat.ne_of_gt (Nat.lt_of_lt_of_le I.lt hb),I.nofs hb,.inr (Nat.le_trans I.sz hb),fun x c e z=>?_,fun p hp z=>?_⟩
 ·obtain ⟨v,q⟩:=I.cell x c e
  exact absurd (Nat.lt_of_lt_of_le q.lt (by rw [z];exact hb)) (Nat.lt_irrefl _)
 ·exact absurd (Nat.lt_of_lt_of_le (Heap.lt_size (I.pin p hp).1) (by rw [z];exact hb)) (Nat.lt_irrefl _)
structure QcH (P:Program) (w:World) (K:PySem.W.Frag) (tg:Expr) (J:It) (fp:List Addr) (it:Addr) (tn:Nat→Heap→Prop):Prop where
 mem:it∈fp
 obj:∀i h,tn i h→∀b∈fp,∃o,h.get? b=some o∧∀v,o.data≠.cell v
 keep:∀i h h',tn i h→(∀b∈fp,∀o,h.get? b=some o→h'.get? b=some o)→tn i h'
 item:∀(X:Cx),X.prog=P→X.w=w→X.K=K→X.calm=true→∀(i:Nat) (pins:List (Addr×Obj)) (s:Shared) (σ:St) (H:Hp) (E:Value→Shared→Prop),Inv X pins σ H s→(∀b∈fp,Xy X pins H b)→tn i s.heap→J.go i H →
  wpAny (model P w) X.A (pyNext (.ref it)) (fun r s1=>∃u,r=some u ∧
   wpAny (model P w) X.A (letOwnedTupleGo tg (.ref it) u) (fun _ s2=>∃x H',Inv X pins σ H' s2∧QQ x u∧J.yld i H x H'∧tn (i+1) s2.heap∧∀b∈fp,H' b=none) E s1) E s
 done:∀(X:Cx),X.prog=P→X.w=w→X.K=K→X.calm=true→∀(i:Nat) (pins:List (Addr×Obj)) (s:Shared) (σ:St) (H:Hp) (E:Value→Shared→Prop),Inv X pins σ H s→(∀b∈fp,Xy X pins H b)→tn i s.heap→J.stop i H →
  wpAny (model P w) X.A (pyNext (.ref it)) (fun r s1=>r=none∧Inv X pins σ H s1) E s
 self:∀(A:Around) (i:Nat) (s:Shared) (Q:Value→Shared→Prop) (E:Value→Shared→Prop),tn i s.heap→Q (.ref it) s→wpAny (model P w) A (pyIter (.ref it)) Q E s
abbrev TI:=St→Hp→(It→Hp→Prop)→Prop
def PIE (X:Cx) (pins:List (Addr×Obj)) (σ:St) (tg:Expr) (R:It→Hp→Prop) (itv:Value) (s2:Shared):Prop :=
 ∃(it:Addr) (fp:List Addr) (tn:Nat→Heap→Prop) (J:It) (H':Hp),itv=.ref it∧Inv X pins σ H' s2∧QcH X.prog X.w X.K tg J fp it tn∧tn 0 s2.heap∧(∀b∈fp,Xy X pins H' b)∧R J H'
def PI (X:Cx) (tg iter:Expr) (wi:TI):Prop :=
 ∀(pins:List (Addr×Obj)) (s:Shared) (σ:St) (H:Hp) (R:It→Hp→Prop),Inv X pins σ H s→wi σ H R →
  wpAny (model X.prog X.w) X.A (eval iter X.env) (fun v s1=>wpAny (model X.prog X.w) X.A (pyIter v) (PIE X pins σ tg R) X.xe s1) X.xe s
theorem Qds {M:Model} {A:Around} {E:Value→Shared→Prop} {s:Shared} {tg:Expr} {it:Addr} {u:Value} {o:Obj} {n:String} {vs:Array Value} {Q:Unit→Shared→Prop} (ho:s.heap.get? it=some o) (hc:o.cls=.type n) (hd:o.data=.fields vs)
 (hn:["enumerate","zip","dict_itemiterator","dict_reverseitemiterator","odict_iterator","itertools.zip_longest","itertools.pairwise"].contains n=false) (hQ:Q () s):wpAny M A (letOwnedTupleGo tg (.ref it) u) Q E s:=by
 unfold letOwnedTupleGo
 cases tg <;> first
  | exact wpAny_pure hQ
  | (cases u <;> first
      | exact wpAny_pure hQ
      | (refine wpAny_bind (wpAny_load ho ?_)
         rw [hc,hd]
         show wpAny M A (if (["enumerate","zip","dict_itemiterator","dict_reverseitemiterator","odict_iterator","itertools.zip_longest","itertools.pairwise"].contains n && vs[0]? == some (rawInt _))=true then _ else _) Q E s
         rw [if_neg (by intro h;rw [hn,Bool.false_and] at h;cases h)]
         exact wpAny_pure hQ))
def Itl (K:PySem.W.Frag) (a:Addr):It :=
 ⟨fun i H=>∃xs x,SqL K H a xs∧xs[i]?=some x,fun i H x H'=>H'=H∧∀xs,SqL K H a xs→xs[i]?=some x,fun i H=>∃xs,SqL K H a xs∧xs.length≤i⟩
def Itt (K:PySem.W.Frag) (a:Addr):It :=
 ⟨fun i H=>∃xs x,SqT K H a xs∧xs[i]?=some x,fun i H x H'=>H'=H∧∀xs,SqT K H a xs→xs[i]?=some x,fun i H=>∃xs,SqT K H a xs∧xs.length≤i⟩
def Itr (lo:Int) (n:Nat):It:=⟨fun i _=>i<n,fun i H x H'=>H'=H∧x=.int (lo+i),fun i _=>n≤i⟩
theorem QdH {P:Program} {w:World} {K:PySem.W.Frag} {tg:Expr} (a it:Addr):QcH P w K tg (Itl K a) [it] it (fun i h=>h.IsListIter it a i) where
 mem:=by simp
 obj:=fun i h st b hb=>by
  have e:b=it:=by simpa using hb
  subst e
  obtain ⟨o,e,c,d⟩:=st
  exact ⟨o,e,fun v z=>by rw [d] at z;cases z⟩
 keep:=fun i h h' st k=>st.at fun o e=>k it (by simp) o e
 item:=by
  intro X hP hw hK hc i pins s σ H E I hf st hg
  subst hP hw hK
  obtain ⟨xs,x,hq,hx⟩:=hg
  obtain ⟨its,rv,p,hz⟩:=I.list hq
  obtain ⟨u,hu,ru⟩:=rv.get hx
  obtain ⟨f0,f1,f2,f3,f4,f5⟩:=hf it (by simp)
  refine wpAny_pyNext_list_item st p.isList (x:=u) (by simpa using hu) fun h' st' sb=>?_
  have I1:Inv X pins σ H { s with heap:=h' }:=I.turned (t':=s.toks) (fun b o hb e=>(sb.2 b hb).trans e) f0 f1 f3 f4 f5
  obtain ⟨o,e,c,d⟩:=id st'
  exact ⟨u,rfl,Qds (s:={ s with heap:=h' }) e c d (by decide) ⟨x,H,I1,ru,⟨rfl,fun ys hy=>by rw [I.list_inj hy hq];exact hx⟩,st',fun b hb=>(hf b hb).1⟩⟩
 done:=by
  intro X hP hw hK hc i pins s σ H E I hf st hg
  subst hP hw hK
  obtain ⟨xs,hq,hx⟩:=hg
  obtain ⟨its,rv,p,hz⟩:=I.list hq
  obtain ⟨f0,f1,f2,f3,f4,f5⟩:=hf it (by simp)
  have hl:=rv.length
  exact wpAny_pyNext_list_end (I.ok.hd hc) st p.isList (by simp;omega) fun h' eb=>⟨rfl,I.turned (t':=s.toks) (fun b o hb e=>eb b o hb e) f0 f1 f3 f4 f5⟩
 self:=fun _ _ _ _ _ st h=>wpAny_pyIter_listiter st h
theorem Qb6 {P:Program} {w:World} {K:PySem.W.Frag} {tg:Expr} (a it:Addr):QcH P w K tg (Itt K a) [it] it (fun i h=>h.IsTupleIter it a i) where
 mem:=by simp
 obj:=fun i h st b hb=>by
  have e:b=it:=by simpa using hb
  subst e
  obtain ⟨o,e,c,d⟩:=st
  exact ⟨o,e,fun v z=>by rw [d] at z;cases z⟩
 keep:=fun i h h' st k=>st.at fun o e=>k it (by simp) o e
 item:=by
  intro X hP hw hK hc i pins s σ H E I hf st hg
  subst hP hw hK
  obtain ⟨xs,x,hq,hx⟩:=hg
  obtain ⟨its,rv,p,hz⟩:=I.tuple hq
  obtain ⟨u,hu,ru⟩:=rv.get hx
  obtain ⟨f0,f1,f2,f3,f4,f5⟩:=hf it (by simp)
  refine wpAny_pyNext_tuple_item st (show s.heap.IsTuple a its.toArray from p) (x:=u) (by simpa using hu) fun h' st' sb=>?_
  have I1:Inv X pins σ H { s with heap:=h' }:=I.turned (t':=s.toks) (fun b o hb e=>(sb.2 b hb).trans e) f0 f1 f3 f4 f5
  obtain ⟨o,e,c,d⟩:=id st'
  exact ⟨u,rfl,Qds (s:={ s with heap:=h' }) e c d (by decide) ⟨x,H,I1,ru,⟨rfl,fun ys hy=>by rw [I.tuple_inj hy hq];exact hx⟩,st',fun b hb=>(hf b hb).1⟩⟩
 done:=by
  intro X hP hw hK hc i pins s σ H E I hf st hg
  subst hP hw hK
  obtain ⟨xs,hq,hx⟩:=hg
  obtain ⟨its,rv,p,hz⟩:=I.tuple hq
  obtain ⟨f0,f1,f2,f3,f4,f5⟩:=hf it (by simp)
  have hl:=rv.length
  exact wpAny_pyNext_tuple_end (I.ok.hd hc) st (show s.heap.IsTuple a its.toArray from p) (by simp;omega) fun h' eb=>⟨rfl,I.turned (t':=s.toks) (fun b o hb e=>eb b o hb e) f0 f1 f3 f4 f5⟩
 self:=fun _ _ _ _ _ st h=>wpAny_pyIter_tupleiter st h
theorem Qb7 {P:Program} {w:World} {K:PySem.W.Frag} {tg:Expr} (it:Addr) (lo:Int) (n:Nat):QcH P w K tg (Itr lo n) [it] it (fun i h=>IsRangeIter h it (lo+(i:Nat)*1) ((n:Int) - (i:Nat)) 1) where
 mem:=by simp
 obj:=fun i h st b hb=>by
  have e:b=it:=by simpa using hb
  subst e
  exact ⟨_,st,fun v z=>by
   have z':Data.fields _=Data.cell v:=z
   cases z'⟩
 keep:=fun i h h' st k=>k it (by simp) _ st
 item:=by
  intro X hP hw hK hc i pins s σ H E I hf st hg
  subst hP hw hK
  obtain ⟨f0,f1,f2,f3,f4,f5⟩:=hf it (by simp)
  have W:=Walks.range (prog:=X.prog) (w:=X.w) (I.ok.hd hc) it lo 1 n
  refine W.item i s _ _ hg st fun v h' tk hv st' kk=>?_
  obtain ⟨t,rfl⟩:=hv
  have I1:Inv X pins σ H { s with heap:=h',toks:=tk }:=I.turned (fun b o hb e=>kk b o (by simpa using hb) e) f0 f1 f3 f4 f5
  refine ⟨_,rfl,Qds (s:={ s with heap:=h',toks:=tk }) (n:="range_iterator") st' rfl rfl (by decide) ⟨.int (lo+i),H,I1,⟨t,?_⟩,⟨rfl,rfl⟩,st',fun b hb=>(hf b hb).1⟩⟩
  rw [Int.mul_one]
 done:=by
  intro X hP hw hK hc i pins s σ H E I hf st hg
  subst hP hw hK
  obtain ⟨f0,f1,f2,f3,f4,f5⟩:=hf it (by simp)
  exact wpAny_pyNext_range_end (I.ok.hd hc) st (by have:n≤i:=hg;omega) fun h' eb=>⟨rfl,I.turned (t':=s.toks) (fun b o hb e=>eb b o hb e) f0 f1 f3 f4 f5⟩
 self:=fun _ _ _ _ _ st h=>wpAny_pyIter_rangeiter st h
end L2
namespace L2
open PySem PySem.Spec PyProof.Rows
section
variable {X : Cx} {tg : Expr}
inductive Qdq (K:PySem.W.Frag) (R:(It→Hp→Prop)) (x:V) (H1:Hp):Prop
 | mk:∀a,x=.ref a→(∃xs,SqL K H1 a xs)→R (Itl K a) H1→Qdq K R x H1
def iList (K:PySem.W.Frag) (tl:TE):TI:=fun σ H R=>tl σ H fun x H1=>Qdq K R x H1
inductive Qgm (K:PySem.W.Frag) (R:(It→Hp→Prop)) (x:V) (H1:Hp):Prop
 | mk:∀a,x=.ref a→(∃xs,SqT K H1 a xs)→R (Itt K a) H1→Qgm K R x H1
def iTup (K:PySem.W.Frag) (tl:TE):TI:=fun σ H R=>tl σ H fun x H1=>Qgm K R x H1
theorem Zx {l:Expr} {tl:TE} (hl:PE X l tl):PI X tg l (iList X.K tl):=by
 intro pins s σ H R I h
 refine thn (hl pins s σ H _ I h) fun v s1 ⟨x,H1,I1,r1,q1⟩=>?_
 obtain ⟨a,e,⟨xs,hq⟩,q⟩:=q1
 subst e
 cases r1
 obtain ⟨its,rv,p,hz⟩:=I1.list hq
 refine wpAny_pyIter_list p.isList ?_
 refine ⟨s1.heap.objs.size,[s1.heap.objs.size],_,_,H1,rfl,I1.kept (t':=s1.toks) fun b o e=>Heap.get?_push_of_some _ e,QdH a _,⟨_,Heap.get?_push_size _ rfl,rfl,rfl⟩,fun b hb=>?_,q⟩
 have e:b=s1.heap.objs.size:=by simpa using hb
 subst e
 exact I1.fpOk (Nat.le_refl _) (I1.hok.fresh (Nat.le_refl _))
theorem Kc {l:Expr} {tl:TE} (hl:PE X l tl):PI X tg l (iTup X.K tl):=by
 intro pins s σ H R I h
 refine thn (hl pins s σ H _ I h) fun v s1 ⟨x,H1,I1,r1,q1⟩=>?_
 obtain ⟨a,e,⟨xs,hq⟩,q⟩:=q1
 subst e
 cases r1
 obtain ⟨its,rv,p,hz⟩:=I1.tuple hq
 refine wpAny_pyIter_tuple (show s1.heap.IsTuple a its.toArray from p) ?_
 refine ⟨s1.heap.objs.size,[s1.heap.objs.size],_,_,H1,rfl,I1.kept (t':=s1.toks) fun b o e=>Heap.get?_push_of_some _ e,Qb6 a _,⟨_,Heap.get?_push_size _ rfl,rfl,rfl⟩,fun b hb=>?_,q⟩
 have e:b=s1.heap.objs.size:=by simpa using hb
 subst e
 exact I1.fpOk (Nat.le_refl _) (I1.hok.fresh (Nat.le_refl _))
theorem Qfh {pins:List (Addr×Obj)} {σ:St} {H:Hp} {s:Shared} {R:It→Hp→Prop} {E:Value→Shared→Prop} {lo hi:Int} {t u v:Tok} {tk:Nat} (I:Inv X pins σ H s) (h1 : -(2 ^ 62)≤lo) (h2:lo<2 ^ 62) (h3 : -(2 ^ 62)≤hi) (h4:hi<2 ^ 62)
 (q:R (Itr lo (hi - lo).toNat) H):wpAny (model X.prog X.w) X.A (pyIter (.ref s.heap.objs.size)) (PIE X pins σ tg R) E { s with heap:=s.heap.push { cls:=.type "range",data:=.fields #[.int lo t,.int hi u,.int 1 v] },toks:=tk }:=by
 refine wpAny_pyIter_range (IsRange.new ..) (small_one h1 h2 h3 h4) ?_
 have I1:Inv X pins σ H { s with heap:=s.heap.push { cls:=.type "range",data:=.fields #[.int lo t,.int hi u,.int 1 v] },toks:=tk }:=I.kept fun b o e=>Heap.get?_push_of_some _ e
 refine ⟨(s.heap.push { cls:=.type "range",data:=.fields #[.int lo t,.int hi u,.int 1 v] }).objs.size,[(s.heap.push { cls:=.type "range",data:=.fields #[.int lo t,.int hi u,.int 1 v] }).objs.size],_,_,H,rfl,
  I1.kept (t':=tk) fun b o e=>Heap.get?_push_of_some _ e,Qb7 _ lo (hi - lo).toNat,?_,fun b hb=>?_,q⟩
 ·have e1:lo+((0:Nat):Int)*1=lo:=by simp
  have e2:(((hi - lo).toNat:Nat):Int) - ((0:Nat):Int)=Builtin.Range.rangeSize lo hi 1:=by rw [rangeSize_one];split <;> omega
  show IsRangeIter _ _ (lo+((0:Nat):Int)*1) ((((hi - lo).toNat:Nat):Int) - ((0:Nat):Int)) 1
  rw [e1,e2]
  exact Heap.get?_push_size _ rfl
 ·have e:b=(s.heap.push { cls:=.type "range",data:=.fields #[.int lo t,.int hi u,.int 1 v] }).objs.size:=by simpa using hb
  subst e
  exact I1.fpOk (Nat.le_refl _) (I1.hok.fresh (Nat.le_refl _))
inductive Qdp (R:(It→Hp→Prop)) (vs:List V) (H1:Hp):Prop
 | mk:∀j:Int,vs=[.int j]→-(2 ^ 62)≤j→j<2 ^ 62→R (Itr 0 j.toNat) H1→Qdp R vs H1
def iRng1 (ta:TA):TI:=fun σ H R=>ta σ H fun vs H1=>Qdp R vs H1
theorem JJ {a:Expr} {ta:TA} {p pos:Pos} (hg:Gl X "range") (hm:X.mg "range"=none) (ha:PA X [a] ta) (hs:starEach [a] X.env=[(false,eval a X.env)]:=by rfl):PI X tg (.Call (.Name "range" p) [a] [] pos) (iRng1 ta):=by
 intro pins s σ H R I h
 refine Call_ (W0 I hg hm boot_range (PyProof.Rows.callWith_type1 (thn (ha pos pins s σ H _ I h) fun us s1 ⟨vs,H1,I1,r1,q1⟩=>?_) hs rfl))
 obtain ⟨j,e,q1,q2,q⟩:=q1
 subst e
 cases r1 with
 | cons r rr =>
   cases rr
   obtain ⟨t,rfl⟩:=r
   exact call_range_1 (Qfh I1 (by omega) (by omega) q1 q2 (by simpa using q))
inductive VL (g:TG) (tb:TS) (D:VY) (σ:St) (J:It) (H1:Hp):Prop
 | mk:∀W:Nat→Nat→St→Hp→Prop,(∃m,W 0 m σ H1)→(∀i m σ H,W i m σ H→(J.stop i H∧D.nx σ H)∨(J.go i H∧∃N:St→Hp→Prop,(∀σ' H',N σ' H'→∃m',m'<m∧W (i+1) m' σ' H')∧∀x H',J.yld i H x H'→g x σ H' fun σ2 H2=>tb { D with nx:=N,ct:=N,bk:=D.nx } σ2 H2))→VL g tb D σ J H1
def tFor (wi:TI) (g:TG) (tb:TS):TS:=fun D σ H=>wi σ H fun J H1=>VL g tb D σ J H1
def U5 (fp:List Addr) (h:Heap):List (Addr×Obj):=fp.filterMap fun b=>(h.get? b).map fun o=>(b,o)
theorem Yc {fp:List Addr} {h:Heap} {b:Addr} {o:Obj} (hb:b∈fp) (e:h.get? b=some o):(b,o)∈U5 fp h:=List.mem_filterMap.mpr ⟨b,hb,by rw [e];rfl⟩
theorem QdX {fp:List Addr} {h:Heap} {p:Addr×Obj} (hp:p∈U5 fp h):p.1∈fp∧h.get? p.1=some p.2:=by
 obtain ⟨b,hb,e⟩:=List.mem_filterMap.mp hp
 cases q:h.get? b with
 | none=>rw [q] at e;cases e
 | some o =>
   rw [q] at e
   have e':(b,o)=p:=Option.some.inj e
   subst e'
   exact ⟨hb,q⟩
theorem Inv.pinned {pins:List (Addr×Obj)} {σ:St} {H:Hp} {s:Shared} {fp:List Addr} (I:Inv X pins σ H s) (hf:∀b∈fp,Xy X pins H b) (ho:∀b∈fp,∃o,s.heap.get? b=some o∧∀v,o.data≠.cell v):Inv X (pins++U5 fp s.heap) σ H s :=
 I.pins_of fun p hp=>(List.mem_append.mp hp).elim (fun z=>I.pin p (List.mem_append_right _ z)) fun z=>by
  obtain ⟨hb,e⟩:=QdX z
  obtain ⟨f0,f1,f2,_⟩:=hf p.1 hb
  obtain ⟨o,e',d⟩:=ho p.1 hb
  rw [e] at e';cases e'
  exact ⟨e,f0,f1,f2,d⟩
theorem Inv.unpinned {pins pl:List (Addr×Obj)} {σ:St} {H:Hp} {s:Shared} (I:Inv X (pins++pl) σ H s):Inv X pins σ H s:=I.pins_of fun p hp=>I.pin p (List.mem_append_right _ (List.mem_append_left _ hp))
theorem Z5 {iter:Expr} {body:List Stmt} {wi:TI} {g:TG} {tb:TS} {pos:Pos} (hp:PassesOwn (model X.prog X.w) X.A X.env X.xe) (hc:X.calm=true) (hi:PI X tg iter wi) (hg:PG X tg g) (hb:PSs X body tb)
 (hs:∀x,foldedSetIterable iter X.env x=pure x:=by intro _;rfl):PS X (.For tg iter body [] pos) (tFor wi g tb):=by
 intro pins s σ H D I h
 refine wpAny_For (thn (hi pins s σ H _ I h) fun v s1 h1=>thn h1 fun itv s2 h2=>?_) hs
 obtain ⟨it,fp,tn,J,H2,e,I2,T,st2,f2,W,⟨m0,w0⟩,turn⟩:=h2
 subst e
 have stat:∀{H':Hp},(∀b∈fp,H' b=none)→∀b∈fp,Xy X pins H' b:=fun hn b hb=>⟨hn b hb,(f2 b hb).2⟩
 refine codeAny_forLoop_any (fun n s'=>∃i σ' H',Inv X pins σ' H' s'∧tn i s'.heap∧(∀b∈fp,H' b=none)∧W i n σ' H') ?_ m0 ⟨0,σ,H2,I2,st2,fun b hb=>(f2 b hb).1,w0⟩
 rintro n s3 ⟨i,σ3,H3,I3,st3,fr3,w3⟩
 rcases turn i n σ3 H3 w3 with ⟨stop,qn⟩ | ⟨go,N,hN,step⟩
 ·refine wpAny_passesOwn hp (thn (T.done X rfl rfl rfl hc i pins s3 σ3 H3 X.xe I3 (stat fr3) st3 stop) fun r s4 ⟨hr,I4⟩=>?_)
  subst hr
  exact wpAny_execs_nil ⟨σ3,H3,I4,qn⟩
 ·refine wpAny_passesOwn hp (thn (T.item X rfl rfl rfl hc i pins s3 σ3 H3 X.xe I3 (stat fr3) st3 go) fun r s4 ⟨u,hr,h4⟩=>?_)
  subst hr
  refine wpAny_passesOwn hp (thn h4 fun _ s5 ⟨x,H5,I5,r5,y5,st5,fr5⟩=>?_)
  have I5':=I5.pinned (stat fr5) (T.obj _ _ st5)
  refine wpAny_passesOwn hp (thn (hg _ s5 σ3 H5 x u _ I5' r5 (step x H5 y5)) fun _ s6 ⟨σ6,H6,I6,q6⟩=>?_)
  refine wpAny_passesOwn hp (thn (hb _ s6 σ6 H6 _ I6 q6) fun f s7 q7=>?_)
  have again:∀{σ7:St} {H7:Hp},Inv X (pins++U5 fp s5.heap) σ7 H7 s7→N σ7 H7→∃m,m<n∧∃i σ' H',Inv X pins σ' H' s7∧tn i s7.heap∧(∀b∈fp,H' b=none)∧W i m σ' H':=fun {σ7 H7} I7 n7=>by
   obtain ⟨m',hm,w7⟩:=hN σ7 H7 n7
   refine ⟨m',hm,i+1,σ7,H7,I7.unpinned,T.keep _ _ _ st5 fun b hb o e=>(I7.pin (b,o) (List.mem_append_right _ (List.mem_append_right _ (Yc hb e)))).1,fun b hb=>?_,w7⟩
   obtain ⟨o,e,d⟩:=T.obj _ _ st5 b hb
   exact (I7.pin (b,o) (List.mem_append_right _ (List.mem_append_right _ (Yc hb e)))).2.1
  cases f with
  | next=>obtain ⟨σ7,H7,I7,n7⟩:=q7;exact again I7 n7
  | cont=>obtain ⟨σ7,H7,I7,n7⟩:=q7;exact again I7 n7
  | brk=>obtain ⟨σ7,H7,I7,q7⟩:=q7;exact ⟨σ7,H7,I7.unpinned,q7⟩
  | ret v=>obtain ⟨x7,σ7,H7,I7,r7,q7⟩:=q7;exact ⟨x7,σ7,H7,I7.unpinned,r7,q7⟩
end
theorem Uw {K:PySem.W.Frag} {a:Addr} {xs:List V} {g:TG} {tb:TS} {D:VY} {σ:St} {H:Hp} (Pv:Nat→St→Hp→Prop) (h0:Pv 0 σ H) (hl:∀i σ H,i≤xs.length→Pv i σ H→SqL K H a xs)
 (hs:∀i x σ H,xs[i]?=some x→Pv i σ H→g x σ H fun σ2 H2=>tb { D with nx:=Pv (i+1),ct:=Pv (i+1),bk:=D.nx } σ2 H2) (hd:∀σ H,Pv xs.length σ H→D.nx σ H) :
 VL g tb D σ (Itl K a) H:=by
 refine ⟨fun i m σ H=>m=xs.length - i∧i≤xs.length∧Pv i σ H,⟨xs.length,by simp,Nat.zero_le _,h0⟩,?_⟩
 rintro i m σ H ⟨rfl,hi,p⟩
 have q:=hl i σ H hi p
 by_cases hlt:i<xs.length
 ·refine .inr ⟨⟨xs,xs[i],q,by simp [hlt]⟩,Pv (i+1),fun σ' H' p'=>⟨xs.length - (i+1),by omega,rfl,hlt,p'⟩,fun x H' y=>?_⟩
  obtain ⟨e,y⟩:=y
  subst e
  exact hs i x σ _ (y xs q) p
 ·have e:i=xs.length:=by omega
  subst e
  exact .inl ⟨⟨xs,q,Nat.le_refl _⟩,hd σ H p⟩
theorem QaA {K:PySem.W.Frag} {a:Addr} {xs:List V} {g:TG} {tb:TS} {D:VY} {σ:St} {H:Hp} (Pv:Nat→St→Hp→Prop) (h0:Pv 0 σ H) (hl:∀i σ H,i≤xs.length→Pv i σ H→SqT K H a xs)
 (hs:∀i x σ H,xs[i]?=some x→Pv i σ H→g x σ H fun σ2 H2=>tb { D with nx:=Pv (i+1),ct:=Pv (i+1),bk:=D.nx } σ2 H2) (hd:∀σ H,Pv xs.length σ H→D.nx σ H) :
 VL g tb D σ (Itt K a) H:=by
 refine ⟨fun i m σ H=>m=xs.length - i∧i≤xs.length∧Pv i σ H,⟨xs.length,by simp,Nat.zero_le _,h0⟩,?_⟩
 rintro i m σ H ⟨rfl,hi,p⟩
 have q:=hl i σ H hi p
 by_cases hlt:i<xs.length
 ·refine .inr ⟨⟨xs,xs[i],q,by simp [hlt]⟩,Pv (i+1),fun σ' H' p'=>⟨xs.length - (i+1),by omega,rfl,hlt,p'⟩,fun x H' y=>?_⟩
  obtain ⟨e,y⟩:=y
  subst e
  exact hs i x σ _ (y xs q) p
 ·have e:i=xs.length:=by omega
  subst e
  exact .inl ⟨⟨xs,q,Nat.le_refl _⟩,hd σ H p⟩
theorem Yd {lo:Int} {n:Nat} {g:TG} {tb:TS} {D:VY} {σ:St} {H:Hp} (Pv:Nat→St→Hp→Prop) (h0:Pv 0 σ H)
 (hs:∀i σ H,i<n→Pv i σ H→g (.int (lo+i)) σ H fun σ2 H2=>tb { D with nx:=Pv (i+1),ct:=Pv (i+1),bk:=D.nx } σ2 H2) (hd:∀σ H,Pv n σ H→D.nx σ H) :
 VL g tb D σ (Itr lo n) H:=by
 refine ⟨fun i m σ H=>m=n - i∧i≤n∧Pv i σ H,⟨n,by simp,Nat.zero_le _,h0⟩,?_⟩
 rintro i m σ H ⟨rfl,hi,p⟩
 by_cases hlt:i<n
 ·refine .inr ⟨hlt,Pv (i+1),fun σ' H' p'=>⟨n - (i+1),by omega,rfl,hlt,p'⟩,fun x H' y=>?_⟩
  obtain ⟨e,y⟩:=y
  subst e y
  exact hs i σ _ hlt p
 ·have e:i=n:=by omega
  subst e
  exact .inl ⟨Nat.le_refl _,hd σ H p⟩
theorem Qew {c:TT} {tb:TS} {D:VY} {σ:St} {H:Hp} (Pv:St→Hp→Prop) (μ:St→Hp→Nat) (h0:Pv σ H)
 (hs:∀σ H,Pv σ H→c σ H fun b H1=>if b=true then tb { D with nx:=fun σ' H'=>Pv σ' H'∧μ σ' H'<μ σ H,ct:=fun σ' H'=>Pv σ' H'∧μ σ' H'<μ σ H,bk:=D.nx } σ H1 else D.nx σ H1)
 (mono:∀σ H Q Q',(∀b H1,Q b H1→Q' b H1)→c σ H Q→c σ H Q'):QeD c tb D σ H:=by
 refine ⟨fun m σ H=>m=μ σ H∧Pv σ H,⟨_,rfl,h0⟩,?_⟩
 rintro m σ H ⟨rfl,p⟩
 refine mono σ H _ _ (fun b H1 q=>?_) (hs σ H p)
 cases b with
 | true=>exact ⟨_,fun σ' H' ⟨p',l⟩=>⟨_,l,rfl,p'⟩,q⟩
 | false=>exact q
end L2
namespace L2
open PySem PySem.Spec PyProof.Rows
abbrev R2:=V→V→Hp→VK→Prop
def OpR (X:Cx) (f:Value→Value→Sem Value) (r:R2):Prop :=
 ∀(pins:List (Addr×Obj)) (s:Shared) (σ:St) (H:Hp) (x y:V) (v u:Value) (Q:VK),Inv X pins σ H s→QQ x v→QQ y u→r x y H Q →
  wpAny (model X.prog X.w) X.A (f v u) (EP X pins σ Q) X.xe s
def UnR (X:Cx) (f:Value→Sem Value) (r:V→Hp→VK→Prop):Prop :=
 ∀(pins:List (Addr×Obj)) (s:Shared) (σ:St) (H:Hp) (x:V) (v:Value) (Q:VK),Inv X pins σ H s→QQ x v→r x H Q →
  wpAny (model X.prog X.w) X.A (f v) (EP X pins σ Q) X.xe s
def JA (X:Cx) (f:Value) (r:List V→Hp→VK→Prop):Prop :=
 ∀(pins:List (Addr×Obj)) (s:Shared) (σ:St) (H:Hp) (xs:List V) (us:List Value) (Q:VK),Inv X pins σ H s→QW xs us→r xs H Q →
  wpAny (model X.prog X.w) X.A (call f us) (EP X pins σ Q) X.xe s
def tOp (r:R2) (ta tb:TE):TE:=fun σ H Q=>ta σ H fun x H1=>tb σ H1 fun y H2=>r x y H2 Q
def tUn (r:V→Hp→VK→Prop) (ta:TE):TE:=fun σ H Q=>ta σ H fun x H1=>r x H1 Q
inductive rI_I (C:Int→Int→Prop) (g:Int→Int→V) (x:V) (y:V) (H:Hp) (Q:VK):Prop
 | mk:∀i j,x=.int i→y=.int j→C i j→Q (g i j) H→rI_I C g x y H Q
def rI (C:Int→Int→Prop) (g:Int→Int→V):R2:=fun x y H Q=>rI_I C g x y H Q
inductive QhS (g:Int→Int→V) (x:V) (y:V) (H:Hp) (Q:VK):Prop
 | mk:∀i j,x=.int i→y=.int j→Q (g i j) H→QhS g x y H Q
def rI0 (g:Int→Int→V):R2:=fun x y H Q=>QhS g x y H Q
inductive rU_I (g:Int→V) (x:V) (H:Hp) (Q:VK):Prop
 | mk:∀i,x=.int i→Q (g i) H→rU_I g x H Q
def rU (g:Int→V):V→Hp→VK→Prop:=fun x H Q=>rU_I g x H Q
section
variable {X : Cx} {a b c : Expr} {ta tb tc : TE} {pos : Pos}
theorem binT (ha:PE X a ta) (hb:PE X b tb) {pins:List (Addr×Obj)} {s:Shared} {σ:St} {H:Hp} {R:V→V→Hp→Prop} (I:Inv X pins σ H s)
 (h:ta σ H fun x H1=>tb σ H1 fun y H2=>R x y H2) {Q:Value→Shared→Prop} {f:Value→Value→Sem Value}
 (hf:∀v u s2 x y H2,Inv X pins σ H2 s2→QQ x v→QQ y u→R x y H2→wpAny (model X.prog X.w) X.A (f v u) Q X.xe s2) :
 wpAny (model X.prog X.w) X.A (eval a X.env) (fun v s₁=>wpAny (model X.prog X.w) X.A (eval b X.env) (fun u s₂=>wpAny (model X.prog X.w) X.A (f v u) Q X.xe s₂) X.xe s₁) X.xe s:=by
 refine thn (ha pins s σ H _ I h) fun v s1 ⟨x,H1,I1,r1,q1⟩=>?_
 refine thn (hb pins s1 σ H1 _ I1 q1) fun u s2 ⟨y,H2,I2,r2,q2⟩=>?_
 exact hf v u s2 x y H2 I2 r1 r2 q2
theorem Ql {op:Operator} {r:R2} (ho:OpR X (binaryOp op) r) (ha:PE X a ta) (hb:PE X b tb):PE X (.BinOp a op b pos) (tOp r ta tb):=by
 intro pins s σ H Q I h
 exact wpAny_BinOp (binT ha hb I h fun v u s2 x y H2 I2 rx ry q=>ho pins s2 σ H2 x y v u Q I2 rx ry q)
theorem U7 {op:UnaryOp} {r:V→Hp→VK→Prop} (ho:UnR X (unaryOp op) r) (ha:PE X a ta):PE X (.UnaryOp op a pos) (tUn r ta):=by
 intro pins s σ H Q I h
 exact UnaryOp_ (thn (ha pins s σ H _ I h) fun v s1 ⟨x,H1,I1,r1,q1⟩=>ho pins s1 σ H1 x v Q I1 r1 q1)
theorem opI {f:Value→Value→Sem Value} {C:Int→Int→Prop} {g:Int→Int→Int}
 (rule:∀(i j:Int) (t u:Tok) (s:Shared) (Q:Value→Shared→Prop) (E:Value→Shared→Prop),C i j→Q (.int (g i j) s.toks) { s with toks:=s.toks+1 }→wpAny (model X.prog X.w) X.A (f (.int i t) (.int j u)) Q E s) :
 OpR X f (rI C fun i j=>.int (g i j)):=by
 intro pins s σ H x y v u Q I rx ry h
 obtain ⟨i,j,rfl,rfl,hc,q⟩:=h
 obtain ⟨t,rfl⟩:=rx
 obtain ⟨t',rfl⟩:=ry
 exact rule i j t t' s _ _ hc ⟨.int (g i j),H,I.tok _,⟨_,rfl⟩,q⟩
theorem opI0 {f:Value→Value→Sem Value} {g:Int→Int→Int}
 (rule:∀(i j:Int) (t u:Tok) (s:Shared) (Q:Value→Shared→Prop) (E:Value→Shared→Prop),Q (.int (g i j) s.toks) { s with toks:=s.toks+1 }→wpAny (model X.prog X.w) X.A (f (.int i t) (.int j u)) Q E s) :
 OpR X f (rI0 fun i j=>.int (g i j)):=by
 intro pins s σ H x y v u Q I rx ry h
 obtain ⟨i,j,rfl,rfl,q⟩:=h
 obtain ⟨t,rfl⟩:=rx
 obtain ⟨t',rfl⟩:=ry
 exact rule i j t t' s _ _ ⟨.int (g i j),H,I.tok _,⟨_,rfl⟩,q⟩
theorem opB0 {f:Value→Value→Sem Value} {g:Int→Int→Bool}
 (rule:∀(i j:Int) (t u:Tok) (s:Shared) (Q:Value→Shared→Prop) (E:Value→Shared→Prop),Q (.bool (g i j)) s→wpAny (model X.prog X.w) X.A (f (.int i t) (.int j u)) Q E s) :
 OpR X f (rI0 fun i j=>.bl (g i j)):=by
 intro pins s σ H x y v u Q I rx ry h
 obtain ⟨i,j,rfl,rfl,q⟩:=h
 obtain ⟨t,rfl⟩:=rx
 obtain ⟨t',rfl⟩:=ry
 exact rule i j t t' s _ _ ⟨.bl (g i j),H,I,rfl,q⟩
def CDiv (i j:Int):Prop:=0<j∧j<1073741824
def CMul (i j:Int):Prop:=(-(2 ^ 64)<i∧i<2 ^ 64)∨(-(2 ^ 64)<j∧j<2 ^ 64)
theorem CMul.ok {i j:Int} (h:CMul i j):IntMulOk i j:=by
 rcases h with ⟨h1,h2⟩ | ⟨h1,h2⟩
 ·exact .of_left (intBits_le_64 h1 h2)
 ·exact .of_right (intBits_le_64 h1 h2)
theorem ZE:OpR X (binaryOp .Add) (rI0 fun i j=>.int (i+j)):=opI0 fun _ _ _ _ _ _ _ q=>add_int q
theorem Qcs:OpR X (binaryOp .Sub) (rI0 fun i j=>.int (i - j)):=opI0 fun _ _ _ _ _ _ _ q=>sub_int q
theorem Yr:OpR X (binaryOp .Mult) (rI CMul fun i j=>.int (i*j)):=opI fun _ _ _ _ _ _ _ hc q=>mul_int q hc.ok
theorem QT:OpR X (binaryOp .FloorDiv) (rI CDiv fun i j=>.int (i / j)):=opI fun i j _ _ _ _ _ hc q=>by
 have h1:(0:Int)<j:=hc.1
 have h2:j<1073741824:=hc.2
 exact floordiv_int (by omega) (by rw [Int.fdiv_eq_ediv_of_nonneg i (by omega)];exact q) (.inl (PyProof.noPylong_small (by omega)))
theorem QP:OpR X (binaryOp .Mod) (rI (fun _ j=>0<j) fun i j=>.int (i % j)):=opI fun i j _ _ _ _ _ hc q=>by
 have h1:(0:Int)<j:=hc
 exact mod_int' (by omega) (by rw [Int.fmod_eq_emod_of_nonneg i (by omega)];exact q)
theorem unI {f:Value→Sem Value} {g:Int→Int}
 (rule:∀(i:Int) (t:Tok) (s:Shared) (Q:Value→Shared→Prop) (E:Value→Shared→Prop),Q (.int (g i) s.toks) { s with toks:=s.toks+1 }→wpAny (model X.prog X.w) X.A (f (.int i t)) Q E s) :
 UnR X f (rU fun i=>.int (g i)):=by
 intro pins s σ H x v Q I rx h
 obtain ⟨i,rfl,q⟩:=h
 obtain ⟨t,rfl⟩:=rx
 exact rule i t s _ _ ⟨.int (g i),H,I.tok _,⟨_,rfl⟩,q⟩
theorem YF:UnR X (unaryOp .USub) (rU fun i=>.int (-i)):=unI fun _ _ _ _ _ q=>neg_int q
end
def scal:V→V→Bool
 | .non,.non=>true | .non,.int _=>true | .int _,.non=>true | .non,.bl _=>true | .bl _,.non=>true | .non,.str _=>true | .str _,.non=>true
 | .int _,.int _=>true | .bl _,.bl _=>true | .str _,.str _=>true | .byt _,.byt _=>true
 | .int _,.str _=>true | .str _,.int _=>true | .bl _,.str _=>true | .str _,.bl _=>true
 | _,_=>false
def rEq:R2:=fun x y H Q=>scal x y=true∧Q (.bl (decide (x=y))) H
def rNe:R2:=fun x y H Q=>scal x y=true∧Q (.bl (!decide (x=y))) H
theorem Qdw {i j:Int}:decide (V.int i=V.int j)=(i == j):=by
 rw [Bool.eq_iff_iff]
 simp
theorem Qgw {i j:Bool}:decide (V.bl i=V.bl j)=(i == j):=by
 rw [Bool.eq_iff_iff]
 simp
theorem Qdv {i j:Str}:decide (V.str i=V.str j)=(i == j):=by
 rw [Bool.eq_iff_iff]
 simp
theorem Qdx {i j:Array UInt8}:decide (V.byt i=V.byt j)=(i.toList == j.toList):=by
 rw [Bool.eq_iff_iff]
 cases i
 cases j
 simp
section
variable {X : Cx} {a b c : Expr} {ta tb tc : TE} {pos : Pos}
theorem QY {pins:List (Addr×Obj)} {σ:St} {H:Hp} {s:Shared} {Q:VK} {k k':Bool} (I:Inv X pins σ H s) (q:Q (.bl k) H) (e:k=k'):EP X pins σ Q (.bool k') s:=by
 subst e
 exact ⟨.bl k,H,I,rfl,q⟩
theorem QZ:OpR X (compareOp .Eq) rEq:=by
 intro pins s σ H x y v u Q I rx ry h
 obtain ⟨hs,q⟩:=h
 cases x with
 | non =>
   cases rx
   cases y with
   | non=>cases ry;exact PySem.EqNone.eq_none_none (QY I q (by simp))
   | bl j=>cases ry;exact PySem.EqNone.eq_none_bool (QY I q (by simp))
   | int j=>obtain ⟨t',rfl⟩:=ry;exact PySem.EqNone.eq_none_int (QY I q (by simp))
   | str j=>obtain ⟨t',rfl⟩:=ry;exact PySem.EqNone.eq_none_str (QY I q (by simp))
   | _=>exact absurd (show false=true from hs) Bool.false_ne_true
 | bl i =>
   cases rx
   cases y with
   | non=>cases ry;exact PySem.EqNone.eq_bool_none (QY I q (by simp))
   | bl j=>cases ry;exact eq_bool (QY I q Qgw)
   | str j=>obtain ⟨t',rfl⟩:=ry;exact PySem.EqMixed.eq_bool_str (QY I q (by simp))
   | _=>exact absurd (show false=true from hs) Bool.false_ne_true
 | int i =>
   obtain ⟨t,rfl⟩:=rx
   cases y with
   | non=>cases ry;exact PySem.EqNone.eq_int_none (QY I q (by simp))
   | int j=>obtain ⟨t',rfl⟩:=ry;exact eq_int (QY I q Qdw)
   | str j=>obtain ⟨t',rfl⟩:=ry;exact PySem.EqMixed.eq_int_str (QY I q (by simp))
   | _=>exact absurd (show false=true from hs) Bool.false_ne_true
 | str i =>
   obtain ⟨t,rfl⟩:=rx
   cases y with
   | non=>cases ry;exact PySem.EqNone.eq_str_none (QY I q (by simp))
   | bl j=>cases ry;exact PySem.EqMixed.eq_str_bool (QY I q (by simp))
   | int j=>obtain ⟨t',rfl⟩:=ry;exact PySem.EqMixed.eq_str_int (QY I q (by simp))
   | str j=>obtain ⟨t',rfl⟩:=ry;exact eq_str (QY I q Qdv)
   | _=>exact absurd (show false=true from hs) Bool.false_ne_true
 | byt i =>
   obtain ⟨t,rfl⟩:=rx
   cases y with
   | byt j=>obtain ⟨t',rfl⟩:=ry;exact PySem.W.eq_bytes (QY I q Qdx)
   | _=>exact absurd (show false=true from hs) Bool.false_ne_true
 | _=>cases y <;> exact absurd (show false=true from hs) Bool.false_ne_true
theorem Gu:OpR X (compareOp .NotEq) rNe:=by
 intro pins s σ H x y v u Q I rx ry h
 obtain ⟨hs,q⟩:=h
 cases x with
 | non =>
   cases rx
   cases y with
   | non=>cases ry;exact PySem.EqNone.ne_none_none (QY I q (by simp))
   | bl j=>cases ry;exact PySem.EqNone.ne_none_bool (QY I q (by simp))
   | int j=>obtain ⟨t',rfl⟩:=ry;exact PySem.EqNone.ne_none_int (QY I q (by simp))
   | str j=>obtain ⟨t',rfl⟩:=ry;exact PySem.EqNone.ne_none_str (QY I q (by simp))
   | _=>exact absurd (show false=true from hs) Bool.false_ne_true
 | bl i =>
   cases rx
   cases y with
   | non=>cases ry;exact PySem.EqNone.ne_bool_none (QY I q (by simp))
   | bl j=>cases ry;exact ne_bool (QY I q (congrArg not Qgw))
   | str j=>obtain ⟨t',rfl⟩:=ry;exact PySem.EqMixed.ne_bool_str (QY I q (by simp))
   | _=>exact absurd (show false=true from hs) Bool.false_ne_true
 | int i =>
   obtain ⟨t,rfl⟩:=rx
   cases y with
   | non=>cases ry;exact PySem.EqNone.ne_int_none (QY I q (by simp))
   | int j=>obtain ⟨t',rfl⟩:=ry;exact ne_int (QY I q (congrArg not Qdw))
   | str j=>obtain ⟨t',rfl⟩:=ry;exact PySem.EqMixed.ne_int_str (QY I q (by simp))
   | _=>exact absurd (show false=true from hs) Bool.false_ne_true
 | str i =>
   obtain ⟨t,rfl⟩:=rx
   cases y with
   | non=>cases ry;exact PySem.EqNone.ne_str_none (QY I q (by simp))
   | bl j=>cases ry;exact PySem.EqMixed.ne_str_bool (QY I q (by simp))
   | int j=>obtain ⟨t',rfl⟩:=ry;exact PySem.EqMixed.ne_str_int (QY I q (by simp))
   | str j=>obtain ⟨t',rfl⟩:=ry;exact ne_str (QY I q (congrArg not Qdv))
   | _=>exact absurd (show false=true from hs) Bool.false_ne_true
 | byt i =>
   obtain ⟨t,rfl⟩:=rx
   cases y with
   | byt j=>obtain ⟨t',rfl⟩:=ry;exact PySem.W.ne_bytes (QY I q (congrArg not Qdx))
   | _=>exact absurd (show false=true from hs) Bool.false_ne_true
 | _=>cases y <;> exact absurd (show false=true from hs) Bool.false_ne_true
theorem Qdj:OpR X (compareOp .Lt) (rI0 fun i j=>.bl (decide (i<j))):=opB0 fun _ _ _ _ _ _ _ q=>lt_int q
theorem Wh:OpR X (compareOp .LtE) (rI0 fun i j=>.bl (decide (i≤j))):=opB0 fun _ _ _ _ _ _ _ q=>le_int q
theorem Ki:OpR X (compareOp .Gt) (rI0 fun i j=>.bl (decide (j<i))):=opB0 fun _ _ _ _ _ _ _ q=>gt_int q
theorem WR:OpR X (compareOp .In) (fun x y H Q=>∃i j,x=.str i∧y=.str j∧Q (.bl (!(Builtin.Str.occurrences j i 0 j.length 1).isEmpty)) H):=by
 intro pins s σ H x y v u Q I rx ry h
 obtain ⟨i,j,rfl,rfl,q⟩:=h
 obtain ⟨t,rfl⟩:=rx
 obtain ⟨t',rfl⟩:=ry
 exact in_str (QY I q rfl)
theorem QfH:OpR X (compareOp .Is) (fun x y H Q=>y=.non∧Q (.bl (decide (x=.non))) H):=by
 intro pins s σ H x y v u Q I rx ry h
 obtain ⟨rfl,q⟩:=h
 cases ry
 refine is_none_gen (QY I q ?_)
 cases x <;> first
  | (cases rx;rfl)
  | (obtain ⟨t,rfl⟩:=rx;rfl)
theorem Qz (b:Expr) {op:CmpOp} (h:op≠.In:=by decide) (h2:op≠.NotIn:=by decide):behindInMarks op b=false:=by
 have e1:(op == CmpOp.In)=false:=by cases op <;> first | rfl | exact absurd rfl h
 have e2:(op == CmpOp.NotIn)=false:=by cases op <;> first | rfl | exact absurd rfl h2
 cases b <;> simp [behindInMarks,e1,e2]
theorem JC {op:CmpOp} {r:R2} (ho:OpR X (compareOp op) r) (ha:PE X a ta) (hb:PE X b tb) (hm:behindInMarks op b=false):PE X (.Compare a [op] [b] pos) (tOp r ta tb):=by
 intro pins s σ H Q I h
 exact wpAny_Compare1 (binT ha hb I h fun v u s2 x y H2 I2 rx ry q=>ho pins s2 σ H2 x y v u Q I2 rx ry q) hm
inductive QcO (Q:(Bool→Hp→Prop)) (x:V) (H':Hp):Prop
 | mk:∀k,x=.bl k→Q k H'→QcO Q x H'
def QhH (t:TE):TT:=fun σ H Q=>t σ H fun x H'=>QcO Q x H'
theorem Qr {op:CmpOp} {r:R2} (ho:OpR X (compareOp op) r) (ha:PE X a ta) (hb:PE X b tb) (hm:behindInMarks op b=false):PT X (.Compare a [op] [b] pos) (QhH (tOp r ta tb)):=by
 intro pins s σ H Q I h
 refine wpAny_isTrue_Compare1 (thn (ha pins s σ H _ I h) fun v s1 ⟨x,H1,I1,r1,q1⟩=>thn (hb pins s1 σ H1 _ I1 q1) fun u s2 ⟨y,H2,I2,r2,q2⟩ =>
  thn (ho pins s2 σ H2 x y v u _ I2 r1 r2 q2) fun c s3 ⟨z,H3,I3,r3,k,e,q3⟩=>?_) hm
 subst e
 cases r3
 exact wpAny_truthy_bool ⟨H3,I3,q3⟩
def QeM (r r':R2) (ta tb tc:TE):TE:=fun σ H Q=>ta σ H fun x H1=>tb σ H1 fun y H2=>r x y H2 fun z H3=>∃k,z=.bl k ∧
 (if k=true then tc σ H3 fun w' H4=>r' y w' H4 Q else Q (.bl false) H3)
theorem Ke {op op':CmpOp} {r r':R2} (ho:OpR X (compareOp op) r) (ho':OpR X (compareOp op') r') (ha:PE X a ta) (hb:PE X b tb) (hc:PE X c tc)
 (hm:lastMarks [op,op'] [b,c]=false:=by with_unfolding_all rfl):PE X (.Compare a [op,op'] [b,c] pos) (QeM r r' ta tb tc):=by
 intro pins s σ H Q I h
 refine Compare_chain (thn (ha pins s σ H _ I h) fun v s1 ⟨x,H1,I1,r1,q1⟩=>chain_link (thn (hb pins s1 σ H1 _ I1 q1) fun u s2 ⟨y,H2,I2,r2,q2⟩ =>
  thn (ho pins s2 σ H2 x y v u _ I2 r1 r2 q2) fun d s3 ⟨z,H3,I3,r3,k,e,q3⟩=>?_)) hm
 subst e
 cases r3
 refine wpAny_truthy_bool ?_
 cases k with
 | false=>exact ite_ff ⟨.bl false,H3,I3,rfl,q3⟩
 | true=>exact ite_tt (chain_last (thn (hc pins s3 σ H3 _ I3 q3) fun w' s4 ⟨z',H4,I4,r4,q4⟩=>ho' pins s4 σ H4 y z' u w' Q I4 r2 r4 q4))
theorem Qfx {op op':CmpOp} {r r':R2} (ho:OpR X (compareOp op) r) (ho':OpR X (compareOp op') r') (ha:PE X a ta) (hb:PE X b tb) (hc:PE X c tc)
 (hm:lastMarks [op,op'] [b,c]=false:=by with_unfolding_all rfl):PT X (.Compare a [op,op'] [b,c] pos) (QhH (QeM r r' ta tb tc)):=by
 intro pins s σ H Q I h
 refine isTrue_chain (thn (ha pins s σ H _ I h) fun v s1 ⟨x,H1,I1,r1,q1⟩=>test_link (thn (hb pins s1 σ H1 _ I1 q1) fun u s2 ⟨y,H2,I2,r2,q2⟩ =>
  thn (ho pins s2 σ H2 x y v u _ I2 r1 r2 q2) fun d s3 ⟨z,H3,I3,r3,k,e,q3⟩=>?_)) hm
 subst e
 cases r3
 refine wpAny_truthy_bool ?_
 cases k with
 | false =>
   obtain ⟨k',e',q'⟩:=q3
   cases e'
   exact ite_ff ⟨H3,I3,q'⟩
 | true =>
   refine ite_tt (test_last (thn (hc pins s3 σ H3 _ I3 q3) fun w' s4 ⟨z',H4,I4,r4,q4⟩=>thn (ho' pins s4 σ H4 y z' u w' _ I4 r2 r4 q4) fun d' s5 ⟨z2,H5,I5,r5,k2,e2,q5⟩=>?_))
   subst e2
   cases r5
   exact wpAny_truthy_bool ⟨H5,I5,q5⟩
theorem Ky:(sizeLine:Nat)<2 ^ 63:=by rw [sizeLine_eq];decide
theorem QH:OpR X (binaryOp .Add) (fun x y H Q=>∃i j,x=.str i∧y=.str j∧i.length+j.length≤sizeLine∧Q (.str (i++j)) H):=by
 intro pins s σ H x y v u Q I rx ry h
 obtain ⟨i,j,rfl,rfl,hz,q⟩:=h
 obtain ⟨t,rfl⟩:=rx
 obtain ⟨t',rfl⟩:=ry
 exact add_str (fun t' tk=>⟨.str (i++j),H,I.tok _,⟨_,rfl⟩,q⟩) hz
theorem JV {x:V} {us:List Value} (r:QW [x] us):∃u,us=[u]∧QQ x u:=by
 cases r with
 | cons r1 r2=>cases r2;exact ⟨_,rfl,r1⟩
theorem QhF {x y:V} {us:List Value} (r:QW [x,y] us):∃u w',us=[u,w']∧QQ x u∧QQ y w':=by
 cases r with
 | cons r1 r2 =>
   cases r2 with
   | cons r3 r4=>cases r4;exact ⟨_,_,rfl,r1,r3⟩
theorem Qeq (hc:X.calm=true):JA X (.builtin "max") (fun xs H Q=>∃i j,xs=[.int i,.int j]∧Q (.int (if j > i then j else i)) H):=by
 intro pins s σ H xs us Q I r h
 obtain ⟨i,j,rfl,q⟩:=h
 obtain ⟨u,w',rfl,⟨t,rfl⟩,⟨t',rfl⟩⟩:=QhF r
 refine max_two_ints (I.ok.hd hc) fun h' tk k=>⟨_,H,I.kept k,?_,q⟩
 by_cases hj:j > i
 ·rw [if_pos hj,if_pos hj];exact ⟨_,rfl⟩
 ·rw [if_neg hj,if_neg hj];exact ⟨_,rfl⟩
theorem Qer:JA X (.type "int") (fun xs H Q=>(∃i,xs=[.int i]∧Q (.int i) H)∨∃k,xs=[.bl k]∧Q (.int (if k then 1 else 0)) H):=by
 intro pins s σ H xs us Q I r h
 rcases h with ⟨i,rfl,q⟩ | ⟨k,rfl,q⟩
 ·obtain ⟨u,rfl,t,rfl⟩:=JV r
  exact call_int_int ⟨.int i,H,I,⟨_,rfl⟩,q⟩
 ·obtain ⟨u,rfl,r1⟩:=JV r
  cases r1
  exact call_int_bool ⟨.int (if k then 1 else 0),H,I.tok _,⟨_,rfl⟩,q⟩
theorem Wv:JA X (.type "str") (fun xs H Q=>∃i,xs=[.int i]∧i.natAbs.log2<1920∧Q (.str (toString i)) H):=by
 intro pins s σ H xs us Q I r h
 obtain ⟨i,rfl,hz,q⟩:=h
 obtain ⟨u,rfl,t,rfl⟩:=JV r
 exact PySem.P.str_of_int hz ⟨.str _,H,I.tok _,⟨_,rfl⟩,q⟩
end
end L2
namespace L2
open PySem PySem.Spec PyProof.Rows
structure QcJ (h:Heap) (x dx C:Addr) (mA:Str→Option Value):Prop where
 obj:h.get? x=some (PySem.W.instObj C dx)
 ns:h.Ns1 dx mA
 ne:dx≠x
theorem Qd5 {h:Heap} {dx:Addr} {mA:Str→Option Value} (n:h.Ns1 dx mA):∃od,h.get? dx=some od∧∀name,PySem.W.lookIn name od=some (mA name):=by
 obtain ⟨o,es,ep,ho,hd,hk,_,hm⟩:=n
 refine ⟨o,ho,fun name=>?_⟩
 have e:=hm name
 unfold nsFind findBy at e
 rw [←Array.find?_toList] at e
 unfold PySem.W.lookIn
 rw [hd]
 dsimp only
 split
 ·rename_i y q
  rw [q] at e
  exact congrArg some e
 ·rename_i q
  rw [q] at e
  have a:es.toList.any (·.refKey)=false:=by
   rw [List.any_eq_false]
   intro y hy
   obtain ⟨z,t,hkey⟩:=hk y (Array.mem_toList_iff.mp hy)
   simp [DictEntry.refKey,hkey]
  have a':¬es.toList.any (·.refKey)=true:=by rw [a];exact Bool.false_ne_true
  rw [if_neg a']
  exact congrArg some e
theorem QcJ.look {h:Heap} {x dx C:Addr} {mA:Str→Option Value} (I:QcJ h x dx C mA):∃od,PySem.W.InstAt h x (PySem.W.instObj C dx) C (some od)∧∀name,PySem.W.lookIn name od=some (mA name) :=
 let ⟨od,ho,hl⟩:=Qd5 I.ns
 ⟨od,⟨I.obj,rfl,rfl,ho⟩,hl⟩
section
variable {prog : Program} {w : World} {A : Around} {E : Value → Shared → Prop} {s : Shared} {K : PySem.W.Frag} {x dx C f : Addr} {mA : Str → Option Value} {name : Str} {v : Value}
theorem Qhr {expr:Bool} {Q:Value→Shared→Prop} (X:K.In s.heap) (I:QcJ s.heap x dx C mA) (hg:PySem.W.plainGet K C name=true) (hh:PySem.W.hasDictIn K C=true)
 (ha:PySem.W.findIn K (.ref C) name=some none) (hv:mA name=some v) (hv':PySem.W.handedIn v=true) (h:Q v { s with toks:=s.toks+1 }) :
 wpAny (model prog w) A (getAttr (.ref x) name expr) Q E s:=by
 obtain ⟨od,J,hl⟩:=I.look
 exact PySem.W.get_value X J (PySem.W.plainGet_of hg).1 (PySem.W.findObj_own hh ha rfl (by rw [hl,hv])) hv' h
theorem Qgq {pl:Sem Bool} {Q:Value×List Value→Shared→Prop} (X:K.In s.heap) (I:QcJ s.heap x dx C mA) (hg:PySem.W.plainGet K C name=true)
 (hf:PySem.W.findIn K (.ref C) name=some (some (.ref f))) (ht:PySem.W.isFn K (.ref f)=true) (hv:mA name=none) (h:Q (.ref f,[.ref x]) s) :
 wpAny (model prog w) A (getMethod (.ref x) name pl) Q E s:=by
 obtain ⟨od,J,hl⟩:=I.look
 exact PySem.W.method_fn X J (PySem.W.plainGet_of hg).1 (PySem.W.plainGet_of hg).2 hf (beq_iff_eq.mp ht) (by show (PySem.W.lookIn name od).map (·.isSome)=some false;rw [hl,hv];rfl) h
theorem Qg1 {ns:List Str} {Q:Unit→Shared→Prop} (X:K.In s.heap) (I:QcJ s.heap x dx C mA)
 (hs:PySem.W.findIn K (.ref C) "__setattr__"=some (some (.builtin "object.__setattr__"))) (hp:PySem.W.plainOver K C=true) (ht:PySem.W.takerIn K C name=some none) (hh:PySem.W.hasDictIn K C=true)
 (hw:PySem.Within mA ns) (hsz:ns.length≤sizeLine)
 (h:∀h',QcJ h' x dx C (fun y=>if y=name then some v else mA y)→Heap.SameBut dx s.heap h'→Q () { s with heap:=h',toks:=s.toks+2 }) :
 wpAny (model prog w) A (setAttr (.ref x) name v) Q E s:=by
 obtain ⟨od,J,hl⟩:=I.look
 refine PySem.W.set_plain X J hs (PySem.W.osa_open (s:={ s with toks:=s.toks+1 }) (r:=none) X J hp ht fun b=>?_)
 obtain ⟨cd,hc,hd'⟩:=PySem.W.any_some hh
 have hx:s.heap.get? x=some ⟨.ref C,some dx,.plain,#[]⟩:=I.obj
 refine wpAny_bind (wpAny_pure (wpAny_bind (wpAny_bind (wpAny_loadPart hx (wpAny_bind (PySem.W.Looks.here (s:={ s with toks:=s.toks+1 }) (PySem.W.looks_clsIn X hc) ?_))))))
 rw [hd']
 refine wpAny_pure (a:=some dx) (wpAny_bind (wpAny_pure (wpAny_bind ?_)))
 refine wpAny_nsSet1 (s:={ s with toks:=s.toks+1 }) I.ns fun h' hn2 hs2=>?_
 obtain ⟨oD,esD,epD,hoD,hdD,hcD⟩:=hn2.count (PySem.Within.cons name v hw)
 refine wpAny_bind (wpAny_lookBehind hoD (by rw [hdD];exact pastItsLine_dict (Nat.le_trans hcD (by rw [List.length_cons];omega))) ?_)
 exact wpAny_pure (h _ ⟨(hs2.2 _ (Ne.symm I.ne)).trans I.obj,hn2,I.ne⟩ hs2)
theorem Qf8 {R:Result→Shared→Prop} {vs:List Value} {kw:List (Str×Value)} (X:K.In s.heap) (hm:PySem.W.makesIn K C=true)
 (hi:PySem.W.findIn K (.ref C) "__init__"=some (some (.ref f))) (hf:PySem.W.typeIn K (.ref f)=some (.type "function"))
 (h:codeAny (model prog w) (A.under (.builtin "type.__call__" ⟨.ref C :: vs,kw⟩)) (.call (.ref f) ⟨.ref (s.heap.objs.size+1) :: vs,kw⟩) (PySem.W.InitBack (s.heap.objs.size+1) R)
   { s with heap:=(s.heap.push PySem.W.emptyDict).push (PySem.W.instObj C s.heap.objs.size) }) :
 codeAny (model prog w) A (.call (.ref C) ⟨vs,kw⟩) R s:=by
 obtain ⟨hh,g,d,t,os⟩:=s
 exact PySem.W.make_core (PySem.W.makes_of X hm) (PySem.W.looks_findIn X hi) (fun self=>PySem.W.bind_fn X self hf) (.inl rfl) h
end
def YW (f:Str) (v:V):List (Str×V)→List (Str×V)
 | []=>[(f,v)]
 | (g,x) :: r=>if g=f then (g,v) :: r else (g,x) :: YW f v r
theorem Xe (f g:Str) (v:V):∀fs:List (Str×V),(YW f v fs).lookup g=if g=f then some v else fs.lookup g
 | []=>by
   show List.lookup g [(f,v)]=_
   by_cases h:g=f
   ·have hb:(g == f)=true:=beq_iff_eq.mpr h
    simp only [List.lookup,hb,if_pos h]
   ·have hb:(g == f)=false:=beq_eq_false_iff_ne.mpr h
    simp only [List.lookup,hb,if_neg h]
 | (k,x) :: r=>by
   have ih:=Xe f g v r
   rw [show YW f v ((k,x) :: r)=(if k=f then (k,v) :: r else (k,x) :: YW f v r) from rfl]
   by_cases hk:k=f
   ·rw [if_pos hk]
    by_cases h:g=k
    ·have hb:(g == k)=true:=beq_iff_eq.mpr h
     simp only [List.lookup,hb,if_pos (h.trans hk)]
    ·have hb:(g == k)=false:=beq_eq_false_iff_ne.mpr h
     simp only [List.lookup,hb,if_neg (fun e:g=f=>h (e.trans hk.symm))]
   ·rw [if_neg hk]
    by_cases h:g=k
    ·have hb:(g == k)=true:=beq_iff_eq.mpr h
     simp only [List.lookup,hb,if_neg (fun e:g=f=>hk (h.symm.trans e))]
    ·have hb:(g == k)=false:=beq_eq_false_iff_ne.mpr h
     simp only [List.lookup,hb]
     exact ih
theorem W1 (f:Str) (v:V):∀fs:List (Str×V),f∈(YW f v fs).map (·.1)∧∀g,g∈fs.map (·.1)→g∈(YW f v fs).map (·.1)
 | []=>⟨by simp [YW],fun g h=>by simp at h⟩
 | (k,x) :: r=>by
   obtain ⟨i1,i2⟩:=W1 f v r
   rw [show YW f v ((k,x) :: r)=(if k=f then (k,v) :: r else (k,x) :: YW f v r) from rfl]
   by_cases hk:k=f
   ·rw [if_pos hk]
    subst hk
    exact ⟨by simp,fun g h=>by simpa using h⟩
   ·rw [if_neg hk]
    refine ⟨?_,fun g h=>?_⟩
    ·rw [List.map_cons]
     exact List.mem_cons_of_mem _ i1
    ·rw [List.map_cons] at h ⊢
     rcases List.mem_cons.mp h with e | e
     ·exact List.mem_cons.mpr (.inl e)
     ·exact List.mem_cons_of_mem _ (i2 g e)
theorem Xf (f:Str) (v:V):∀fs:List (Str×V),(YW f v fs).length≤fs.length+1
 | []=>by simp [YW]
 | (k,x) :: r=>by
   have ih:=Xf f v r
   rw [show YW f v ((k,x) :: r)=(if k=f then (k,v) :: r else (k,x) :: YW f v r) from rfl]
   by_cases hk:k=f
   ·rw [if_pos hk,List.length_cons,List.length_cons];omega
   ·rw [if_neg hk,List.length_cons,List.length_cons];omega
theorem Y9.some_of {v:V} {o:Option Value} (r:Y9 (some v) o):∃u,o=some u∧QQ v u:=by
 cases o with
 | none=>exact (show False from r).elim
 | some u=>exact ⟨u,rfl,r⟩
theorem Y9.none_of {o:Option Value} (r:Y9 none o):o=none:=by
 cases o with
 | none=>rfl
 | some u=>exact (show False from r).elim
theorem Qej {v:V} {u:Value} (r:QQ v u):PySem.W.handedIn u=true:=by
 cases v with
 | non=>cases (show u=Value.none from r);rfl
 | bl b=>cases (show u=Value.bool b from r);rfl
 | int i=>obtain ⟨t,e⟩:=(show ∃t,u=Value.int i t from r);cases e;rfl
 | str x=>obtain ⟨t,e⟩:=(show ∃t,u=Value.str x t from r);cases e;rfl
 | byt b=>obtain ⟨t,e⟩:=(show ∃t,u=Value.bytes b t from r);cases e;rfl
 | flt b=>obtain ⟨t,e⟩:=(show ∃t,u=Value.float b t from r);cases e;rfl
 | ref a=>cases (show u=Value.ref a from r);rfl
 | ty n=>cases (show u=Value.type n from r);rfl
section
variable {P : Program} {w : World} {H H' : Hp} {h h' : Heap} {a C dx : Addr} {fs fs' : List (Str × V)}
theorem XJ (hok:HOk P w H h) (e:H a=some (.ins C dx fs)):∃mA,QcJ h a dx C mA∧(∀f,Y9 (fs.lookup f) (mA f))∧PySem.Within mA (fs.map (·.1))∧fs.length≤1000∧H dx=some (.own a):=by
 obtain ⟨d,z,ne,ob,mA,n,r,q⟩:=(show Zi P w H h a (.ins C dx fs) from hok a _ e)
 exact ⟨mA,⟨ob,n,ne⟩,r,q,z,d⟩
end
structure Cls (K:PySem.W.Frag) (C:Addr):Prop where
 pg:PySem.W.plainGet K C Str.empty=true
 hd:PySem.W.hasDictIn K C=true
 po:PySem.W.plainOver K C=true
 sa:PySem.W.findIn K (.ref C) "__setattr__"=some (some (.builtin "object.__setattr__"))
theorem Cls.get {K:PySem.W.Frag} {C:Addr} (c:Cls K C) (f:Str):PySem.W.plainGet K C f=true:=c.pg
def QD (K:PySem.W.Frag) (C:Addr) (f:Str):Prop:=PySem.W.findIn K (.ref C) f=some none
theorem QD.taker {K:PySem.W.Frag} {C:Addr} {f:Str} (n:QD K C f):PySem.W.takerIn K C f=some none:=by
 unfold PySem.W.takerIn
 rw [show PySem.W.findIn K (.ref C) f=some none from n]
 rfl
structure QN (K:PySem.W.Frag) (C:Addr) (m:Str) (f:Addr):Prop where
 at_:PySem.W.findIn K (.ref C) m=some (some (.ref f))
 fn:PySem.W.isFn K (.ref f)=true
 kp:PySem.W.keepIn K (.ref f)=true
section
variable {X : Cx} {pins : List (Addr × Obj)} {σ : St} {H : Hp} {s : Shared} {a C dx : Addr} {fs : List (Str × V)} {f : Str} {v : V} {A : Around} {E : Value → Shared → Prop}
theorem QcD {b:Bool} {Q:Value→Shared→Prop} (I:Inv X pins σ H s) (e:H a=some (.ins C dx fs)) (c:Cls X.K C) (n:QD X.K C f) (l:fs.lookup f=some v)
 (h:∀u s',Inv X pins σ H s'→QQ v u→Q u s'):wpAny (model X.prog X.w) A (getAttr (.ref a) f b) Q E s:=by
 obtain ⟨mA,O,r,_,_,_⟩:=XJ I.hok e
 obtain ⟨u,hu,ru⟩:=Y9.some_of (v:=v) (o:=mA f) (by rw [←l];exact r f)
 exact Qhr I.kIn O (c.get f) c.hd n hu (Qej ru) (h u _ (I.tok _) ru)
theorem UH {m:Str} {g:Addr} {pl:Sem Bool} {Q:Value×List Value→Shared→Prop} (I:Inv X pins σ H s) (e:H a=some (.ins C dx fs)) (c:Cls X.K C) (k:QN X.K C m g) (l:fs.lookup m=none)
 (h:Q (.ref g,[.ref a]) s):wpAny (model X.prog X.w) A (getMethod (.ref a) m pl) Q E s:=by
 obtain ⟨mA,O,r,_,_,_⟩:=XJ I.hok e
 have hn:mA m=none:=Y9.none_of (by rw [←l];exact r m)
 exact Qgq I.kIn O (c.get m) k.at_ k.fn hn h
theorem Qcf {y:V} {u:Value} {Q:Unit→Shared→Prop} (I:Inv X pins σ H s) (e:H a=some (.ins C dx fs)) (c:Cls X.K C) (n:QD X.K C f) (hl:fs.length<1000) (ry:QQ y u)
 (h:∀s',Inv X pins σ (upd H a (.ins C dx (YW f y fs))) s'→Q () s'):wpAny (model X.prog X.w) A (setAttr (.ref a) f u) Q E s:=by
 obtain ⟨mA,O,r,wi,_,ho⟩:=XJ I.hok e
 have hz:(fs.map (·.1)).length≤sizeLine:=by rw [List.length_map,sizeLine_eq];omega
 refine Qg1 I.kIn O c.sa c.po n.taker c.hd wi hz fun h' O' sb=>h _ ?_
 have hd:∃o,h'.get? dx=some o:=let ⟨o,_,_,e',_⟩:=O'.ns;⟨o,e'⟩
 refine I.write (x:=a) (e:=dx) (by rw [e];exact True.intro) (.inr ho) (fun b q hb z=>(sb.2 b hb).trans z) hd ?_
 refine ⟨by rw [Qk O.ne];exact ho,?_,O.ne,O'.obj,_,O'.ns,fun g=>?_,fun g hg=>?_⟩
 ·have:=Xf f y fs;omega
 ·show Y9 ((YW f y fs).lookup g) (if g=f then some u else mA g)
  rw [Xe]
  by_cases q:g=f
  ·rw [if_pos q,if_pos q];exact ry
  ·rw [if_neg q,if_neg q];exact r g
 ·by_cases q:g=f
  ·rw [q];exact (W1 f y fs).1
  ·refine (W1 f y fs).2 g (wi g fun z=>hg ?_)
   show (if g=f then some u else mA g)=none
   rw [if_neg q];exact z
theorem Inv.made (I:Inv X pins σ H s):Inv X pins σ (upd (upd H s.heap.objs.size (.own (s.heap.objs.size+1))) (s.heap.objs.size+1) (.ins C s.heap.objs.size []))
 { s with heap:=(s.heap.push PySem.W.emptyDict).push (PySem.W.instObj C s.heap.objs.size) }:=by
 have e1:(s.heap.push PySem.W.emptyDict).get? s.heap.objs.size=some PySem.W.emptyDict:=Heap.get?_push_size s.heap rfl
 have e2:((s.heap.push PySem.W.emptyDict).push (PySem.W.instObj C s.heap.objs.size)).get? (s.heap.objs.size+1)=some (PySem.W.instObj C s.heap.objs.size):=by
  have:=Heap.get?_push_size (s.heap.push PySem.W.emptyDict) (o:=PySem.W.instObj C s.heap.objs.size) rfl
  rwa [Heap.size_push] at this
 have e3:(s.heap.push PySem.W.emptyDict).Ns s.heap.objs.size (fun _=>none):=⟨PySem.W.emptyDict,#[],_,e1,rfl,(fun e he=>absurd he (by simp)),fun _=>rfl⟩
 have I1:=I.laid (a:=s.heap.objs.size) (o:=.own (s.heap.objs.size+1)) (h':=s.heap.push PySem.W.emptyDict) (t':=s.toks) (fun b u q=>Heap.get?_push_of_some _ q) (Nat.le_refl _) ⟨_,e1⟩
 refine I1.laid (a:=s.heap.objs.size+1) (o:=.ins C s.heap.objs.size []) (t':=s.toks) (fun b u q=>Heap.get?_push_of_some _ q) (Nat.le_of_eq (Heap.size_push _ _)) ?_
 have ne:s.heap.objs.size≠s.heap.objs.size+1:=Nat.ne_of_lt (Nat.lt_succ_self _)
 refine ⟨by rw [Qk ne,Qh],Nat.zero_le _,ne,e2,fun _=>none,(Heap.Ns1.of_empty e3).at fun o q=>Heap.get?_push_of_some _ q,fun _=>True.intro,fun y hy=>absurd rfl hy⟩
theorem QhA {prog:Program} {w:World} {env:Env} {e:Expr} {f:Str} {pos:Pos} {s:Shared} {Q:Value→Shared→Prop} (hb:attributeBase e f env (eval e env)=eval e env)
 (h:wpAny (model prog w) A (eval e env) (fun o s₁=>wpAny (model prog w) A (getAttr o f true) Q E s₁) E s):wpAny (model prog w) A (eval (.Attribute e f pos) env) Q E s :=
 Attribute_any_ h (by rw [arm_eval_Attribute,hb])
end
inductive QeI (K:PySem.W.Frag) (f:Str) (Q:VK) (x:V) (H1:Hp):Prop
 | mk:∀a C dx fs v,x=.ref a→H1 a=some (.ins C dx fs)→Cls K C→QD K C f→fs.lookup f=some v→Q v H1→QeI K f Q x H1
def tFld (K:PySem.W.Frag) (ta:TE) (f:Str):TE:=fun σ H Q=>ta σ H fun x H1=>QeI K f Q x H1
inductive Qfd (K:PySem.W.Frag) (f:Str) (D:VY) (σ:St) (y:V) (x:V) (H2:Hp):Prop
 | mk:∀a C dx fs,x=.ref a→H2 a=some (.ins C dx fs)→Cls K C→QD K C f→fs.length<1000→D.nx σ (upd H2 a (.ins C dx (YW f y fs)))→Qfd K f D σ y x H2
def sFld (K:PySem.W.Frag) (ta tv:TE) (f:Str):TS:=fun D σ H=>tv σ H fun y H1=>ta σ H1 fun x H2=>Qfd K f D σ y x H2
section
variable {X : Cx} {o e value : Expr} {f : Str} {pos pos' tpos : Pos} {ta tv : TE}
theorem QC (he:PE X e ta) (hb:attributeBase e f X.env (eval e X.env)=eval e X.env):PE X (.Attribute e f pos) (tFld X.K ta f):=by
 intro pins s σ H Q I h
 refine QhA hb (thn (he pins s σ H _ I h) fun u s1 ⟨x,H1,I1,rx,a,C,dx,fs,v,ex,ea,c,n,l,q⟩=>?_)
 subst ex
 obtain rfl:u=Value.ref a:=rx
 exact QcD I1 ea c n l fun u' s2 I2 ru=>⟨v,H1,I2,ru,q⟩
theorem Jt (ha:PE X o ta) (hv:PE X value tv) (hs:swapsWith value (some (.Attribute o f pos')) pos.line X.env=pure false):PS X (.Assign [.Attribute o f pos'] value pos) (sFld X.K ta tv f):=by
 intro pins s σ H D I h
 refine plainObj_wpAny_Assign_Attribute (thn (hv pins s σ H _ I h) fun u s1 ⟨y,H1,I1,ry,q⟩=>thn (ha pins s1 σ H1 _ I1 q) fun ov s2 ⟨x,H2,I2,rx,a,C,dx,fs,ex,ea,c,n,l,q2⟩=>?_) hs
 subst ex
 obtain rfl:ov=Value.ref a:=rx
 exact Qcf I2 ea c n l ry fun s3 I3=>⟨σ,_,I3,q2⟩
end
section
variable {X : Cx} {pins : List (Addr × Obj)} {σ : St} {H : Hp} {s : Shared} {A : Around} {E : Value → Shared → Prop} {Q : Value → Shared → Prop} {c : Value} {b : Bool}
inductive Yp (K:PySem.W.Frag) (H:Hp):V→Value→Prop where
 | non:Yp K H .non (.type "NoneType")
 | bl (x:Bool):Yp K H (.bl x) (.type "bool")
 | int (i:Int):Yp K H (.int i) (.type "int")
 | str (x:Str):Yp K H (.str x) (.type "str")
 | flt (x:UInt64):Yp K H (.flt x) (.type "float")
 | lst {a:Addr} {xs:List V} (e:H a=some (.lst xs)):Yp K H (.ref a) (.type "list")
 | frz {a:Addr} {o:Obj} {xs:List V} (e:H a=some (.frz o (.lst xs))):Yp K H (.ref a) (.type "list")
 | tup {a:Addr} {xs:List V} (e:H a=some (.tup xs)):Yp K H (.ref a) (.type "tuple")
 | dK {a:Addr} {kvs:List (Key×V)} (e:H a=some (.dK kvs)):Yp K H (.ref a) (.type "dict")
 | dT {a:Addr} {kvs:List (List Key×V)} (e:H a=some (.dT kvs)):Yp K H (.ref a) (.type "dict")
 | ins {a C dx:Addr} {fs:List (Str×V)} (e:H a=some (.ins C dx fs)) (cl:Cls K C) (ha:PySem.W.findIn K (.ref C) "__class__"=some (some (.builtin "object.__class__")))
    (hn:PySem.W.specialIn K (.builtin "object.__class__") "__get__"=some (some (.builtin "getset_descriptor.__get__"))) (htk:PySem.W.takesIn K (.builtin "object.__class__")=some true)
    (hm:PySem.W.mroIn K C (.type "object")=some true):Yp K H (.ref a) (.ref C)
theorem Qed {x:V} {u t:Value} (I:Inv X pins σ H s) (rx:QQ x u) (ty:Yp X.K H x t) (e:PySem.W.kitOne X.K t c=some b) (h:∀tk,Q (.bool b) { s with toks:=tk }) :
 wpAny (model X.prog X.w) A (call (.builtin "isinstance") [u,c]) Q E s:=by
 cases ty with
 | non=>cases (show u=Value.none from rx);exact PySem.W.kia_one PySem.W.kitx_none I.kIn True.intro e (fun z=>nomatch z) h
 | bl y=>cases (show u=Value.bool y from rx);exact PySem.W.kia_one PySem.W.kitx_bool I.kIn True.intro e (fun z=>nomatch z) h
 | int i=>obtain ⟨t,q⟩:=(show ∃t,u=Value.int i t from rx);cases q;exact PySem.W.kia_one PySem.W.kitx_int I.kIn True.intro e (fun z=>nomatch z) h
 | str y=>obtain ⟨t,q⟩:=(show ∃t,u=Value.str y t from rx);cases q;exact PySem.W.kia_one PySem.W.kitx_str I.kIn True.intro e (fun z=>nomatch z) h
 | flt y=>obtain ⟨t,q⟩:=(show ∃t,u=Value.float y t from rx);cases q;exact PySem.W.kia_one PySem.W.kitx_float I.kIn True.intro e (fun z=>nomatch z) h
 | @lst a xs ea =>
   cases (show u=Value.ref a from rx)
   obtain ⟨_,_,n,_,h1⟩:=(show Zi X.prog X.w H s.heap a (.lst xs) from I.hok a _ ea)
   exact PySem.W.kia_one PySem.W.kitx_list I.kIn ⟨_,h1,rfl⟩ e (fun z=>nomatch z) h
 | @frz a ob xs ea =>
   cases (show u=Value.ref a from rx)
   obtain ⟨_,_,_,n,_,h1⟩:=(show Zi X.prog X.w H s.heap a (.frz ob (.lst xs)) from I.hok a _ ea)
   exact PySem.W.kia_one PySem.W.kitx_list I.kIn ⟨_,h1,rfl⟩ e (fun z=>nomatch z) h
 | @tup a xs ea =>
   cases (show u=Value.ref a from rx)
   obtain ⟨_,_,_,p⟩:=(show Zi X.prog X.w H s.heap a (.tup xs) from I.hok a _ ea)
   obtain ⟨o,h1,h2,_⟩:=p
   exact PySem.W.kia_one PySem.W.kitx_tuple I.kIn ⟨o,h1,h2⟩ e (fun z=>nomatch z) h
 | @dK a kvs ea =>
   cases (show u=Value.ref a from rx)
   obtain ⟨_,_,vs,_,p⟩:=(show Zi X.prog X.w H s.heap a (.dK kvs) from I.hok a _ ea)
   obtain ⟨o,es,ep,h1,h2,_⟩:=p
   exact PySem.W.kia_one PySem.W.kitx_dict I.kIn ⟨o,h1,h2.1⟩ e (fun z=>nomatch z) h
 | @dT a kvs ea =>
   cases (show u=Value.ref a from rx)
   obtain ⟨_,_,xs,_,o,es,ep,h1,h2,_⟩:=(show Zi X.prog X.w H s.heap a (.dT kvs) from I.hok a _ ea)
   exact PySem.W.kia_one PySem.W.kitx_dict I.kIn ⟨o,h1,h2.1⟩ e (fun z=>nomatch z) h
 | @ins a C dx fs ea cl ha hn htk hm =>
   cases (show u=Value.ref a from rx)
   obtain ⟨mA,O,_⟩:=XJ I.hok ea
   obtain ⟨od,J,_⟩:=O.look
   exact PySem.W.kia_one (PySem.W.kitx_own (cl.get _) cl.hd ha hn htk hm) I.kIn J e (fun z=>nomatch z) h
end
end L2
namespace L2
open PySem PySem.Spec PyProof.Rows
structure QG (k:Nat) (A:Around):Prop where
 hd:A.handled=none
 dp:A.depth+3*k+5<recursionLimit
 un:A.units+16*k+200<cLine
 gd:A.guards=some []
theorem QG.mono {j k:Nat} {A:Around} (r:QG k A) (h:j≤k):QG j A:=⟨r.hd,by have:=r.dp;omega,by have:=r.un;omega,r.gd⟩
theorem QG.deeper {k:Nat} {A:Around} (r:QG (k+1) A) (env:Env):QG k (A.deeper env) :=
 ⟨r.hd,by have:=r.dp;show A.depth+1+3*k+5<_;omega,by have:=r.un;show A.units+3+16*k+200<_;omega,r.gd⟩
theorem QcA {A:Around} {C:Addr} {us:List Value} {kw:List (Str×Value)}:(A.under (.builtin "type.__call__" ⟨.ref C :: us,kw⟩)).depth=A.depth+1:=by
 first | rfl | simp [Around.under,Code.weight,Code.isCreation,Code.isGuard,Code.isCaller,Code.frames,Code.isFrame,guardIds]
theorem Qcz {A:Around} {C:Addr} {us:List Value} {kw:List (Str×Value)}:(A.under (.builtin "type.__call__" ⟨.ref C :: us,kw⟩)).units=A.units+1:=by
 first | rfl | simp [Around.under,Code.cUnits,Code.frames,Code.isFrame]
theorem QbC {A:Around} {C:Addr} {us:List Value} {kw:List (Str×Value)} (h:A.guards=some []):(A.under (.builtin "type.__call__" ⟨.ref C :: us,kw⟩)).guards=some []:=by
 first | exact h | simp [Around.under,Code.guards,Code.isGuard,pushGuards,guardIds,h]
theorem QG.make {k:Nat} {A:Around} (r:QG (k+1) A) (C:Addr) (us:List Value) (kw:List (Str×Value)):QG k (A.under (.builtin "type.__call__" ⟨.ref C :: us,kw⟩)) :=
 ⟨r.hd,by have:=r.dp;rw [QcA];omega,by have:=r.un;rw [Qcz];omega,QbC r.gd⟩
theorem QG.depth {k:Nat} {A:Around} (r:QG k A):A.depth<recursionLimit:=by have:=r.dp;omega
theorem QG.units {k:Nat} {A:Around} (r:QG k A):A.units+64<cLine:=by have:=r.un;omega
def tNil:TA:=fun _ H Q=>Q [] H
def QeK (ta:TE) (tr:TA):TA:=fun σ H Q=>ta σ H fun x H1=>tr σ H1 fun xs H2=>Q (x :: xs) H2
section
variable {X : Cx} {e : Expr} {es : List Expr} {te : TE} {t : TA} {pos : Pos}
theorem Qf:PA X [] tNil:=fun _ _ _ _ H Q I h=>Calls.spliced_nil ⟨[],H,I,.nil,h⟩
theorem Qhc (ha:PE X e te) (hr:PA X es t) (hs:starEach (e :: es) X.env=(false,eval e X.env) :: starEach es X.env:=by rfl):PA X (e :: es) (QeK te t):=by
 intro pos pins s σ H Q I h
 rw [hs]
 show wpAny _ _ (spliced ((false,eval e X.env) :: backTo pos (starEach es X.env))) _ _ s
 refine Calls.spliced_cons (thn (ha pins s σ H _ I h) fun u s1 ⟨x,H1,I1,r1,q1⟩=>?_)
 exact thn (hr pos pins s1 σ H1 _ I1 q1) fun us s2 ⟨xs,H2,I2,r2,q2⟩=>⟨x :: xs,H2,I2,.cons r1 r2,q2⟩
def tTup (t:TA):TE:=fun σ H Q=>t σ H fun xs H1=>xs.length≤sizeLine∧∀p,H1 p=none→Q (.ref p) (upd H1 p (.tup xs))
def tLst (t:TA):TE:=fun σ H Q=>t σ H fun xs H1=>xs.length≤sizeLine∧∀p,H1 p=none→Q (.ref p) (upd H1 p (.lst xs))
theorem Qit {x1} (h:PA X es t):PE X (.Tuple es x1 pos) (tTup t):=by
 intro pins s σ H Q I hq
 refine wpAny_Tuple_spliced (thn (h pos pins s σ H _ I hq) fun us s1 ⟨xs,H1,I1,r,z,q⟩=>⟨by rw [←r.length];exact z,?_⟩)
 have hf:H1 s1.heap.objs.size=none:=I1.hok.fresh (Nat.le_refl _)
 refine ⟨.ref s1.heap.objs.size,upd H1 s1.heap.objs.size (.tup xs),I1.laid (t':=s1.toks) (fun b u e=>Heap.get?_push_of_some _ e) (Nat.le_refl _) ?_,rfl,q _ hf⟩
 exact ⟨z,us,r,⟨_,Heap.get?_push_size _ rfl,rfl,_,rfl⟩⟩
theorem QfB (h:PA X es t):PE X (.List es pos) (tLst t):=by
 intro pins s σ H Q I hq
 refine wpAny_List_spliced (thn (h pos pins s σ H _ I hq) fun us s1 ⟨xs,H1,I1,r,z,q⟩=>⟨by rw [←r.length];exact z,?_⟩)
 have hf:H1 s1.heap.objs.size=none:=I1.hok.fresh (Nat.le_refl _)
 refine ⟨.ref s1.heap.objs.size,upd H1 s1.heap.objs.size (.lst xs),I1.laid (t':=s1.toks) (fun b u e=>Heap.get?_push_of_some _ e) (Nat.le_refl _) ?_,rfl,q _ hf⟩
 exact ⟨z,us,0,r,Heap.get?_push_size _ rfl⟩
end
abbrev Sp:=List V→Hp→VK→XK→Prop
abbrev CXT:=List Env→Hp→Shared→XK→Value→Shared→Prop
structure QcL (P:Program) (w:World) (K:PySem.W.Frag) (mg:Str→Option Value) (base:Heap) (A:Around) (outer:List Env) (s:Shared) (H:Hp):Prop where
 frames:A.frames=some outer
 mod:Mod K mg base
 bs:∀b o,base.get? b=some o→s.heap.get? b=some o∧H b=none
 bsz:base.objs.size≤s.heap.objs.size
 funs:s.heap.FunFrames base outer
 frf:∀b∈frs outer,H b=none
 hok:HOk P w H s.heap
 bare:AllBare s.gens
def CE (outer:List Env) (P:Program) (w:World) (H:Hp) (s:Shared) (Q:VK) (u:Value) (s':Shared):Prop :=
 ∃v H',s'.os=s.os∧AllBare s'.gens∧Un (frs outer) [] H H' s.heap s'.heap∧HOk P w H' s'.heap∧QQ v u∧Q v H'
def CR (CX:CXT) (outer:List Env) (P:Program) (w:World) (H:Hp) (s:Shared) (Q:VK) (E:XK) (r:Result) (s':Shared):Prop :=
 match r with
 | .ok (.ret u)=>CE outer P w H s Q u s'
 | .ok _=>False
 | .error e=>CX outer H s E e s'
structure Qw (P:Program) (w:World) (K:PySem.W.Frag) (mg:Str→Option Value) (base:Heap) (CX:CXT) (k:Nat) (f:Addr) (fd:FuncData) (ps:List Str) (sp:Sp):Prop where
 len:∀vs H Q E,sp vs H Q E→vs.length=ps.length
 run:∀(A:Around) (outer:List Env) (s:Shared) (H:Hp) (args:Args) (us:List Value) (vs:List V) (Q:VK) (E:XK),QG k A→QcL P w K mg base A outer s H→BindsTo s fd args (ps.zip us)→QW vs us→sp vs H Q E →
  codeAny (model P w) A (.call (.ref f) args) (CR CX outer P w H s Q E) s
theorem Qw.mono {P:Program} {w:World} {K:PySem.W.Frag} {mg:Str→Option Value} {base:Heap} {CX:CXT} {j k:Nat} {f:Addr} {fd:FuncData} {ps:List Str} {sp:Sp} (F:Qw P w K mg base CX j f fd ps sp) (h:j≤k) :
 Qw P w K mg base CX k f fd ps sp:=⟨F.len,fun A outer s H args us vs Q E hr=>F.run A outer s H args us vs Q E (hr.mono h)⟩
theorem QcL.make {P:Program} {w:World} {K:PySem.W.Frag} {mg:Str→Option Value} {base:Heap} {A:Around} {outer:List Env} {s:Shared} {H:Hp} (e:QcL P w K mg base A outer s H) (C:Addr) (us:List Value) (kw:List (Str×Value)) :
 QcL P w K mg base (A.under (.builtin "type.__call__" ⟨.ref C :: us,kw⟩)) outer s H:=⟨by first | exact e.frames | (simpa [Around.under,Code.envs,Code.isFrame,pushEnvs] using e.frames),e.mod,e.bs,e.bsz,e.funs,e.frf,e.hok,e.bare⟩
section
variable {X : Cx} {pins : List (Addr × Obj)} {σ : St} {H : Hp} {s s' : Shared}
theorem Inv.env0 (I:Inv X pins σ H s):QcL X.prog X.w X.K X.mg X.base X.A X.stack s H :=
 ⟨I.ok.frames,I.ok.mod,I.bs,Nat.le_trans I.ok.bsz I.sz,I.stack,I.stkFree,I.hok,I.bare⟩
theorem Inv.after {Q:VK} {u:Value} (I:Inv X pins σ H s) (h:CE X.stack X.prog X.w H s Q u s'):EP X pins σ Q u s':=by
 obtain ⟨v,H',os,bare,un,hok,r,q⟩:=h
 obtain ⟨hh,g,d,t,os'⟩:=s'
 obtain rfl:os'=s.os:=os
 exact ⟨v,H',I.call (h':=hh) (g':=g) (d':=d) (t':=t) (ch:=[]) un hok bare (fun b z=>absurd z (by simp)),r,q⟩
end
def QhK (sp:Sp) (dvs:List V) (E:XK) (t:TA):TE:=fun σ H Q=>t σ H fun vs H1=>sp (vs++dvs) H1 Q E
inductive QcR (C:Addr) (m:Str) (sp:Sp) (dvs:List V) (E:XK) (t:TA) (σ:St) (Q:VK) (x:V) (H1:Hp):Prop
 | mk:∀a dx fs,x=.ref a→H1 a=some (.ins C dx fs)→fs.lookup m=none→(t σ H1 fun vs H2=>sp (x :: (vs++dvs)) H2 Q E)→QcR C m sp dvs E t σ Q x H1
def QhI (C:Addr) (m:Str) (sp:Sp) (dvs:List V) (E:XK) (ta:TE) (t:TA):TE:=fun σ H Q=>ta σ H fun x H1=>QcR C m sp dvs E t σ Q x H1
def tMake (C:Addr) (sp:Sp) (dvs:List V) (E:XK) (t:TA):TE:=fun σ H Q=>t σ H fun vs H1=>∀x dx,H1 x=none→H1 dx=none→dx≠x →
 sp (.ref x :: (vs++dvs)) (upd (upd H1 dx (.own x)) x (.ins C dx [])) (fun v H2=>v=.non∧Q (.ref x) H2) E
def Qt (K:PySem.W.Frag) (fd:FuncData) (ps:List Str) (ds:List Value):Prop :=
 ∀(s:Shared) (us:List Value),K.In s.heap→(us++ds).length=ps.length→BindsTo s fd ⟨us,[]⟩ (ps.zip (us++ds))
theorem Qt.all {K:PySem.W.Frag} {fd:FuncData} {ps:List Str} (h:∀us:List Value,us.length=ps.length→bindArgs fd ⟨us,[]⟩=pure (ps.zip us)):Qt K fd ps []:=fun s us _ hl=>by
 rw [List.append_nil] at hl ⊢
 exact .of_eq (h us hl)
def VX (CX:CXT) (X:Cx) (E:XK):Prop:=∀(pins:List (Addr×Obj)) (σ:St) (H:Hp) (s:Shared) (e:Value) (s':Shared),Inv X pins σ H s→CX X.stack H s E e s'→X.xe e s'
section
variable {X : Cx} {CX : CXT} {k : Nat} {f C : Addr} {fd : FuncData} {ps : List Str} {sp : Sp} {dvs : List V} {ds : List Value} {E : XK} {x m : Str} {p pos apos : Pos} {e o : Expr} {es : List Expr} {ta : TE} {t : TA}
theorem WN {pins:List (Addr×Obj)} {σ:St} {H:Hp} {s:Shared} {Q:VK} {us:List Value} {vs:List V} (F:Qw X.prog X.w X.K X.mg X.base CX k f fd ps sp) (hr:QG k X.A) (hb:Qt X.K fd ps ds) (hd:QW dvs ds) (hx:VX CX X E)
 (I:Inv X pins σ H s) (r:QW vs us) (h:sp (vs++dvs) H Q E):wpAny (model X.prog X.w) X.A (call (.ref f) us) (EP X pins σ Q) X.xe s:=by
 have r2:QW (vs++dvs) (us++ds):=r.append hd
 have hl:(us++ds).length=ps.length:=by rw [←r2.length];exact F.len _ _ _ _ h
 refine wpAny_call (codeAny_mono (F.run X.A X.stack s H ⟨us,[]⟩ (us++ds) (vs++dvs) Q E hr I.env0 (hb s us I.kIn hl) r2 h) fun r s' hq=>?_)
 cases r with
 | error e=>exact hx pins σ H s e s' I hq
 | ok fl =>
   cases fl with
   | ret u=>exact I.after hq
   | next=>exact False.elim hq
   | brk=>exact False.elim hq
   | cont=>exact False.elim hq
theorem Qx (F:Qw X.prog X.w X.K X.mg X.base CX k f fd ps sp) (hr:QG k X.A) (hg:Gl X x) (hm:X.mg x=some (.ref f)) (hk:PySem.W.keepIn X.K (.ref f)=true) (hb:Qt X.K fd ps ds) (hd:QW dvs ds) (hx:VX CX X E)
 (ha:PA X (e :: es) t) (hdb:(x == ("__debug__":Str))=false:=by decide) (he:starEach (e :: es) X.env=(false,eval e X.env) :: starEach es X.env:=by rfl) (hpl:(backTo pos (starEach es X.env)).any (·.1)=false:=by rfl) :
 PE X (.Call (.Name x p) (e :: es) [] pos) (QhK sp dvs E t):=by
 intro pins s σ H Q I h
 refine wpAny_Call_Name_kw (Qay I hg hm ?_ hdb)
 refine PySem.W.callWith_K (h₀:=X.base) I.ok.mod.kin hk (thn (ha pos pins s σ H _ I h) fun us s1 ⟨vs,H1,I1,r,q⟩=>⟨I1.kIn,?_⟩) he hpl
 exact WN F hr hb hd hx I1 r q
theorem Yz {pl:Sem Bool} (he:PE X o ta) (c:Cls X.K C) (hm:QN X.K C m f) (F:Qw X.prog X.w X.K X.mg X.base CX k f fd ps sp) (hr:QG k X.A) (hb:Qt X.K fd ps ds) (hd:QW dvs ds) (hx:VX CX X E) (ha:PA X (e :: es) t)
 (hst:starEach (e :: es) X.env=(false,eval e X.env) :: starEach es X.env:=by rfl) (hpl:(backTo pos (starEach es X.env)).any (·.1)=false:=by rfl)
 (ht:eval (.Call (.Attribute o m apos) (e :: es) [] pos) X.env=(do
   let ov ←eval o X.env
   standAt apos.atName
   let (f,first) ←holding [ov] (getMethod ov m pl)
   callWith pos f first (backTo pos (starEach (e :: es) X.env)) (backToKw pos (keywordEach [] X.env))):=by rfl) :
 PE X (.Call (.Attribute o m apos) (e :: es) [] pos) (QhI C m sp dvs E ta t):=by
 intro pins s σ H Q I h
 refine PySem.W.methodCall_KW (pl:=pl) (thn (he pins s σ H _ I h) fun u s1 ⟨x,H1,I1,rx,a,dx,fs,ex,ea,l,q⟩=>?_) ht
 subst ex
 obtain rfl:u=Value.ref a:=rx
 refine UH I1 ea c hm l ?_
 refine PySem.W.callWith_K (first:=[.ref a]) (h₀:=X.base) I.ok.mod.kin hm.kp (thn (ha pos pins s1 σ H1 _ I1 q) fun us s2 ⟨vs,H2,I2,r,q2⟩=>⟨I2.kIn,?_⟩) hst hpl
 exact WN (us:=.ref a :: us) (vs:=.ref a :: vs) F hr hb hd hx I2 (.cons rfl r) q2
theorem YZ {pl:Sem Bool} (he:PE X o ta) (c:Cls X.K C) (hm:QN X.K C m f) (F:Qw X.prog X.w X.K X.mg X.base CX k f fd ps sp) (hr:QG k X.A) (hb:Qt X.K fd ps ds) (hd:QW dvs ds) (hx:VX CX X E)
 (ht:eval (.Call (.Attribute o m apos) [] [] pos) X.env=(do
   let ov ←eval o X.env
   standAt apos.atName
   let (f,first) ←holding [ov] (getMethod ov m pl)
   callWith pos f first (backTo pos (starEach [] X.env)) (backToKw pos (keywordEach [] X.env))):=by rfl) :
 PE X (.Call (.Attribute o m apos) [] [] pos) (QhI C m sp dvs E ta tNil):=by
 intro pins s σ H Q I h
 refine PySem.W.methodCall_KW (pl:=pl) (thn (he pins s σ H _ I h) fun u s1 ⟨x,H1,I1,rx,a,dx,fs,ex,ea,l,q⟩=>?_) ht
 subst ex
 obtain rfl:u=Value.ref a:=rx
 refine UH I1 ea c hm l ?_
 exact PySem.W.callWith_K0 (first:=[.ref a]) I1.kIn hm.kp (WN (us:=[.ref a]) (vs:=[.ref a]) F hr hb hd hx I1 (.cons rfl .nil) q)
structure Mk (K:PySem.W.Frag) (C f:Addr):Prop where
 makes:PySem.W.makesIn K C=true
 init:PySem.W.findIn K (.ref C) "__init__"=some (some (.ref f))
 fn:PySem.W.isFn K (.ref f)=true
 kp:PySem.W.keepIn K (.ref C)=true
theorem Qfe {pins:List (Addr×Obj)} {σ:St} {H:Hp} {s:Shared} {Q:VK} {us:List Value} {vs:List V} (M:Mk X.K C f) (F:Qw X.prog X.w X.K X.mg X.base CX k f fd ps sp) (hr:QG (k+1) X.A) (hb:Qt X.K fd ps ds) (hd:QW dvs ds)
 (hx:VX CX X E) (I:Inv X pins σ H s) (r:QW vs us)
 (h:∀x dx,H x=none→H dx=none→dx≠x→sp (.ref x :: (vs++dvs)) (upd (upd H dx (.own x)) x (.ins C dx [])) (fun v H2=>v=.non∧Q (.ref x) H2) E) :
 wpAny (model X.prog X.w) X.A (call (.ref C) us) (EP X pins σ Q) X.xe s:=by
 have hq:=h (s.heap.objs.size+1) s.heap.objs.size (I.hok.fresh (Nat.le_succ _)) (I.hok.fresh (Nat.le_refl _)) (Nat.ne_of_lt (Nat.lt_succ_self _))
 have I2:=Inv.made (C:=C) I
 have r2:QW (V.ref (s.heap.objs.size+1) :: (vs++dvs)) (Value.ref (s.heap.objs.size+1) :: (us++ds)):=.cons rfl (r.append hd)
 have hl:(Value.ref (s.heap.objs.size+1) :: us++ds).length=ps.length:=by
  have e:=r2.length
  rw [F.len _ _ _ _ hq] at e
  exact e.symm
 refine wpAny_call (Qf8 (f:=f) I.kIn M.makes M.init (beq_iff_eq.mp M.fn) (codeAny_mono (F.run _ X.stack _ _ ⟨Value.ref (s.heap.objs.size+1) :: us,[]⟩ (Value.ref (s.heap.objs.size+1) :: (us++ds)) _ _ E (hr.make C us [])
  (I2.env0.make C us []) (hb _ (Value.ref (s.heap.objs.size+1) :: us) I2.kIn hl) r2 hq) fun r s' hq'=>?_))
 cases r with
 | error e=>exact hx pins σ _ _ e s' I2 hq'
 | ok fl =>
   cases fl with
   | ret u =>
     obtain ⟨v,H',I3,rv,ev,q3⟩:=I2.after hq'
     subst ev
     exact ⟨rv,⟨V.ref (s.heap.objs.size+1),H',I3,rfl,q3⟩⟩
   | next=>exact False.elim hq'
   | brk=>exact False.elim hq'
   | cont=>exact False.elim hq'
theorem ZA (M:Mk X.K C f) (F:Qw X.prog X.w X.K X.mg X.base CX k f fd ps sp) (hr:QG (k+1) X.A) (hg:Gl X x) (hm:X.mg x=some (.ref C)) (hb:Qt X.K fd ps ds) (hd:QW dvs ds) (hx:VX CX X E)
 (ha:PA X (e :: es) t) (hdb:(x == ("__debug__":Str))=false:=by decide) (he:starEach (e :: es) X.env=(false,eval e X.env) :: starEach es X.env:=by rfl) (hpl:(backTo pos (starEach es X.env)).any (·.1)=false:=by rfl) :
 PE X (.Call (.Name x p) (e :: es) [] pos) (tMake C sp dvs E t):=by
 intro pins s σ H Q I h
 refine wpAny_Call_Name_kw (Qay I hg hm ?_ hdb)
 refine PySem.W.callWith_K (h₀:=X.base) I.ok.mod.kin M.kp (thn (ha pos pins s σ H _ I h) fun us s1 ⟨vs,H1,I1,r,q⟩=>⟨I1.kIn,?_⟩) he hpl
 exact Qfe M F hr hb hd hx I1 r q
end
section
variable {X : Cx} {CX : CXT} {k : Nat} {f C : Addr} {fd : FuncData} {ps ks : List Str} {sp : Sp} {E : XK} {x m : Str} {p pos apos kpos : Pos} {e o : Expr} {es : List Expr} {kws : List Keyword} {te ta : TE} {t tk : TA} {nm : Option Str}
variable {g : List Value → List Value → List Value} {gV : List V → List V → List V}
end
structure Qp (N P:List Str) (sc:Scope):Prop where
 kind:sc.kind=.function
 co:sc.isCoroutine=false
 gen:sc.isGenerator=false
 nd:N.Nodup
 pre:N.take P.length=P
 par:∀x∈P,sc.names.lookup x=some .local∨sc.names.lookup x=some .cell
 nofree:∀y∈sc.names,y.2≠.free
theorem GV {kindOf:Str→Option NameKind} {x:Str}:∀{binds:List (Str×Value)} {m:Str→Option Value},(∀v,(x,v)∉binds)→bindL kindOf binds m x=m x
 | [],_,_=>rfl
 | (n,v) :: r,m,h=>by
   unfold bindL
   rw [GV fun w hw=>h w (List.mem_cons_of_mem _ hw)]
   split
   ·have:x≠n:=by rintro rfl;exact h v List.mem_cons_self
    simp [this]
   ·rfl
theorem GX {kindOf:Str→Option NameKind} {x:Str}:∀{binds:List (Str×Value)} {m:Str→Option Value},(∀v,(x,v)∉binds)→bindC kindOf binds m x=m x
 | [],_,_=>rfl
 | (n,v) :: r,m,h=>by
   unfold bindC
   rw [GX fun w hw=>h w (List.mem_cons_of_mem _ hw)]
   split
   ·rfl
   ·have:x≠n:=by rintro rfl;exact h v List.mem_cons_self
    simp [this]
theorem GW {kindOf:Str→Option NameKind} {x:Str} {v:Value}:∀{P:List Str} {vs:List Value} {i:Nat} {m:Str→Option Value},P.Nodup→P[i]?=some x→vs[i]?=some v→kindOf x=some .local →
 bindL kindOf (P.zip vs) m x=some v
 | [],_,_,_,_,h,_,_=>by simp at h
 | _ :: _,[],_,_,_,_,h,_=>by simp at h
 | p :: P,w :: vs,0,m,nd,h1,h2,hk=>by
   simp at h1 h2;subst h1;subst h2
   show bindL kindOf ((p,w) :: P.zip vs) m p=_
   unfold bindL
   rw [GV fun v hv=>(List.nodup_cons.mp nd).1 (List.of_mem_zip hv).1,if_pos hk]
   simp
 | p :: P,w :: vs,i+1,m,nd,h1,h2,hk=>by
   show bindL kindOf ((p,w) :: P.zip vs) m x=_
   unfold bindL
   exact GW (i:=i) (List.nodup_cons.mp nd).2 (by simpa using h1) (by simpa using h2) hk
theorem GY {kindOf:Str→Option NameKind} {x:Str} {v:Value}:∀{P:List Str} {vs:List Value} {i:Nat} {m:Str→Option Value},P.Nodup→P[i]?=some x→vs[i]?=some v→kindOf x≠some .local →
 bindC kindOf (P.zip vs) m x=some v
 | [],_,_,_,_,h,_,_=>by simp at h
 | _ :: _,[],_,_,_,_,h,_=>by simp at h
 | p :: P,w :: vs,0,m,nd,h1,h2,hk=>by
   simp at h1 h2;subst h1;subst h2
   show bindC kindOf ((p,w) :: P.zip vs) m p=_
   unfold bindC
   rw [GX fun v hv=>(List.nodup_cons.mp nd).1 (List.of_mem_zip hv).1,if_neg hk]
   simp
 | p :: P,w :: vs,i+1,m,nd,h1,h2,hk=>by
   show bindC kindOf ((p,w) :: P.zip vs) m x=_
   unfold bindC
   exact GY (i:=i) (List.nodup_cons.mp nd).2 (by simpa using h1) (by simpa using h2) hk
def V1 (N:List Str) (vs:List V):St:=vs.map some++List.replicate (N.length - vs.length) none
def UI (CX:CXT) (P:Program) (w:World) (K:PySem.W.Frag) (mg:Str→Option Value) (base:Heap) (N:List Str) (qual:Str) (scope:Scope) (f:Addr) (cd:Value) (A:Around) (outer:List Env) (s:Shared) (H:Hp) (E:XK):Cx where
 prog:=P
 w:=w
 K:=K
 mg:=mg
 base:=base
 A:=A.deeper (envOfC qual scope s.heap.objs.size f cd)
 N:=N
 s₀:=s
 H₀:=H
 env:=envOfC qual scope s.heap.objs.size f cd
 outer:=outer
 stack:=envOfC qual scope s.heap.objs.size f cd :: outer
 ex:=[]
 calm:=true
 fn:=fun _=>true
 pn:=[]
 xe:=fun e s'=>wpAny (model P w) (A.deeper (envOfC qual scope s.heap.objs.size f cd)) (leaving (envOfC qual scope s.heap.objs.size f cd) e) (fun _ s''=>CX outer H s E e s'') (fun e' s''=>CX outer H s E e' s'') s'
theorem QbT {sc:Scope} {n:Nat} {x:Str} (h:sc.names.lookup x=some .cell):∃c,(cellsFrom n sc.names []).lookup x=some c:=by
 have q:=PySem.W.cellsFrom_some sc.names n [] (.inl h)
 exact Option.isSome_iff_exists.mp q
theorem Qef {CX:CXT} {P:Program} {w:World} {K:PySem.W.Frag} {mg:Str→Option Value} {base:Heap} {N ps:List Str} {qual:Str} {scope:Scope} {f:Addr} {cd:Value} {A:Around} {outer:List Env} {s s1:Shared} {H:Hp} {E:XK} {us:List Value} {vs:List V}
 (S:Qp N ps scope) (hd:A.handled=none) (e0:QcL P w K mg base A outer s H) (hl:vs.length=ps.length) (r:QW vs us)
 (x:InCallC s s.heap.objs.size (bindL (envOfC qual scope s.heap.objs.size f cd).kindOf (ps.zip us) fun _=>none) (cellsFrom (s.heap.objs.size+1) scope.names []) (bindC (envOfC qual scope s.heap.objs.size f cd).kindOf (ps.zip us) fun _=>none) s1) :
 Inv (UI CX P w K mg base N qual scope f cd A outer s H E) [] (V1 N vs) H s1:=by
 have hpl:ps.length≤N.length:=by have:=congrArg List.length S.pre;rw [List.length_take] at this;omega
 obtain ⟨h1,tk,rfl,hk⟩:=x.done
 have noA:∀b:Addr,b∉(UI CX P w K mg base N qual scope f cd A outer s H E).ex:=fun b z=>absurd (show b∈([]:List Addr) from z) (by simp)
 refine ⟨⟨e0.mod,S.kind,rfl,rfl,Nat.le_refl _,fun y z c h1 h2=>?_,fun y hy=>?_,fun y c _ h=>?_,fun _=>hd,Around.frames_deeper e0.frames,.inr ⟨rfl,rfl⟩,fun b z=>absurd z (noA b),e0.bs,e0.bsz,fun b _ _=>noA b,fun b z=>absurd z (noA b),e0.funs,e0.frf⟩,
  rfl,e0.bare,Un.kept hk,⟨_,x.toInCall.ns,fun i y v h1 h2 h3=>?_⟩,fun y c h=>⟨_,x.cell y c h⟩,e0.hok.fresh (Nat.le_refl _),fun y c h=>?_,fun p hp=>absurd (show p∈([]:List (Addr×Obj)) from hp) (by simp),e0.hok.kept hk,?_⟩
 ·exact name_of_addr x.apart (PySem.mem_of_lookup h1) (PySem.mem_of_lookup h2)
 ·have hy:scope.names.lookup y=some .cell∨scope.names.lookup y=some .free:=hy
  rcases hy with hy | hy
  ·exact QbT hy
  ·exact absurd rfl (S.nofree _ (PySem.mem_of_lookup hy))
 ·exact Nat.le_of_lt (x.above y c (PySem.mem_of_lookup h))
 ·have hi:i<vs.length:=by
   unfold V1 at h2
   by_cases hi:i<vs.length
   ·exact hi
   ·rw [List.getElem?_append_right (by simpa using hi)] at h2
    rw [List.getElem?_replicate] at h2
    split at h2 <;> cases h2
  have ha:vs[i]?=some v:=by
   unfold V1 at h2
   rw [List.getElem?_append_left (by simpa using hi),List.getElem?_map] at h2
   cases e:vs[i]? with
   | none=>rw [e] at h2;cases h2
   | some a=>rw [e] at h2;cases h2;rfl
  obtain ⟨u,hu,rv⟩:=r.get ha
  have hp:ps[i]?=some y:=by
   rw [←S.pre,List.getElem?_take_of_lt (by omega)];exact h1
  have ndP:ps.Nodup:=by rw [←S.pre];exact S.nd.sublist (List.take_sublist _ _)
  refine ⟨u,rv,?_⟩
  rcases S.par y (List.mem_of_getElem? hp) with k | k
  ·exact .inl ⟨k,GW ndP hp hu k⟩
  ·obtain ⟨c,e⟩:=QbT (n:=s.heap.objs.size+1) k
   refine .inr ⟨.inl k,c,e,?_⟩
   have q:=x.cell y c e
   rw [GY ndP hp hu (by show scope.names.lookup y≠_;rw [k];decide)] at q
   exact q
 ·exact e0.hok.fresh (Nat.le_of_lt (x.above y c (PySem.mem_of_lookup h)))
 ·unfold V1
  show _=N.length
  rw [List.length_append,List.length_map,List.length_replicate]
  omega
theorem Qh4 {CX:CXT} {P:Program} {w:World} {K:PySem.W.Frag} {mg:Str→Option Value} {base:Heap} {k:Nat} {f:Addr} {name qual:Str} {params:Arguments} {body:List Stmt} {scope:Scope} {dV kV doc pm cdv ct oc:Value} {an od:Option Addr}
 {osl:Array (Option Value)} {N ps:List Str} {sp:Sp} (lk:K.lookup f=some ⟨oc,od,.func (PySem.W.fnOf name qual params body scope dV kV doc pm an cdv ct),osl⟩) (hcd:PySem.W.codeIn K cdv qual=true) (S:Qp N ps scope)
 (len:∀vs H Q E,sp vs H Q E→vs.length=ps.length)
 (hbody:∀(A:Around) (outer:List Env) (s:Shared) (H:Hp) (vs:List V) (Q:VK) (E:XK),QG k (A.deeper (envOfC qual scope s.heap.objs.size f cdv))→sp vs H Q E →
   ∃t,PSs (UI CX P w K mg base N qual scope f cdv A outer s H E) body t∧t { nx:=fun _ H'=>Q .non H',rt:=Q } (V1 N vs) H) :
 Qw P w K mg base CX (k+1) f (PySem.W.fnOf name qual params body scope dV kV doc pm an cdv ct) ps sp:=by
 refine ⟨len,fun A outer s H args us vs Q E hr e0 hb r hsp=>?_⟩
 have hl:=len _ _ _ _ hsp
 have KX:K.In s.heap:=e0.mod.kin.keeps fun b o e=>(e0.bs b o e).1
 have lim:s.heap.NoLimit:=e0.mod.nolimit.keeps fun b o e=>(e0.bs b o e).1
 have hkind:∀y∈ps.zip us,scope.names.lookup y.1=some .local∨(scope.names.lookup y.1=some .cell∧((cellsFrom (s.heap.objs.size+1) scope.names []).lookup y.1).isSome=true):=fun ⟨n,v⟩ hy=>by
  rcases S.par n (List.of_mem_zip hy).1 with q | q
  ·exact .inl q
  ·exact .inr ⟨q,PySem.W.cellsFrom_some _ _ _ (.inl q)⟩
 refine codeAny_call_function hr.depth (KX _ _ lk) rfl S.co S.gen rfl (PySem.W.codeRec_of KX hcd) (hb _ _ _ _ ?_)
 refine wpAny_newFunctionEnv_cells S.kind hkind fun env he s1 x=>?_
 subst he
 refine ⟨lim.keeps x.toInCall.keep,codeAny_func ?_⟩
 obtain ⟨t,ht,hq⟩:=hbody A outer s H vs Q E (hr.deeper _) hsp
 have I:Inv (UI CX P w K mg base N qual scope f cdv A outer s H E) [] (V1 N vs) H s1:=Qef S hr.hd e0 hl r x
 refine wpAny_mono (ht [] s1 (V1 N vs) H _ I hq) (fun fl s' hs=>?_) fun e s' hs=>hs
 have fin:∀{σ':St} {H':Hp} {v:V} {u:Value},Inv (UI CX P w K mg base N qual scope f cdv A outer s H E) [] σ' H' s'→QQ v u→Q v H'→CE outer P w H s Q u s' :=
  fun {σ' H' v u} J rv q=>⟨v,H',J.os,J.bare,J.base,J.hok,rv,q⟩
 cases fl with
 | ret u =>
   obtain ⟨v,σ',H',J,rv,q⟩:=hs
   exact fin J rv q
 | next =>
   obtain ⟨σ',H',J,q⟩:=hs
   exact fin (v:=V.non) (u:=Value.none) J rfl q
 | brk =>
   obtain ⟨_,_,_,q⟩:=hs
   exact False.elim q
 | cont =>
   obtain ⟨_,_,_,q⟩:=hs
   exact False.elim q
end L2
namespace L2
open PySem PySem.Spec PyProof.Rows
section
variable {X : Cx} {x : Str} {p pos : Pos} {e : Expr} {es : List Expr} {t : TA} {id T : String} {r : List V → Hp → VK → Prop}
def tCB (r:List V→Hp→VK→Prop) (t:TA):TE:=fun σ H Q=>t σ H fun vs H1=>r vs H1 Q
theorem QO (hc:JA X (.builtin id) r) (hg:Gl X x) (hm:X.mg x=none) (hv:bootBuiltins x=some (.builtin id)) (ha:PA X (e :: es) t) (hn:x≠"__name__":=by decide) (hdb:(x == ("__debug__":Str))=false:=by decide)
 (he:starEach (e :: es) X.env=(false,eval e X.env) :: starEach es X.env:=by rfl) (hpl:(backTo pos (starEach es X.env)).any (·.1)=false:=by rfl):PE X (.Call (.Name x p) (e :: es) [] pos) (tCB r t):=by
 intro pins s σ H Q I h
 refine wpAny_Call_Name_kw (W0 I hg hm hv ?_ hn hdb)
 exact PyProof.Rows.callWith_builtin1 (thn (ha pos pins s σ H _ I h) fun us s1 ⟨vs,H1,I1,r1,q1⟩=>hc pins s1 σ H1 vs us Q I1 r1 q1) he hpl
theorem Z3 (hc:JA X (.type T) r) (hg:Gl X x) (hm:X.mg x=none) (hv:bootBuiltins x=some (.type T)) (ha:PA X (e :: es) t) (hn:x≠"__name__":=by decide) (hdb:(x == ("__debug__":Str))=false:=by decide)
 (he:starEach (e :: es) X.env=(false,eval e X.env) :: starEach es X.env:=by rfl) (hpl:(backTo pos (starEach es X.env)).any (·.1)=false:=by rfl):PE X (.Call (.Name x p) (e :: es) [] pos) (tCB r t):=by
 intro pins s σ H Q I h
 refine wpAny_Call_Name_kw (W0 I hg hm hv ?_ hn hdb)
 exact PyProof.Rows.callWith_type1 (thn (ha pos pins s σ H _ I h) fun us s1 ⟨vs,H1,I1,r1,q1⟩=>hc pins s1 σ H1 vs us Q I1 r1 q1) he hpl
end
end L2
namespace HT
open PySem PyProof.Rows
section
open PySem.SeqAt
open PySem.AutoSeq1 (wpAny_loadPart')
open PySem.MeetsSeq PySem.MeetsSeq2 PySem.MeetsSeq3
end
section
variable {prog : Program} {w : World} {A : Around} {E : Value → Shared → Prop} {s : Shared}
def sIx (n d:Nat):Option Int→Nat
 | none=>d
 | some v=>if v<0 then (v+(n:Int)).toNat else min v.toNat n
theorem Qin (n d:Nat) (hd:d≤n) (o:Option Int):sIx n d o≤n:=by
 cases o with
 | none=>exact hd
 | some v =>
   show (if v<0 then (v+(n:Int)).toNat else min v.toNat n)≤n
   by_cases hv:v<0
   ·rw [if_pos hv];omega
   ·rw [if_neg hv];exact Nat.min_le_right _ _
theorem QdC (v:Int) (n d:Nat):(if v<0 then max (v+(n:Int)) 0 else min v (n:Int))=((sIx n d (some v):Nat):Int):=by
 show (if v<0 then max (v+(n:Int)) 0 else min v (n:Int))=(((if v<0 then (v+(n:Int)).toNat else min v.toNat n):Nat):Int)
 by_cases hv:v<0
 ·simp only [if_pos hv];omega
 ·simp only [if_neg hv];omega
theorem QcG (lo hi:Option Int) (n:Nat):Builtin.Slice.sliceAdjust lo hi 1 (n:Int)=(((sIx n 0 lo:Nat):Int),((sIx n n hi:Nat):Int)):=by
 have h1:¬((1:Int)<0):=by omega
 unfold Builtin.Slice.sliceAdjust
 simp only [h1,if_false]
 refine Prod.ext ?_ ?_
 ·cases lo with
  | none=>rfl
  | some v=>exact QdC v n 0
 ·cases hi with
  | none=>rfl
  | some v=>exact QdC v n n
theorem Qco (i j:Nat):Builtin.Slice.slicePlaces (i:Int) (j:Int) 1=j - i:=by
 unfold Builtin.Slice.slicePlaces
 have h1:(1:Int) > 0:=by omega
 simp only [h1,if_true,Int.ediv_one]
 split <;> omega
theorem XX {v:Value} {o:Option Int} {Q:Option Int→Shared→Prop} (p:IsPart v o) (h:Q o s):wpAny (model prog w) A (Builtin.Slice.slicePartIndex v) Q E s:=by
 cases p with
 | none=>exact slicePart_none h
 | int i t=>exact slicePart_int h
theorem Um {sl:Addr} {vl vu:Value} {lo hi:Option Int} {n:Nat} {Q:Int×Int×Nat→Shared→Prop} (hs:s.heap.IsSliceOf sl vl vu .none) (pl:IsPart vl lo) (pu:IsPart vu hi)
 (h:Q (((sIx n 0 lo:Nat):Int),1,sIx n n hi - sIx n 0 lo) s):wpAny (model prog w) A (Builtin.Slice.sliceApplied (.ref sl) (pure (n:Int))) Q E s:=by
 obtain ⟨os,hos,hcs,hds⟩:=id hs
 unfold Builtin.Slice.sliceApplied Builtin.Slice.sliceFields
 refine wpAny_bind (wpAny_bind (wpAny_field hos hds (x:=vl) rfl (wpAny_bind (wpAny_field hos hds (x:=vu) rfl (wpAny_bind (wpAny_field hos hds (x:=.none) rfl (wpAny_pure ?_)))))))
 refine wpAny_bind (slicePart_none ?_)
 show wpAny _ _ (if ((1:Int) == 0)=true then _ else _) _ _ s
 rw [if_neg (by decide)]
 refine wpAny_bind (XX pl (wpAny_bind (XX pu (wpAny_bind (wpAny_pure ?_)))))
 show wpAny _ _ (match Builtin.Slice.sliceAdjust lo hi 1 (n:Int) with | (lo,hi)=>pure (lo,(1:Int),Builtin.Slice.slicePlaces lo hi 1)) _ _ s
 rw [QcG lo hi n]
 show wpAny _ _ (pure (((sIx n 0 lo:Nat):Int),(1:Int),Builtin.Slice.slicePlaces ((sIx n 0 lo:Nat):Int) ((sIx n n hi:Nat):Int) 1)) _ _ s
 rw [Qco]
 exact wpAny_pure h
theorem Qfz (xs:Array Value) (i k:Nat):((List.range k).filterMap fun (m:Nat)=>xs[((i:Int)+(m:Int)*1).toNat]?).toArray=((xs.toList.drop i).take k).toArray:=by
 have e:(fun (m:Nat)=>xs[((i:Int)+(m:Int)*1).toNat]?)=fun m=>xs[i+m]?:=by
  funext m
  have:((i:Int)+(m:Int)*1).toNat=i+m:=by omega
  rw [this]
 rw [e]
 have:=pick_run xs i k
 rw [List.filterMap_map] at this
 have e2:((fun x=>xs[x]?)∘fun x=>i+x)=fun m=>xs[i+m]?:=rfl
 rw [e2] at this
 rw [this]
theorem getItem_tuple_cut {t sl:Addr} {items:Array Value} {vl vu:Value} {lo hi:Option Int} {Q:Value→Shared→Prop} (ht:IsTup s.heap t items) (hs:s.heap.IsSliceOf sl vl vu .none) (pl:IsPart vl lo) (pu:IsPart vu hi)
 (hw:¬(sIx items.size 0 lo=0∧sIx items.size items.size hi=items.size))
 (h:Q (.ref s.heap.objs.size) { s with heap:=s.heap.push { cls:=.type "tuple",data:=.seq ((items.toList.drop (sIx items.size 0 lo)).take (sIx items.size items.size hi - sIx items.size 0 lo)).toArray } })
 (hsz:items.size≤sizeLine):wpAny (model prog w) A (getItem (.ref t) (.ref sl)) Q E s:=by
 have htake:sizeOk (.seq ((items.toList.drop (sIx items.size 0 lo)).take (sIx items.size items.size hi - sIx items.size 0 lo)).toArray):=by
  show ((items.toList.drop (sIx items.size 0 lo)).take (sIx items.size items.size hi - sIx items.size 0 lo)).toArray.size≤sizeLine
  rw [List.size_toArray,List.length_take,List.length_drop,Array.length_toList]
  omega
 have hj:sIx items.size items.size hi≤items.size:=Qin _ _ (Nat.le_refl _) hi
 obtain ⟨os,hos,hcs,hds⟩:=id hs
 have hTs:s.TypeIs (.ref sl) "slice":=⟨os,hos,hcs⟩
 unfold getItem
 try with_reducible refine wpAny_holding ?_
 first | refine wpAny_bind (wpAny_pure ?_) | skip
 refine wpAny_bind (wpAny_sequenceKey ht.typeIs (by decide) ?_)
 refine wpAny_bind (wpAny_callSpecial?_slot (name:=Str.ofString "__getitem__") ht.typeIs PyProof.Rows.slot_tuple_getitem
  (wpAny_call_entry PyProof.Rows.slot_tuple_getitem ht.typeIs entry_tuple_getitem ?_ (args_tuple_getitem _ _)))
 show wpAny _ _ (Builtin.Tuple.tupleItemsOf (.ref t) >>= _) _ _ s
 refine wpAny_bind (tupleItemsOf_ ht ?_)
 refine wpAny_bind (wpAny_typeOf hTs ?_)
 rw [if_pos (by decide)]
 refine wpAny_bind (Um hs pl pu ?_)
 have hno:¬((((sIx items.size 0 lo:Nat):Int) == 0 && (1:Int) == 1 && (sIx items.size items.size hi - sIx items.size 0 lo) == items.size)=true):=by
  intro q
  rw [Bool.and_eq_true,Bool.and_eq_true] at q
  have q1:((sIx items.size 0 lo:Nat):Int)=0:=eq_of_beq q.1.1
  have q2:sIx items.size items.size hi - sIx items.size 0 lo=items.size:=eq_of_beq q.2
  exact hw ⟨by omega,by omega⟩
 show wpAny _ _ (if (((sIx items.size 0 lo:Nat):Int) == 0 && (1:Int) == 1 && (sIx items.size items.size hi - sIx items.size 0 lo) == items.size)=true then _ else _) _ _ s
 rw [if_neg hno,Qfz]
 first
  | exact wpAny_bind (m:=Builtin.Tuple.tupleExact _) (wpAny_newObj_type (wpAny_pure ⟨_,rfl,wpAny_pure h⟩) htake)
  | exact wpAny_bind (m:=Builtin.Tuple.tupleExact _) (wpAny_newObj_type (wpAny_bind (wpAny_pure (wpAny_pure ⟨_,rfl,wpAny_pure h⟩))) htake)
  | exact wpAny_bind (wpAny_bind (m:=Builtin.Tuple.tupleExact _) (wpAny_newObj_type (wpAny_pure (wpAny_pure ⟨_,rfl,wpAny_pure h⟩)) htake))
  | exact wpAny_bind (wpAny_bind (m:=Builtin.Tuple.tupleExact _) (wpAny_newObj_type (wpAny_pure ⟨_,rfl,wpAny_pure h⟩) htake))
end
end HT
namespace L2
open PySem PySem.Spec PyProof.Rows
abbrev TO:=St→Hp→(Option Int→Hp→Prop)→Prop
def PO (X:Cx) (e:Option Expr) (t:TO):Prop :=
 ∀(pins:List (Addr×Obj)) (s:Shared) (σ:St) (H:Hp) (Q:Option Int→Hp→Prop),Inv X pins σ H s→t σ H Q →
  wpAny (model X.prog X.w) X.A (evalPart e X.env) (fun u s'=>∃o H',Inv X pins σ H' s'∧IsPart u o∧Q o H') X.xe s
def QgV:TO:=fun _ H Q=>Q none H
inductive QcP (Q:(Option Int→Hp→Prop)) (x:V) (H1:Hp):Prop
 | mk:∀i,x=.int i→Q (some i) H1→QcP Q x H1
def tPart (t:TE):TO:=fun σ H Q=>t σ H fun x H1=>QcP Q x H1
section
variable {X : Cx} {e : Expr} {te : TE} {lo hi : Option Expr} {tl th : TO} {pos p2 : Pos}
theorem Z7:PO X none QgV:=by
 intro pins s σ H Q I h
 rw [evalPart_none]
 exact wpAny_pure ⟨none,H,I,.none,h⟩
theorem Q6 (h:PE X e te):PO X (some e) (tPart te):=by
 intro pins s σ H Q I hw
 rw [evalPart_some]
 refine thn (h pins s σ H _ I hw) fun u s1 ⟨x,H1,I1,r1,q1⟩=>?_
 obtain ⟨i,rfl,q⟩:=q1
 obtain ⟨t,rfl⟩:=r1
 exact ⟨some i,H1,I1,.int i t,q⟩
def SlR (X:Cx) (r:V→Option Int→Option Int→Hp→VK→Prop):Prop :=
 ∀(pins:List (Addr×Obj)) (s:Shared) (σ:St) (H:Hp) (x:V) (v vl vu:Value) (lo hi:Option Int) (sl:Addr) (Q:VK),Inv X pins σ H s→QQ x v→s.heap.IsSliceOf sl vl vu .none→IsPart vl lo→IsPart vu hi→r x lo hi H Q →
  ∃T id,typeLookup (.type T) "__getitem__"=pure (some (.builtin id))∧s.TypeIs v T∧wpAny (model X.prog X.w) X.A (getItem v (.ref sl)) (EP X pins σ Q) X.xe s
def tSl (r:V→Option Int→Option Int→Hp→VK→Prop) (te:TE) (tl th:TO):TE:=fun σ H Q=>te σ H fun x H1=>tl σ H1 fun l H2=>th σ H2 fun u H3=>r x l u H3 Q
theorem Q7 {r:V→Option Int→Option Int→Hp→VK→Prop} (hr:SlR X r) (he:PE X e te) (hl:PO X lo tl) (hu:PO X hi th):PE X (.Subscript e (.Slice lo hi none p2) pos) (tSl r te tl th):=by
 intro pins s σ H Q I h
 refine Subscript_ (thn (he pins s σ H _ I h) fun v s1 ⟨x,H1,I1,r1,q1⟩=>?_)
 refine wpAny_Slice (thn (hl pins s1 σ H1 _ I1 q1) fun vl s2 ⟨l,H2,I2,pl,q2⟩=>thn (hu pins s2 σ H2 _ I2 q2) fun vu s3 ⟨u,H3,I3,pu,q3⟩=>?_)
 rw [evalPart_none]
 refine wpAny_pure ?_
 have I4:Inv X pins σ H3 { s3 with heap:=s3.heap.push { cls:=.type "slice",data:=.fields #[vl,vu,.none] } }:=I3.kept (t':=s3.toks) fun b ob q=>Heap.get?_push_of_some _ q
 obtain ⟨T,id,hT,ht,hg⟩:=hr pins { s3 with heap:=s3.heap.push { cls:=.type "slice",data:=.fields #[vl,vu,.none] } } σ H3 x v vl vu l u s3.heap.objs.size Q I4 r1 (Heap.IsSliceOf.new ..) pl pu q3
 show wpAny (model X.prog X.w) X.A (subscriptTail e (.Slice lo hi none p2) v (.ref s3.heap.objs.size)) (EP X pins σ Q) X.xe { s3 with heap:=s3.heap.push { cls:=.type "slice",data:=.fields #[vl,vu,.none] } }
 exact tail_any (ops:=[.ref s3.heap.objs.size,v]) ht hT hg (by with_unfolding_all rfl)
def Yo (xs:List V) (lo hi:Option Int):List V:=(xs.drop (HT.sIx xs.length 0 lo)).take (HT.sIx xs.length xs.length hi - HT.sIx xs.length 0 lo)
theorem Xi (xs:List V) (lo hi:Option Int):(Yo xs lo hi).length≤xs.length:=by
 unfold Yo
 rw [List.length_take,List.length_drop]
 omega
inductive Qfi (K:PySem.W.Frag) (x:V) (lo:Option Int) (hi:Option Int) (H:Hp) (Q:VK):Prop
 | mk:∀a xs,x=.ref a→SqT K H a xs→¬(HT.sIx xs.length 0 lo=0∧HT.sIx xs.length xs.length hi=xs.length)→(∀p,H p=none→Q (.ref p) (upd H p (.tup (Yo xs lo hi))))→Qfi K x lo hi H Q
def rSlT (K:PySem.W.Frag):V→Option Int→Option Int→Hp→VK→Prop:=fun x lo hi H Q=>Qfi K x lo hi H Q
theorem Qil:SlR X (rSlT X.K):=by
 intro pins s σ H x v vl vu lo hi sl Q I rx hs pl pu h
 obtain ⟨a,xs,rfl,hx,hw,q⟩:=h
 cases rx
 obtain ⟨its,r,ht,hz⟩:=I.tuple hx
 have hlen:its.toArray.size=xs.length:=by rw [List.size_toArray];exact r.length.symm
 refine ⟨"tuple",_,PyProof.Rows.slot_tuple_getitem.lookup,ht.typeIs,?_⟩
 refine HT.getItem_tuple_cut ht hs pl pu (by rw [hlen];exact hw) ?_ (by rw [hlen];exact hz)
 rw [hlen]
 refine ⟨.ref s.heap.objs.size,_,I.laid (t':=s.toks) (o:=.tup (Yo xs lo hi)) (fun b ob q=>Heap.get?_push_of_some _ q) (Nat.le_refl _) ?_,rfl,q _ (I.hok.fresh (Nat.le_refl _))⟩
 exact ⟨Nat.le_trans (Xi xs lo hi) hz,_,(r.drop (HT.sIx xs.length 0 lo)).take (HT.sIx xs.length xs.length hi - HT.sIx xs.length 0 lo),IsTup.new _ _⟩
end
end L2
namespace L2
open PySem PySem.Spec PyProof.Rows
def ixN (n:Nat) (i:Int):Option Nat:=if 0≤i then (if i<n then some i.toNat else none) else if -(n:Int)≤i then some (i+n).toNat else none
def atI {α:Type} (xs:List α) (i:Int):Option α:=(ixN xs.length i).bind fun j=>xs[j]?
theorem Qhq {n:Nat} {i:Int} {j:Nat} (h:ixN n i=some j):seqIndex? i n=some j∧j<n∧-(n:Int)≤i∧i<n:=by
 unfold ixN at h
 by_cases h0:0≤i
 ·rw [if_pos h0] at h
  by_cases h1:i<n
  ·rw [if_pos h1] at h
   have e:i.toNat=j:=Option.some.inj h
   exact ⟨by rw [seqIndex_of h0 h1,e],by omega,by omega,h1⟩
  ·rw [if_neg h1] at h;cases h
 ·rw [if_neg h0] at h
  by_cases h1 : -(n:Int)≤i
  ·rw [if_pos h1] at h
   have e:(i+n).toNat=j:=Option.some.inj h
   exact ⟨by rw [seqIndex_neg (by omega) h1,e],by omega,h1,by omega⟩
  ·rw [if_neg h1] at h;cases h
theorem QaE {α:Type} {xs:List α} {i:Int} {v:α} (h:atI xs i=some v):∃j,seqIndex? i xs.length=some j∧xs[j]?=some v∧j<xs.length∧-(xs.length:Int)≤i∧i<xs.length:=by
 unfold atI at h
 cases e:ixN xs.length i with
 | none=>rw [e] at h;cases h
 | some j =>
   rw [e] at h
   obtain ⟨h1,h2,h3,h4⟩:=Qhq e
   exact ⟨j,h1,h,h2,h3,h4⟩
theorem Wy {α:Type} {xs:List α} {j:Nat} {v:α} (h:xs[j]?=some v):atI xs (j:Int)=some v:=by
 have hj:j<xs.length:=(List.getElem?_eq_some_iff.mp h).1
 have e:ixN xs.length (j:Int)=some j:=by
  unfold ixN
  rw [if_pos (by omega),if_pos (by omega)];simp
 unfold atI;rw [e];exact h
theorem Wz {α:Type} (xs:List α) (v:α):atI (xs++[v]) (-1)=some v:=by
 have hl:(xs++[v]).length=xs.length+1:=by simp
 have e:ixN (xs++[v]).length (-1)=some xs.length:=by
  unfold ixN
  rw [hl,if_neg (by decide),if_pos (by omega)]
  congr 1
  omega
 unfold atI
 rw [e]
 show (xs++[v])[xs.length]?=some v
 simp
def QhE (b:Expr):Prop:=∀o i,subscripted b false o i=operate [o,i] (getItem o i)
def IxR (X:Cx) (r:R2):Prop :=
 ∀(value slice:Expr) (pins:List (Addr×Obj)) (s:Shared) (σ:St) (H:Hp) (x y:V) (v u:Value) (Q:VK),Inv X pins σ H s→QQ x v→QQ y u→r x y H Q →
  subscripted slice false v u=operate [v,u] (getItem v u)→wpAny (model X.prog X.w) X.A (subscriptTail value slice v u) (EP X pins σ Q) X.xe s
def MtR (X:Cx) (id:String) (r:V→List V→Hp→VK→Prop):Prop :=
 ∀(pins:List (Addr×Obj)) (s:Shared) (σ:St) (H:Hp) (x:V) (xs:List V) (v:Value) (us:List Value) (Q:VK),Inv X pins σ H s→QQ x v→QW xs us→r x xs H Q →
  wpAny (model X.prog X.w) X.A (call (.builtin id) (v :: us)) (EP X pins σ Q) X.xe s
section
variable {X : Cx} {a b : Expr} {ta tb : TE} {pos : Pos}
theorem Qn {r:R2} (hr:IxR X r) (ha:PE X a ta) (hb:PE X b tb) (hs:QhE b):PE X (.Subscript a b pos) (tOp r ta tb):=by
 intro pins s σ H Q I h
 exact Subscript_ (binT ha hb I h fun v u s2 x y H2 I2 rx ry q=>hr a b pins s2 σ H2 x y v u Q I2 rx ry q (hs _ _))
inductive Qfp (K:PySem.W.Frag) (x:V) (y:V) (H:Hp) (Q:VK):Prop
 | mk:∀p xs i v,x=.ref p→y=.int i→SqL K H p xs→atI xs i=some v→Q v H→Qfp K x y H Q
def rIxL (K:PySem.W.Frag):R2:=fun x y H Q=>Qfp K x y H Q
inductive Qfn (K:PySem.W.Frag) (x:V) (y:V) (H:Hp) (Q:VK):Prop
 | mk:∀p xs i v,x=.ref p→y=.int i→SqT K H p xs→atI xs i=some v→Q v H→Qfn K x y H Q
def rIxT (K:PySem.W.Frag):R2:=fun x y H Q=>Qfn K x y H Q
inductive Qfo (x:V) (y:V) (H:Hp) (Q:VK):Prop
 | mk:∀z i c,x=.str z→y=.int i→z.length≤sizeLine→atI z.cps.toList i=some c→Q (.str ⟨#[c]⟩) H→Qfo x y H Q
def rIxS:R2:=fun x y H Q=>Qfo x y H Q
theorem QA:IxR X (rIxL X.K):=by
 intro value slice pins s σ H x y v u Q I rx ry h hs
 obtain ⟨p,xs,i,z,rfl,rfl,hq,he,q⟩:=h
 cases rx
 obtain ⟨t,rfl⟩:=ry
 obtain ⟨its,r,pl,hz⟩:=I.list hq
 obtain ⟨j,h1,h2,h3,h4,h5⟩:=QaE he
 obtain ⟨w,ew,rw'⟩:=r.get h2
 have hl:=r.length
 have hn:=Ky
 have fin:EP X pins σ Q w s:=⟨z,H,I,rw',q⟩
 by_cases h0:0≤i
 ·have hj:i.toNat=j:=by
   rw [seqIndex_of h0 h5] at h1
   exact Option.some.inj h1
  exact item_listR pl.isList h0 (by omega) (by rw [hj];simpa using ew) fin hs
 ·have hj:(i+(its.toArray.size:Int)).toNat=j:=by
   rw [seqIndex_neg (by omega) h4] at h1
   rw [List.size_toArray,←hl]
   exact Option.some.inj h1
  exact subscriptTail_builtinR (x:=w) pl.isList.typeIs slot_list_getitem.lookup
   (wpAny_getItem_list_neg (Q:=fun r s'=>r=w∧EP X pins σ Q r s') pl.isList (by omega) (by rw [List.size_toArray] <;> omega) (by omega) (by rw [hj];simpa using ew) ⟨rfl,fin⟩) hs
theorem Qs:IxR X (rIxT X.K):=by
 intro value slice pins s σ H x y v u Q I rx ry h hs
 obtain ⟨p,xs,i,z,rfl,rfl,hq,he,q⟩:=h
 cases rx
 obtain ⟨t,rfl⟩:=ry
 obtain ⟨its,r,pl,hz⟩:=I.tuple hq
 obtain ⟨j,h1,h2,h3,h4,h5⟩:=QaE he
 obtain ⟨w,ew,rw'⟩:=r.get h2
 have hl:=r.length
 have hn:=Ky
 have fin:EP X pins σ Q w s:=⟨z,H,I,rw',q⟩
 exact subscriptTail_builtinR (x:=w) pl.typeIs slot_tuple_getitem.lookup
  (getItem_tuple (j:=j) (Q:=fun r s'=>r=w∧EP X pins σ Q r s') pl (by omega) (by omega) (by rw [List.size_toArray,←hl];exact h1) (by simpa using ew) ⟨rfl,fin⟩) hs
theorem Qgh:IxR X rIxS:=by
 intro value slice pins s σ H x y v u Q I rx ry h hs
 obtain ⟨z,i,c,rfl,rfl,hz,he,q⟩:=h
 obtain ⟨t,rfl⟩:=rx
 obtain ⟨t',rfl⟩:=ry
 obtain ⟨j,h1,h2,h3,h4,h5⟩:=QaE he
 have hl:z.cps.toList.length=z.length:=by simp [Str.length]
 rw [hl] at h1 h4 h5
 have hn:=Ky
 exact tail_any (typeIs_str s z t) slot_str_getitem.lookup (getItem_str (c:=c) (by
  have e1:decide (i < -(2 ^ 63:Int))=false:=decide_eq_false (by omega)
  have e2:decide (i≥2 ^ 63)=false:=decide_eq_false (by omega)
  rw [e1,e2,Bool.or_false]) (by rw [h1];simpa using h2) ⟨.str ⟨#[c]⟩,H,I.tok _,⟨_,rfl⟩,q⟩) hs
theorem Qab (lo hi:Option Int) (n:Nat):(sliceBounds lo hi none n).1=((HT.sIx n 0 lo:Nat):Int)∧(sliceBounds lo hi none n).2.1=((HT.sIx n n hi:Nat):Int)∧(sliceBounds lo hi none n).2.2=1:=by
 refine ⟨?_,?_,rfl⟩
 ·cases lo with
  | none=>simp [sliceBounds,HT.sIx]
  | some i =>
    simp only [sliceBounds,HT.sIx,Option.getD_none,show (1:Int) > 0 by decide,if_true]
    by_cases h:i<0
    ·simp only [h,if_true] <;> omega
    ·simp only [h,if_false] <;> omega
 ·cases hi with
  | none=>simp [sliceBounds,HT.sIx]
  | some i =>
    simp only [sliceBounds,HT.sIx,Option.getD_none,show (1:Int) > 0 by decide,if_true]
    by_cases h:i<0
    ·simp only [h,if_true] <;> omega
    ·simp only [h,if_false] <;> omega
theorem KW (its:List Value) (lo hi:Option Int):slicePick its.toArray lo hi none=((its.drop (HT.sIx its.length 0 lo)).take (HT.sIx its.length its.length hi - HT.sIx its.length 0 lo)).toArray:=by
 obtain ⟨h1,h2,h3⟩:=Qab lo hi its.toArray.size
 unfold slicePick
 rw [h1,h2,h3]
 simp only [sliceRange_one,pick_run,List.size_toArray] <;> rfl
inductive Qfj (K:PySem.W.Frag) (x:V) (lo:Option Int) (hi:Option Int) (H:Hp) (Q:VK):Prop
 | mk:∀a xs,x=.ref a→SqL K H a xs→(∀p,H p=none→Q (.ref p) (upd H p (.lst (Yo xs lo hi))))→Qfj K x lo hi H Q
def rSlL (K:PySem.W.Frag):V→Option Int→Option Int→Hp→VK→Prop:=fun x lo hi H Q=>Qfj K x lo hi H Q
theorem XE:SlR X (rSlL X.K):=by
 intro pins s σ H x v vl vu lo hi sl Q I rx hs pl pu h
 obtain ⟨a,xs,rfl,hx,q⟩:=h
 cases rx
 obtain ⟨its,r,ht,hz⟩:=I.list hx
 have hlen:=r.length
 refine ⟨"list",_,slot_list_getitem.lookup,ht.isList.typeIs,?_⟩
 refine wpAny_getItem_list_slice ht.isList hs pl pu .none (by simp) ?_ (by rw [List.size_toArray] <;> omega)
 rw [KW,←hlen]
 refine ⟨.ref s.heap.objs.size,_,I.laid (t':=s.toks) (o:=.lst (Yo xs lo hi)) (fun b ob q=>Heap.get?_push_of_some _ q) (Nat.le_refl _) ?_,rfl,q _ (I.hok.fresh (Nat.le_refl _))⟩
 exact ⟨Nat.le_trans (Xi xs lo hi) hz,_,0,(r.drop (HT.sIx xs.length 0 lo)).take (HT.sIx xs.length xs.length hi - HT.sIx xs.length 0 lo),Heap.get?_push_size _ rfl⟩
def Ws:V→Bool
 | .non=>true
 | .bl _=>true
 | .int _=>true
 | .str _=>true
 | _=>false
def eqV:V→V→Bool
 | .non,.non=>true
 | .bl a,.bl b=>a == b
 | .bl a,.int b=>(if a then 1 else 0) == b
 | .int a,.bl b=>a == (if b then 1 else 0)
 | .int a,.int b=>a == b
 | .str a,.str b=>a == b
 | _,_=>false
theorem QiM {A:Around} {s:Shared} {y x:V} {u v:Value} (ry:QQ y u) (rx:QQ x v) (fy:Ws y=true) (fx:Ws x=true):SeqAt.EqAt A s u v (eqV y x):=by
 cases y with
 | non =>
   cases ry
   cases x with
   | non=>cases rx;exact SeqAt.EqAt.same _
   | bl b=>cases rx;exact SeqAt.EqAt.none_bool b
   | int b=>obtain ⟨t,rfl⟩:=rx;exact SeqAt.EqAt.none_int b t
   | str b=>obtain ⟨t,rfl⟩:=rx;exact SeqAt.EqAt.none_str b t
   | _=>exact absurd (show false=true from fx) Bool.false_ne_true
 | bl a =>
   cases ry
   cases x with
   | non=>cases rx;exact SeqAt.EqAt.bool_none a
   | bl b=>cases rx;exact SeqAt.EqAt.bool_bool a b
   | int b=>obtain ⟨t,rfl⟩:=rx;exact SeqAt.EqAt.bool_int a b t
   | str b=>obtain ⟨t,rfl⟩:=rx;exact SeqAt.EqAt.bool_str a b t
   | _=>exact absurd (show false=true from fx) Bool.false_ne_true
 | int a =>
   obtain ⟨t',rfl⟩:=ry
   cases x with
   | non=>cases rx;exact SeqAt.EqAt.int_none a t'
   | bl b=>cases rx;exact SeqAt.EqAt.int_bool a t' b
   | int b=>obtain ⟨t,rfl⟩:=rx;exact SeqAt.EqAt.int_int a t' b t
   | str b=>obtain ⟨t,rfl⟩:=rx;exact SeqAt.EqAt.int_str a t' b t
   | _=>exact absurd (show false=true from fx) Bool.false_ne_true
 | str a =>
   obtain ⟨t',rfl⟩:=ry
   cases x with
   | non=>cases rx;exact SeqAt.EqAt.str_none a t'
   | bl b=>cases rx;exact SeqAt.EqAt.str_bool a t' b
   | int b=>obtain ⟨t,rfl⟩:=rx;exact SeqAt.EqAt.str_int a t' b t
   | str b=>obtain ⟨t,rfl⟩:=rx;exact SeqAt.EqAt.str_str a t' b t
   | _=>exact absurd (show false=true from fx) Bool.false_ne_true
 | _=>exact absurd (show false=true from fy) Bool.false_ne_true
def eqU (x:V) (u:Value):Bool:=match u with
 | .none=>eqV .non x
 | .bool b=>eqV (.bl b) x
 | .int i _=>eqV (.int i) x
 | .str z _=>eqV (.str z) x
 | _=>false
theorem Qgu {x y:V} {u:Value} (r:QQ y u) (f:Ws y=true):eqU x u=eqV y x:=by
 cases y with
 | non=>cases r;rfl
 | bl b=>cases r;rfl
 | int i=>obtain ⟨t,rfl⟩:=r;rfl
 | str z=>obtain ⟨t,rfl⟩:=r;rfl
 | _=>exact absurd (show false=true from f) Bool.false_ne_true
theorem WB {x:V}:∀{xs:List V} {us:List Value},QW xs us→xs.all Ws=true→us.any (eqU x)=xs.any fun y=>eqV y x
 | _,_,.nil,_=>rfl
 | y :: xs,u :: us,.cons r t,f=>by
   rw [List.all_cons,Bool.and_eq_true] at f
   rw [List.any_cons,List.any_cons,Qgu r f.1,WB t f.2]
theorem Ve {A:Around} {s:Shared} {x:V} {v:Value} (rx:QQ x v) (fx:Ws x=true):∀{xs:List V} {us:List Value},QW xs us→xs.all Ws=true→∀u∈us,SeqAt.EqAt A s u v (eqU x u)
 | _,_,.nil,_=>fun u hu=>by cases hu
 | y :: xs,u :: us,.cons r t,f=>fun u' hu=>by
   rw [List.all_cons,Bool.and_eq_true] at f
   rcases List.mem_cons.mp hu with rfl | hu
   ·rw [Qgu r f.1];exact QiM r rx f.1 fx
   ·exact Ve rx fx t f.2 u' hu
def inV (x:V) (xs:List V):Bool:=xs.any fun y=>eqV y x
inductive QhR (K:PySem.W.Frag) (neg:Bool) (x:V) (y:V) (H:Hp) (Q:VK):Prop
 | mk:∀p xs,y=.ref p→(SqL K H p xs∨SqT K H p xs)→Ws x=true→xs.all Ws=true→Q (.bl (if neg then !inV x xs else inV x xs)) H→QhR K neg x y H Q
def rIn (K:PySem.W.Frag) (neg:Bool):R2:=fun x y H Q=>QhR K neg x y H Q
theorem Gv:OpR X (compareOp .In) (rIn X.K false):=by
 intro pins s σ H x y v u Q I rx ry h
 obtain ⟨p,xs,rfl,hq,fx,fs,q⟩:=h
 cases ry
 rcases hq with hq | hq
 ·obtain ⟨its,r,pl,hz⟩:=I.list hq
  refine SeqAt.in_listAt (eqU x) pl.isList (fun w hw=>Ve rx fx r fs w (by simpa using hw)) ⟨.bl _,H,I,rfl,?_⟩
  rw [show its.toArray.any (eqU x)=its.any (eqU x) by simp,WB r fs]
  exact q
 ·obtain ⟨its,r,pl,hz⟩:=I.tuple hq
  refine SeqAt.in_tupleAt (eqU x) pl (fun w hw=>Ve rx fx r fs w (by simpa using hw)) ⟨.bl _,H,I,rfl,?_⟩
  rw [show its.toArray.any (eqU x)=its.any (eqU x) by simp,WB r fs]
  exact q
theorem Qap:OpR X (compareOp .NotIn) (rIn X.K true):=by
 intro pins s σ H x y v u Q I rx ry h
 obtain ⟨p,xs,rfl,hq,fx,fs,q⟩:=h
 cases ry
 rcases hq with hq | hq
 ·obtain ⟨its,r,pl,hz⟩:=I.list hq
  refine SeqAt.notIn_listAt (eqU x) pl.isList (fun w hw=>Ve rx fx r fs w (by simpa using hw)) ⟨.bl _,H,I,rfl,?_⟩
  rw [show its.toArray.any (eqU x)=its.any (eqU x) by simp,WB r fs]
  exact q
 ·obtain ⟨its,r,pl,hz⟩:=I.tuple hq
  refine SeqAt.notIn_tupleAt (eqU x) pl (fun w hw=>Ve rx fx r fs w (by simpa using hw)) ⟨.bl _,H,I,rfl,?_⟩
  rw [show its.toArray.any (eqU x)=its.any (eqU x) by simp,WB r fs]
  exact q
theorem Zk:JA X (.builtin "len") (fun xs H Q=>∃p ys,xs=[.ref p]∧(SqL X.K H p ys∨SqT X.K H p ys)∧Q (.int ys.length) H):=by
 intro pins s σ H xs us Q I r h
 obtain ⟨p,ys,rfl,hq,q⟩:=h
 obtain ⟨u,rfl,rx⟩:=JV r
 cases rx
 have hn:=Ky
 rcases hq with hq | hq
 ·obtain ⟨its,r',pl,hz⟩:=I.list hq
  have hlen:=r'.length
  exact Calls.call_len_list pl.isList (by simp only [List.size_toArray] <;> omega) ⟨.int ys.length,H,I.tok _,⟨s.toks+1,by rw [List.size_toArray,hlen]⟩,q⟩
 ·obtain ⟨its,r',pl,hz⟩:=I.tuple hq
  have hlen:=r'.length
  exact len_tuple pl (by simp only [List.size_toArray] <;> omega) ⟨.int ys.length,H,I.tok _,⟨s.toks+1,by rw [List.size_toArray,hlen]⟩,q⟩
theorem Wx:JA X (.builtin "len") (fun xs H Q=>∃z,xs=[.str z]∧z.length≤sizeLine∧Q (.int z.length) H):=by
 intro pins s σ H xs us Q I r h
 obtain ⟨z,rfl,hz,q⟩:=h
 obtain ⟨u,rfl,t,rfl⟩:=JV r
 have hn:=Ky
 exact len_str (by omega) ⟨.int z.length,H,I.tok _,⟨_,rfl⟩,q⟩
theorem Ww:JA X (.type "list") (fun xs H Q=>∃p ys,xs=[.ref p]∧(SqL X.K H p ys∨SqT X.K H p ys)∧∀l,H l=none→Q (.ref l) (upd H l (.lst ys))):=by
 intro pins s σ H xs us Q I r h
 obtain ⟨p,ys,rfl,hq,q⟩:=h
 obtain ⟨u,rfl,rx⟩:=JV r
 cases rx
 have fin:∀(its:List Value),QW ys its→ys.length≤sizeLine→∀(h':Heap) (c':Nat),(∀b o',s.heap.get? b=some o'→h'.get? b=some o') →
  h'.get? s.heap.objs.size=some { cls:=.type "list",dict:=none,data:=.seq its.toArray c',slots:=#[] }→EP X pins σ Q (.ref s.heap.objs.size) { s with heap:=h' }:=fun its r' hz h' c' kp e =>
  ⟨.ref s.heap.objs.size,_,I.laid (t':=s.toks) kp (Nat.le_refl _) (show Zi X.prog X.w _ h' _ (.lst ys) from ⟨hz,its,c',r',e⟩),rfl,q _ (I.hok.fresh (Nat.le_refl _))⟩
 rcases hq with hq | hq
 ·obtain ⟨its,r',pl,hz⟩:=I.list hq
  have hlen:=r'.length
  obtain ⟨o,ho,hc,n,hd⟩:=pl.isList
  exact call_list_seq p (.inl rfl) ho hc hd (fun h' c' kp e=>fin its r' hz h' c' kp e) (by simp only [List.size_toArray] <;> omega)
 ·obtain ⟨its,r',pl,hz⟩:=I.tuple hq
  have hlen:=r'.length
  obtain ⟨o,ho,hc,n,hd⟩:=pl
  exact call_list_seq p (.inr rfl) ho hc hd (fun h' c' kp e=>fin its r' hz h' c' kp e) (by simp only [List.size_toArray] <;> omega)
theorem K8:JA X (.type "tuple") (fun xs H Q=>∃p ys,xs=[.ref p]∧((SqL X.K H p ys∧∀l,H l=none→Q (.ref l) (upd H l (.tup ys)))∨(SqT X.K H p ys∧Q (.ref p) H))):=by
 intro pins s σ H xs us Q I r h
 obtain ⟨p,ys,rfl,h⟩:=h
 obtain ⟨u,rfl,rx⟩:=JV r
 cases rx
 rcases h with ⟨hq,q⟩ | ⟨hq,q⟩
 ·obtain ⟨its,r',pl,hz⟩:=I.list hq
  have hlen:=r'.length
  refine call_tuple_list pl.isList (fun h' kp=>?_) (by simp only [List.size_toArray] <;> omega)
  have I1:Inv X pins σ H { s with heap:=h' }:=I.kept (t':=s.toks) kp
  have I2:Inv X pins σ (upd H h'.objs.size (.tup ys)) { s with heap:=h'.push { cls:=.type "tuple",data:=.seq its.toArray } } :=
   I1.laid (t':=s.toks) (fun b o e=>Heap.get?_push_of_some _ e) (Nat.le_refl _) (show Zi X.prog X.w _ _ _ (.tup ys) from ⟨hz,its,r',IsTup.new _ _⟩)
  exact ⟨.ref h'.objs.size,_,I2,rfl,q _ (I1.hok.fresh (Nat.le_refl _))⟩
 ·obtain ⟨its,r',pl,hz⟩:=I.tuple hq
  exact call_tuple_same pl ⟨.ref p,H,I,rfl,q⟩
def tyV (K:PySem.W.Frag) (T:String) (x:V) (H:Hp):Prop:=match x with
 | .str _=>T="str"
 | .int _=>T="int"
 | .ref p=>(T="list"∧∃xs,SqL K H p xs)∨(T="tuple"∧∃o,K.lookup p=some o∧o.cls=.type "tuple"∧o.dict=none) ∨
    (T="dict"∧((∃kvs,H p=some (.dK kvs))∨∃kvs,H p=some (.dT kvs)))∨(T="set"∧∃S n,H p=some (.set S n))
 | _=>False
theorem Qey {pins:List (Addr×Obj)} {σ:St} {H:Hp} {s:Shared} {T:String} {x:V} {v:Value} (I:Inv X pins σ H s) (r:QQ x v) (ty:tyV X.K T x H) :
 s.TypeIs v T∧∀a,v=.ref a→∃ob,s.heap.get? a=some ob∧ob.dict=none:=by
 cases x with
 | str z =>
   obtain ⟨t,rfl⟩:=r
   cases (show T="str" from ty)
   exact ⟨typeIs_str s z t,fun _ e=>nomatch e⟩
 | int i =>
   obtain ⟨t,rfl⟩:=r
   cases (show T="int" from ty)
   exact ⟨typeIs_int s i t,fun _ e=>nomatch e⟩
 | ref p =>
   cases r
   rcases ty with ⟨rfl,xs,hq⟩ | ⟨rfl,o,hk,hc,hd⟩ | ⟨rfl,hk⟩ | ⟨rfl,S,n,hk⟩
   ·obtain ⟨its,_,pl,_⟩:=I.list hq
    refine ⟨pl.isList.typeIs,fun a e=>?_⟩
    cases e
    obtain ⟨o,n,e,c,hd,_⟩:=pl
    exact ⟨o,e,hd⟩
   ·refine ⟨⟨o,I.kIn p o hk,hc⟩,fun a e=>?_⟩
    cases e
    exact ⟨o,I.kIn _ o hk,hd⟩
   ·have z:∃o,s.heap.get? p=some o∧o.ExactDict:=by
     rcases hk with ⟨kvs,hk⟩ | ⟨kvs,hk⟩
     ·obtain ⟨_,_,_,_,o,_,_,e,ex,_⟩:=I.hok p _ hk
      exact ⟨o,e,ex⟩
     ·obtain ⟨_,_,_,_,o,_,_,e,ex,_⟩:=I.hok p _ hk
      exact ⟨o,e,ex⟩
    obtain ⟨o,e,ex⟩:=z
    refine ⟨⟨o,e,ex.1⟩,fun a e2=>?_⟩
    cases e2
    exact ⟨o,e,ex.2.1⟩
   ·obtain ⟨o,_,_,_,e,ex,_⟩:=I.hok p _ hk
    refine ⟨⟨o,e,ex.1⟩,fun a e2=>?_⟩
    cases e2
    exact ⟨o,e,ex.2.1⟩
 | _=>exact False.elim ty
def tBM0 (K:PySem.W.Frag) (T:String) (r:V→List V→Hp→VK→Prop) (to:TE):TE:=fun σ H Q=>to σ H fun x H1=>tyV K T x H1∧r x [] H1 Q
def tBM (K:PySem.W.Frag) (T:String) (r:V→List V→Hp→VK→Prop) (to:TE) (t:TA):TE:=fun σ H Q=>to σ H fun x H1=>tyV K T x H1∧t σ H1 fun xs H2=>r x xs H2 Q
variable {o e : Expr} {es : List Expr} {to : TE} {t : TA} {name : Str} {apos cpos : Pos} {T id : String} {r : V → List V → Hp → VK → Prop}
theorem Kf (pa:PlainAttrs T) (slot:Slot T name id) (hty:typeOf (.builtin id)=pure (.type "method_descriptor")) (hm:MtR X id r) (ho:PE X o to)
 (hbase:attributeBase o name X.env (eval o X.env)=eval o X.env:=by rfl) (hline:(apos.endLine == cpos.line)=true:=by rfl):PE X (.Call (.Attribute o name apos) [] [] cpos) (tBM0 X.K T r to):=by
 intro pins s σ H Q I h
 refine wpAny_Call_method0_late hbase hline (thn (ho pins s σ H _ I h) fun v s1 ⟨x,H1,I1,r1,ty,q1⟩=>?_)
 obtain ⟨h1,h2⟩:=Qey I1 r1 ty
 exact ⟨T,id,pa,slot,hty,h1,h2,Calls.callWith_builtin rfl (PySem.evalArgs_none (hm pins s1 σ H1 x [] v [] Q I1 r1 .nil q1))⟩
theorem Z8 (pa:PlainAttrs T) (slot:Slot T name id) (hty:typeOf (.builtin id)=pure (.type "method_descriptor")) (hm:MtR X id r) (ho:PE X o to) (ha:PA X (e :: es) t)
 (hbase:attributeBase o name X.env (eval o X.env)=eval o X.env:=by rfl)
 (hfew:((backTo cpos (starEach (e :: es) X.env)).all (fun x=>!x.1) && (backToKw cpos (keywordEach [] X.env)).all (fun x=>x.1.isSome)
   && decide ((e :: es).length+([]:List Keyword).length+(if ([]:List Keyword).isEmpty then 0 else 1)<30))=true:=by rfl)
 (hline:(apos.endLine == cpos.line)=true:=by rfl) (hs:starEach (e :: es) X.env=(false,eval e X.env) :: starEach es X.env:=by rfl) (hplain:(backTo cpos (starEach es X.env)).any (·.1)=false:=by rfl) :
 PE X (.Call (.Attribute o name apos) (e :: es) [] cpos) (tBM X.K T r to t):=by
 intro pins s σ H Q I h
 refine wpAny_Call_method_late hbase hfew hline rfl (thn (ho pins s σ H _ I h) fun v s1 ⟨x,H1,I1,r1,ty,q1⟩=>?_)
 obtain ⟨h1,h2⟩:=Qey I1 r1 ty
 refine ⟨T,id,pa,slot,hty,h1,h2,?_⟩
 have hA:=ha cpos pins s1 σ H1 _ I1 q1
 rw [hs] at hA ⊢
 refine Calls.callWith_builtin (by show (false || (backTo cpos (starEach es X.env)).any (·.1))=false;rw [hplain] <;> rfl) (Calls.evalArgs_plain ?_)
 exact thn hA fun us s2 ⟨vs,H2,I2,r2,q2⟩=>hm pins s2 σ H2 x vs v us Q I2 r1 r2 q2
end
end L2
namespace L2
open PySem PySem.Spec PyProof.Rows
def MtM (X:Cx) (id:String) (r:V→List V→Hp→VK→Prop):Prop :=
 ∀(pins:List (Addr×Obj)) (s:Shared) (σ:St) (H:Hp) (x:V) (xs:List V) (v:Value) (us:List Value) (Q:VK),Inv X pins σ H s→QQ x v→QW xs us→r x xs H Q →
  wpAny (model X.prog X.w) X.A (call (.builtin id) (v :: us)) (EP X pins σ Q) X.xe s
theorem QW.one:∀{x:V} {us:List Value},QW [x] us→∃u,us=[u]∧QQ x u
 | _,_,.cons r .nil=>⟨_,rfl,r⟩
section
variable {X : Cx} {pins : List (Addr × Obj)} {σ : St} {H : Hp} {s : Shared} {l b : Addr} {xs ys zs : List V}
theorem Inv.lset {its its':List Value} {n:Nat} {f:Array Value→Array Value} {t':Nat} (I:Inv X pins σ H s) (hH:H l=some (.lst xs))
 (e:s.heap.get? l=some { cls:=.type "list",data:=.seq its.toArray n }) (hf:f its.toArray=its'.toArray) (hv:QW ys its') (hz:ys.length≤sizeLine) :
 Inv X pins σ (upd H l (.lst ys)) { s with heap:=s.heap.update l (Obj.mapSeq f),toks:=t' }:=by
 have q:=PySem.IsL.update e f
 rw [hf] at q
 refine I.write (x:=l) (e:=l) (by rw [hH];exact trivial) (.inl rfl) (fun b' u hb hu=>(Heap.get?_update_other s.heap (Obj.mapSeq f) (Ne.symm hb)).trans hu) ⟨_,q⟩ ?_
 exact ⟨hz,its',_,hv,q⟩
theorem Inv.lnew {its:List Value} {t':Nat} (I:Inv X pins σ H s) (hv:QW ys its) (hz:ys.length≤sizeLine) :
 Inv X pins σ (upd H s.heap.objs.size (.lst ys)) { s with heap:=s.heap.push { cls:=.type "list",data:=.seq its.toArray },toks:=t' } :=
 I.laid (fun _ _ q=>Heap.get?_push_of_some _ q) (Nat.le_refl _) ⟨hz,its,0,hv,Heap.get?_push_size _ rfl⟩
theorem Inv.fresh (I:Inv X pins σ H s):H s.heap.objs.size=none:=I.hok.fresh (Nat.le_refl _)
theorem Inv.lstM (I:Inv X pins σ H s) (hH:H l=some (.lst xs)):xs.length≤sizeLine∧∃(its:List Value) (n:Nat),QW xs its∧xs.length=its.length∧s.heap.get? l=some { cls:=.type "list",data:=.seq its.toArray n }:=by
 obtain ⟨z,its,n,r,e⟩:=I.hok l _ hH
 exact ⟨z,its,n,r,r.length,e⟩
end
section
variable {X : Cx}
inductive Gr (x:V) (vs:List V) (H:Hp) (Q:VK):Prop
 | mk:∀l xs y,x=.ref l→vs=[y]→H l=some (.lst xs)→xs.length<sizeLine→Q .non (upd H l (.lst (xs++[y])))→Gr x vs H Q
def Qg5:V→List V→Hp→VK→Prop:=fun x vs H Q=>Gr x vs H Q
theorem Q3:MtM X "list.append" Qg5:=by
 intro pins s σ H x vs v us Q I rx rv h
 obtain ⟨l,xs,y,rfl,rfl,hH,hz,q⟩:=h
 cases rx
 obtain ⟨u,rfl,ru⟩:=rv.one
 obtain ⟨z,its,n,r,hl,e⟩:=I.lstM hH
 refine call_meets F.slot_list_append ⟨_,e,rfl⟩ F.entry_list_append (F.args_list_append_2 _ _) (PySem.list_append l its.toArray n u (by rw [List.size_toArray];omega)) ⟨e,?_⟩
 refine ⟨.non,_,I.lset (its':=its++[u]) hH e (by simp) (r.append (.cons ru .nil)) ?_,rfl,q⟩
 rw [List.length_append,List.length_singleton]
 omega
inductive Qfs (x:V) (y:V) (H:Hp) (Q:VK):Prop
 | mk:∀l b xs zs,x=.ref l→y=.ref b→H l=some (.lst xs)→H b=some (.lst zs)→xs.length+zs.length≤sizeLine→(∀p,H p=none→Q (.ref p) (upd H p (.lst (xs++zs))))→Qfs x y H Q
def rCat:R2:=fun x y H Q=>Qfs x y H Q
theorem QfJ:OpR X (binaryOp .Add) rCat:=by
 intro pins s σ H x y v u Q I rx ry h
 obtain ⟨l,b,xs,zs,rfl,rfl,hH,hB,hz,q⟩:=h
 cases rx
 cases ry
 obtain ⟨z,its,n,r,hl,e⟩:=I.lstM hH
 obtain ⟨z2,its2,n2,r2,hl2,e2⟩:=I.lstM hB
 refine PySem.P.add_list e e2 ?_ (by rw [List.size_toArray,List.size_toArray];omega)
 have ea:its.toArray++its2.toArray=(its++its2).toArray:=by simp
 rw [ea]
 exact ⟨.ref _,_,I.lnew (t':=s.toks) (r.append r2) (by rw [List.length_append];omega),rfl,q _ I.fresh⟩
end
section
variable {prog : Program} {w : World} {A : Around} {E : Value → Shared → Prop} {s : Shared}
end
section
variable {X : Cx}
end
end L2
namespace L2
open PySem PySem.Spec PyProof.Rows
section
variable {κ : Type} [DecidableEq κ]
def Z4 (kvs:List (κ×V)) (k:κ):Option V:=(kvs.find? fun kv=>decide (kv.1=k)).map (·.2)
def Zj (kvs:List (κ×V)) (k:κ) (v:V):List (κ×V) :=
 if (kvs.any fun kv=>decide (kv.1=k))=true then kvs.map (fun kv=>if kv.1=k then (kv.1,v) else kv) else kvs++[(k,v)]
def Ux (kvs:List (κ×V)) (k:κ):List (κ×V):=kvs.filter fun kv=>decide (kv.1≠k)
theorem UQ {p:κ×V} {r:List (κ×V)} {k:κ} (e:p.1=k):Z4 (p :: r) k=some p.2:=by simp [Z4,List.find?_cons,e]
theorem UR {p:κ×V} {r:List (κ×V)} {k:κ} (e:¬p.1=k):Z4 (p :: r) k=Z4 r k:=by simp [Z4,List.find?_cons,e]
theorem US (k:κ):∀kvs:List (κ×V),(kvs.any fun kv=>decide (kv.1=k))=(Z4 kvs k).isSome
 | []=>rfl
 | p :: r=>by
   rw [List.any_cons]
   by_cases e:p.1=k
   ·simp only [UQ e,decide_eq_true e,Bool.true_or,Option.isSome_some]
   ·rw [UR e,decide_eq_false e,Bool.false_or];exact US k r
theorem Ud (kvs:List (κ×V)) (k:κ) (v:V):(Zj kvs k v).length≤kvs.length+1:=by
 unfold Zj
 split
 ·rw [List.length_map];omega
 ·rw [List.length_append,List.length_cons,List.length_nil];omega
theorem Qfw {kvs:List (κ×V)} {k:κ} (v:V) (h:Z4 kvs k=none):Zj kvs k v=kvs++[(k,v)]:=by
 unfold Zj
 rw [US,h]
 exact if_neg (by decide)
theorem Y9.isSome_eq {o:Option V} {u:Option Value} (r:Y9 o u):o.isSome=u.isSome:=by
 cases o with
 | none=>cases u with
   | none=>rfl
   | some _=>exact (show False from r).elim
 | some _=>cases u with
   | none=>exact (show False from r).elim
   | some _=>rfl
theorem Y9.getD {o:Option V} {u:Option Value} {d:V} {d':Value} (r:Y9 o u) (rd:QQ d d'):QQ (o.getD d) (u.getD d'):=by
 cases o with
 | none=>cases u with
   | none=>exact rd
   | some _=>exact (show False from r).elim
 | some _=>cases u with
   | none=>exact (show False from r).elim
   | some _=>exact r
theorem KV.val {kvs:List (κ×V)} {vs:List (κ×Value)} (r:KV kvs vs) (k:κ):Y9 (Z4 kvs k) (valueAt vs k):=by
 unfold KV at r
 induction r with
 | nil=>exact True.intro
 | @cons p q ps qs h t ih =>
   obtain ⟨h1,h2⟩:=h
   by_cases e:p.1=k
   ·have e':q.1=k:=h1.symm.trans e
    have b:valueAt (q :: qs) k=some q.2:=by simp [valueAt,List.find?_cons,e']
    rw [UQ e,b];exact h2
   ·have e':¬q.1=k:=fun z=>e (h1.trans z)
    have b:valueAt (q :: qs) k=valueAt qs k:=by simp [valueAt,List.find?_cons,e']
    rw [UR e,b];exact ih
theorem KV.any {kvs:List (κ×V)} {vs:List (κ×Value)} (r:KV kvs vs) (k:κ):(kvs.any fun kv=>decide (kv.1=k))=vs.any fun kv=>decide (kv.1=k):=by
 unfold KV at r
 induction r with
 | nil=>rfl
 | cons h t ih=>rw [List.any_cons,List.any_cons,ih,h.1]
theorem KV.repl {kvs:List (κ×V)} {vs:List (κ×Value)} (r:KV kvs vs) (k:κ) {y:V} {u:Value} (ry:QQ y u) :
 KV (kvs.map fun kv=>if kv.1=k then (kv.1,y) else kv) (vs.map fun kv=>if kv.1=k then (kv.1,u) else kv):=by
 unfold KV at r ⊢
 induction r with
 | nil=>exact .nil
 | @cons p q ps qs h t ih =>
   rw [List.map_cons,List.map_cons]
   refine .cons ?_ ih
   obtain ⟨h1,h2⟩:=h
   by_cases e:p.1=k
   ·rw [if_pos e,if_pos (h1.symm.trans e)];exact ⟨h1,ry⟩
   ·rw [if_neg e,if_neg (fun z=>e (h1.trans z))];exact ⟨h1,h2⟩
theorem KV.put {kvs:List (κ×V)} {vs:List (κ×Value)} (r:KV kvs vs) (k:κ) {y:V} {u:Value} (ry:QQ y u):KV (Zj kvs k y) (stored vs k u):=by
 unfold Zj stored
 rw [r.any k]
 by_cases e:(vs.any fun kv=>decide (kv.1=k))=true
 ·rw [if_pos e,if_pos e];exact r.repl k ry
 ·rw [if_neg e,if_neg e];exact Paired.snoc r ⟨rfl,ry⟩
theorem KV.drop {kvs:List (κ×V)} {vs:List (κ×Value)} (r:KV kvs vs) (k:κ):KV (Ux kvs k) (without vs k):=by
 unfold KV at r ⊢
 unfold Ux without
 induction r with
 | nil=>exact .nil
 | @cons p q ps qs h t ih =>
   obtain ⟨h1,h2⟩:=h
   rw [List.filter_cons,List.filter_cons]
   by_cases e:p.1=k
   ·have a:¬decide (p.1≠k)=true:=by simp [e]
    have b:¬decide (q.1≠k)=true:=by simp [h1.symm.trans e]
    rw [if_neg a,if_neg b];exact ih
   ·have e':¬q.1=k:=fun z=>e (h1.trans z)
    have a:decide (p.1≠k)=true:=by simp [e]
    have b:decide (q.1≠k)=true:=by simp [e']
    rw [if_pos a,if_pos b];exact .cons ⟨h1,h2⟩ ih
theorem KV.length {kvs:List (κ×V)} {vs:List (κ×Value)} (r:KV kvs vs):kvs.length=vs.length:=Paired.length r
theorem Qgv (kvs:List (κ×V)) (k:κ):(Ux kvs k).length≤kvs.length:=List.length_filter_le _ _
end
theorem Wq {P:Program} {w:World} {k:Key} {u:Value} (r:QQ (kV k) u):(Za P w).is k u=true:=by
 cases k with
 | inl i=>obtain ⟨t,e⟩:=(show ∃t,u=Value.int i t from r);subst e;exact Qbz P w i t
 | inr x=>obtain ⟨t,e⟩:=(show ∃t,u=Value.str x t from r);subst e;exact Qby P w x t
theorem GK {P:Program} {w:World}:∀{ks:List Key} {us:List Value},QW (ks.map kV) us→ItemsAre (Za P w) ks us
 | [],_,r=>by rw [List.map_nil] at r;cases r;exact .nil
 | k :: ks,_,r=>by
   rw [List.map_cons] at r
   cases r with
   | cons h t=>exact .cons (Wq h) (GK t)
abbrev KT (H:Hp):List (List Key×V)→List (List Key×Addr×Value)→Prop:=Paired fun p q=>p.1=q.1∧H q.2.1=some (.tup (p.1.map kV))∧QQ p.2 q.2.2
theorem KT.val {H:Hp} {kvs:List (List Key×V)} {xs:List (List Key×Addr×Value)} (r:KT H kvs xs) (k:List Key):Y9 (Z4 kvs k) ((atKey xs k).map (·.2)):=by
 induction r with
 | nil=>exact True.intro
 | @cons p q ps qs h t ih =>
   obtain ⟨h1,_,h2⟩:=h
   by_cases e:p.1=k
   ·have e':q.1=k:=h1.symm.trans e
    have b:atKey (q :: qs) k=some q.2:=by simp [atKey,List.find?_cons,e']
    rw [UQ e,b];exact h2
   ·have e':¬q.1=k:=fun z=>e (h1.trans z)
    have b:atKey (q :: qs) k=atKey qs k:=by simp [atKey,List.find?_cons,e']
    rw [UR e,b];exact ih
theorem KT.repl {H:Hp} {kvs:List (List Key×V)} {xs:List (List Key×Addr×Value)} (r:KT H kvs xs) (k:List Key) {y:V} {u:Value} (ry:QQ y u) :
 KT H (kvs.map fun kv=>if kv.1=k then (kv.1,y) else kv) (xs.map (putAt k u)):=by
 induction r with
 | nil=>exact .nil
 | @cons p q ps qs h t ih =>
   rw [List.map_cons,List.map_cons]
   refine .cons ?_ ih
   obtain ⟨h1,h2,h3⟩:=h
   unfold putAt
   by_cases e:p.1=k
   ·rw [if_pos e,if_pos (h1.symm.trans e)];exact ⟨h1,h2,ry⟩
   ·rw [if_neg e,if_neg (fun z=>e (h1.trans z))];exact ⟨h1,h2,h3⟩
theorem KT.put {H:Hp} {kvs:List (List Key×V)} {xs:List (List Key×Addr×Value)} (r:KT H kvs xs) (k:List Key) {b:Addr} {y:V} {u:Value} (hb:H b=some (.tup (k.map kV))) (ry:QQ y u) :
 KT H (Zj kvs k y) (storedH xs k b u):=by
 have e:(kvs.any fun kv=>decide (kv.1=k))=(atKey xs k).isSome:=by
  rw [US,(r.val k).isSome_eq,Option.isSome_map]
 unfold Zj storedH
 rw [e]
 by_cases q:(atKey xs k).isSome=true
 ·rw [if_pos q,if_pos q];exact r.repl k ry
 ·rw [if_neg q,if_neg q];exact Paired.snoc r ⟨rfl,hb,ry⟩
theorem KT.keeps {H H':Hp} {kvs:List (List Key×V)} {xs:List (List Key×Addr×Value)} (r:KT H kvs xs) (ht:∀b ys,H b=some (.tup ys)→H' b=some (.tup ys)):KT H' kvs xs :=
 Paired.mapP r fun _ _ z=>⟨z.1,ht _ _ z.2.1,z.2.2⟩
section
variable {P : Program} {w : World} {H : Hp} {h : Heap} {a : Addr}
theorem QhQ {u:HO} (ok:HOk P w H h) (e:Rd H a u):Zi P w H h a u:=e.ok ok
theorem GP {kvs:List (Key×V)} (ok:HOk P w H h) (e:Rd H a (.dK kvs)):kvs.length≤sizeLine∧(a == sysModules)=false∧∃vs,KV kvs vs∧h.DictOf (Za P w) a vs :=
 show Zi P w H h a (.dK kvs) from QhQ ok e
theorem GQ {kvs:List (Key×V)} (ok:HOk P w H h) (e:H a=some (.dK kvs)):kvs.length≤sizeLine∧(a == sysModules)=false∧∃vs,KV kvs vs∧h.DictOf (Za P w) a vs:=GP ok (.inl e)
theorem KA {ks:List Key} (ok:HOk P w H h) (e:H a=some (.tup (ks.map kV))):(tupleKind (Za P w)).is h ks a:=by
 obtain ⟨_,its,r,o,h1,h2,n,h3⟩:=(show Zi P w H h a (.tup (ks.map kV)) from ok a _ e)
 exact ⟨o,its.toArray,n,h1,h2,h3,by simpa using GK r⟩
theorem GO {kvs:List (List Key×V)} (ok:HOk P w H h) (e:Rd H a (.dT kvs)):kvs.length≤sizeLine∧(a == sysModules)=false ∧
 ∃xs,KT H kvs xs∧h.DictOfH (tupleKind (Za P w)) a xs:=by
 obtain ⟨z,y,xs,r,o,es,ep,h1,h2,h3,h4,h5⟩:=(show Zi P w H h a (.dT kvs) from QhQ ok e)
 refine ⟨z,y,xs,r,o,es,ep,h1,h2,h3,h4,fun x hx=>?_,h5⟩
 have all:∀{l:List (List Key×V)} {m:List (List Key×Addr×Value)},KT H l m→∀x∈m,(tupleKind (Za P w)).is h x.1 x.2.1:=by
  intro l m q
  induction q with
  | nil=>intro x hx;exact nomatch hx
  | @cons p q ps qs hq t ih =>
    intro x hx
    rcases List.mem_cons.mp hx with e | hx
    ·subst e
     exact KA ok (by rw [←hq.1];exact hq.2.1)
    ·exact ih x hx
 exact all r x hx
theorem dt_of {kvs:List (List Key×V)} (ok:HOk P w H h) (e:H a=some (.dT kvs)):kvs.length≤sizeLine∧(a == sysModules)=false ∧
 ∃xs,KT H kvs xs∧h.DictOfH (tupleKind (Za P w)) a xs:=GO ok (.inl e)
end
def VZ (H:Hp) (a:Addr) (y:V) (r:Option V):Prop :=
 (∃kvs k,Rd H a (.dK kvs)∧y=kV k∧r=Z4 kvs k)∨∃kvs k b,Rd H a (.dT kvs)∧y=.ref b∧H b=some (.tup (k.map kV))∧r=Z4 kvs k
def QaG (H:Hp) (a:Addr) (y v:V) (H':Hp):Prop :=
 (∃kvs k,H a=some (.dK kvs)∧y=kV k∧kvs.length<sizeLine∧H'=upd H a (.dK (Zj kvs k v))) ∨
 ∃kvs k b,H a=some (.dT kvs)∧y=.ref b∧H b=some (.tup (k.map kV))∧kvs.length<sizeLine∧H'=upd H a (.dT (Zj kvs k v))
theorem VZ.k {H:Hp} {a:Addr} {kvs:List (Key×V)} {k:Key} (e:H a=some (.dK kvs)):VZ H a (kV k) (Z4 kvs k):=.inl ⟨kvs,k,.inl e,rfl,rfl⟩
theorem QaG.k {H:Hp} {a:Addr} {kvs:List (Key×V)} {k:Key} {v:V} (e:H a=some (.dK kvs)) (hl:kvs.length<sizeLine):QaG H a (kV k) v (upd H a (.dK (Zj kvs k v))):=.inl ⟨kvs,k,e,rfl,hl,rfl⟩
section
variable {X : Cx} {pins : List (Addr × Obj)} {σ : St} {H : Hp} {s : Shared} {a : Addr} {y v : V} {u r : Value} {o : Option V} {A : Around} {E : Value → Shared → Prop}
theorem Inv.big (I:Inv X pins σ H s):sysModules<s.heap.objs.size:=by
 have h:mainGlobals<s.heap.objs.size:=(I.mod.glob.keeps I.bk).lt
 exact Nat.lt_trans (by decide) h
theorem Qen {Q:Value→Shared→Prop} (hu:A.units+1<cLine) (I:Inv X pins σ H s) (g:VZ H a y (some v)) (ry:QQ y u) (h:∀w' s',Inv X pins σ H s'→QQ v w'→Q w' s') :
 wpAny (model X.prog X.w) A (getItem (.ref a) u) Q E s:=by
 rcases g with ⟨kvs,k,e,ey,l⟩ | ⟨kvs,k,b,e,ey,eb,l⟩
 ·subst ey
  obtain ⟨z,hd,vs,rel,dd⟩:=GP I.hok e
  obtain ⟨w',hw,rw'⟩:=Y9.some_of (v:=v) (o:=valueAt vs k) (by rw [l];exact rel.val k)
  exact wpAny_getItem_of (Wq ry) dd.mapOf hw (h w' _ (I.tok _) rw')
 ·subst ey
  cases (show u=Value.ref b from ry)
  obtain ⟨z,hd,xs,rel,dd⟩:=GO I.hok e
  obtain ⟨w',hw,rw'⟩:=Y9.some_of (v:=v) (o:=(atKey xs k).map (·.2)) (by rw [l];exact rel.val k)
  obtain ⟨p,hp,hp2⟩:=Option.map_eq_some_iff.mp hw
  refine wpAny_getItem_heap (tupleKind_room_in1 hu) (KA I.hok eb) dd hp ?_
  rw [hp2]
  exact h w' _ (I.tok _) rw'
theorem d_in {Q:Value→Shared→Prop} (hu:A.units+1<cLine) (I:Inv X pins σ H s) (g:VZ H a y o) (ry:QQ y u) (h:∀s',Inv X pins σ H s'→Q (.bool o.isSome) s') :
 wpAny (model X.prog X.w) A (compareOp .In u (.ref a)) Q E s:=by
 rcases g with ⟨kvs,k,e,ey,l⟩ | ⟨kvs,k,b,e,ey,eb,l⟩
 ·subst ey
  obtain ⟨z,hd,vs,rel,dd⟩:=GP I.hok e
  refine wpAny_in_of (Wq ry) hd dd.mapOf ?_
  rw [←(rel.val k).isSome_eq,←l]
  exact h _ (I.tok _)
 ·subst ey
  cases (show u=Value.ref b from ry)
  obtain ⟨z,hd,xs,rel,dd⟩:=GO I.hok e
  refine wpAny_in_heap (tupleKind_room_in1 hu) (KA I.hok eb) hd dd ?_
  have q:=(rel.val k).isSome_eq
  rw [Option.isSome_map] at q
  rw [←q,←l]
  exact h _ (I.tok _)
theorem Wt {h':Heap} {t':Nat} {ob:HO} (I:Inv X pins σ H s) (mu:Mut (H a)) (hs:Heap.SameBut a s.heap h') (he:∃q,h'.get? a=some q) (new:Zi X.prog X.w (upd H a ob) h' a ob) :
 Inv X pins σ (upd H a ob) { s with heap:=h',toks:=t' } :=
 I.write (x:=a) (e:=a) mu (.inl rfl) (fun b q hb z=>(hs.2 b hb).trans z) he new
theorem QaB {P:Program} {w:World} {H':Hp} {h':Heap} {kvs:List (Key×V)} {vs:List (Key×Value)} (z:kvs.length≤sizeLine) (hd:(a == sysModules)=false) (rel:KV kvs vs) (dd:h'.DictOf (Za P w) a vs) :
 Zi P w H' h' a (.dK kvs):=⟨z,hd,vs,rel,dd⟩
theorem Qem {H':Hp} {Q:Unit→Shared→Prop} (hu:A.units+1<cLine) (I:Inv X pins σ H s) (g:QaG H a y v H') (ry:QQ y u) (rv:QQ v r) (h:∀s',Inv X pins σ H' s'→Q () s') :
 wpAny (model X.prog X.w) A (setItem (.ref a) u r) Q E s:=by
 rcases g with ⟨kvs,k,e,ey,l,eH⟩ | ⟨kvs,k,b,e,ey,eb,l,eH⟩
 ·subst ey eH
  obtain ⟨z,hd,vs,rel,dd⟩:=GQ I.hok e
  have hz:vs.length≤sizeLine:=by rw [←rel.length];exact z
  have hl:(Zj kvs k v).length≤sizeLine:=by have:=Ud kvs k v;omega
  refine wpAny_setItem_pairs (hsz:=hz) (Wq ry) dd fun h' dd' hs=>h _ ?_
  have he:∃q,h'.get? a=some q:=let ⟨q,_,_,hq,_⟩:=dd';⟨q,hq⟩
  exact Wt I (by rw [e];exact True.intro) hs he (QaB hl hd (rel.put k rv) dd')
 ·subst ey eH
  cases (show u=Value.ref b from ry)
  obtain ⟨z,hd,xs,rel,dd⟩:=dt_of I.hok e
  have hz:xs.length≤sizeLine:=by rw [←Paired.length rel];exact z
  have hl:(Zj kvs k v).length≤sizeLine:=by have:=Ud kvs k v;omega
  refine wpAny_setItem_heap (hsz:=hz) (tupleKind_room_in1 hu) (KA I.hok eb) dd fun h' dd' hs=>h _ ?_
  obtain ⟨q,es,ep,hq,h2,h3,h4,_,h5⟩:=dd'
  refine Wt I (by rw [e];exact True.intro) hs ⟨q,hq⟩ ⟨hl,hd,_,(rel.put k eb rv).keeps fun c ys ec=>?_,q,es,ep,hq,h2,h3,h4,h5⟩
  rw [Qk (Zq ec e (fun z=>nomatch z))]
  exact ec
end
section
variable {X : Cx} {pins : List (Addr × Obj)} {σ : St} {H : Hp} {s : Shared} {a : Addr} {kvs : List (Key × V)} {k : Key} {u : Value} {A : Around} {E : Value → Shared → Prop}
theorem d_pop {v:V} {more:List Value} {Q:Value→Shared→Prop} (I:Inv X pins σ H s) (e:H a=some (.dK kvs)) (ry:QQ (kV k) u) (l:Z4 kvs k=some v) (hm:more=[]∨∃x,more=[x])
 (h:∀w' s',Inv X pins σ (upd H a (.dK (Ux kvs k))) s'→QQ v w'→Q w' s'):wpAny (model X.prog X.w) A (call (.builtin "dict.pop") (.ref a :: u :: more)) Q E s:=by
 obtain ⟨z,hd,vs,rel,dd⟩:=GQ I.hok e
 obtain ⟨w',hw,rw'⟩:=Y9.some_of (v:=v) (o:=valueAt vs k) (by rw [←l];exact rel.val k)
 have hp:(keyPart u).isSome=true:=by
  cases k with
  | inl i=>obtain ⟨t,q⟩:=(show ∃t,u=Value.int i t from ry);subst q;rfl
  | inr x=>obtain ⟨t,q⟩:=(show ∃t,u=Value.str x t from ry);subst q;rfl
 have ha:argsOk "dict.pop" ⟨.ref a :: u :: more,[]⟩:=by
  rcases hm with q | ⟨x,q⟩
  ·subst q;exact PySem.F.args_dict_pop_2 _ _
  ·subst q;exact PySem.F.args_dict_pop_3 _ _ _
 refine call_meetsIn PySem.F.slot_dict_pop dd.typeIs PySem.F.entry_dict_pop ha (meets_dict_pop_there (Za X.prog X.w) a (Wq ry) more hm hp)
  ⟨vs,w',dd,by rw [←rel.length];exact z,hw,fun h' dd' hs=>h w' _ ?_ rw'⟩
 have he:∃q,h'.get? a=some q:=let ⟨q,_,_,hq,_⟩:=dd';⟨q,hq⟩
 exact Wt I (by rw [e];exact True.intro) hs he (QaB (Nat.le_trans (Qgv kvs k) z) hd (rel.drop k) dd')
theorem QiN {r:Value} {Q:Value→Shared→Prop} (I:Inv X pins σ H s) (e:H a=some (.dK kvs)) (ry:QQ (kV k) u) (l:Z4 kvs k=none) (h:∀s',Inv X pins σ H s'→Q r s') :
 wpAny (model X.prog X.w) A (call (.builtin "dict.pop") [.ref a,u,r]) Q E s:=by
 obtain ⟨z,hd,vs,rel,dd⟩:=GQ I.hok e
 have hn:valueAt vs k=none:=Y9.none_of (by rw [←l];exact rel.val k)
 have hp:(keyPart u).isSome=true:=by
  cases k with
  | inl i=>obtain ⟨t,q⟩:=(show ∃t,u=Value.int i t from ry);subst q;rfl
  | inr x=>obtain ⟨t,q⟩:=(show ∃t,u=Value.str x t from ry);subst q;rfl
 exact call_meetsIn PySem.F.slot_dict_pop dd.typeIs PySem.F.entry_dict_pop (PySem.F.args_dict_pop_3 _ _ _) (meets_dict_pop_default (Za X.prog X.w) a (Wq ry) hd hp r) ⟨vs,dd,hn,h _ (I.tok _)⟩
end
def NoSl (i:Expr):Prop:=∀ov iv,subscripted i false ov iv=operate [ov,iv] (getItem ov iv)
theorem QgX {prog:Program} {w:World} {A:Around} {E:Value→Shared→Prop} {s:Shared} {env:Env} {value slice:Expr} {pos:Pos} {T id:String} {Q:Value→Shared→Prop}
 (hl:typeLookup (.type T) "__getitem__"=pure (some (.builtin id))) (hs:NoSl slice)
 (h:wpAny (model prog w) A (eval value env) (fun o s₁=>wpAny (model prog w) A (eval slice env) (fun i s₂=>s₂.TypeIs o T∧wpAny (model prog w) A (getItem o i) Q E s₂) E s₁) E s) :
 wpAny (model prog w) A (eval (.Subscript value slice pos) env) Q E s:=by
 refine Subscript_ (wpAny_mono h (fun o s₁ h₁=>wpAny_mono h₁ (fun i s₂ h₂=>?_) fun _ _ x=>x) fun _ _ x=>x)
 obtain ⟨hT,h₂⟩:=h₂
 unfold subscriptTail
 refine wpAny_bind ?_
 rw [getitemInPython_of_ne hT.not_modules]
 refine wpAny_bind (wpAny_specialOf hT hl ?_)
 have fin:wpAny (model prog w) A (subscripted slice false o i) (fun r s₃=>wpAny (model prog w) A (letTemporaryGo value o r >>= fun _=>pure r) Q E s₃) E s₂:=by
  rw [hs o i]
  exact wpAny_operating (wpAny_mono h₂ (fun r s₃ h₃=>wpAny_bind (wpAny_letTemporaryGo (wpAny_pure h₃))) fun _ _ x=>x)
 first
  | exact wpAny_pure (wpAny_bind fin)
  | exact wpAny_bind (wpAny_pure (wpAny_bind fin))
  | exact wpAny_bind fin
theorem QbL {X:Cx} {pins:List (Addr×Obj)} {σ:St} {H:Hp} {s:Shared} {a:Addr} {y:V} {o:Option V} (I:Inv X pins σ H s) (g:VZ H a y o):s.TypeIs (.ref a) "dict":=by
 rcases g with ⟨kvs,k,e,_,_⟩ | ⟨kvs,k,b,e,_,_,_⟩
 ·obtain ⟨_,_,vs,_,dd⟩:=GP I.hok e
  exact dd.typeIs
 ·obtain ⟨_,_,xs,_,dd⟩:=GO I.hok e
  exact dd.typeIs
inductive QcT (Q:VK) (x:V) (y:V) (H2:Hp):Prop
 | mk:∀a v,x=.ref a→VZ H2 a y (some v)→Q v H2→QcT Q x y H2
def tDGet (td ty:TE):TE:=fun σ H Q=>td σ H fun x H1=>ty σ H1 fun y H2=>QcT Q x y H2
inductive QeJ (Q:VK) (y:V) (x:V) (H2:Hp):Prop
 | mk:∀a o,x=.ref a→VZ H2 a y o→Q (.bl o.isSome) H2→QeJ Q y x H2
def tDIn (ty td:TE):TE:=fun σ H Q=>ty σ H fun y H1=>td σ H1 fun x H2=>QeJ Q y x H2
inductive Qc8 (D:VY) (σ:St) (v:V) (x:V) (y:V) (H3:Hp):Prop
 | mk:∀a H4,x=.ref a→QaG H3 a y v H4→D.nx σ H4→Qc8 D σ v x y H3
def sDPut (td ty tv:TE):TS:=fun D σ H=>tv σ H fun v H1=>td σ H1 fun x H2=>ty σ H2 fun y H3=>Qc8 D σ v x y H3
section
variable {X : Cx} {o i e value : Expr} {pos pos' tpos : Pos} {td ty tv : TE}
theorem Qdh (hu:X.A.units+1<cLine) (ho:PE X o td) (hi:PE X i ty) (hs:NoSl i):PE X (.Subscript o i pos) (tDGet td ty):=by
 intro pins s σ H Q I h
 refine QgX PySem.F.slot_dict_getitem.lookup hs (thn (ho pins s σ H _ I h) fun u s1 ⟨x,H1,I1,rx,q1⟩=>thn (hi pins s1 σ H1 _ I1 q1) fun iv s2 ⟨y,H2,I2,ry,a,v,ex,g,q2⟩=>?_)
 subst ex
 obtain rfl:u=Value.ref a:=rx
 exact ⟨QbL I2 g,Qen hu I2 g ry fun w' s3 I3 rw'=>⟨v,H2,I3,rw',q2⟩⟩
theorem Qiv (hu:X.A.units+1<cLine) (hi:PE X i ty) (ho:PE X o td):PC X .In i o (tDIn ty td):=by
 intro pins s σ H Q I h
 refine thn (hi pins s σ H _ I h) fun iv s1 ⟨y,H1,I1,ry,q1⟩=>thn (ho pins s1 σ H1 _ I1 q1) fun u s2 ⟨x,H2,I2,rx,a,ov,ex,g,q2⟩=>?_
 subst ex
 obtain rfl:u=Value.ref a:=rx
 exact d_in hu I2 g ry fun s3 I3=>⟨.bl ov.isSome,H2,I3,rfl,q2⟩
theorem Wg (hu:X.A.units+1<cLine) (ho:PE X o td) (hi:PE X i ty) (hv:PE X value tv) (hs:swapsWith value (some (.Subscript o i pos')) pos.line X.env=pure false) :
 PS X (.Assign [.Subscript o i pos'] value pos) (sDPut td ty tv):=by
 intro pins s σ H D I h
 refine wpAny_Assign_Subscript (thn (hv pins s σ H _ I h) fun r s1 ⟨v,H1,I1,rv,q1⟩=>thn (ho pins s1 σ H1 _ I1 q1) fun u s2 ⟨x,H2,I2,rx,q2⟩=>thn (hi pins s2 σ H2 _ I2 q2) fun iv s3 ⟨y,H3,I3,ry,a,H4,ex,g,q3⟩=>?_) hs
 subst ex
 obtain rfl:u=Value.ref a:=rx
 exact Qem hu I3 g ry rv fun s4 I4=>⟨σ,H4,I4,q3⟩
end
theorem QbK {P:Program} {w:World} {H:Hp} (h:Heap) (hb:sysModules<h.objs.size):Zi P w H (h.push { cls:=.type "dict",data:=.dict #[] }) h.objs.size (.dK []) :=
 ⟨Nat.zero_le _,beq_eq_false_iff_ne.mpr (Ne.symm (Nat.ne_of_lt hb)),[],.nil,Heap.DictOf.new h⟩
def Qie:TE:=fun _ H Q=>∀p,H p=none→Q (.ref p) (upd H p (.dK []))
section
variable {X : Cx} {pos : Pos}
theorem Qa9:PE X (.Dict [] [] pos) Qie:=fun pins s σ H Q I h =>
 wpAny_Dict_empty ⟨.ref s.heap.objs.size,_,I.laid (a:=s.heap.objs.size) (o:=.dK []) (t':=s.toks) (fun _ _ q=>Heap.get?_push_of_some _ q) (Nat.le_refl _) (QbK s.heap I.big),rfl,h _ (I.hok.fresh (Nat.le_refl _))⟩
end
def Qb9:List (TE×TE)→St→Hp→(List (V×V)→Hp→Prop)→Prop
 | [],_,H,Q=>Q [] H
 | (tk,tv) :: r,σ,H,Q=>tk σ H fun x H1=>tv σ H1 fun y H2=>Qb9 r σ H2 fun ps H3=>Q ((x,y) :: ps) H3
abbrev VV:List (V×V)→List (Value×Value)→Prop:=Paired fun p q=>QQ p.1 q.1∧QQ p.2 q.2
def PPs (X:Cx) (pos:Pos) (keys:List (Option Expr)) (values:List Expr) (trs:List (TE×TE)):Prop :=
 ∀(pins:List (Addr×Obj)) (s:Shared) (σ:St) (H:Hp) (Q:List (V×V)→Hp→Prop),Inv X pins σ H s→Qb9 trs σ H Q →
  wpAny (model X.prog X.w) X.A (evalPairs (pairTrees keys values X.env pos)) (fun vs s'=>∃ps H',Inv X pins σ H' s'∧VV ps vs∧Q ps H') X.xe s
theorem Qg8 {X:Cx} {pos:Pos}:PPs X pos [] [] []:=fun pins s σ H Q I h=>pairTrees_nil_walk ⟨[],H,I,.nil,h⟩
theorem Kb {X:Cx} {pos:Pos} {k v:Expr} {ks:List (Option Expr)} {vs:List Expr} {tk tv:TE} {trs:List (TE×TE)} (hk:PE X k tk) (hv:PE X v tv) (hr:PPs X pos ks vs trs) :
 PPs X pos (some k :: ks) (v :: vs) ((tk,tv) :: trs):=fun pins s σ H Q I h =>
 pairTrees_cons_walk (thn (hk pins s σ H _ I h) fun u s1 ⟨x,H1,I1,rx,q1⟩=>thn (hv pins s1 σ H1 _ I1 q1) fun w2 s2 ⟨y,H2,I2,ry,q2⟩ =>
  thn (hr pins s2 σ H2 _ I2 q2) fun ws s3 ⟨ps,H3,I3,rel,q3⟩=>⟨(x,y) :: ps,H3,I3,.cons ⟨rx,ry⟩ rel,q3⟩)
def Zg (kvs more:List (Key×V)):List (Key×V):=more.foldl (fun acc kv=>Zj acc kv.1 kv.2) kvs
theorem KV.merge:∀{more:List (Key×V)} {rs:List (Key×Value)} {kvs:List (Key×V)} {vs:List (Key×Value)},KV more rs→KV kvs vs→KV (Zg kvs more) (merged vs rs):=by
 intro more rs kvs vs r
 unfold KV at r
 induction r generalizing kvs vs with
 | nil=>intro q;exact q
 | @cons p q ps qs h t ih =>
   intro r0
   have e:KV (Zj kvs p.1 p.2) (stored vs q.1 q.2):=by
    have:=r0.put p.1 h.2
    rw [←h.1];exact this
   exact ih e
theorem VI:∀(more kvs:List (Key×V)),(Zg kvs more).length≤kvs.length+more.length
 | [],kvs=>by show kvs.length≤kvs.length+0;omega
 | p :: r,kvs=>by
   have h1:=VI r (Zj kvs p.1 p.2)
   have h2:=Ud kvs p.1 p.2
   show (Zg (Zj kvs p.1 p.2) r).length≤_
   rw [List.length_cons];omega
theorem KK {P:Program} {w:World}:∀{kvs:List (Key×V)} {ws:List (Value×Value)},VV (kvs.map fun kv=>(kV kv.1,kv.2)) ws→∃rs,Carries (Za P w) ws rs∧KV kvs rs
 | [],_,r=>by rw [List.map_nil] at r;cases r;exact ⟨[],True.intro,.nil⟩
 | p :: kvs,_,r=>by
   rw [List.map_cons] at r
   cases r with
   | @cons a b as bs h t =>
     obtain ⟨rs,c,q⟩:=KK (P:=P) (w:=w) t
     obtain ⟨b1,b2⟩:=b
     exact ⟨(p.1,b2) :: rs,⟨Wq h.1,rfl,c⟩,.cons ⟨rfl,h.2⟩ q⟩
def tDisp (trs:List (TE×TE)):TE:=fun σ H Q=>∀p,H p=none→Qb9 trs σ (upd H p (.dK [])) fun ps H2=>H2 p=some (.dK [])∧∃kvs:List (Key×V),ps=kvs.map (fun kv=>(kV kv.1,kv.2))∧kvs.length≤15∧Q (.ref p) (upd H2 p (.dK (Zg [] kvs)))
theorem Qha {X:Cx} {pos:Pos} {keys:List (Option Expr)} {values:List Expr} {trs:List (TE×TE)} (h:PPs X pos keys values trs) (hall:keys.all (·.isSome)=true) (hl:keys.length=values.length) (h0:keys≠[])
 (h15:keys.length≤15):PE X (.Dict keys values pos) (tDisp trs):=by
 intro pins s σ H Q I q
 have hn:=I.hok.fresh (Nat.le_refl s.heap.objs.size)
 have I1:=I.laid (a:=s.heap.objs.size) (o:=.dK []) (h':=s.heap.push { cls:=.type "dict",data:=.dict #[] }) (t':=s.toks) (fun _ _ q=>Heap.get?_push_of_some _ q) (Nat.le_refl _) (QbK s.heap I.big)
 refine wpAny_Dict_walk (knd:=Za X.prog X.w) hall hl h0 h15 (thn (h pins _ σ _ _ I1 (q _ hn)) fun ws s2 ⟨ps,H2,I2,rel,e,kvs,ep,lk,q2⟩=>?_)
 subst ep
 obtain ⟨rs,c,rk⟩:=KK (P:=X.prog) (w:=X.w) rel
 obtain ⟨z,hd,vs0,r0,dd⟩:=GQ I2.hok e
 cases r0
 refine ⟨rs,c,dd,fun h' dd' hs=>⟨.ref s.heap.objs.size,_,?_,rfl,q2⟩⟩
 have hz:(Zg [] kvs).length≤sizeLine:=by
  have h1:=VI kvs []
  rw [List.length_nil] at h1
  rw [sizeLine_eq];omega
 have he:∃q,h'.get? s.heap.objs.size=some q:=let ⟨q,_,_,hq,_⟩:=dd';⟨q,hq⟩
 exact Wt I2 (by rw [e];exact True.intro) hs he (QaB hz hd (rk.merge .nil) dd')
structure M2 (X:Cx) (o:Expr) (m:Str) (apos:Pos) (e f:Expr) (cpos:Pos):Prop where
 base:attributeBase o m X.env (eval o X.env)=eval o X.env
 few:((backTo cpos (starEach [e,f] X.env)).all (fun x=>!x.1) && (backToKw cpos (keywordEach [] X.env)).all (fun x=>x.1.isSome)
  && decide (([e,f]:List Expr).length+([]:List Keyword).length+(if ([]:List Keyword).isEmpty then 0 else 1)<30))=true
 line:(apos.endLine == cpos.line)=true
 trees:backTo cpos (starEach [e,f] X.env)=[(false,eval e X.env),(false,eval f X.env)]
def IsD (H:Hp) (a:Addr):Prop:=(∃kvs,Rd H a (.dK kvs))∨∃kvs,Rd H a (.dT kvs)
theorem QcC {X:Cx} {pins:List (Addr×Obj)} {σ:St} {H:Hp} {s:Shared} {a:Addr} (I:Inv X pins σ H s) (d:IsD H a) :
 s.TypeIs (.ref a) "dict"∧(∀b,Value.ref a=.ref b→∃ob,s.heap.get? b=some ob∧ob.dict=none)∧(a == sysModules)=false:=by
 rcases d with ⟨kvs,e⟩ | ⟨kvs,e⟩
 ·obtain ⟨_,hd,vs,_,dd⟩:=GP I.hok e
  refine ⟨dd.typeIs,fun b q=>?_,hd⟩
  cases q
  obtain ⟨ob,_,_,h1,h2,_⟩:=dd
  exact ⟨ob,h1,h2.2.1⟩
 ·obtain ⟨_,hd,xs,_,dd⟩:=GO I.hok e
  refine ⟨dd.typeIs,fun b q=>?_,hd⟩
  cases q
  obtain ⟨ob,_,_,h1,h2,_⟩:=dd
  exact ⟨ob,h1,h2.2.1⟩
section
variable {X : Cx} {pins : List (Addr × Obj)} {σ : St} {H : Hp} {s : Shared} {a : Addr} {y d : V} {u r : Value} {o : Option V} {A : Around} {E : Value → Shared → Prop}
theorem QiO {Q:Value→Shared→Prop} (hu:A.units+1<cLine) (I:Inv X pins σ H s) (g:VZ H a y o) (ry:QQ y u) (rd:QQ d r) (h:∀w' s',Inv X pins σ H s'→QQ (o.getD d) w'→Q w' s') :
 wpAny (model X.prog X.w) A (call (.builtin "dict.get") [.ref a,u,r]) Q E s:=by
 rcases g with ⟨kvs,k,e,ey,l⟩ | ⟨kvs,k,b,e,ey,eb,l⟩
 ·subst ey
  obtain ⟨z,hd,vs,rel,dd⟩:=GP I.hok e
  refine call_meetsIn PySem.F.slot_dict_get dd.typeIs PySem.F.entry_dict_get (PySem.F.args_dict_get_3 _ _ _) (meets_dict_get_default (Za X.prog X.w) a (Wq ry) hd r) ⟨_,dd.mapOf,h _ _ (I.tok _) ?_⟩
  rw [l]
  exact (rel.val k).getD rd
 ·subst ey
  cases (show u=Value.ref b from ry)
  obtain ⟨z,hd,xs,rel,dd⟩:=GO I.hok e
  refine call_meetsIn PySem.F.slot_dict_get dd.typeIs PySem.F.entry_dict_get (PySem.F.args_dict_get_3 _ _ _) (meetsH_dict_get_default (tupleKind (Za X.prog X.w)) a b hd r) ⟨tupleKind_room_in1 hu,k,xs,KA I.hok eb,dd,h _ _ (I.tok _) ?_⟩
  rw [l]
  exact (rel.val k).getD rd
end
inductive Gd (Q:VK) (a:Addr) (y:V) (z:V) (H3:Hp):Prop
 | mk:∀o,VZ H3 a y o→Q (o.getD z) H3→Gd Q a y z H3
inductive QaO (ty:TE) (tx:TE) (σ:St) (Q:VK) (x:V) (H1:Hp):Prop
 | mk:∀a,x=.ref a→IsD H1 a→(ty σ H1 fun y H2=>tx σ H2 fun z H3=>Gd Q a y z H3)→QaO ty tx σ Q x H1
def Qif (td ty tx:TE):TE:=fun σ H Q=>td σ H fun x H1=>QaO ty tx σ Q x H1
inductive Gc (Q:VK) (a:Addr) (y:V) (z:V) (H3:Hp):Prop
 | mk:∀kvs k,H3 a=some (.dK kvs)→y=kV k→((∀v,Z4 kvs k=some v→Q v (upd H3 a (.dK (Ux kvs k)))))→((Z4 kvs k=none→Q z H3))→Gc Q a y z H3
inductive QaN (ty:TE) (tx:TE) (σ:St) (Q:VK) (x:V) (H1:Hp):Prop
 | mk:∀a,x=.ref a→IsD H1 a→(ty σ H1 fun y H2=>tx σ H2 fun z H3=>Gc Q a y z H3)→QaN ty tx σ Q x H1
def Qid (td ty tx:TE):TE:=fun σ H Q=>td σ H fun x H1=>QaN ty tx σ Q x H1
section
variable {X : Cx} {o e f : Expr} {apos cpos : Pos} {td ty tx : TE}
theorem QfF (hu:X.A.units+1<cLine) (ho:PE X o td) (he:PE X e ty) (hf:PE X f tx) (m:M2 X o "get" apos e f cpos):PE X (.Call (.Attribute o "get" apos) [e,f] [] cpos) (Qif td ty tx):=by
 intro pins s σ H Q I h
 refine wpAny_Call_method m.base m.few m.line PySem.F.plainAttrs_dict PySem.F.slot_dict_get PySem.F.type_dict_get (thn (ho pins s σ H _ I h) fun u s1 ⟨x,H1,I1,rx,a,ex,d,q1⟩=>?_)
 subst ex
 obtain rfl:u=Value.ref a:=rx
 obtain ⟨t1,t2,_⟩:=QcC I1 d
 refine ⟨t1,t2,?_⟩
 rw [m.trees]
 refine Calls.callWith_builtin rfl (Calls.evalArgs_plain (Calls.spliced_cons (thn (he pins s1 σ H1 _ I1 q1) fun iv s2 ⟨y,H2,I2,ry,q2⟩ =>
  Calls.spliced_cons (thn (hf pins s2 σ H2 _ I2 q2) fun fv s3 ⟨z,H3,I3,rz,ov,g,q3⟩=>Calls.spliced_nil ?_))))
 exact QiO hu I3 g ry rz fun w' s4 I4 rw'=>⟨_,H3,I4,rw',q3⟩
theorem QfE (ho:PE X o td) (he:PE X e ty) (hf:PE X f tx) (m:M2 X o "pop" apos e f cpos):PE X (.Call (.Attribute o "pop" apos) [e,f] [] cpos) (Qid td ty tx):=by
 intro pins s σ H Q I h
 refine wpAny_Call_method m.base m.few m.line PySem.F.plainAttrs_dict PySem.F.slot_dict_pop PySem.F.type_dict_pop (thn (ho pins s σ H _ I h) fun u s1 ⟨x,H1,I1,rx,a,ex,d,q1⟩=>?_)
 subst ex
 obtain rfl:u=Value.ref a:=rx
 obtain ⟨t1,t2,_⟩:=QcC I1 d
 refine ⟨t1,t2,?_⟩
 rw [m.trees]
 refine Calls.callWith_builtin rfl (Calls.evalArgs_plain (Calls.spliced_cons (thn (he pins s1 σ H1 _ I1 q1) fun iv s2 ⟨y,H2,I2,ry,q2⟩ =>
  Calls.spliced_cons (thn (hf pins s2 σ H2 _ I2 q2) fun fv s3 ⟨z,H3,I3,rz,kvs,k,ea,ey,q3,q4⟩=>Calls.spliced_nil ?_))))
 subst ey
 cases l:Z4 kvs k with
 | some v=>exact d_pop I3 ea ry l (.inr ⟨fv,rfl⟩) fun w' s4 I4 rw'=>⟨v,_,I4,rw',q3 v l⟩
 | none=>exact QiN I3 ea ry l fun s4 I4=>⟨z,H3,I4,rz,q4 l⟩
end
section
variable {X : Cx} {pins : List (Addr × Obj)} {σ : St} {H : Hp} {s : Shared} {a : Addr} {kvs : List (Key × V)} {A : Around} {E : Value → Shared → Prop}
end
section
variable {X : Cx} {pins : List (Addr × Obj)} {σ : St} {H : Hp} {s : Shared} {a : Addr} {y : V} {u : Value} {A : Around} {E : Value → Shared → Prop}
end
end L2
namespace Att
open PySem PySem.W PySem.Calls PyProof.Rows
theorem Xw {P:Params} {h:Heap}:∀(ns:List Int) (vs:List Value),WellAll P h vs (ns.map WData.int)→IntsAre vs ns:=by
 intro ns
 induction ns with
 | nil =>
   intro vs w
   rw [List.map_nil] at w
   cases w
   exact .nil
 | cons n ns ih =>
   intro vs w
   rw [List.map_cons] at w
   cases w with
   | cons a b =>
     cases a
     exact .cons _ _ (ih _ b)
theorem QdM {l:OpenLaw} {n:Nat} (hn:l.most=some n) {P:Params} {h:Heap} {args:List WData} {vals:List Value}
 (hpre:l.row.toRowW.claim.pre args=true) (hwl:WellAll P h vals args) :
 ∃a vs ns,vals=[Value.ref a]∧args=[WData.list (ns.map WData.int)]∧h.get? a=some { cls:=.type "list",data:=.seq vs.toArray }∧IntsAre vs ns∧ns.length≤n:=by
 have hsh:WShape.hasAll [] args [.list .int]=true:=(pre_splitW hpre).1
 have hc:l.pre.holds [] { args:=args }=true:=(pre_splitW hpre).2
 obtain ⟨d,r,rfl,h1,h2⟩:=hasAllW_cons hsh
 obtain rfl:=hasAllW_nil h2
 obtain ⟨xs,rfl,h3⟩:=hasW_list h1
 obtain ⟨ns,rfl⟩:=items_int h3
 have hlen:ns.length≤n:=by
  unfold OpenLaw.pre at hc
  have h4:(WTm.not (.lt (.lit (.int (n:Int))) (.len (.arg 0)))).holds [] { args:=[.list (ns.map .int)] }=true:=by
   have h4:=(holds_andW hc).1
   rw [hn] at h4
   exact h4
  have h5:=condW_of h4 (w_not (w_lt w_lit (w_len_list (w_arg rfl))))
  rw [List.length_map] at h5
  refine Nat.le_of_not_lt fun q=>?_
  have q':(n:Int)<((ns.length:Nat):Int):=by omega
  first
   | (rw [decide_eq_true q'] at h5;exact absurd h5 (by decide))
   | (simp at h5;omega)
 cases hwl with
 | cons w1 w2 =>
   cases w2
   cases w1 with
   | list ho hall=>exact ⟨_,_,ns,rfl,rfl,ho,Xw ns _ hall,hlen⟩
theorem QdP (l:OpenLaw) (args:List WData):l.row.toRowW.claim.post args (.bool true) args=true :=
 postW_of (r:=l.row.toRowW) (X:=(true == true))
  (show WShape.has [] (.bool true) .bool=true by first | rfl | decide | simp [WShape.has,WShape.arms,WShape.armsAll])
  (show (WTm.eq .res (.lit (.bool true))).value [] { args:=args,res:=some (.bool true),after:=args }=some (.bool (true == true)) from w_eq_bool (w_res rfl) w_lit) rfl
theorem attach_call {l:OpenLaw} {n:Nat} {q:Program} {loose:List Str} {XP:(Str→Option Value)→Heap→Prop} {YP:World→Heap→Prop} {d:DefRec}
 (hn:l.most=some n) (hdf:d.params.defaults=[])
 (call:∀(w:World) (s₀ s₁:Shared) (mg mb:Str→Option Value) (fa:Addr) (o:Obj) (pm cd doc:Value) (a:Addr) (vs:List Value) (ns:List Int),
   Ground q loose [] XP w s₀ mg mb s₁.heap→YP w s₁.heap →
   s₁.heap.get? fa=some o→o.data=.func (docDef d.name d.params d.body d.scope pm cd doc)→s₁.heap.CodeRec cd d.name→mg d.name=some (.ref fa) →
   s₁.heap.get? a=some { cls:=.type "list",data:=.seq vs.toArray }→IntsAre vs ns→ns.length≤n→s₁.gens=#[] →
   codeAny (model l.prog w) callerA (.call (.ref fa) ⟨[.ref a],[]⟩) (fun r s'=>r=.ok (.ret (.bool true))∧OldK s₁.heap s'.heap∧s'.os=s₁.os∧AllBare s'.gens) s₁) :
 WalkO q loose XP YP l.row.toRowW d [] (fun f vs=>PySem.call f vs):=by
 intro w s₀ s₁ mg mb G Y fa o pm cd doc dV kV ho hd hcd hD hmg hg args vals as hpre hlay hrd hwl hlo
 obtain rfl:dV=.none:=Dflts.none hD hdf
 obtain rfl:kV=.none:=Dflts.noKw hD
 obtain ⟨a,vs,ns,rfl,rfl,hobj,hints,hlen⟩:=QdM hn hpre hwl
 refine enter_call (codeAny_mono (call w s₀ s₁ mg mb fa o pm cd doc a vs ns G Y ho (fd_plain hd) hcd hmg hobj hints hlen hg) fun r s' hq=>?_)
 obtain ⟨rfl,h2,h3,h4⟩:=hq
 exact ⟨.inl ⟨.bool true,.bool true,[],rfl,fun _=>rfl,.bool true,QdP l _,fun _=>⟨List.Pairwise.nil,fun _ hm=>(nomatch hm)⟩⟩,h2,h3,h4⟩
section
variable {prog : Program} {w : World} {A : Around} {E : Value → Shared → Prop} {s : Shared} {K : Frag}
end
end Att
namespace L2
open PySem PySem.Spec PyProof.Rows
theorem Ga:∀{vs:List Value} {ns:List Int},IntsAre vs ns→QW (ns.map V.int) vs
 | _,_,.nil=>.nil
 | _,_,.cons n t h=>.cons ⟨t,rfl⟩ (Ga h)
def Only (H:Hp):Prop:=∀b,H b=none∨∃o xs,H b=some (.frz o (.lst xs))
theorem Qga {P:Program} {w:World} {K:PySem.W.Frag} {mg mb:Str→Option Value} {CX:CXT} {k:Nat} {fa a:Addr} {fd:FuncData} {x:Str} {sp:Sp} {s₁:Shared} {vs:List Value} {ns:List Int}
 (KX:K.In s₁.heap) (hns:s₁.heap.Ns mainGlobals mg) (hb:s₁.heap.Ns builtinsNs mb) (hbb:∀x:Str,x≠"__name__"→mb x=bootBuiltins x) (hlim:s₁.heap.NoLimit) (hg:s₁.gens=#[])
 (ha:s₁.heap.get? a=some { cls:=.type "list",data:=.seq vs.toArray }) (hi:IntsAre vs ns) (hl:ns.length≤sizeLine) (hr:QG k callerA)
 (F:∀base:Heap,K.In base→base.Ns mainGlobals mg→Qw P w K mg base CX k fa fd [x] sp) (hbind:∀(s:Shared) (u:Value),BindsTo s fd ⟨[u],[]⟩ [(x,u)])
 (hsp:∀H:Hp,Only H→SqL K H a (ns.map V.int)→sp [.ref a] H (fun v _=>v=.bl true) fun _ _ _=>False)
 (hCX:∀H e s',CX [] H s₁ (fun _ _ _=>False) e s'→False) :
 codeAny (model P w) callerA (.call (.ref fa) ⟨[.ref a],[]⟩) (fun r s'=>r=.ok (.ret (.bool true))∧OldK s₁.heap s'.heap∧s'.os=s₁.os∧AllBare s'.gens) s₁:=by
 have rv:=Ga hi
 have lenV:=hi.length
 have core:∀H:Hp,Only H→SqL K H a (ns.map V.int)→HOk P w H s₁.heap→(∀b,H b≠none→b=a)→(H a≠none→K.lookup a=none) →
  codeAny (model P w) callerA (.call (.ref fa) ⟨[.ref a],[]⟩) (fun r s'=>r=.ok (.ret (.bool true))∧OldK s₁.heap s'.heap∧s'.os=s₁.os∧AllBare s'.gens) s₁:=by
  intro H hO hS hok hA hK
  have base_of:∀{b:Addr} {o:Obj},s₁.heap.get? b=some o→H b=none→(Qaz s₁.heap H).get? b=some o:=fun e n=>Qgp e n
  have noA:∀{b:Addr} {o:Obj} {es:Array DictEntry} {ep:Nat},s₁.heap.get? b=some o→o.data=.dict es ep→H b=none:=fun {b o es ep} e d=>by
   cases q:H b with
   | none=>rfl
   | some u =>
     have e':b=a:=hA b (by rw [q];simp)
     subst e'
     rw [ha] at e;cases e
     have d':Data.seq vs.toArray _=Data.dict es ep:=d
     cases d'
  have nsK:∀{b:Addr} {m:Str→Option Value},s₁.heap.Ns b m→(Qaz s₁.heap H).Ns b m:=fun {b m} ⟨o,es,ep,e,d,r⟩=>⟨o,es,ep,base_of e (noA e d),d,r⟩
  have hKb:K.In (Qaz s₁.heap H):=fun b o e=>base_of (KX b o e) (by
   cases q:H b with
   | none=>rfl
   | some u =>
     have e':b=a:=hA b (by rw [q];simp)
     subst e'
     rw [hK (by rw [q];simp)] at e;cases e)
  have hM:Mod K mg (Qaz s₁.heap H):=⟨hKb,nsK hns,⟨mb,nsK hb,hbb⟩,let ⟨mc,h1,h2⟩:=hlim;⟨mc,nsK h1,h2⟩⟩
  have e0:QcL P w K mg (Qaz s₁.heap H) callerA [] s₁ H:=⟨rfl,hM,fun b o e=>Qhm e,Nat.le_of_eq (Qei _ _),trivial,fun b hb=>absurd (show b∈([]:List Addr) from hb) (by simp),hok,.of_eq hg⟩
  refine codeAny_mono ((F _ hKb (nsK hns)).run callerA [] s₁ H ⟨[.ref a],[]⟩ [.ref a] [.ref a] _ _ hr e0 (hbind s₁ (.ref a)) (.cons rfl .nil) (hsp H hO hS)) fun r s' h=>?_
  cases r with
  | error e=>exact (hCX H e s' h).elim
  | ok fl =>
    cases fl with
    | next=>exact False.elim h
    | brk=>exact False.elim h
    | cont=>exact False.elim h
    | ret u =>
      obtain ⟨v,H',os,bare,un,hok',r',q⟩:=h
      have q':v=.bl true:=q
      subst q'
      obtain rfl:u=Value.bool true:=r'
      refine ⟨rfl,OldK.of_keep fun b o e=>?_,os,bare⟩
      cases q:H b with
      | none=>exact un.keep b o e q (by intro z;exact absurd (show b∈([]:List Addr) from z) (by simp)) (by simp)
      | some u =>
        rcases hO b with z | ⟨ob,xs,z⟩
        ·rw [q] at z;cases z
        ·have z2:=un.frzs b ob _ z
         obtain ⟨e1,_⟩:=hok b _ z
         obtain ⟨e2,_⟩:=hok' b _ z2
         rw [e] at e1;cases e1
         exact e2
 cases hk:K.lookup a with
 | some o =>
   have e:=KX a o hk
   rw [ha] at e
   cases e
   refine core (fun _=>none) (fun _=>.inl rfl) (.inr ⟨_,vs.toArray,_,hk,rfl,rfl,rfl,by rw [List.size_toArray,lenV];exact hl,by simpa using rv⟩) (fun b u z=>by have z':(none:Option HO)=some u:=z;cases z') (fun b z=>absurd rfl z) fun z=>absurd rfl z
 | none =>
   refine core (fun b=>if b=a then some (.frz { cls:=.type "list",data:=.seq vs.toArray } (.lst (ns.map V.int))) else none) (fun b=>?_) (.inl (.inr ⟨{ cls:=.type "list",data:=.seq vs.toArray },if_pos rfl⟩)) (fun b u z=>?_) (fun b z=>?_) fun _=>hk
   ·by_cases hb:b=a
    ·exact .inr ⟨_,_,if_pos hb⟩
    ·exact .inl (if_neg hb)
   ·by_cases hb:b=a
    ·have z':=(if_pos hb).symm.trans z
     cases z'
     subst hb
     exact ⟨ha,by rw [List.length_map];exact hl,vs,_,rv,ha⟩
    ·have z':=(if_neg hb).symm.trans z
     cases z'
   ·by_cases hb:b=a
    ·exact hb
    ·exact absurd (if_neg hb) z
end L2
namespace L2
open PySem PySem.Spec PyProof.Rows
end L2
namespace L2
open PySem PySem.Spec PyProof.Rows
def QF (s:Stmt) (j:Nat):Stmt:=match s with
 | .ClassDef _ _ _ body _ _ _ _ _ _ _=>body.getD j (.Pass ⟨0,0,0,0⟩)
 | _=>.Pass ⟨0,0,0,0⟩
def Zf (s:Stmt):Arguments:=match s with
 | .FunctionDef _ a _ _ _ _ _ _ _ _=>a
 | _=>{ posonlyargs:=[],args:=[],vararg:=none,kwonlyargs:=[],kw_defaults:=[],kwarg:=none,defaults:=[] }
def QM (s:Stmt):List Stmt:=match s with
 | .FunctionDef _ _ b _ _ _ _ _ _ _=>b
 | _=>[]
def Qe (s:Stmt):Scope:=match s with
 | .FunctionDef _ _ _ _ _ _ sc _ _ _=>sc
 | _=>{ kind:=.function,names:=[],isGenerator:=false,isCoroutine:=false }
abbrev CX0:CXT:=fun _ _ _ _ _ _=>False
abbrev E0:XK:=fun _ _ _=>False
theorem Qy {X:Cx}:VX CX0 X E0:=fun _ _ _ _ _ _ _ h=>h.elim
structure Fun (K:PySem.W.Frag) (x qual:Str) (st:Stmt) (f:Addr) (fd:FuncData):Prop where
 ex:∃(oc:Value) (od:Option Addr) (kV doc pm:Value) (an:Option Addr) (cdv ct:Value) (osl:Array (Option Value)),
  fd=PySem.W.fnOf x qual (Zf st) (QM st) (Qe st) .none kV doc pm an cdv ct∧K.lookup f=some ⟨oc,od,.func fd,osl⟩∧PySem.W.codeIn K cdv qual=true
 kp:PySem.W.keepIn K (.ref f)=true
section
variable {P : Program} {w : World} {K : PySem.W.Frag} {mg : Str → Option Value} {base : Heap}
theorem Fun.ok {x qual:Str} {st:Stmt} {f:Addr} {fd:FuncData} {N ps:List Str} {k:Nat} {sp:Sp} (F:Fun K x qual st f fd) (S:Qp N ps (Qe st)) (len:∀vs H Q E,sp vs H Q E→vs.length=ps.length)
 (hbody:∀(cdv:Value) (A:Around) (outer:List Env) (s:Shared) (H:Hp) (vs:List V) (Q:VK) (E:XK),QG k (A.deeper (envOfC qual (Qe st) s.heap.objs.size f cdv))→sp vs H Q E →
   ∃t,PSs (UI CX0 P w K mg base N qual (Qe st) f cdv A outer s H E).nox (QM st) t∧t { nx:=fun _ H'=>Q .non H',rt:=Q } (V1 N vs) H):Qw P w K mg base CX0 (k+1) f fd ps sp:=by
 obtain ⟨oc,od,kV,doc,pm,an,cdv,ct,osl,rfl,lk,hcd⟩:=F.ex
 refine Qh4 lk hcd S len fun A outer s H vs Q E hr hsp=>?_
 obtain ⟨t,h,q⟩:=hbody cdv A outer s H vs Q E hr hsp
 exact ⟨t,h.nox,q⟩
theorem Fun.binds {x qual:Str} {st:Stmt} {f:Addr} {fd:FuncData} {ps:List Str} (F:Fun K x qual st f fd)
 (h:∀(kV doc pm:Value) (an:Option Addr) (cdv ct:Value) (us:List Value),us.length=ps.length→bindArgs (PySem.W.fnOf x qual (Zf st) (QM st) (Qe st) .none kV doc pm an cdv ct) ⟨us,[]⟩=pure (ps.zip us)):Qt K fd ps []:=by
 obtain ⟨oc,od,kV,doc,pm,an,cdv,ct,osl,rfl,lk,hcd⟩:=F.ex
 exact .all (h kV doc pm an cdv ct)
theorem QiK {x qual:Str} {st:Stmt} {f:Addr} {oc:Value} {od an:Option Addr} {osl:Array (Option Value)} {kV doc pm cdv ct:Value} (l:K.lookup f=some ⟨oc,od,.func (PySem.W.fnOf x qual (Zf st) (QM st) (Qe st) .none kV doc pm an cdv ct),osl⟩)
 (c:PySem.W.codeIn K cdv qual=true) (k:PySem.W.keepIn K (.ref f)=true):Fun K x qual st f (PySem.W.fnOf x qual (Zf st) (QM st) (Qe st) .none kV doc pm an cdv ct):=⟨⟨oc,od,kV,doc,pm,an,cdv,ct,osl,rfl,l,c⟩,k⟩
end
theorem QbJ {A:Around} {k:Nat} (hr:QG k A):A.units+1<cLine:=Nat.lt_of_le_of_lt (Nat.add_le_add_left (by decide:1≤64) _) hr.units
theorem Qj {n:Nat} (h:n≤1000):n<sizeLine:=Nat.lt_of_le_of_lt h (by decide)
section
variable {X : Cx}
theorem pv (i:Nat) {x:Str} {pos:Pos} (hN:X.N[i]?=some x:=by rfl) (hv:Vis X.env.scope x:=by first | exact Or.inl rfl | exact Or.inr (Or.inl rfl) | exact Or.inr (Or.inr rfl)) (hd:(x == ("__debug__":Str))=false:=by decide)
 (hcd:(x == ("__classdict__":Str))=false:=by decide):PE X (.Name x pos) (tVar i):=Qis hN hv hd hcd
end
theorem QU {A B:Prop} (h:B):if false=true then A else B:=by
 rw [if_neg Bool.false_ne_true]
 exact h
theorem Zc {A B:Prop} (h:A):if true=true then A else B:=by
 rw [if_pos rfl]
 exact h
theorem Qec {c A B:Prop} [Decidable c] (h1:c→A) (h2:¬c→B):if c then A else B:=by
 by_cases h:c
 ·rw [if_pos h]
  exact h1 h
 ·rw [if_neg h]
  exact h2 h
def Qm (H H':Hp):Prop:=∀b o,H b=some o→H' b=some o
theorem Qm.refl (H:Hp):Qm H H:=fun _ _ h=>h
theorem Qm.trans {H H1 H2:Hp} (a:Qm H H1) (b:Qm H1 H2):Qm H H2:=fun c o h=>b c o (a c o h)
theorem Qm.free {H H':Hp} (e:Qm H H') {l:Addr} (h:H' l=Option.none):H l=Option.none:=by
 cases q:H l with
 | none=>rfl
 | some o =>
   rw [e l o q] at h
   cases h
theorem Qm.seq {K:PySem.W.Frag} {H H':Hp} {a:Addr} {xs:List V} (e:Qm H H') (h:SqL K H a xs):SqL K H' a xs:=by
 rcases h with (h | ⟨o,h⟩) | h
 ·exact .inl (.inl (e _ _ h))
 ·exact .inl (.inr ⟨o,e _ _ h⟩)
 ·exact .inr h
end L2
namespace L2
open PySem PySem.Spec PyProof.Rows
section
variable {X : Cx}
end
section
variable {κ : Type} [DecidableEq κ]
theorem Qek {p:κ×V} {r:List (κ×V)} {k:κ} (e:p.1=k):Ux (p :: r) k=Ux r k:=by
 unfold Ux
 rw [List.filter_cons,if_neg (by simp [e])]
theorem Qel {p:κ×V} {r:List (κ×V)} {k:κ} (e:¬p.1=k):Ux (p :: r) k=p :: Ux r k:=by
 unfold Ux
 rw [List.filter_cons,if_pos (by simp [e])]
end
end L2
set_option maxHeartbeats 4000000
namespace L2
open PySem PySem.Spec PyProof.Rows
def Its (x:Str):It:=⟨fun i _=>i<x.cps.size,fun i H y H'=>H'=H∧∃c,x.cps[i]?=some c∧y=.str ⟨#[c]⟩,fun i _=>i=x.cps.size⟩
theorem Gb {P:Program} {w:World} {K:PySem.W.Frag} {tg:Expr} {x:Str} {t:Tok} {it:Addr} {ty:String}
 (hn:["enumerate","zip","dict_itemiterator","dict_reverseitemiterator","odict_iterator","itertools.zip_longest","itertools.pairwise"].contains ty=false)
 (W:∀A':Around,A'.handled=none→Walks P w A' it [it] [it] x.cps.size (SignAt x) (fun i h=>h.IsStrIter it ty x t i))
 (hself:∀(A:Around) (i:Nat) (s:Shared) (Q:Value→Shared→Prop) (E:Value→Shared→Prop),s.heap.IsStrIter it ty x t i→Q (.ref it) s→wpAny (model P w) A (pyIter (.ref it)) Q E s) :
 QcH P w K tg (Its x) [it] it (fun i h=>h.IsStrIter it ty x t i) where
 mem:=List.mem_singleton.mpr rfl
 obj:=fun i h st b hb=>by
  cases List.mem_singleton.mp hb
  obtain ⟨o,q,_,d⟩:=st
  exact ⟨o,q,fun v z=>by rw [d] at z;cases z⟩
 keep:=fun i h h' st k=>by
  obtain ⟨o,q,r⟩:=st
  exact ⟨o,k it (List.mem_singleton.mpr rfl) o q,r⟩
 item:=by
  intro X e1 e2 e3 hc i pins s σ H E I hf st hg
  subst e1 e2 e3
  have F:=hf it (List.mem_singleton.mpr rfl)
  refine (W X.A (I.ok.hd hc)).item i s _ _ hg st fun v h' tk hv st' kk=>?_
  obtain ⟨c,u,hx,rfl⟩:=hv
  have J:Inv X pins σ H { s with heap:=h',toks:=tk }:=I.turned (fun b o hb q=>kk b o (fun z=>hb (List.mem_singleton.mp z)) q) F.1 F.2.1 F.2.2.2.1 F.2.2.2.2.1 F.2.2.2.2.2
  obtain ⟨o,q,cc,d⟩:=id st'
  exact ⟨_,rfl,Qds (s:={ s with heap:=h',toks:=tk }) q cc d hn ⟨.str ⟨#[c]⟩,H,J,⟨u,rfl⟩,⟨rfl,c,hx,rfl⟩,st',fun b hb=>(hf b hb).1⟩⟩
 done:=by
  intro X e1 e2 e3 hc i pins s σ H E I hf st hg
  subst e1 e2 e3
  have F:=hf it (List.mem_singleton.mpr rfl)
  have g:i=x.cps.size:=hg
  subst g
  exact (W X.A (I.ok.hd hc)).done s _ _ st fun h' tk kk=>⟨rfl,I.turned (fun b o hb q=>kk b o (fun z=>hb (List.mem_singleton.mp z)) q) F.1 F.2.1 F.2.2.2.1 F.2.2.2.2.1 F.2.2.2.2.2⟩
 self:=hself
inductive Qgn (R:(It→Hp→Prop)) (x:V) (H1:Hp):Prop
 | mk:∀y,x=.str y→R (Its y) H1→Qgn R x H1
def iStr (te:TE):TI:=fun σ H R=>te σ H fun x H1=>Qgn R x H1
theorem Qcp {X:Cx} {tg l:Expr} {tl:TE} (hl:PE X l tl):PI X tg l (iStr tl):=by
 intro pins s σ H R I h
 refine thn (hl pins s σ H _ I h) fun v s1 ⟨x,H1,I1,r1,y,e,q⟩=>?_
 subst e
 obtain ⟨t,rfl⟩:=r1
 have fp:∀b∈[s1.heap.objs.size],Xy X pins H1 b:=fun b hb=>by
  cases List.mem_singleton.mp hb
  exact I1.fpOk (Nat.le_refl _) (I1.hok.fresh (Nat.le_refl _))
 cases ha:y.cps.all (·<128)
 ·refine wpAny_pyIter_wide ha ?_
  exact ⟨s1.heap.objs.size,[s1.heap.objs.size],_,_,H1,rfl,I1.kept (t':=s1.toks) fun b o z=>Heap.get?_push_of_some _ z,
   Gb (x:=y) (t:=t) (ty:="str_iterator") (by decide) (fun A' hA=>Walks.strWide hA _ y t) (fun _ _ _ _ _ st hq=>wpAny_pyIter_striter_wide st hq),⟨_,Heap.get?_push_size _ rfl,rfl,rfl⟩,fp,q⟩
 ·refine wpAny_pyIter_ascii ha ?_
  exact ⟨s1.heap.objs.size,[s1.heap.objs.size],_,_,H1,rfl,I1.kept (t':=s1.toks) fun b o z=>Heap.get?_push_of_some _ z,
   Gb (x:=y) (t:=t) (ty:="str_ascii_iterator") (by decide) (fun A' hA=>Walks.strAscii hA _ y t) (fun _ _ _ _ _ st hq=>wpAny_pyIter_striter_ascii st hq),⟨_,Heap.get?_push_size _ rfl,rfl,rfl⟩,fp,q⟩
theorem Qhw {x:Str} {g:TG} {tb:TS} {D:VY} {σ:St} {H:Hp} (Pv:Nat→St→Hp→Prop) (h0:Pv 0 σ H)
 (hs:∀i c σ H,x.cps[i]?=some c→Pv i σ H→g (.str ⟨#[c]⟩) σ H fun σ2 H2=>tb { D with nx:=Pv (i+1),ct:=Pv (i+1),bk:=D.nx } σ2 H2) (hd:∀σ H,Pv x.cps.size σ H→D.nx σ H) :
 VL g tb D σ (Its x) H:=by
 refine ⟨fun i m σ H=>m=x.cps.size - i∧i≤x.cps.size∧Pv i σ H,⟨x.cps.size,by simp,Nat.zero_le _,h0⟩,?_⟩
 rintro i m σ H ⟨rfl,hi,p⟩
 by_cases hlt:i<x.cps.size
 ·refine .inr ⟨hlt,Pv (i+1),fun σ' H' p'=>⟨x.cps.size - (i+1),by omega,rfl,hlt,p'⟩,?_⟩
  rintro v H' ⟨rfl,c,hc,rfl⟩
  exact hs i c σ _ hc p
 ·have e:i=x.cps.size:=by omega
  subst e
  exact .inl ⟨rfl,hd σ H p⟩
def Yg (cells:List (Str×Addr)):List (Str×NameKind)→List (Str×Addr)→List (Str×Addr)
 | [],cs=>cs
 | (n,k) :: r,cs=>Yg cells r (if k == .free then (match cells.lookup n with | some c=>(n,c) :: cs | none=>cs) else cs)
theorem VJ {scope:Scope} {env:Env} (h:∀y∈scope.names,y.2=.free→∃c,env.cells.lookup y.1=some c):closureFor scope env=pure (Yg env.cells scope.names []):=by
 unfold closureFor
 generalize ([]:List (Str×Addr))=cs
 revert cs
 generalize scope.names=names at h
 induction names with
 | nil=>intro cs;rfl
 | cons p r ih =>
   obtain ⟨n,k⟩:=p
   intro cs
   have ih':=ih fun y hy=>h y (List.mem_cons_of_mem _ hy)
   by_cases hk:k=.free
   ·subst hk
    obtain ⟨c,hc⟩:=h (n,.free) List.mem_cons_self rfl
    have e:cellOf env n=pure c:=by unfold cellOf;rw [hc] <;> rfl
    dsimp only at hc ⊢
    rw [List.forIn_cons]
    simp only [beq_self_eq_true,if_true,Yg,hc]
    rw [e]
    exact ih' _
   ·have hb:(k == NameKind.free)=false:=by simpa using hk
    dsimp only
    rw [List.forIn_cons]
    simp only [hb,Bool.false_eq_true,if_false,Yg]
    exact ih' _
theorem VW {cells:List (Str×Addr)}:∀(names:List (Str×NameKind)) (cs:List (Str×Addr)) {y:Str} {c:Addr},(Yg cells names cs).lookup y=some c→cells.lookup y=some c∨cs.lookup y=some c
 | [],cs,y,c,h=>.inr h
 | (n,k) :: r,cs,y,c,h=>by
   rcases VW r _ (show (Yg cells r _).lookup y=some c from h) with h1 | h1
   ·exact .inl h1
   ·split at h1
    ·split at h1
     ·rename_i c' hc'
      rw [List.lookup_cons] at h1
      split at h1
      ·rename_i e
       cases h1
       exact .inl (by rw [eq_of_beq e];exact hc')
      ·exact .inr h1
     ·exact .inr h1
    ·exact .inr h1
theorem Xk {cells:List (Str×Addr)}:∀(names:List (Str×NameKind)) (cs:List (Str×Addr)) {y:Str},(∃c,cs.lookup y=some c)→∃c,(Yg cells names cs).lookup y=some c
 | [],cs,y,h=>h
 | (n,k) :: r,cs,y,h=>by
   refine Xk r _ ?_
   split
   ·split
    ·rw [List.lookup_cons]
     split
     ·exact ⟨_,rfl⟩
     ·exact h
    ·exact h
   ·exact h
theorem Y4 {cells:List (Str×Addr)}:∀(names:List (Str×NameKind)) (cs:List (Str×Addr)) {y:Str},(y,NameKind.free)∈names→(∃c,cells.lookup y=some c)→∃c,(Yg cells names cs).lookup y=some c
 | (n,k) :: r,cs,y,hy,hc=>by
   rcases List.mem_cons.mp hy with e | hy
   ·cases e
    refine Xk r _ ?_
    obtain ⟨c,hc⟩:=hc
    simp only [beq_self_eq_true,if_true,hc]
    exact ⟨c,by simp [List.lookup_cons]⟩
   ·exact Y4 r _ hy hc
def relF (env:Env) (p:Str×NameKind):Str×NameKind:=if (p.2 == NameKind.free && env.scope.kind == .function && env.kindOf p.1 == some .cell)=true then (p.1,NameKind.cell) else (p.1,p.2)
theorem Gn {env:Env}:∀{names:List (Str×NameKind)} {x:Str},names.lookup x=some .free→(names.map (relF env)).lookup x=some .cell∨(names.map (relF env)).lookup x=some .free
 | [],_,h=>by simp at h
 | (n,k) :: r,x,h=>by
   have ih:=@Gn env r x
   rw [List.map_cons]
   unfold relF
   cases hx:x == n with
   | true =>
     rw [List.lookup_cons,hx] at h
     cases h
     by_cases hc:(NameKind.free == NameKind.free && env.scope.kind == .function && env.kindOf n == some .cell)=true
     ·left;rw [if_pos hc,List.lookup_cons,hx]
     ·right;rw [if_neg hc,List.lookup_cons,hx]
   | false =>
     rw [List.lookup_cons,hx] at h
     by_cases hc:(k == NameKind.free && env.scope.kind == .function && env.kindOf n == some .cell)=true
     ·rw [if_pos hc,List.lookup_cons,hx];exact ih h
     ·rw [if_neg hc,List.lookup_cons,hx];exact ih h
theorem Yv {scope:Scope} {env:Env} {x:Str} (h:scope.names.lookup x=some .free):(relabel scope env).names.lookup x=some .cell∨(relabel scope env).names.lookup x=some .free :=
 Gn (env:=env) h
theorem We {scope:Scope} {env:Env} (nc:∀y∈scope.names,y.2≠.cell) {y:Str} (h:(relabel scope env).names.lookup y=some .cell∨(relabel scope env).names.lookup y=some .free):(y,NameKind.free)∈scope.names:=by
 have key:∀k,(relabel scope env).names.lookup y=some k→k=.cell∨k=.free→(y,NameKind.free)∈scope.names:=fun k e hk=>by
  have m:=PySem.mem_of_lookup e
  obtain ⟨⟨n,k'⟩,hm,q⟩:=List.mem_map.mp m
  dsimp only at q
  split at q
  ·rename_i c
   have c1:(k' == NameKind.free)=true:=by
    simp only [Bool.and_eq_true] at c
    exact c.1.1
   have c2:k'=.free:=eq_of_beq c1
   cases q
   rw [c2] at hm
   exact hm
  ·cases q
   rcases hk with z | z
   ·exact absurd z (nc _ hm)
   ·rw [z] at hm;exact hm
 rcases h with h | h
 ·exact key _ h (.inl rfl)
 ·exact key _ h (.inr rfl)
structure W5 (sc scope:Scope) (N:List Str) (x:Str) (fr:List (Nat×Str)):Prop where
 kind:scope.kind=.function
 loc:scope.names.lookup x=some .local
 names:∀y∈scope.names,y.2=.local→scope.names.lookup y.1=some .local
 nocell:∀y∈scope.names,y.2≠.cell
 free:∀y∈scope.names,y.2=.free→sc.names.lookup y.1=some .cell∨sc.names.lookup y.1=some .free
 frk:∀p∈fr,N[p.1]?=some p.2∧scope.names.lookup p.2=some .free
 nd:(x :: fr.map (·.2)).Nodup
def Z6 (X:Cx) (scope:Scope) (C:Addr) (N:List Str) (s:Shared) (H:Hp) (fp:List Addr):Cx where
 prog:=X.prog
 w:=X.w
 K:=X.K
 mg:=X.mg
 base:=X.base
 A:=X.A
 N:=N
 s₀:=s
 H₀:=H
 env:=compEnvC scope (Yg X.env.cells scope.names []) C X.env
 outer:=X.stack
 stack:=X.stack
 ex:=fp
 fn:=fun _=>false
 calm:=X.calm
 pn:=[]
 xe:=fun _ _=>False
def frV (σ:St) (fr:List (Nat×Str)):St:=fr.map fun p=>(σ[p.1]?).join
def PTs (X:Cx) (ifs:List Expr) (t:TT):Prop :=
 ∀(pins:List (Addr×Obj)) (s:Shared) (σ:St) (H:Hp) (Q:Bool→Hp→Prop),Inv X pins σ H s→t σ H Q →
  wpAny (model X.prog X.w) X.A (forIn ifs true fun c r=>if r=true then do let ok ←isTrue c X.env (eval c X.env);pure (ForInStep.yield ok) else pure (ForInStep.yield r)) (TP X pins σ Q) X.xe s
def W7:TT:=fun _ H Q=>Q true H
theorem UT {σ:St} {H:Hp} {Q:Bool→Hp→Prop} (h:Q true H):W7 σ H Q:=h
theorem JS {X:Cx}:PTs X [] W7:=fun _ _ _ H _ I h=>wpAny_tests_nil ⟨H,I,h⟩
theorem Qg7 {X:Cx} {c:Expr} {t:TT} (hc:PT X c t):PTs X [c] t:=fun pins s σ H Q I h=>wpAny_tests_one (hc pins s σ H Q I h)
def Jg (J:It) (fr:List (Nat×Str)) (tt:TT) (te:TE) (σ:St) (H1:Hp) (Q:VK):Prop:=∀D,H1 D=none →
 ∃W:Nat→Nat→List V→Hp→Prop,(∃m,W 0 m [] (upd H1 D (.lst [])))∧∀i m ys H2,W i m ys H2→H2 D=some (.lst ys) ∧
  ((J.stop i H2∧Q (.ref D) H2)∨(J.go i H2∧∀v H3,J.yld i H2 v H3→tt (some v :: frV σ fr) H3 fun b H4 =>
    if b=true then te (some v :: frV σ fr) H4 fun y H5=>H5 D=some (.lst ys)∧ys.length<sizeLine∧∃m',m'<m∧W (i+1) m' (ys++[y]) (upd H5 D (.lst (ys++[y])))
    else ∃m',m'<m∧W (i+1) m' ys H4))
def QeL (wi:TI) (fr:List (Nat×Str)) (tt:TT) (te:TE):TE:=fun σ H Q=>wi σ H fun J H1=>Jg J fr tt te σ H1 Q
structure QgO (X:Cx) (pins:List (Addr×Obj)) (H:Hp) (C:Addr):Prop where
 hn:H C=none
 hL:C≠X.env.locals
 h1:C∈X.ex∨X.s₀.heap.objs.size≤C
 h2:∀x c,X.env.cells.lookup x=some c→c≠C
 h3:∀p∈X.pn++pins,p.1≠C
theorem QbQ {X:Cx} {x:Str} {px:Pos} {iter elt:Expr} {ifs:List Expr} {scope sc:Scope} {pos pos':Pos} {N:List Str} {fr:List (Nat×Str)} {wi:TI} {tt:TT} {te:TE}
 {pins:List (Addr×Obj)} {s:Shared} {σ:St} {H:Hp} {Q:VK} {Q':Value→Shared→Prop} {use:Option (Value→Sem Unit)}
 (S:W5 sc scope N x fr) (hsc:X.env.scope=sc) (hN:X.N=N) (hc:X.calm=true) (hi:PI X (.Name x px) iter wi)
 (ht:∀(C:Addr) (s:Shared) (H:Hp) (fp:List Addr),PTs (Z6 X scope C (x :: fr.map (·.2)) s H fp) ifs tt)
 (he:∀(C:Addr) (s:Shared) (H:Hp) (fp:List Addr),PE (Z6 X scope C (x :: fr.map (·.2)) s H fp) elt te)
 (hs:∀z,foldedSetIterable iter X.env z=pure z) (I:Inv X pins σ H s) (h:QeL wi fr tt te σ H Q)
 (hfin:∀(D C:Addr) (H':Hp) (s':Shared) (m:Str→Option Value),Inv X pins σ H' s'→s'.heap.Ns C m→QgO X pins H' C→Q (.ref D) H'→compPost (model X.prog X.w) X.A X.xe use Q' (.ref D) C (.ok .next) s') :
 wpAny (model X.prog X.w) X.A (comprehension (.ListComp elt [⟨.Name x px,iter,ifs,0⟩] scope pos) scope X.env pos' (newList []) false (eval iter X.env) use) Q' X.xe s:=by
 have kin:∀y,scope.names.lookup y=some .free→X.env.kindOf y=some .cell∨X.env.kindOf y=some .free:=fun y hy=>by
  show X.env.scope.names.lookup y=_∨X.env.scope.names.lookup y=_
  rw [hsc]
  exact S.free (y,.free) (PySem.mem_of_lookup hy) rfl
 have kin':∀y∈scope.names,y.2=.free→X.env.kindOf y.1=some .cell∨X.env.kindOf y.1=some .free:=fun y hy hf=>by
  show X.env.scope.names.lookup y.1=_∨X.env.scope.names.lookup y.1=_
  rw [hsc]
  exact S.free y hy hf
 have hkc:∀y∈scope.names,y.2=.free→∃c,X.env.cells.lookup y.1=some c:=fun y hy hf=>I.ok.has y.1 (kin' y hy hf)
 refine wpAny_comprehension_free (use:=use) rfl hs (VJ hkc) S.kind S.names ?_
 refine thn (hi pins s σ H _ I h) fun xv s1 h1=>thn h1 fun itv s2 h2=>?_
 obtain ⟨it,fp,tn,J,H2,rfl,I2,T,st2,f2,q2⟩:=h2
 refine wpAny_newObj_type (wpAny_newFunctionEnv S.nocell (by intro y hy;simp at hy) (fun h₁ hns₁ hsb₁=>?_) S.kind)
 dsimp only at hns₁ hsb₁ ⊢
 have I3:Inv X pins σ (upd H2 s2.heap.objs.size (.lst [])) { s2 with heap:=s2.heap.push { cls:=.type "list",data:=.seq ([]:List Value).toArray } } :=
  I2.lnew (its:=[]) (t':=s2.toks) .nil (Nat.zero_le _)
 unfold Jg at q2
 obtain ⟨W,⟨m0,w0⟩,turn⟩:=q2 s2.heap.objs.size (I2.hok.fresh (Nat.le_refl _))
 generalize hG:s2.heap.push { cls:=.type "list",dict:=none,data:=.seq ([]:List Value).toArray }=G at hns₁ hsb₁ I3 ⊢
 generalize hD:s2.heap.objs.size=D at I3 turn w0 ⊢
 generalize hH3:upd H2 D (.lst [])=H3 at I3 w0
 have neG:∀b o,G.get? b=some o→b≠G.objs.size:=fun b o e=>Nat.ne_of_lt (Heap.lt_size e)
 have old:∀b o,G.get? b=some o→h₁.get? b=some o:=fun b o e=>(hsb₁.2 b (neG b o e)).trans (Heap.get?_push_of_some _ e)
 have up2:∀b o,s2.heap.get? b=some o→G.get? b=some o:=fun b o e=>by rw [←hG];exact Heap.get?_push_of_some _ e
 have fpG:∀b∈fp,b<G.objs.size:=fun b hb=>by
  obtain ⟨o,e,_⟩:=T.obj _ _ st2 b hb
  exact Heap.lt_size (up2 b o e)
 have sub:∀{y:Str} {c:Addr},(Yg X.env.cells scope.names []).lookup y=some c→X.env.cells.lookup y=some c:=fun {y c} e=>by
  rcases VW _ _ e with z | z
  ·exact z
  ·simp at z
 have stat0:∀b∈fp,(b∈X.ex∨X.s₀.heap.objs.size≤b)∧b≠X.env.locals∧(∀x c,X.env.cells.lookup x=some c→c≠b)∧∀p∈X.pn++pins,p.1≠b:=fun b hb =>
  ⟨(f2 b hb).2.2.2.1,(f2 b hb).2.1,(f2 b hb).2.2.2.2.1,(f2 b hb).2.2.2.2.2⟩
 have hCL:G.objs.size≠X.env.locals:=Nat.ne_of_gt I3.lt
 have hC1:X.s₀.heap.objs.size≤G.objs.size:=I3.sz
 have hC2:∀x c,X.env.cells.lookup x=some c→c≠G.objs.size:=fun x c e=>by
  obtain ⟨v,o,ho,_⟩:=I3.cell x c e
  exact neG c o ho
 have hC3:∀p∈X.pn++pins,p.1≠G.objs.size:=fun p hp=>neG p.1 p.2 (I3.pin p hp).1
 have okB:(Z6 X scope G.objs.size (x :: fr.map (·.2)) { s2 with heap:=G } H3 fp).Ok:=by
  refine ⟨I2.ok.mod,S.kind,I2.ok.glob,I2.ok.blt,Nat.le_refl _,fun y z c e1 e2=>I2.ok.inj y z c (sub e1) (sub e2),fun y hy=>?_,fun y c z=>Bool.noConfusion z,I2.ok.hd,I2.ok.frames,.inl rfl,fun b hb=>⟨Nat.ne_of_lt (fpG b hb),fun y c e=>(stat0 b hb).2.2.1 y c (sub e)⟩,
   fun b o e=>I3.bs b o e,Nat.le_trans I2.ok.bsz I3.sz,fun b o e hb=>?_,fun b hb hf=>?_,I3.stack,I3.stkFree⟩
  ·have m:=We S.nocell hy
   exact Y4 _ _ m (hkc _ m rfl)
  ·rcases (stat0 b hb).1 with z | z
   ·exact I2.ok.noex b o e z
   ·exact absurd (Nat.lt_of_lt_of_le (Heap.lt_size e) (Nat.le_trans I2.ok.bsz z)) (Nat.lt_irrefl _)
  ·rcases List.mem_cons.mp (I2.stkSub b hf) with z | z
   ·exact (stat0 b hb).2.1 z
   ·exact (f2 b hb).2.2.1 z
 have I4:∀tk:Nat,Inv (Z6 X scope G.objs.size (x :: fr.map (·.2)) { s2 with heap:=G } H3 fp) [] (none :: frV σ fr) H3 { s2 with heap:=h₁,toks:=tk }:=fun tk=>by
  refine ⟨okB,rfl,I2.bare,Un.kept old,⟨_,hns₁,fun i y v e1 e2 _=>?_⟩,fun y c e=>?_,I3.hok.fresh (Nat.le_refl _),fun y c e=>I3.freeC y c (sub e),fun p hp=>absurd (show p∈([]:List (Addr×Obj)) from hp) (by simp),I3.hok.kept old,?_⟩
  ·cases i with
   | zero=>simp at e2
   | succ i =>
     have e1':(fr.map (·.2))[i]?=some y:=e1
     have e2':(fr.map fun p=>(σ[p.1]?).join)[i]?=some (some v):=e2
     rw [List.getElem?_map] at e1' e2'
     cases hp:fr[i]? with
     | none=>rw [hp] at e1';cases e1'
     | some p =>
       rw [hp] at e1' e2'
       have ey:p.2=y:=Option.some.inj e1'
       have ev:(σ[p.1]?).join=some v:=Option.some.inj e2'
       have ev':σ[p.1]?=some (some v):=by
        cases q:σ[p.1]? with
        | none=>rw [q] at ev;cases ev
        | some o=>rw [q] at ev;simp only [Option.join] at ev;exact congrArg some ev
       have hf:=S.frk p (List.mem_of_getElem? hp)
       rw [ey] at hf
       have hk:=kin y hf.2
       obtain ⟨m,_,hl⟩:=I2.loc
       obtain ⟨u,ru,l⟩:=hl p.1 y v (by rw [hN];exact hf.1) ev' (.inr hk)
       refine ⟨u,ru,.inr ⟨Yv hf.2,?_⟩⟩
       rcases l with ⟨k,_⟩ | ⟨_,c,e,z⟩
       ·rcases hk with hk | hk
        ·rw [hk] at k;cases k
        ·rw [hk] at k;cases k
       ·obtain ⟨c',ec⟩:=Y4 (cells:=X.env.cells) scope.names [] (PySem.mem_of_lookup hf.2) ⟨c,e⟩
        have:=sub ec
        rw [e] at this
        cases this
        obtain ⟨o,ho,hd⟩:=z
        exact ⟨c,ec,o,old c o (up2 c o ho),hd⟩
  ·obtain ⟨v,o,ho,hd⟩:=I2.cell y c (sub e)
   exact ⟨v,o,old c o (up2 c o ho),hd⟩
  ·show (none :: frV σ fr).length=(x :: fr.map (·.2)).length
   simp [frV]
 have locX:(Z6 X scope G.objs.size (x :: fr.map (·.2)) { s2 with heap:=G } H3 fp).env.scope.names.lookup x=some .local:=lookup_relabel_local S.loc
 generalize hX:Z6 X scope G.objs.size (x :: fr.map (·.2)) { s2 with heap:=G } H3 fp=Y at I4 locX
 have eP:Y.prog=X.prog:=by rw [←hX];rfl
 have eW:Y.w=X.w:=by rw [←hX];rfl
 have eK:Y.K=X.K:=by rw [←hX];rfl
 have eA:Y.A=X.A:=by rw [←hX];rfl
 have eC:Y.calm=true:=by rw [←hX];exact hc
 have eE:Y.env=compEnvC scope (Yg X.env.cells scope.names []) G.objs.size X.env:=by rw [←hX];rfl
 have eN:Y.N=x :: fr.map (·.2):=by rw [←hX];rfl
 have eX:Y.xe=fun _ _=>False:=by rw [←hX];rfl
 have eB:∀{σ':St} {H':Hp} {s':Shared} {pins':List (Addr×Obj)},Inv Y pins' σ' H' s'→s'.os=s2.os∧Un (frs X.stack) fp H3 H' G s'.heap:=fun {σ' H' s' pins'} J=>by
  subst hX
  exact ⟨J.os,J.base⟩
 have hT:=ht G.objs.size { s2 with heap:=G } H3 fp
 have hE:=he G.objs.size { s2 with heap:=G } H3 fp
 rw [hX] at hT hE
 have fpY:∀{H':Hp},(∀b∈fp,H' b=none)→∀b∈fp,Xy Y [] H' b:=fun {H'} hn b hb=>by
  subst hX
  refine ⟨hn b hb,Nat.ne_of_lt (fpG b hb),okB.exfs b hb,.inl hb,fun y c e=>(okB.exf b hb).2 y c e,fun p hp=>absurd (show p∈([]:List (Addr×Obj)) from hp) (by simp)⟩
 have loop:∀s3:Shared,(∃tk,s3={ s2 with heap:=h₁,toks:=tk }) →
  codeAny (model X.prog X.w) X.A (.compLoop (.ListComp elt [⟨.Name x px,iter,ifs,0⟩] scope pos) 0 (.ref it) (.ref D) Y.env)
   (compPost (model X.prog X.w) X.A X.xe use Q' (.ref D) G.objs.size) s3:=by
  rintro s3 ⟨tk,rfl⟩
  refine codeAny_compLoop_tests (fun n s'=>∃i ys o H',Inv Y [] (o :: frV σ fr) H' s'∧tn i s'.heap∧(∀b∈fp,H' b=none)∧W i n ys H') ?_ m0
   ⟨0,[],none,H3,I4 tk,T.keep _ _ _ st2 fun b hb o e=>old b o (up2 b o e),fun b hb=>?_,w0⟩
  ·rintro n s' ⟨i,ys,o,H',J',st',fr',w'⟩
   obtain ⟨hD',hgo⟩:=turn i n ys H' w'
   rcases hgo with ⟨stop,qn⟩ | ⟨go,step⟩
   ·have Q1:=T.done Y eP eW eK eC i [] s' (o :: frV σ fr) H' (notedBy (model X.prog X.w) X.A Y.env fun e s''=>compPost (model X.prog X.w) X.A X.xe use Q' (.ref D) G.objs.size (.error e) s'') J' (fpY fr') st' stop
    rw [eA] at Q1
    refine thn Q1 fun r s4 ⟨hr,J4⟩=>?_
    subst hr
    obtain ⟨m,hn,_⟩:=J4.loc
    rw [eE] at hn
    obtain ⟨os4,u4⟩:=eB J4
    have free4:H' G.objs.size=none:=by have:=J4.free;rw [eE] at this;exact this
    have hok4:HOk X.prog X.w H' s4.heap:=by have:=J4.hok;rw [eP,eW] at this;exact this
    exact hfin D G.objs.size H' s4 m (I3.call' (ch:=fp) (s':=s4) os4 u4 hok4 J4.bare stat0) hn ⟨free4,hCL,.inr hC1,hC2,hC3⟩ qn
   ·have Q1:=T.item Y eP eW eK eC i [] s' (o :: frV σ fr) H' (notedBy (model X.prog X.w) X.A Y.env fun e s''=>compPost (model X.prog X.w) X.A X.xe use Q' (.ref D) G.objs.size (.error e) s'') J' (fpY fr') st' go
    rw [eA] at Q1
    refine thn Q1 fun r s4 ⟨u,hr,h4⟩=>?_
    subst hr
    show wpAny _ _ (letOwnedTupleGo (.Name x px) (.ref it) u >>= fun _=>assign (.Name x px) Y.env u) _ _ s4
    refine wpAny_bind (thn h4 fun _ s5 ⟨v,H5,J5,r5,y5,st5,fr5⟩=>?_)
    have J5':=J5.pinned (fpY fr5) (T.obj _ _ st5)
    have G5:=QR (X:=Y) (i:=0) (x:=x) (pos:=px) (by rw [eN];exact S.nd) (by rw [eN];rfl) (.inl locX) (.inr locX) ([]++U5 fp s5.heap) s5 (o :: frV σ fr) H5 v u (fun σ6 H6=>σ6=some v :: frV σ fr∧H6=H5) J5' r5 ⟨rfl,rfl⟩
    rw [eP,eW,eA,eX] at G5
    refine wpAny_mono G5 (fun _ s6 ⟨σ6,H6,J6,e6,e6'⟩=>?_) fun _ _ z=>z.elim
    subst e6 e6'
    have T6:=hT _ s6 _ _ _ J6 (step v _ y5)
    rw [eP,eW,eA,eX] at T6
    have again:∀{s7:Shared} {H7:Hp} {zs:List V},Inv Y ([]++U5 fp s5.heap) (some v :: frV σ fr) H7 s7→(∃m',m'<n∧W (i+1) m' zs H7)→∃m,m<n∧∃i ys o H',Inv Y [] (o :: frV σ fr) H' s7∧tn i s7.heap∧(∀b∈fp,H' b=none)∧W i m ys H':=fun {s7 H7 zs} J7 ⟨m',hm,w7⟩=>by
     refine ⟨m',hm,i+1,zs,some v,H7,J7.unpinned,T.keep _ _ _ st5 fun b hb o e=>(J7.pin (b,o) (List.mem_append_right _ (List.mem_append_right _ (Yc hb e)))).1,fun b hb=>?_,w7⟩
     obtain ⟨o,e,d⟩:=T.obj _ _ st5 b hb
     exact (J7.pin (b,o) (List.mem_append_right _ (List.mem_append_right _ (Yc hb e)))).2.1
    refine wpAny_mono T6 (fun ok s7 ⟨H7,J7,q7⟩=>?_) fun _ _ z=>z.elim
    cases ok with
    | false=>exact again J7 q7
    | true =>
      have E7:=hE _ s7 _ _ _ J7 q7
      rw [eP,eW,eA,eX] at E7
      show wpAny _ _ (eval elt Y.env) _ _ s7
      refine wpAny_mono E7 (fun u8 s8 ⟨y8,H8,J8,r8,hD8,hz8,w8⟩=>?_) fun _ _ z=>z.elim
      have A8:=Q3 (X:=Y) _ s8 _ H8 (.ref D) [y8] (.ref D) [u8] (fun z H9=>H9=upd H8 D (.lst (ys++[y8]))) J8 rfl (.cons r8 .nil) ⟨D,ys,y8,rfl,rfl,hD8,hz8,rfl⟩
      rw [eP,eW,eA,eX] at A8
      refine wpAny_mono A8 (fun _ s9 ⟨z9,H9,J9,_,e9⟩=>?_) fun _ _ z=>z.elim
      subst e9
      exact again J9 w8
  ·rw [←hH3]
   have hbD:b≠D:=by
    rw [←hD]
    obtain ⟨o,e,_⟩:=T.obj _ _ st2 b hb
    exact Nat.ne_of_lt (Heap.lt_size e)
   rw [Qk hbD]
   exact (f2 b hb).1
 rw [eE] at loop
 exact codeAny_compStart_list (loop _ ⟨_,rfl⟩) (T.self _ 0 _ _ _ (T.keep _ _ _ st2 fun b hb o e=>old b o (up2 b o e)) (loop _ ⟨_,rfl⟩))
theorem Ub {X:Cx} {x:Str} {px:Pos} {iter elt:Expr} {ifs:List Expr} {scope sc:Scope} {pos:Pos} {N:List Str} {fr:List (Nat×Str)} {wi:TI} {tt:TT} {te:TE}
 (S:W5 sc scope N x fr) (hsc:X.env.scope=sc) (hN:X.N=N) (hc:X.calm=true) (hi:PI X (.Name x px) iter wi)
 (ht:∀(C:Addr) (s:Shared) (H:Hp) (fp:List Addr),PTs (Z6 X scope C (x :: fr.map (·.2)) s H fp) ifs tt)
 (he:∀(C:Addr) (s:Shared) (H:Hp) (fp:List Addr),PE (Z6 X scope C (x :: fr.map (·.2)) s H fp) elt te)
 (hs:∀z,foldedSetIterable iter X.env z=pure z:=by intro _;rfl) :
 PE X (.ListComp elt [⟨.Name x px,iter,ifs,0⟩] scope pos) (QeL wi fr tt te):=by
 intro pins s σ H Q I h
 rw [eval_ListComp]
 refine QbQ (use:=none) S hsc hN hc hi ht he hs I h fun D C H' s' m J hn fc q=>?_
 exact ⟨m,hn,fun h' hs'=>⟨.ref D,H',J.turned (t':=s'.toks) (fun b o hb e=>(hs'.2 b hb).trans e) fc.hn fc.hL fc.h1 fc.h2 fc.h3,rfl,q⟩⟩
theorem UE {X:Cx} {x y:Str} {px py spos:Pos} {i:Nat} {iter elt:Expr} {ifs:List Expr} {scope sc:Scope} {pos:Pos} {N:List Str} {fr:List (Nat×Str)} {wi:TI} {tt:TT} {te:TE}
 (S:W5 sc scope N x fr) (hsc:X.env.scope=sc) (hN:X.N=N) (hc:X.calm=true) (hnd:X.N.Nodup) (hiy:X.N[i]?=some y) (hy:X.env.scope.names.lookup y=some .local) (hi:PI X (.Name x px) iter wi)
 (ht:∀(C:Addr) (s:Shared) (H:Hp) (fp:List Addr),PTs (Z6 X scope C (x :: fr.map (·.2)) s H fp) ifs tt)
 (he:∀(C:Addr) (s:Shared) (H:Hp) (fp:List Addr),PE (Z6 X scope C (x :: fr.map (·.2)) s H fp) elt te)
 (hs:∀z,foldedSetIterable iter X.env z=pure z:=by intro _;rfl)
 (hsw:swapsWith (.ListComp elt [⟨.Name x px,iter,ifs,0⟩] scope pos) (some (.Name y py)) spos.line X.env=pure true:=by rfl) :
 PS X (.Assign [.Name y py] (.ListComp elt [⟨.Name x px,iter,ifs,0⟩] scope pos) spos) (QeN (QeL wi fr tt te) (Wr i)):=by
 intro pins s σ H D0 I h
 rw [exec_Assign_Name_used _ _ _ _ hsw]
 refine wpAny_bind (wpAny_standAt (wpAny_bind ?_))
 show wpAny _ X.A (do let _ ←comprehension (.ListComp elt [⟨.Name x px,iter,ifs,0⟩] scope pos) scope X.env _ (newList []) false (eval iter X.env) (some (assign (.Name y py) X.env))) _ _ s
 refine wpAny_bind (thn (QbQ (use:=some (assign (.Name y py) X.env)) (Q':=fun _ s'=>SP X pins D0 .next s') S hsc hN hc hi ht he hs I h fun D C H' s' m J hn fc q=>?_) fun _ s' hq=>wpAny_pure (wpAny_pure hq))
 show wpAny _ _ (assign (.Name y py) X.env (.ref D)) _ _ s'
 refine wpAny_assign_Name (WG J hnd hiy (.inl hy) (v:=.ref D) rfl (fun s5 J5 hs5=>?_) (.inr hy))
 obtain ⟨a,sb,ha⟩:=hs5
 have hCa:C≠a:=by
  rcases ha with z | z
  ·rw [z];exact fc.hL
  ·exact Ne.symm (fc.h2 _ _ z)
 refine ⟨m,hn.sameBut sb hCa,fun h' hs'=>⟨_,H',J5.turned (t':=s5.toks) (fun b o hb e=>(hs'.2 b hb).trans e) fc.hn fc.hL fc.h1 fc.h2 fc.h3,q⟩⟩
theorem Qeu {bs:List Bool}:(List.range bs.length).all (fun i=>bs.getD i true)=bs.all id:=by
 rw [Bool.eq_iff_iff,List.all_eq_true,List.all_eq_true]
 constructor
 ·intro h b hb
  obtain ⟨i,hi,e⟩:=List.mem_iff_getElem.mp hb
  have q:=h i (List.mem_range.mpr hi)
  simp only [List.getD_eq_getElem?_getD,List.getElem?_eq_getElem hi,Option.getD_some] at q
  rw [←e];exact q
 ·intro h i hi
  have hi':=List.mem_range.mp hi
  simp only [List.getD_eq_getElem?_getD,List.getElem?_eq_getElem hi',Option.getD_some]
  exact h _ (List.getElem_mem hi')
theorem QgD {X:Cx} (hc:X.calm=true):JA X (.builtin "all") (fun xs H Q=>∃(p:Addr) (bs:List Bool),xs=[.ref p]∧SqL X.K H p (bs.map V.bl)∧Q (.bl (bs.all id)) H):=by
 intro pins s σ H xs us Q I r h
 obtain ⟨p,bs,rfl,hq,q⟩:=h
 obtain ⟨u,rfl,rx⟩:=JV r
 cases rx
 obtain ⟨its,rv,pl,hz⟩:=I.list hq
 have hlen:=rv.length
 rw [List.length_map] at hlen
 have hpl:p<s.heap.objs.size:=by obtain ⟨o,e,_⟩:=pl.isList;exact Heap.lt_size e
 refine call_all_walk (wpAny_pyIter_list pl.isList ?_)
 refine ⟨s.heap.objs.size,_,[s.heap.objs.size],its.toArray.size,_,_,fun i=>bs.getD i true,rfl,Walks.list (A:=X.A.in1) (I.ok.hd hc) s.heap.objs.size p (Nat.ne_of_lt hpl) its.toArray,⟨⟨_,Heap.get?_push_size _ rfl,rfl,rfl⟩,pl.isList.push _⟩,?_,?_⟩
 ·intro i v s' Q' E' hv hq'
  have hv':its[i]?=some v:=by simpa using hv
  have hi:i<its.length:=(List.getElem?_eq_some_iff.mp hv').1
  have hb:(bs.map V.bl)[i]?=some (V.bl (bs.getD i true)):=by
   rw [List.getElem?_map,List.getElem?_eq_getElem (by omega)]
   simp [List.getD_eq_getElem?_getD,List.getElem?_eq_getElem (show i<bs.length by omega)]
  obtain ⟨u,e1,e2⟩:=rv.get hb
  rw [hv'] at e1
  cases e1
  cases e2
  exact wpAny_truthy_bool hq'
 ·intro h' tk hk
  have hsz:its.toArray.size=bs.length:=by rw [List.size_toArray];exact hlen.symm
  rw [hsz,Qeu]
  exact ⟨.bl (bs.all id),H,I.kept (t':=tk) fun b o e=>hk b o (fun z=>absurd (Heap.lt_size e) (by rw [List.mem_singleton.mp z];exact Nat.lt_irrefl _)) (Heap.get?_push_of_some _ e),rfl,q⟩
def clsV:V→Option Value
 | .ty n=>some (.type n)
 | .ref a=>some (.ref a)
 | _=>none
theorem Zn {X:Cx}:JA X (.builtin "isinstance") (fun xs H Q=>∃x c cv t b,xs=[x,c]∧clsV c=some cv∧Yp X.K H x t∧PySem.W.kitOne X.K t cv=some b∧Q (.bl b) H):=by
 intro pins s σ H xs us Q I r h
 obtain ⟨x,c,cv,t,b,rfl,hcv,ty,hk,q⟩:=h
 obtain ⟨u,u',rfl,rx,rc⟩:=QhF r
 have e:u'=cv:=by
  cases c with
  | ty n=>cases hcv;exact rc
  | ref a=>cases hcv;exact rc
  | _=>cases hcv
 subst e
 exact Qed I rx ty hk fun tk=>⟨.bl b,H,I.tok tk,rfl,q⟩
theorem YG {xs:List Str}:∀{us:List Value},QW (xs.map V.str) us→StrsAre us xs:=by
 induction xs with
 | nil=>intro us r;rw [List.map_nil] at r;cases r;exact .nil
 | cons y ys ih =>
   intro us r
   rw [List.map_cons] at r
   cases r with
   | cons r1 r2 =>
     obtain ⟨t,e⟩:=r1
     subst e
     exact .cons y t (ih r2)
inductive Qda (K:PySem.W.Frag) (x:V) (xs:List V) (H:Hp) (Q:VK):Prop
 | mk:∀(sep:Str) (p:Addr) (ys:List Str),x=.str sep→xs=[.ref p]→SqL K H p (ys.map V.str)→(ys.map (·.length)).sum+ys.length*sep.length≤16777216→Q (.str (Txt.join sep ys)) H→Qda K x xs H Q
def rJoin (K:PySem.W.Frag):V→List V→Hp→VK→Prop:=fun x xs H Q=>Qda K x xs H Q
theorem Wp {X:Cx}:MtR X "str.join" (rJoin X.K):=by
 intro pins s σ H x xs v us Q I rx rv h
 obtain ⟨sep,p,ys,rfl,rfl,hq,hz,q⟩:=h
 obtain ⟨t,rfl⟩:=rx
 obtain ⟨u,rfl,ru⟩:=JV rv
 cases ru
 obtain ⟨its,r,pl,_⟩:=I.list hq
 exact join_list pl.isList (by have:=YG r;simpa using this) hz fun t' k=>⟨.str (Txt.join sep ys),H,I.tok k,⟨t',rfl⟩,q⟩
mutual
inductive RD (K:PySem.W.Frag) (H:Hp):V→PyData→Prop
 | non:RD K H .non .none
 | bl (b:Bool):RD K H (.bl b) (.bool b)
 | int (i:Int):RD K H (.int i) (.int i)
 | str (x:Str):RD K H (.str x) (.str x)
 | lst {a:Addr} {xs:List V} {ds:List PyData}:SqL K H a xs→RDs K H xs ds→RD K H (.ref a) (.list ds)
 | tup {a:Addr} {xs:List V} {ds:List PyData}:SqT K H a xs→RDs K H xs ds→RD K H (.ref a) (.tuple ds)
inductive RDs (K:PySem.W.Frag) (H:Hp):List V→List PyData→Prop
 | nil:RDs K H [] []
 | cons {x:V} {xs:List V} {d:PyData} {ds:List PyData}:RD K H x d→RDs K H xs ds→RDs K H (x :: xs) (d :: ds)
end
mutual
theorem RD.reads {X:Cx} {pins:List (Addr×Obj)} {σ:St} {H:Hp} {s:Shared} (I:Inv X pins σ H s):∀{x:V} {d:PyData} {u:Value},RD X.K H x d→QQ x u→∃as,Reads s.heap u d as
 | _,_,_,.non,r=>by cases (show _=Value.none from r);exact ⟨_,.none⟩
 | _,_,_,.bl b,r=>by cases (show _=Value.bool b from r);exact ⟨_,.bool b⟩
 | _,_,_,.int i,r=>by obtain ⟨t,e⟩:=r;subst e;exact ⟨_,.int i t⟩
 | _,_,_,.str x,r=>by obtain ⟨t,e⟩:=r;subst e;exact ⟨_,.str x t⟩
 | _,_,_,.lst (a:=a) hq hs,r=>by
   cases (show _=Value.ref a from r)
   obtain ⟨its,rv,pl,_⟩:=I.list hq
   obtain ⟨as,ra⟩:=RDs.reads I hs rv
   obtain ⟨o,e,c,n,d⟩:=pl.isList
   exact ⟨_,.list e c d (by simpa using ra)⟩
 | _,_,_,.tup (a:=a) hq hs,r=>by
   cases (show _=Value.ref a from r)
   obtain ⟨its,rv,pl,_⟩:=I.tuple hq
   obtain ⟨as,ra⟩:=RDs.reads I hs rv
   obtain ⟨o,e,c,n,d⟩:=pl
   exact ⟨_,.tuple e c d (by simpa using ra)⟩
theorem RDs.reads {X:Cx} {pins:List (Addr×Obj)} {σ:St} {H:Hp} {s:Shared} (I:Inv X pins σ H s):∀{xs:List V} {ds:List PyData} {us:List Value},RDs X.K H xs ds→QW xs us→∃as,ReadsAll s.heap us ds as
 | _,_,_,.nil,r=>by cases r;exact ⟨_,.nil⟩
 | _,_,_,.cons h1 h2,r=>by
   cases r with
   | cons r1 r2 =>
     obtain ⟨as,a1⟩:=RD.reads I h1 r1
     obtain ⟨bs,a2⟩:=RDs.reads I h2 r2
     exact ⟨_,.cons a1 a2⟩
end
inductive Qfr (K:PySem.W.Frag) (x:V) (y:V) (H:Hp) (Q:VK):Prop
 | mk:∀d e,RD K H x d→RD K H y e→SeqAt.shaped d=true→SeqAt.shaped e=true→Q (.bl (PyData.eqv d e)) H→Qfr K x y H Q
def rEqD (K:PySem.W.Frag):R2:=fun x y H Q=>Qfr K x y H Q
inductive Qfl (K:PySem.W.Frag) (x:V) (y:V) (H:Hp) (Q:VK):Prop
 | mk:∀d e,RD K H x d→RD K H y e→SeqAt.shaped d=true→SeqAt.shaped e=true→Q (.bl (!PyData.eqv d e)) H→Qfl K x y H Q
def rNeD (K:PySem.W.Frag):R2:=fun x y H Q=>Qfl K x y H Q
theorem QfI {X:Cx} (hu:X.A.units+64<cLine):OpR X (compareOp .Eq) (rEqD X.K):=by
 intro pins s σ H x y v u Q I rx ry h
 obtain ⟨d,e,hd,he,sd,se,q⟩:=h
 obtain ⟨as,ra⟩:=hd.reads I rx
 obtain ⟨bs,rb⟩:=he.reads I ry
 exact eq_dataH ra rb sd se hu ⟨.bl _,H,I,rfl,q⟩
theorem Kh {X:Cx} (hu:X.A.units+64<cLine):OpR X (compareOp .NotEq) (rNeD X.K):=by
 intro pins s σ H x y v u Q I rx ry h
 obtain ⟨d,e,hd,he,sd,se,q⟩:=h
 obtain ⟨as,ra⟩:=hd.reads I rx
 obtain ⟨bs,rb⟩:=he.reads I ry
 exact ne_dataH ra rb sd se hu ⟨.bl _,H,I,rfl,q⟩
theorem QdG {n:Nat} {P:List Value→Prop} (h:∀a us,us.length=n→P (a :: us)):∀us:List Value,us.length=n+1→P us:=fun us e=>by
 cases us with
 | nil=>exact absurd e (Nat.succ_ne_zero n).symm
 | cons a us=>exact h a us (Nat.succ.inj e)
theorem us_0 {P:List Value→Prop} (h:P []):∀us:List Value,us.length=0→P us:=fun us e=>by rw [List.eq_nil_of_length_eq_zero e];exact h
theorem J0 {P:List Value→Prop} (h:∀a,P [a]):∀us:List Value,us.length=1→P us:=QdG fun a=>us_0 (P:=fun us=>P (a :: us)) (h a)
theorem JZ {P:List Value→Prop} (h:∀a b,P [a,b]):∀us:List Value,us.length=2→P us:=QdG fun a=>J0 (P:=fun us=>P (a :: us)) (fun b=>h a b)
theorem Uk {P:List Value→Prop} (h:∀a b c,P [a,b,c]):∀us:List Value,us.length=3→P us:=QdG fun a=>JZ (P:=fun us=>P (a :: us)) (fun b c=>h a b c)
theorem us_4 {P:List Value→Prop} (h:∀a b c d,P [a,b,c,d]):∀us:List Value,us.length=4→P us:=QdG fun a=>Uk (P:=fun us=>P (a :: us)) (fun b c d=>h a b c d)
theorem us_5 {P:List Value→Prop} (h:∀a b c d e,P [a,b,c,d,e]):∀us:List Value,us.length=5→P us:=QdG fun a=>us_4 (P:=fun us=>P (a :: us)) (fun b c d e=>h a b c d e)
theorem us_6 {P:List Value→Prop} (h:∀a b c d e f,P [a,b,c,d,e,f]):∀us:List Value,us.length=6→P us:=QdG fun a=>us_5 (P:=fun us=>P (a :: us)) (fun b c d e f=>h a b c d e f)
end L2
namespace L2
open PySem PySem.Spec PyProof.Rows
theorem ZB {α:Type} {xs:List α} {i:Int} (h0:0≤i) (h1:i<(xs.length:Int)):∃v,atI xs i=some v∧v∈xs∧xs[i.toNat]?=some v:=by
 have hn:i.toNat<xs.length:=by omega
 refine ⟨xs[i.toNat],?_,List.getElem_mem hn,List.getElem?_eq_getElem hn⟩
 have e:((i.toNat:Nat):Int)=i:=by omega
 have q:=Wy (xs:=xs) (j:=i.toNat) (List.getElem?_eq_getElem hn)
 rw [e] at q
 exact q
theorem QbB {ns:List Int} {v:V} (h:v∈ns.map V.int):∃z,v=.int z∧z∈ns:=by
 obtain ⟨z,hz,e⟩:=List.mem_map.mp h
 exact ⟨z,e.symm,hz⟩
theorem Qm.upd_new {H:Hp} {p:Addr} {o:HO} (h:H p=none):Qm H (upd H p o):=fun b u e=>by rw [Qk (Qu e h)];exact e
theorem Qm.upd_of {H H':Hp} {p:Addr} {o:HO} (s:Qm H H') (h:H p=none):Qm H (upd H' p o):=fun b u e=>by rw [Qk (Qu e h)];exact s b u e
theorem Qm.tup {K:PySem.W.Frag} {H H':Hp} {a:Addr} {xs:List V} (e:Qm H H') (h:SqT K H a xs):SqT K H' a xs:=by
 rcases h with (h | ⟨o,h⟩) | h
 ·exact .inl (.inl (e _ _ h))
 ·exact .inl (.inr ⟨o,e _ _ h⟩)
 ·exact .inr h
theorem Xa {X:Cx} {x:Str} {v:V} {pos:Pos} (hg:Gl X x) (h:∃u,X.mg x=some u∧QQ v u) (hd:(x == ("__debug__":Str))=false:=by decide):PE X (.Name x pos) (tC v):=by
 obtain ⟨u,hm,r⟩:=h
 exact Qdf hg hm r hd
theorem Qhp {X:Cx} (K:PySem.W.Frag) (hK:X.K=K:=by rfl):IxR X (rIxT K):=hK▸Qs
theorem Qfb {X:Cx} (K:PySem.W.Frag) (hK:X.K=K:=by rfl):SlR X (rSlL K):=hK▸XE
section
variable {X : Cx} {o e : Expr} {es : List Expr} {to : TE} {t : TA} {name : Str} {apos cpos : Pos} {T id : String} {r : V → List V → Hp → VK → Prop}
theorem Qhb (K:PySem.W.Frag) (pa:PlainAttrs T) (slot:Slot T name id) (hty:typeOf (.builtin id)=pure (.type "method_descriptor")) (hm:MtR X id r) (ho:PE X o to) (hK:X.K=K:=by rfl)
 (hbase:attributeBase o name X.env (eval o X.env)=eval o X.env:=by rfl) (hline:(apos.endLine == cpos.line)=true:=by rfl):PE X (.Call (.Attribute o name apos) [] [] cpos) (tBM0 K T r to) :=
 hK▸Kf pa slot hty hm ho hbase hline
end
def Qcn:Expr→Bool
 | .Starred ..=>false
 | _=>true
theorem XR {e:Expr} {es:List Expr} {env:Env} (h:Qcn e=true):starEach (e :: es) env=(false,eval e env) :: starEach es env:=by
 cases e <;> first | rfl | (cases h)
theorem pac {X:Cx} {e:Expr} {es:List Expr} {te:TE} {t:TA} (ha:PE X e te) (hr:PA X es t) (h:Qcn e=true:=by rfl):PA X (e :: es) (QeK te t):=Qhc ha hr (XR h)
structure PAs (X:Cx) (es:List Expr) (t:TA):Prop where
 h:PA X es t
theorem Qq {X:Cx}:PAs X [] tNil:=⟨Qf⟩
theorem Qc {X:Cx} {e:Expr} {es:List Expr} {te:TE} {t:TA} (ha:PE X e te) (hr:PAs X es t) (h:Qcn e=true:=by rfl):PAs X (e :: es) (QeK te t):=⟨pac ha hr.h h⟩
theorem UF {X:Cx} {es:List Expr} {t:TA} {pos:Pos} (h:PAs X es t):PE X (.List es pos) (tLst t):=QfB h.h
theorem Qal {X:Cx} {es:List Expr} {t:TA} {x1:Nat} {pos:Pos} (h:PAs X es t):PE X (.Tuple es x1 pos) (tTup t):=Qit h.h
structure QE (X:Cx) (e:Expr) (t:TE):Prop where
 h:PE X e t
structure QS (X:Cx) (st:Stmt) (t:TS):Prop where
 h:PS X st t
structure QSs (X:Cx) (st:List Stmt) (t:TS):Prop where
 h:PSs X st t
theorem Qfu {X:Cx} {es:List Expr} {t:TA} {pos:Pos} (h:PAs X es t):QE X (.List es pos) (tLst t):=⟨QfB h.h⟩
theorem qs_of {X:Cx} {st:Stmt} {t:TS} (h:PS X st t):QS X st t:=⟨h⟩
theorem Qft {X:Cx} {i:Nat} {x:Str} {e:Expr} {te:TE} {pos pos':Pos} (hN:X.N.Nodup) (hi:X.N[i]?=some x) (hx:Loc X.env.scope x) (he:QE X e te) (hs:swapsWith e (some (.Name x pos')) pos.line X.env=pure false:=by rfl) (hf:X.fn x=true∨X.env.scope.names.lookup x=some .local:=by first | exact .inl rfl | exact .inr rfl | assumption) :
 QS X (.Assign [.Name x pos'] e pos) (QeN te (Wr i)):=⟨Qv hN hi hx he.h hs hf⟩
theorem qs_if {X:Cx} {c:Expr} {a b:List Stmt} {tc:TT} {t u:TS} {pos:Pos} (hc:PT X c tc) (ha:QSs X a t) (hb:PSs X b u):QS X (.If c a b pos) (tIfS tc t u):=⟨QK hc ha.h hb⟩
theorem X9 {X:Cx} {st:Stmt} {rest:List Stmt} {t u:TS} (h1:QS X st t) (h2:QSs X rest u):QSs X (st :: rest) (Qb8 t u):=⟨Qb h1.h h2.h⟩
theorem Qg6 {X:Cx} {st:Stmt} {t:TS} (h1:QS X st t):QSs X [st] t:=⟨Qd h1.h⟩
theorem QbP {x:Str} {fr:List (Nat×Str)} {te:TE} {σ:St} {H1:Hp} {Q:VK} (f:Nat→V) (hz:x.cps.size≤sizeLine)
 (hte:∀(c:Nat) (H3:Hp) (Q':VK),c∈x.cps.toList→Q' (f c) H3→te (some (.str ⟨#[c]⟩) :: frV σ fr) H3 Q')
 (hQ:∀D,H1 D=none→Q (.ref D) (upd H1 D (.lst (x.cps.toList.map f)))) :
 Jg (Its x) fr W7 te σ H1 Q:=by
 unfold Jg
 intro D hD
 refine ⟨fun i m ys H2=>m=x.cps.size - i∧i≤x.cps.size∧ys=(x.cps.toList.take i).map f∧H2=upd H1 D (.lst ys),⟨x.cps.size,by simp,Nat.zero_le _,by simp,rfl⟩,?_⟩
 rintro i m ys H2 ⟨rfl,hi,rfl,rfl⟩
 refine ⟨Qh,?_⟩
 by_cases hlt:i<x.cps.size
 ·refine .inr ⟨hlt,?_⟩
  rintro v H3 ⟨rfl,c,hc,rfl⟩
  refine UT (Zc ?_)
  have hcl:x.cps.toList[i]?=some c:=by simpa using hc
  refine hte c _ _ (List.mem_of_getElem? hcl) ⟨Qh,?_,x.cps.size - (i+1),by omega,rfl,hlt,?_,G4⟩
  ·rw [List.length_map,List.length_take]
   simp only [Array.length_toList]
   omega
  ·rw [List.take_add_one,hcl]
   simp
 ·have e:i=x.cps.size:=by omega
  subst e
  have e2:x.cps.toList.take x.cps.size=x.cps.toList:=List.take_of_length_le (by simp)
  refine .inl ⟨rfl,?_⟩
  rw [e2]
  exact hQ D hD
theorem XN {α:Type} (g:α→Nat):∀(l:List α),(∀x∈l,g x=1)→(l.map g).sum=l.length
 | [],_=>rfl
 | a :: r,h=>by
   rw [List.map_cons,List.sum_cons,h a List.mem_cons_self,XN g r fun x hx=>h x (List.mem_cons_of_mem _ hx),List.length_cons]
   omega
theorem Jn (x y:Str):(x++y).length=x.length+y.length:=by
 show (x.cps++y.cps).size=_
 rw [Array.size_append];rfl
theorem Qdk (c:Nat):(⟨#[c]⟩:Str).length=1:=rfl
end L2
namespace L2
open PySem PySem.Spec PyProof.Rows
def Asc (x:Str):Prop:=∀c∈x.cps.toList,c<128
theorem Asc.ok {x:Str} (h:Asc x):PyData.strOk x=true:=by
 unfold PyData.strOk
 rw [Array.all_eq_true']
 intro c hc
 have:=h c (Array.mem_toList_iff.mpr hc)
 exact decide_eq_true (by omega)
theorem Asc.one {x:Str} {c:Nat} (h:Asc x) (hc:c∈x.cps.toList):Asc ⟨#[c]⟩:=fun d hd=>by
 have:d=c:=by simpa using hd
 rw [this];exact h c hc
inductive Qa4 (x:V) (xs:List V) (H:Hp) (Q:VK):Prop
 | mk:∀y,x=.str y→xs=[]→Asc y→y.length≤1000000→Q (.str ⟨y.cps.map up1⟩) H→Qa4 x xs H Q
def Qip:V→List V→Hp→VK→Prop:=fun x xs H Q=>Qa4 x xs H Q
theorem Qf7 {X:Cx}:MtR X "str.upper" Qip:=by
 intro pins s σ H x xs v us Q I rx rv h
 obtain ⟨y,rfl,rfl,ha,hz,q⟩:=h
 obtain ⟨t,rfl⟩:=rx
 cases rv
 refine SCL.upper (by omega) fun _=>?_
 rw [upper_ascii ha]
 exact ⟨.str _,H,I.tok _,⟨_,rfl⟩,q⟩
inductive Qa5 (x:V) (xs:List V) (H:Hp) (Q:VK):Prop
 | mk:∀y,x=.str y→xs=[]→Asc y→y.length≤1000000→Q (.str ⟨y.cps.map lo1⟩) H→Qa5 x xs H Q
def Qiq:V→List V→Hp→VK→Prop:=fun x xs H Q=>Qa5 x xs H Q
theorem Qbx {X:Cx}:MtR X "str.lower" Qiq:=by
 intro pins s σ H x xs v us Q I rx rv h
 obtain ⟨y,rfl,rfl,ha,hz,q⟩:=h
 obtain ⟨t,rfl⟩:=rx
 cases rv
 refine SCL.lower (by omega) fun _=>?_
 rw [lower_ascii ha]
 exact ⟨.str _,H,I.tok _,⟨_,rfl⟩,q⟩
theorem W6:∀{xs:List V} {us:List Value},xs.length=us.length→(∀(j:Nat) (x:V) (u:Value),xs[j]?=some x→us[j]?=some u→QQ x u)→QW xs us
 | [],[],_,_=>.nil
 | [],_ :: _,h,_=>by cases h
 | _ :: _,[],h,_=>by cases h
 | x :: xs,u :: us,hl,hg=>.cons (hg 0 x u rfl rfl) (W6 (by simpa using hl) fun j y w h1 h2=>hg (j+1) y w (by simpa using h1) (by simpa using h2))
theorem KV.at {κ:Type}:∀{kvs:List (κ×V)} {vs:List (κ×Value)} {j:Nat} {p:κ×V} {q:κ×Value},KV kvs vs→kvs[j]?=some p→vs[j]?=some q→p.1=q.1
 | _,_,_,_,_,.nil,h,_=>by simp at h
 | _,_,0,_,_,.cons r _,h1,h2=>by
   simp only [List.getElem?_cons_zero,Option.some.injEq] at h1 h2
   subst h1 h2
   exact r.1
 | _,_,j+1,_,_,.cons _ t,h1,h2=>KV.at (j:=j) (show KV _ _ from t) (by simpa using h1) (by simpa using h2)
theorem KM {X:Cx} (hc:X.calm=true):JA X (.type "list") (fun xs H Q=>∃p kvs,xs=[.ref p]∧H p=some (.dK kvs)∧∀l,H l=none→Q (.ref l) (upd H l (.lst (kvs.map fun kv=>kV kv.1)))):=by
 intro pins s σ H xs us Q I r h
 obtain ⟨p,kvs,rfl,hp,q⟩:=h
 obtain ⟨u,rfl,rx⟩:=JV r
 cases rx
 obtain ⟨hz,hlo,vs,rv,o,es,ep,h1,h2,h3,h4,h5,h6⟩:=GQ I.hok hp
 have da:s.heap.DictAt (Za X.prog X.w) p vs ep:=⟨o,es,h1,h2,h3,h4,h5,h6⟩
 have hlen:kvs.length=vs.length:=KV.length rv
 refine PySem.W.kdl_call (PySem.W.kdl_dict hlo) (I.ok.hd hc) da (by rw [←hlen];exact hz) fun h' tk acc' c' hk hS hacc=>?_
 have hv:QW (kvs.map fun kv=>kV kv.1) acc'.toList:=by
  refine W6 (by rw [List.length_map,hlen];exact hacc.1.symm.trans (by simp)) fun j x u e1 e2=>?_
  rw [List.getElem?_map] at e1
  cases hj:kvs[j]? with
  | none=>rw [hj] at e1;cases e1
  | some kv =>
    rw [hj] at e1
    cases e1
    obtain ⟨k,y,e3,e4⟩:=hacc.2 j u (by rw [←Array.getElem?_toList];exact e2)
    have ek:kv.1=k:=KV.at rv hj e3
    show QQ (kV kv.1) u
    rw [ek]
    rcases Zm (show KB k u=true from e4) with ⟨i,t,rfl,rfl⟩ | ⟨z,t,rfl,rfl⟩
    ·exact ⟨t,rfl⟩
    ·exact ⟨t,rfl⟩
 exact ⟨.ref s.heap.objs.size,_,I.laid (t':=tk) hk (Nat.le_refl _) (show Zi X.prog X.w _ h' _ (.lst _) from ⟨by rw [List.length_map];exact hz,acc'.toList,c',hv,by rw [Array.toArray_toList];exact hS⟩),rfl,q _ (I.hok.fresh (Nat.le_refl _))⟩
theorem YE:∀l:List (Str×Tok),QW ((l.map (·.1)).map V.str) (strValues l)
 | []=>.nil
 | p :: r=>.cons ⟨p.2,rfl⟩ (YE r)
inductive Go (x:V) (xs:List V) (H:Hp) (Q:VK):Prop
 | mk:∀y,x=.str y→xs=[]→y.length≤1000000→(∀l,H l=none→Q (.ref l) (upd H l (.lst ((Txt.words y).map V.str))))→Go x xs H Q
def Qg2:V→List V→Hp→VK→Prop:=fun x xs H Q=>Go x xs H Q
end L2
namespace L2
open PySem PySem.Spec PyProof.Rows
theorem Ur {K:PySem.W.Frag} {H:Hp}:∀xs:List Str,RDs K H (xs.map V.str) (xs.map PyData.str)
 | []=>.nil
 | x :: r=>.cons (.str x) (Ur r)
theorem XF {K:PySem.W.Frag} {H:Hp} {a:Addr} {xs:List Str} (h:SqL K H a (xs.map V.str)):RD K H (.ref a) (.list (xs.map PyData.str)):=.lst h (Ur xs)
theorem Vg:∀{xs:List Str},(∀x∈xs,Asc x)→PyData.canLayAll0 (xs.map PyData.str)=true∧PyData.depthAll (xs.map PyData.str)=0
 | [],_=>⟨rfl,rfl⟩
 | x :: r,h=>by
   have q:=Vg (xs:=r) fun y hy=>h y (List.mem_cons_of_mem _ hy)
   have e:=(h x List.mem_cons_self).ok
   simp only [List.map_cons,PyData.canLayAll0,PyData.canLay0,PyData.depthAll,PyData.depth,q.1,q.2,e]
   exact ⟨rfl,rfl⟩
theorem Xh:∀xs ys:List Str,PyData.eqvAll (xs.map PyData.str) (ys.map PyData.str)=decide (xs=ys)
 | [],[]=>by simp [PyData.eqvAll]
 | [],_ :: _=>by simp [PyData.eqvAll]
 | _ :: _,[]=>by simp [PyData.eqvAll]
 | x :: r,y :: t=>by
   simp only [List.map_cons,PyData.eqvAll,PyData.eqv,Xh r t]
   by_cases h:x=y <;> by_cases h':r=t <;> simp [h,h']
def Jf (acc:List Str) (t:Str):List Str:=if t∈acc then acc else acc++[t]
def Wi (xs:List Str):List Str:=xs.foldl Jf []
theorem Gx (xs:List Str) (t:Str):Wi (xs++[t])=Jf (Wi xs) t:=by
 unfold Wi;rw [List.foldl_append];rfl
theorem VE:∀(xs acc:List Str),(xs.foldl Jf acc).length≤acc.length+xs.length
 | [],acc=>Nat.le_refl _
 | t :: r,acc=>by
   rw [List.foldl_cons]
   refine Nat.le_trans (VE r _) ?_
   unfold Jf
   split
   ·rw [List.length_cons];omega
   ·rw [List.length_append,List.length_singleton,List.length_cons];omega
theorem QfK (xs:List Str):(Wi xs).length≤xs.length:=by
 have:=VE xs []
 rw [List.length_nil,Nat.zero_add] at this
 exact this
theorem VD:∀(xs acc:List Str) {t:Str},t∈xs.foldl Jf acc→t∈acc∨t∈xs
 | [],acc,t,h=>.inl h
 | u :: r,acc,t,h=>by
   rw [List.foldl_cons] at h
   rcases VD r _ h with z | z
   ·unfold Jf at z
    split at z
    ·exact .inl z
    ·rcases List.mem_append.mp z with y | y
     ·exact .inl y
     ·exact .inr (by rw [List.mem_singleton.mp y];exact List.mem_cons_self)
   ·exact .inr (List.mem_cons_of_mem _ z)
theorem Qbb {xs:List Str} {t:Str} (h:t∈Wi xs):t∈xs:=by
 rcases VD xs [] h with z | z
 ·exact nomatch z
 ·exact z
theorem Y3 {xs:List Str} {t:Str}:inV (.str t) (xs.map V.str)=decide (t∈xs):=by
 unfold inV
 rw [List.any_map,Bool.eq_iff_iff,List.any_eq_true,decide_eq_true_eq]
 constructor
 ·rintro ⟨x,hx,e⟩
  have:x=t:=eq_of_beq (show (x == t)=true from e)
  rw [←this];exact hx
 ·intro h
  exact ⟨t,h,show (t == t)=true from beq_self_eq_true t⟩
theorem Ye (xs:List Str):(xs.map V.str).all Ws=true:=by
 rw [List.all_map,List.all_eq_true];intro x _;rfl
theorem QbM {α:Type} (f:α→V) (xs:List α) (x:α):Yo ((xs++[x]).map f) none (some (-1))=xs.map f:=by
 have h1:(-1:Int)<0:=by decide
 simp only [Yo,HT.sIx,if_pos h1,List.drop_zero,List.length_map,List.length_append,List.length_singleton,Nat.sub_zero,←List.map_take]
 congr 1
 have e:(-1+((xs.length+1:Nat):Int)).toNat=xs.length:=by omega
 rw [e,List.take_left]
end L2
namespace L2
open PySem PySem.Spec PyProof.Rows
abbrev aZ:Str:="abcdefghijklmnopqrstuvwxyz0123456789"
theorem QgK:aZ.cps.toList.length=36:=by decide +kernel
theorem QiW:Asc aZ:=by
 have h:(aZ.cps.toList.all fun c=>decide (c<128))=true:=by decide +kernel
 intro c hc
 exact of_decide_eq_true (List.all_eq_true.mp h c hc)
theorem QgJ:aZ.length≤sizeLine:=by
 have:aZ.length=36:=by decide +kernel
 rw [this];decide
structure Q4 (x:Str):Prop where
 lo:1≤x.length
 hi:x.length≤20
 in_:∀c∈x.cps.toList,c∈aZ.cps.toList
theorem Q4.asc {x:Str} (h:Q4 x):Asc x:=fun c hc=>QiW c (h.in_ c hc)
theorem QhZ (ys:List Str):(Txt.join "" ys).cps.toList=(ys.map (·.cps.toList)).flatten:=by
 have key:∀(r:List Str) (acc:Array Nat),(r.foldl (fun acc p=>acc++("":Str).cps++p.cps) acc).toList=acc.toList++(r.map (·.cps.toList)).flatten:=by
  intro r
  induction r with
  | nil=>intro acc;simp
  | cons y r ih =>
    intro acc
    rw [List.foldl_cons,ih,List.map_cons,List.flatten_cons]
    have e:("":Str).cps=#[]:=by decide +kernel
    rw [e]
    simp
 cases ys with
 | nil=>rfl
 | cons y r=>exact (key r y.cps).trans (by rw [List.map_cons,List.flatten_cons])
theorem Y2 (x:Str):x.length=x.cps.toList.length:=by simp [Str.length]
theorem Qea {ys:List Str} (h:∀y∈ys,y.length=1):(Txt.join "" ys).length=ys.length:=by
 rw [Y2,QhZ,List.length_flatten,List.map_map]
 exact XN _ _ fun y hy=>by
  have:=h y hy
  rw [Y2] at this
  exact this
theorem QgA (x y:Str):(x++y).cps.toList=x.cps.toList++y.cps.toList:=by show (x.cps++y.cps).toList=_;simp
theorem GN:("":Str).length=0:=by decide +kernel
theorem Qgg {ys:List Str} (h:∀y∈ys,y.length=1) (hl:ys.length≤100000):(ys.map (·.length)).sum+ys.length*("":Str).length≤16777216:=by
 rw [XN _ _ h,GN];omega
theorem Vq {z:Str} {i:Int} (h0:0≤i) (h1:i<(z.cps.toList.length:Int)):∃c,atI z.cps.toList i=some c∧c∈z.cps.toList:=by
 obtain ⟨c,a,b,_⟩:=ZB h0 h1
 exact ⟨c,a,b⟩
end L2
namespace L2
open PySem PySem.Spec PyProof.Rows
theorem big1:1000002≤sizeLine:=by decide
theorem Qd2 {X:Cx}:MtR X "str.split" Qg2:=by
 intro pins s σ H x xs v us Q I rx rv h
 obtain ⟨y,rfl,rfl,hz,q⟩:=h
 obtain ⟨t,rfl⟩:=rx
 cases rv
 have hb:=big1
 have e1:=(StrLaws.sw_weight y).1
 have e2:=StrLaws.len_le_wsum (Builtin.Str.spaceWords y (y.length+1))
 have hn:(Builtin.Str.spaceWords y (y.length+1)).length≤sizeLine:=by omega
 have hnw:(Builtin.Str.spaceWords y (y.length+1)).length≤y.length+1:=by omega
 refine call_meets F.slot_str_split (typeIs_str _ _ _) F.entry_str_split (F.args_str_split_1 _) (meets_str_split_space y t (by omega) hn) ?_
 cases hw:Builtin.Str.spaceWords y (y.length+1) == [(0,y.length)]
 ·simp only [Bool.false_eq_true,if_false]
  rw [strsFrom_eq]
  have et:(numbered s.toks (wordsOf y)).map (·.1)=Txt.words y:=(numbered_texts _ _).trans (if_neg (ne_true_of_eq_false hw)).symm
  have hl:(Txt.words y).length≤sizeLine:=by
   rw [←et,numbered_texts]
   show (List.map _ _).length≤_
   rw [List.length_map]
   exact hn
  have hv:=YE (numbered s.toks (wordsOf y))
  rw [et] at hv
  exact ⟨.ref s.heap.objs.size,_,I.lnew hv (by rw [List.length_map];exact hl),rfl,q _ I.fresh⟩
 ·simp only [if_true]
  have et:([(y,t)]:List (Str×Tok)).map (·.1)=Txt.words y:=(if_pos hw).symm
  have hv:=YE [(y,t)]
  rw [et] at hv
  exact ⟨.ref s.heap.objs.size,_,I.lnew (t':=s.toks) hv (by rw [List.length_map,←et];show 1≤sizeLine;decide),rfl,q _ I.fresh⟩
abbrev rS:Str:="abcdefghijklmnopqrstuvwxyzABCDEFGHIJKLMNOPQRSTUVWXYZ0123456789"
def Qff (c:Nat):Bool:=decide (c∈rS.cps.toList)
def gS (c:Nat):Nat:=if Qff c=true then lo1 c else 32
theorem Qa2:(rS.cps.toList.all fun c=>!Unicode.isSpace (lo1 c))=true:=by decide +kernel
theorem QbY:Unicode.isSpace 32=true:=by decide +kernel
def wst (st:List Str×Str) (c:Nat):List Str×Str:=if Qff c=true then (st.1,st.2++⟨#[lo1 c]⟩) else (st.1++[st.2],Str.empty)
def wsc (l:List Nat):List Str×Str:=l.foldl wst ([],Str.empty)
def Vi (w:Str):Bool:=!(w == Str.empty)
def wds (x:Str):List Str:=((wsc x.cps.toList).1++[(wsc x.cps.toList).2]).filter Vi
theorem Vt (w:Str):(w.length=0)↔w=Str.empty:=⟨KWd.len0,fun h=>by rw [h];rfl⟩
theorem QaZ:∀(l:List Nat) (st q:List Str×Str),q.2=st.2→q.1=st.1.filter Vi→((l.map gS).foldl KWd.step q).2=(l.foldl wst st).2∧((l.map gS).foldl KWd.step q).1=(l.foldl wst st).1.filter Vi
 | [],st,q,h2,h1=>⟨h2,h1⟩
 | c :: l,st,q,h2,h1=>by
   rw [List.map_cons,List.foldl_cons,List.foldl_cons]
   refine QaZ l _ _ ?_ ?_
   all_goals
    unfold KWd.step wst gS
    cases hr:Qff c
    ·simp only [Bool.false_eq_true,if_false,QbY,if_true]
     by_cases he:q.2.length=0
     ·rw [if_pos he]
      have e:=(Vt _).mp he
      first
      | exact e
      | (rw [h1,List.filter_append,←h2,e];simp [Vi])
     ·have e:Vi q.2=true:=by
       unfold Vi
       rw [Bool.not_eq_true',beq_eq_false_iff_ne]
       exact fun z=>he ((Vt _).mpr z)
      first
      | (rw [if_neg he];done)
      | (rw [if_neg he,h1,List.filter_append,←h2];simp [e])
    ·have hs:Unicode.isSpace (lo1 c)=false:=by
      have:=List.all_eq_true.mp Qa2 c (of_decide_eq_true hr)
      simpa using this
     simp only [if_true,hs,Bool.false_eq_true,if_false]
     first
     | exact h1
     | rw [h2]
theorem QdD {x y:Str} (h:y.cps.toList=x.cps.toList.map gS):Txt.words y=wds x:=by
 rw [KWd.words_scan]
 have q:=QaZ x.cps.toList ([],Str.empty) ([],Str.empty) rfl rfl
 unfold KWd.fin KWd.scan wds wsc
 rw [h,List.filter_append,q.1,q.2]
 by_cases he:(List.foldl wst ([],Str.empty) x.cps.toList).2.length=0
 ·rw [if_pos he]
  have e:=(Vt _).mp he
  rw [e]
  simp [Vi]
 ·rw [if_neg he]
  have e:Vi (List.foldl wst ([],Str.empty) x.cps.toList).2=true:=by
   unfold Vi
   rw [Bool.not_eq_true',beq_eq_false_iff_ne]
   exact fun z=>he ((Vt _).mpr z)
  rw [List.filter_cons,e]
  simp
end L2
namespace L2
open PySem PySem.Spec PyProof.Rows
theorem qe_op {X:Cx} {a b:Expr} {ta tb:TE} {pos:Pos} {op:Operator} {r:R2} (ho:OpR X (binaryOp op) r) (ha:PE X a ta) (hb:QE X b tb):QE X (.BinOp a op b pos) (tOp r ta tb):=⟨Ql ho ha hb.h⟩
theorem Qir {X:Cx} {st:List Stmt} {t:TS} (h:PSs X st t):QSs X st t:=⟨h⟩
theorem QhB {α β:Type} (f:α→β) (xs:List α) (i:Int):atI (xs.map f) i=(atI xs i).map f:=by
 unfold atI
 rw [List.length_map]
 cases ixN xs.length i with
 | none=>rfl
 | some j=>simp
abbrev abS:Str:="abcde1"
theorem QgI:abS.cps.toList.length=6:=by decide +kernel
theorem QgH:abS.length≤sizeLine:=by decide +kernel
def Y0:List Str:=["and","or","not","then","if","thread","to","any","day","stop","place","answers","before","after","word","title","from","in","marked","mark","unmark"]
theorem Qdi:Y0.length=21:=rfl
def ZT (b i:Int) (j:Nat):Nat:=if (j:Int)=b / 4 % 6 then (atI abS.cps.toList i).getD 0 else (atI aZ.cps.toList ((b / 500+7*(j:Int)) % 36)).getD 0
def ZO (b i:Int):Str:=if b % 4=1 then (atI Y0 ((b / 4+5*i) % 21)).getD "" else ⟨((List.range (b / 4 % 6+1+b / 24 % (20 - b / 4 % 6)).toNat).map (ZT b i)).toArray⟩
theorem Qiw:(Y0.all fun w=>decide (1≤w.length) && decide (w.length≤20) && w.cps.toList.all fun c=>decide (c∈aZ.cps.toList))=true:=by decide +kernel
theorem ab_ok:(abS.cps.toList.all fun c=>decide (c∈aZ.cps.toList))=true:=by decide +kernel
theorem JY {b i:Int} (hi0:0≤i) (hi1:i<6):Q4 (ZO b i):=by
 unfold ZO
 split
 ·obtain ⟨v,hv,hvm,_⟩:=ZB (xs:=Y0) (i:=(b / 4+5*i) % 21) (Int.emod_nonneg _ (by decide)) (by rw [Qdi];exact Int.emod_lt_of_pos _ (by decide))
  rw [hv]
  have q:=List.all_eq_true.mp Qiw v hvm
  rw [Bool.and_eq_true,Bool.and_eq_true] at q
  exact ⟨of_decide_eq_true q.1.1,of_decide_eq_true q.1.2,fun c hc=>of_decide_eq_true (List.all_eq_true.mp q.2 c hc)⟩
 ·have p0:0≤b / 4 % 6:=Int.emod_nonneg _ (by decide)
  have p1:b / 4 % 6<6:=Int.emod_lt_of_pos _ (by decide)
  have q0:0≤b / 24 % (20 - b / 4 % 6):=Int.emod_nonneg _ (by omega)
  have q1:b / 24 % (20 - b / 4 % 6)<20 - b / 4 % 6:=Int.emod_lt_of_pos _ (by omega)
  have hl:(⟨((List.range (b / 4 % 6+1+b / 24 % (20 - b / 4 % 6)).toNat).map (ZT b i)).toArray⟩:Str).length=(b / 4 % 6+1+b / 24 % (20 - b / 4 % 6)).toNat:=by
   rw [Y2,List.toList_toArray,List.length_map,List.length_range]
  refine ⟨by rw [hl];omega,by rw [hl];omega,fun c hc=>?_⟩
  have hc':c∈(List.range (b / 4 % 6+1+b / 24 % (20 - b / 4 % 6)).toNat).map (ZT b i):=hc
  obtain ⟨j,_,rfl⟩:=List.mem_map.mp hc'
  unfold ZT
  split
  ·obtain ⟨c,hc,hcm⟩:=Vq (z:=abS) (i:=i) hi0 (by rw [QgI];exact hi1)
   rw [hc]
   exact of_decide_eq_true (List.all_eq_true.mp ab_ok c hcm)
  ·obtain ⟨c,hc,hcm⟩:=Vq (z:=aZ) (i:=(b / 500+7*(j:Int)) % 36) (Int.emod_nonneg _ (by decide)) (by rw [QgK];exact Int.emod_lt_of_pos _ (by decide))
   rw [hc]
   exact hcm
end L2
namespace L2
open PySem PySem.Spec PyProof.Rows
structure Qb4 (K:PySem.W.Frag) (x qual:Str) (st:Stmt) (f:Addr) (fd:FuncData):Prop where
 ex:∃(oc:Value) (od:Option Addr) (dV kV doc pm:Value) (an:Option Addr) (cdv ct:Value) (osl:Array (Option Value)),
  fd=PySem.W.fnOf x qual (Zf st) (QM st) (Qe st) dV kV doc pm an cdv ct∧K.lookup f=some ⟨oc,od,.func fd,osl⟩∧PySem.W.codeIn K cdv qual=true
 kp:PySem.W.keepIn K (.ref f)=true
theorem Qb4.ok {P:Program} {w:World} {K:PySem.W.Frag} {mg:Str→Option Value} {base:Heap} {x qual:Str} {st:Stmt} {f:Addr} {fd:FuncData} {N ps:List Str} {k:Nat} {sp:Sp} (F:Qb4 K x qual st f fd) (S:Qp N ps (Qe st))
 (len:∀vs H Q E,sp vs H Q E→vs.length=ps.length)
 (hbody:∀(cdv:Value) (A:Around) (outer:List Env) (s:Shared) (H:Hp) (vs:List V) (Q:VK) (E:XK),QG k (A.deeper (envOfC qual (Qe st) s.heap.objs.size f cdv))→sp vs H Q E →
   ∃t,PSs (UI CX0 P w K mg base N qual (Qe st) f cdv A outer s H E).nox (QM st) t∧t { nx:=fun _ H'=>Q .non H',rt:=Q } (V1 N vs) H):Qw P w K mg base CX0 (k+1) f fd ps sp:=by
 obtain ⟨oc,od,dV,kV,doc,pm,an,cdv,ct,osl,rfl,lk,hcd⟩:=F.ex
 refine Qh4 lk hcd S len fun A outer s H vs Q E hr hsp=>?_
 obtain ⟨t,h,q⟩:=hbody cdv A outer s H vs Q E hr hsp
 exact ⟨t,h.nox,q⟩
theorem Qhs {K:PySem.W.Frag} {x qual:Str} {st:Stmt} {f:Addr} {oc dV:Value} {od an:Option Addr} {osl:Array (Option Value)} {kV doc pm cdv ct:Value} (l:K.lookup f=some ⟨oc,od,.func (PySem.W.fnOf x qual (Zf st) (QM st) (Qe st) dV kV doc pm an cdv ct),osl⟩)
 (c:PySem.W.codeIn K cdv qual=true) (k:PySem.W.keepIn K (.ref f)=true):Qb4 K x qual st f (PySem.W.fnOf x qual (Zf st) (QM st) (Qe st) dV kV doc pm an cdv ct):=⟨⟨oc,od,dV,kV,doc,pm,an,cdv,ct,osl,rfl,l,c⟩,k⟩
theorem Wj {K:PySem.W.Frag} {H:Hp} {x y:V} {d:PyData} {Q:VK} (hx:RD K H x d) (hy:RD K H y d) (h:SeqAt.shaped d=true) (q:Q (.bl false) H):rNeD K x y H Q :=
 ⟨d,d,hx,hy,h,h,by rw [SeqAt.eqv_refl d (SeqAt.canLay_of_shaped h)];exact q⟩
theorem Qhx {K:PySem.W.Frag} {H:Hp} {x y:V} {d:PyData} {Q:VK} (hx:RD K H x d) (hy:RD K H y d) (h:SeqAt.shaped d=true) (q:Q (.bl true) H):rEqD K x y H Q :=
 ⟨d,d,hx,hy,h,h,by rw [SeqAt.eqv_refl d (SeqAt.canLay_of_shaped h)];exact q⟩
def Prt (x:Str):Prop:=∀c∈x.cps.toList,32≤c∧c<127
theorem Prt.asc {x:Str} (h:Prt x):Asc x:=fun c hc=>Nat.lt_trans (h c hc).2 (by decide)
theorem Prt.app {x y:Str} (hx:Prt x) (hy:Prt y):Prt (x++y):=fun c hc=>by
 rw [QgA] at hc
 rcases List.mem_append.mp hc with z | z
 ·exact hx c z
 ·exact hy c z
theorem Uh {x:Str} (h:(x.cps.toList.all fun c=>decide (32≤c∧c<127))=true):Prt x:=fun c hc=>of_decide_eq_true (List.all_eq_true.mp h c hc)
end L2
namespace L2
open PySem PySem.Spec PyProof.Rows
theorem QgY {x y:Str} (h:x.cps.toList=y.cps.toList):x=y:=by
 cases x;cases y
 have:=Array.toList_inj.mp h
 simp only at this
 rw [this]
theorem JR {rs:List Int} {m:Int} (hb:∀r∈rs,0≤r∧r<m) (i:Int) (h0:0≤i) (h1:i<(rs.length:Int)):∃z,atI (rs.map V.int) i=some (V.int z)∧0≤z∧z<m:=by
 obtain ⟨v,hv,hvm,_⟩:=ZB (xs:=rs.map V.int) h0 (by rw [List.length_map];exact h1)
 obtain ⟨z,hz,rfl⟩:=List.mem_map.mp hvm
 exact ⟨z,hv,hb z hz⟩
end L2
namespace L2
open PySem PySem.Spec PyProof.Rows
end L2
namespace L2
open PySem PySem.Spec PyProof.Rows
end L2
namespace L2
open PySem PySem.Spec PyProof.Rows
theorem Vs {d:Int} (h0:0≤d) (h1:d≤9999):(Str.ofString (toString d)).length≤4:=toString_length_le h0 (by decide) (by omega)
end L2
namespace L2
open PySem PySem.Spec PyProof.Rows
def leS (a b:Str):Bool:=!ltCps b.cps.toList a.cps.toList
def Qeg (x:Str):List Str→List Str
 | []=>[x]
 | y :: r=>if leS x y=true then x :: y :: r else y :: Qeg x r
def ZG:List Str→List Str
 | []=>[]
 | x :: r=>Qeg x (ZG r)
theorem XI (a b:Str):leS a b=true↔¬b.cps.toList<a.cps.toList:=by
 unfold leS
 rw [ltCps_eq]
 simp
theorem Qd7 (a b:Str):leS a b=true∨leS b a=true:=by
 rw [XI,XI]
 by_cases h:b.cps.toList<a.cps.toList
 ·exact .inr (List.lt_asymm h)
 ·exact .inl h
theorem GH {a b c:Str} (h1:leS a b=true) (h2:leS b c=true):leS a c=true:=by
 rw [XI] at *
 intro h
 rcases strKind.negTrans c.cps.toList b.cps.toList a.cps.toList (by simpa using h) with z | z
 ·exact h2 (by simpa using z)
 ·exact h1 (by simpa using z)
theorem Qax {a b:Str} (h1:leS a b=true) (h2:leS b a=true):a=b:=by
 rw [XI] at *
 exact QgY (List.le_antisymm (List.not_lt.mp h1) (List.not_lt.mp h2))
abbrev Sor (l:List Str):Prop:=l.Pairwise fun a b=>leS a b=true
theorem X7:∀(p:Str) (l:List Str),risingS p l=true→Sor (p :: l)
 | p,[],_=>List.pairwise_singleton _ _
 | p,x :: r,h=>by
   have h:(leS p x && risingS x r)=true:=h
   rw [Bool.and_eq_true] at h
   have ih:=X7 x r h.2
   refine List.pairwise_cons.mpr ⟨fun y hy=>?_,ih⟩
   rcases List.mem_cons.mp hy with rfl | hy
   ·exact h.1
   ·exact GH h.1 ((List.pairwise_cons.mp ih).1 y hy)
theorem Qfa:∀{l:List Str},sortedS l=true→Sor l
 | [],_=>List.Pairwise.nil
 | x :: r,h=>X7 x r h
theorem KF (x:Str):∀l:List Str,(Qeg x l).Perm (x :: l)
 | []=>.refl _
 | y :: r=>by
   unfold Qeg
   split
   ·exact .refl _
   ·exact ((KF x r).cons y).trans (.swap x y r)
theorem J1:∀l:List Str,(ZG l).Perm l
 | []=>.refl _
 | x :: r=>(KF x (ZG r)).trans ((J1 r).cons x)
theorem Qdo (x:Str):∀{l:List Str},Sor l→Sor (Qeg x l)
 | [],_=>List.pairwise_singleton _ _
 | y :: r,h=>by
   unfold Qeg
   obtain ⟨h1,h2⟩:=List.pairwise_cons.mp h
   split
   ·rename_i hx
    refine List.pairwise_cons.mpr ⟨fun z hz=>?_,h⟩
    rcases List.mem_cons.mp hz with rfl | hz
    ·exact hx
    ·exact GH hx (h1 z hz)
   ·rename_i hx
    refine List.pairwise_cons.mpr ⟨fun z hz=>?_,Qdo x h2⟩
    rcases List.mem_cons.mp ((KF x r).mem_iff.mp hz) with rfl | hz
    ·exact (Qd7 y z).resolve_right hx
    ·exact h1 z hz
theorem Vn:∀l:List Str,Sor (ZG l)
 | []=>.nil
 | x :: r=>Qdo x (Vn r)
theorem XW:∀{a b:List Str},a.Perm b→Sor a→Sor b→a=b
 | [],b,p,_,_=>(List.nil_perm.mp p).symm
 | x :: r,[],p,_,_=>absurd p.symm.nil_eq (by simp)
 | x :: r,y :: t,p,ha,hb=>by
   have e:x=y:=by
    have h1:x∈y :: t:=p.mem_iff.mp List.mem_cons_self
    have h2:y∈x :: r:=p.mem_iff.mpr List.mem_cons_self
    rcases List.mem_cons.mp h1 with e | h1
    ·exact e
    ·rcases List.mem_cons.mp h2 with e | h2
     ·exact e.symm
     ·exact Qax ((List.pairwise_cons.mp ha).1 y h2) ((List.pairwise_cons.mp hb).1 x h1)
   subst e
   rw [XW (List.perm_cons _ |>.mp p) (List.pairwise_cons.mp ha).2 (List.pairwise_cons.mp hb).2]
theorem V3 {a b:List Str} (p:a.Perm b) (h:Sor a):a=ZG b:=XW (p.trans (J1 b).symm) h (Vn b)
theorem UV {a b:List Str} (p:a.Perm b):ZG a=ZG b:=V3 ((J1 a).trans p) (Vn a)
theorem WJ (l:List Str):(ZG l).length=l.length:=(J1 l).length_eq
theorem QdL {l:List Str} {x:Str}:x∈ZG l↔x∈l:=(J1 l).mem_iff
theorem Uz:∀{us:List Value} {ss:List Str},StrsAre us ss→QW (ss.map V.str) us
 | _,_,.nil=>.nil
 | _,_,.cons x t h=>.cons ⟨t,rfl⟩ (Uz h)
theorem Xm {X:Cx}:JA X (.builtin "sorted") (fun xs H Q=>∃p ss,xs=[.ref p]∧SqL X.K H p (ss.map V.str)∧ss.length<64∧∀l,H l=none→Q (.ref l) (upd H l (.lst ((ZG ss).map V.str)))):=by
 intro pins s σ H xs us Q I r h
 obtain ⟨p,ss,rfl,hS,hl,q⟩:=h
 obtain ⟨u,rfl,rx⟩:=JV r
 cases rx
 obtain ⟨its,rv,pl,_⟩:=I.list hS
 have hst:=YG rv
 have hlen:its.length=ss.length:=by have:=rv.length;rw [List.length_map] at this;exact this.symm
 refine sorted_strs pl.isList hst (by omega) fun out ss' a1 a2 a3=>?_
 obtain ⟨e,he⟩:=sortedAll_at s.heap its out
 have es:ss'=ZG ss:=V3 a2 (Qfa a3)
 subst es
 have hsz:s.heap.objs.size≤s.heap.objs.size+1:=Nat.le_succ _
 refine ⟨.ref (s.heap.objs.size+1),_,I.laid (t':=s.toks) (fun b u hb=>sortedAll_old hb) hsz (show Zi X.prog X.w _ _ _ (.lst ((ZG ss).map V.str)) from ⟨?_,out.toList,e,Uz a1,?_⟩),rfl,q _ (I.hok.fresh hsz)⟩
 ·rw [List.length_map,WJ];exact Nat.le_of_lt (Qj (by omega))
 ·rw [Array.toArray_toList];exact he
end L2
namespace L2
open PySem PySem.Spec PyProof.Rows
theorem RDs.len {K:PySem.W.Frag} {H:Hp}:∀{xs:List V} {ds:List PyData},RDs K H xs ds→xs.length=ds.length
 | _,_,.nil=>rfl
 | _,_,.cons _ r=>by rw [List.length_cons,List.length_cons,RDs.len r]
end L2
namespace L2
open PySem PySem.Spec PyProof.Rows
structure V0 (sc scope:Scope) (N:List Str) (x y:Str) (fr:List (Nat×Str)):Prop where
 kind:scope.kind=.function
 loc:scope.names.lookup x=some .local
 loc2:scope.names.lookup y=some .local
 names:∀y∈scope.names,y.2=.local→scope.names.lookup y.1=some .local
 nocell:∀y∈scope.names,y.2≠.cell
 free:∀y∈scope.names,y.2=.free→sc.names.lookup y.1=some .cell∨sc.names.lookup y.1=some .free
 frk:∀p∈fr,N[p.1]?=some p.2∧scope.names.lookup p.2=some .free
 nd:(x :: y :: fr.map (·.2)).Nodup
def Vu (K:PySem.W.Frag) (J:It) (fr:List (Nat×Str)) (te:TE) (σ:St) (H1:Hp) (Q:VK):Prop:=∀D,H1 D=none →
 ∃W:Nat→Nat→List V→Hp→Prop,(∃m,W 0 m [] (upd H1 D (.lst [])))∧∀i m ys H2,W i m ys H2→H2 D=some (.lst ys) ∧
  ((J.stop i H2∧Q (.ref D) H2)∨(J.go i H2∧∀v H3,J.yld i H2 v H3→∃p v1 v2,v=.ref p∧SqT K H3 p [v1,v2]∧te (some v1 :: some v2 :: frV σ fr) H3 fun y H5=>H5 D=some (.lst ys)∧ys.length<sizeLine∧∃m',m'<m∧W (i+1) m' (ys++[y]) (upd H5 D (.lst (ys++[y])))))
def Qcb (K:PySem.W.Frag) (wi:TI) (fr:List (Nat×Str)) (te:TE):TE:=fun σ H Q=>wi σ H fun J H1=>Vu K J fr te σ H1 Q
theorem GU {X:Cx} {x y:Str} {px py pt:Pos} {kt:Nat} {iter elt:Expr} {scope sc:Scope} {pos pos':Pos} {N:List Str} {fr:List (Nat×Str)} {wi:TI} {te:TE}
 {pins:List (Addr×Obj)} {s:Shared} {σ:St} {H:Hp} {Q:VK} {Q':Value→Shared→Prop} {use:Option (Value→Sem Unit)}
 (S:V0 sc scope N x y fr) (hsc:X.env.scope=sc) (hN:X.N=N) (hc:X.calm=true) (hi:PI X (.Tuple [.Name x px,.Name y py] kt pt) iter wi)
 (he:∀(C:Addr) (s:Shared) (H:Hp) (fp:List Addr),PE (Z6 X scope C (x :: y :: fr.map (·.2)) s H fp) elt te)
 (hs:∀z,foldedSetIterable iter X.env z=pure z) (I:Inv X pins σ H s) (h:Qcb X.K wi fr te σ H Q)
 (hfin:∀(D C:Addr) (H':Hp) (s':Shared) (m:Str→Option Value),Inv X pins σ H' s'→s'.heap.Ns C m→QgO X pins H' C→Q (.ref D) H'→compPost (model X.prog X.w) X.A X.xe use Q' (.ref D) C (.ok .next) s') :
 wpAny (model X.prog X.w) X.A (comprehension (.ListComp elt [⟨.Tuple [.Name x px,.Name y py] kt pt,iter,[],0⟩] scope pos) scope X.env pos' (newList []) false (eval iter X.env) use) Q' X.xe s:=by
 have kin:∀y,scope.names.lookup y=some .free→X.env.kindOf y=some .cell∨X.env.kindOf y=some .free:=fun y hy=>by
  show X.env.scope.names.lookup y=_∨X.env.scope.names.lookup y=_
  rw [hsc]
  exact S.free (y,.free) (PySem.mem_of_lookup hy) rfl
 have kin':∀y∈scope.names,y.2=.free→X.env.kindOf y.1=some .cell∨X.env.kindOf y.1=some .free:=fun y hy hf=>by
  show X.env.scope.names.lookup y.1=_∨X.env.scope.names.lookup y.1=_
  rw [hsc]
  exact S.free y hy hf
 have hkc:∀y∈scope.names,y.2=.free→∃c,X.env.cells.lookup y.1=some c:=fun y hy hf=>I.ok.has y.1 (kin' y hy hf)
 refine wpAny_comprehension_free (use:=use) rfl hs (VJ hkc) S.kind S.names ?_
 refine thn (hi pins s σ H _ I h) fun xv s1 h1=>thn h1 fun itv s2 h2=>?_
 obtain ⟨it,fp,tn,J,H2,rfl,I2,T,st2,f2,q2⟩:=h2
 refine wpAny_newObj_type (wpAny_newFunctionEnv S.nocell (by intro y hy;simp at hy) (fun h₁ hns₁ hsb₁=>?_) S.kind)
 dsimp only at hns₁ hsb₁ ⊢
 have I3:Inv X pins σ (upd H2 s2.heap.objs.size (.lst [])) { s2 with heap:=s2.heap.push { cls:=.type "list",data:=.seq ([]:List Value).toArray } } :=
  I2.lnew (its:=[]) (t':=s2.toks) .nil (Nat.zero_le _)
 unfold Vu at q2
 obtain ⟨W,⟨m0,w0⟩,turn⟩:=q2 s2.heap.objs.size (I2.hok.fresh (Nat.le_refl _))
 generalize hG:s2.heap.push { cls:=.type "list",dict:=none,data:=.seq ([]:List Value).toArray }=G at hns₁ hsb₁ I3 ⊢
 generalize hD:s2.heap.objs.size=D at I3 turn w0 ⊢
 generalize hH3:upd H2 D (.lst [])=H3 at I3 w0
 have neG:∀b o,G.get? b=some o→b≠G.objs.size:=fun b o e=>Nat.ne_of_lt (Heap.lt_size e)
 have old:∀b o,G.get? b=some o→h₁.get? b=some o:=fun b o e=>(hsb₁.2 b (neG b o e)).trans (Heap.get?_push_of_some _ e)
 have up2:∀b o,s2.heap.get? b=some o→G.get? b=some o:=fun b o e=>by rw [←hG];exact Heap.get?_push_of_some _ e
 have fpG:∀b∈fp,b<G.objs.size:=fun b hb=>by
  obtain ⟨o,e,_⟩:=T.obj _ _ st2 b hb
  exact Heap.lt_size (up2 b o e)
 have sub:∀{y:Str} {c:Addr},(Yg X.env.cells scope.names []).lookup y=some c→X.env.cells.lookup y=some c:=fun {y c} e=>by
  rcases VW _ _ e with z | z
  ·exact z
  ·simp at z
 have stat0:∀b∈fp,(b∈X.ex∨X.s₀.heap.objs.size≤b)∧b≠X.env.locals∧(∀x c,X.env.cells.lookup x=some c→c≠b)∧∀p∈X.pn++pins,p.1≠b:=fun b hb =>
  ⟨(f2 b hb).2.2.2.1,(f2 b hb).2.1,(f2 b hb).2.2.2.2.1,(f2 b hb).2.2.2.2.2⟩
 have hCL:G.objs.size≠X.env.locals:=Nat.ne_of_gt I3.lt
 have hC1:X.s₀.heap.objs.size≤G.objs.size:=I3.sz
 have hC2:∀x c,X.env.cells.lookup x=some c→c≠G.objs.size:=fun x c e=>by
  obtain ⟨v,o,ho,_⟩:=I3.cell x c e
  exact neG c o ho
 have hC3:∀p∈X.pn++pins,p.1≠G.objs.size:=fun p hp=>neG p.1 p.2 (I3.pin p hp).1
 have okB:(Z6 X scope G.objs.size (x :: y :: fr.map (·.2)) { s2 with heap:=G } H3 fp).Ok:=by
  refine ⟨I2.ok.mod,S.kind,I2.ok.glob,I2.ok.blt,Nat.le_refl _,fun y z c e1 e2=>I2.ok.inj y z c (sub e1) (sub e2),fun y hy=>?_,fun y c z=>Bool.noConfusion z,I2.ok.hd,I2.ok.frames,.inl rfl,fun b hb=>⟨Nat.ne_of_lt (fpG b hb),fun y c e=>(stat0 b hb).2.2.1 y c (sub e)⟩,
   fun b o e=>I3.bs b o e,Nat.le_trans I2.ok.bsz I3.sz,fun b o e hb=>?_,fun b hb hf=>?_,I3.stack,I3.stkFree⟩
  ·have m:=We S.nocell hy
   exact Y4 _ _ m (hkc _ m rfl)
  ·rcases (stat0 b hb).1 with z | z
   ·exact I2.ok.noex b o e z
   ·exact absurd (Nat.lt_of_lt_of_le (Heap.lt_size e) (Nat.le_trans I2.ok.bsz z)) (Nat.lt_irrefl _)
  ·rcases List.mem_cons.mp (I2.stkSub b hf) with z | z
   ·exact (stat0 b hb).2.1 z
   ·exact (f2 b hb).2.2.1 z
 have I4:∀tk:Nat,Inv (Z6 X scope G.objs.size (x :: y :: fr.map (·.2)) { s2 with heap:=G } H3 fp) [] (none :: none :: frV σ fr) H3 { s2 with heap:=h₁,toks:=tk }:=fun tk=>by
  refine ⟨okB,rfl,I2.bare,Un.kept old,⟨_,hns₁,fun i y v e1 e2 _=>?_⟩,fun y c e=>?_,I3.hok.fresh (Nat.le_refl _),fun y c e=>I3.freeC y c (sub e),fun p hp=>absurd (show p∈([]:List (Addr×Obj)) from hp) (by simp),I3.hok.kept old,?_⟩
  ·cases i with
   | zero=>simp at e2
   | succ i=>cases i with
    | zero=>simp at e2
    | succ i =>
     have e1':(fr.map (·.2))[i]?=some y:=e1
     have e2':(fr.map fun p=>(σ[p.1]?).join)[i]?=some (some v):=e2
     rw [List.getElem?_map] at e1' e2'
     cases hp:fr[i]? with
     | none=>rw [hp] at e1';cases e1'
     | some p =>
       rw [hp] at e1' e2'
       have ey:p.2=y:=Option.some.inj e1'
       have ev:(σ[p.1]?).join=some v:=Option.some.inj e2'
       have ev':σ[p.1]?=some (some v):=by
        cases q:σ[p.1]? with
        | none=>rw [q] at ev;cases ev
        | some o=>rw [q] at ev;simp only [Option.join] at ev;exact congrArg some ev
       have hf:=S.frk p (List.mem_of_getElem? hp)
       rw [ey] at hf
       have hk:=kin y hf.2
       obtain ⟨m,_,hl⟩:=I2.loc
       obtain ⟨u,ru,l⟩:=hl p.1 y v (by rw [hN];exact hf.1) ev' (.inr hk)
       refine ⟨u,ru,.inr ⟨Yv hf.2,?_⟩⟩
       rcases l with ⟨k,_⟩ | ⟨_,c,e,z⟩
       ·rcases hk with hk | hk
        ·rw [hk] at k;cases k
        ·rw [hk] at k;cases k
       ·obtain ⟨c',ec⟩:=Y4 (cells:=X.env.cells) scope.names [] (PySem.mem_of_lookup hf.2) ⟨c,e⟩
        have:=sub ec
        rw [e] at this
        cases this
        obtain ⟨o,ho,hd⟩:=z
        exact ⟨c,ec,o,old c o (up2 c o ho),hd⟩
  ·obtain ⟨v,o,ho,hd⟩:=I2.cell y c (sub e)
   exact ⟨v,o,old c o (up2 c o ho),hd⟩
  ·show (none :: none :: frV σ fr).length=(x :: y :: fr.map (·.2)).length
   simp [frV]
 have locY:(Z6 X scope G.objs.size (x :: y :: fr.map (·.2)) { s2 with heap:=G } H3 fp).env.scope.names.lookup y=some .local:=lookup_relabel_local S.loc2
 have locX:(Z6 X scope G.objs.size (x :: y :: fr.map (·.2)) { s2 with heap:=G } H3 fp).env.scope.names.lookup x=some .local:=lookup_relabel_local S.loc
 generalize hX:Z6 X scope G.objs.size (x :: y :: fr.map (·.2)) { s2 with heap:=G } H3 fp=Y at I4 locX locY
 have eP:Y.prog=X.prog:=by rw [←hX];rfl
 have eW:Y.w=X.w:=by rw [←hX];rfl
 have eK:Y.K=X.K:=by rw [←hX];rfl
 have eA:Y.A=X.A:=by rw [←hX];rfl
 have eC:Y.calm=true:=by rw [←hX];exact hc
 have eE:Y.env=compEnvC scope (Yg X.env.cells scope.names []) G.objs.size X.env:=by rw [←hX];rfl
 have eN:Y.N=x :: y :: fr.map (·.2):=by rw [←hX];rfl
 have eX:Y.xe=fun _ _=>False:=by rw [←hX];rfl
 have eB:∀{σ':St} {H':Hp} {s':Shared} {pins':List (Addr×Obj)},Inv Y pins' σ' H' s'→s'.os=s2.os∧Un (frs X.stack) fp H3 H' G s'.heap:=fun {σ' H' s' pins'} J=>by
  subst hX
  exact ⟨J.os,J.base⟩
 have hE:=he G.objs.size { s2 with heap:=G } H3 fp
 rw [hX] at hE
 have fpY:∀{H':Hp},(∀b∈fp,H' b=none)→∀b∈fp,Xy Y [] H' b:=fun {H'} hn b hb=>by
  subst hX
  refine ⟨hn b hb,Nat.ne_of_lt (fpG b hb),okB.exfs b hb,.inl hb,fun y c e=>(okB.exf b hb).2 y c e,fun p hp=>absurd (show p∈([]:List (Addr×Obj)) from hp) (by simp)⟩
 have loop:∀s3:Shared,(∃tk,s3={ s2 with heap:=h₁,toks:=tk }) →
  codeAny (model X.prog X.w) X.A (.compLoop (.ListComp elt [⟨.Tuple [.Name x px,.Name y py] kt pt,iter,[],0⟩] scope pos) 0 (.ref it) (.ref D) Y.env)
   (compPost (model X.prog X.w) X.A X.xe use Q' (.ref D) G.objs.size) s3:=by
  rintro s3 ⟨tk,rfl⟩
  refine LCp.codeAny_compLoop_pair (fun n s'=>∃i ys o o' H',Inv Y [] (o :: o' :: frV σ fr) H' s'∧tn i s'.heap∧(∀b∈fp,H' b=none)∧W i n ys H') ?_ m0
   ⟨0,[],none,none,H3,I4 tk,T.keep _ _ _ st2 fun b hb o e=>old b o (up2 b o e),fun b hb=>?_,w0⟩
  ·rintro n s' ⟨i,ys,o,o',H',J',st',fr',w'⟩
   obtain ⟨hD',hgo⟩:=turn i n ys H' w'
   rcases hgo with ⟨stop,qn⟩ | ⟨go,step⟩
   ·have Q1:=T.done Y eP eW eK eC i [] s' (o :: o' :: frV σ fr) H' (notedBy (model X.prog X.w) X.A Y.env fun e s''=>compPost (model X.prog X.w) X.A X.xe use Q' (.ref D) G.objs.size (.error e) s'') J' (fpY fr') st' stop
    rw [eA] at Q1
    refine thn Q1 fun r s4 ⟨hr,J4⟩=>?_
    subst hr
    obtain ⟨m,hn,_⟩:=J4.loc
    rw [eE] at hn
    obtain ⟨os4,u4⟩:=eB J4
    have free4:H' G.objs.size=none:=by have:=J4.free;rw [eE] at this;exact this
    have hok4:HOk X.prog X.w H' s4.heap:=by have:=J4.hok;rw [eP,eW] at this;exact this
    exact hfin D G.objs.size H' s4 m (I3.call' (ch:=fp) (s':=s4) os4 u4 hok4 J4.bare stat0) hn ⟨free4,hCL,.inr hC1,hC2,hC3⟩ qn
   ·have Q1:=T.item Y eP eW eK eC i [] s' (o :: o' :: frV σ fr) H' (notedBy (model X.prog X.w) X.A Y.env fun e s''=>compPost (model X.prog X.w) X.A X.xe use Q' (.ref D) G.objs.size (.error e) s'') J' (fpY fr') st' go
    rw [eA] at Q1
    refine thn Q1 fun r s4 ⟨u,hr,h4⟩=>?_
    subst hr
    refine thn h4 fun _ s5 ⟨v,H5,J5,r5,y5,st5,fr5⟩=>?_
    have J5':=J5.pinned (fpY fr5) (T.obj _ _ st5)
    obtain ⟨p5,v1,v2,ev5,hp5,step5⟩:=step v _ y5
    have N5:Y.N.Nodup:=by rw [eN];exact S.nd
    have P1:PG Y (.Name x px) (Wr 0):=QR (X:=Y) (i:=0) (x:=x) (pos:=px) N5 (by rw [eN];rfl) (.inl locX) (.inr locX)
    have P2:PG Y (.Name y py) (Wr 1):=QR (X:=Y) (i:=1) (x:=y) (pos:=py) N5 (by rw [eN];rfl) (.inl locY) (.inr locY)
    have PT:PG Y (.Tuple [.Name x px,.Name y py] kt pt) (gTup Y.K 2 (Qgr (Wr 0) (Qgr (Wr 1) gNil))):=WQ eC (Zy P1 (Zy P2 Vr))
    have G5:=PT ([]++U5 fp s5.heap) s5 (o :: o' :: frV σ fr) H5 v u (fun σ6 H6=>σ6=some v1 :: some v2 :: frV σ fr∧H6=H5) J5' r5 ⟨p5,[v1,v2],ev5,by rw [eK];exact hp5,rfl,v1,[v2],rfl,v2,[],rfl,rfl,rfl,rfl⟩
    rw [eP,eW,eA,eX] at G5
    refine wpAny_mono G5 (fun _ s6 ⟨σ6,H6,J6,e6,e6'⟩=>?_) fun _ _ z=>z.elim
    subst e6 e6'
    have again:∀{s7:Shared} {H7:Hp} {zs:List V},Inv Y ([]++U5 fp s5.heap) (some v1 :: some v2 :: frV σ fr) H7 s7→(∃m',m'<n∧W (i+1) m' zs H7)→∃m,m<n∧∃i ys o o' H',Inv Y [] (o :: o' :: frV σ fr) H' s7∧tn i s7.heap∧(∀b∈fp,H' b=none)∧W i m ys H':=fun {s7 H7 zs} J7 ⟨m',hm,w7⟩=>by
     refine ⟨m',hm,i+1,zs,some v1,some v2,H7,J7.unpinned,T.keep _ _ _ st5 fun b hb o e=>(J7.pin (b,o) (List.mem_append_right _ (List.mem_append_right _ (Yc hb e)))).1,fun b hb=>?_,w7⟩
     obtain ⟨o,e,d⟩:=T.obj _ _ st5 b hb
     exact (J7.pin (b,o) (List.mem_append_right _ (List.mem_append_right _ (Yc hb e)))).2.1
    have E7:=hE _ s6 _ _ _ J6 step5
    rw [eP,eW,eA,eX] at E7
    refine wpAny_mono E7 (fun u8 s8 ⟨y8,H8,J8,r8,hD8,hz8,w8⟩=>?_) fun _ _ z=>z.elim
    have A8:=Q3 (X:=Y) _ s8 _ H8 (.ref D) [y8] (.ref D) [u8] (fun z H9=>H9=upd H8 D (.lst (ys++[y8]))) J8 rfl (.cons r8 .nil) ⟨D,ys,y8,rfl,rfl,hD8,hz8,rfl⟩
    rw [eP,eW,eA,eX] at A8
    refine wpAny_mono A8 (fun _ s9 ⟨z9,H9,J9,_,e9⟩=>?_) fun _ _ z=>z.elim
    subst e9
    exact again J9 w8
  ·rw [←hH3]
   have hbD:b≠D:=by
    rw [←hD]
    obtain ⟨o,e,_⟩:=T.obj _ _ st2 b hb
    exact Nat.ne_of_lt (Heap.lt_size e)
   rw [Qk hbD]
   exact (f2 b hb).1
 rw [eE] at loop
 exact codeAny_compStart_list (loop _ ⟨_,rfl⟩) (T.self _ 0 _ _ _ (T.keep _ _ _ st2 fun b hb o e=>old b o (up2 b o e)) (loop _ ⟨_,rfl⟩))
theorem U8 {X:Cx} {x y:Str} {px py pt:Pos} {kt:Nat} {iter elt:Expr} {scope sc:Scope} {pos:Pos} {N:List Str} {fr:List (Nat×Str)} {wi:TI} {te:TE}
 (S:V0 sc scope N x y fr) (hsc:X.env.scope=sc) (hN:X.N=N) (hc:X.calm=true) (hi:PI X (.Tuple [.Name x px,.Name y py] kt pt) iter wi)
 (he:∀(C:Addr) (s:Shared) (H:Hp) (fp:List Addr),PE (Z6 X scope C (x :: y :: fr.map (·.2)) s H fp) elt te)
 (hs:∀z,foldedSetIterable iter X.env z=pure z:=by intro _;rfl) :
 PE X (.ListComp elt [⟨.Tuple [.Name x px,.Name y py] kt pt,iter,[],0⟩] scope pos) (Qcb X.K wi fr te):=by
 intro pins s σ H Q I h
 rw [eval_ListComp]
 refine GU (use:=none) S hsc hN hc hi he hs I h fun D C H' s' m J hn fc q=>?_
 exact ⟨m,hn,fun h' hs'=>⟨.ref D,H',J.turned (t':=s'.toks) (fun b o hb e=>(hs'.2 b hb).trans e) fc.hn fc.hL fc.h1 fc.h2 fc.h3,rfl,q⟩⟩
end L2
namespace L2
open PySem PySem.Spec PyProof.Rows
def ZM (ns:List Str):List (Key×V):=ns.map fun n=>(Sum.inr n,V.bl true)
theorem W4 (n:Str):∀ns:List Str,Ux (ZM ns) (Sum.inr n)=ZM (ns.filter fun m=>decide (m≠n))
 | []=>rfl
 | m :: ns=>by
   show Ux ((Sum.inr m,V.bl true) :: ZM ns) (Sum.inr n)=_
   by_cases h:m=n
   ·rw [Qek (by rw [h]),W4 n ns]
    simp [List.filter_cons,h]
   ·rw [Qel (fun e=>h (Sum.inr.inj e)),W4 n ns]
    simp [List.filter_cons,h,ZM]
theorem XM (n:Str):∀ns:List Str,Z4 (ZM ns) (Sum.inr n)=if n∈ns then some (V.bl true) else none
 | []=>rfl
 | m :: ns=>by
   show Z4 ((Sum.inr m,V.bl true) :: ZM ns) (Sum.inr n)=_
   by_cases h:m=n
   ·rw [UQ (by rw [h]),if_pos (by rw [h];exact List.mem_cons_self)]
   ·rw [UR (fun e=>h (Sum.inr.inj e)),XM n ns]
    by_cases h2:n∈ns
    ·rw [if_pos h2,if_pos (List.mem_cons_of_mem _ h2)]
    ·rw [if_neg h2,if_neg (fun z=>(List.mem_cons.mp z).elim (fun e=>h e.symm) h2)]
theorem Qfv {ns:List Str} {n:Str} (h:¬n∈ns):Zj (ZM ns) (Sum.inr n) (.bl true)=ZM (ns++[n]):=by
 rw [Qfw _ (by rw [XM,if_neg h])]
 simp [ZM]
end L2
namespace L2
open PySem PySem.Spec PyProof.Rows
end L2
namespace L2
open PySem PySem.Spec PyProof.Rows
end L2
namespace L2
open PySem PySem.Spec PyProof.Rows
section
variable {X : Cx} {pins : List (Addr × Obj)} {σ : St} {H : Hp} {s : Shared} {a : Addr} {oa : Obj} {kvs : List (Key × V)}
end
end L2
namespace L2
open PySem PySem.Spec PyProof.Rows
end L2
namespace L2
open PySem PySem.Spec PyProof.Rows
theorem Qdg {X:Cx} (K:PySem.W.Frag) {e:Expr} {f:Str} {pos:Pos} {ta:TE} (he:PE X e ta) (hb:attributeBase e f X.env (eval e X.env)=eval e X.env) (hK:X.K=K:=by rfl):PE X (.Attribute e f pos) (tFld K ta f):=hK▸QC he hb
section
variable {prs S : List PRow} {n : Str} {k : Nat}
end
theorem Qaj {ns:List Str} {n:Str} (h:n∈ns):Zj (ZM ns) (Sum.inr n) (.bl true)=ZM ns:=by
 unfold Zj
 have hc:((ZM ns).any fun kv=>decide (kv.1=(Sum.inr n:Key)))=true:=List.any_eq_true.mpr ⟨(Sum.inr n,.bl true),List.mem_map.mpr ⟨n,h,rfl⟩,decide_eq_true rfl⟩
 rw [if_pos hc]
 unfold ZM
 rw [List.map_map]
 apply List.map_congr_left
 intro m _
 show (if (Sum.inr m:Key)=Sum.inr n then (Sum.inr m,V.bl true) else (Sum.inr m,V.bl true))=_
 split <;> rfl
def Z0 (ns:List Str) (n:Str):List Str:=if n∈ns then ns else ns++[n]
theorem Qdc (ns:List Str) (n:Str):Zj (ZM ns) (Sum.inr n) (.bl true)=ZM (Z0 ns n):=by
 unfold Z0
 split
 ·exact Qaj ‹_›
 ·exact Qfv ‹_›
theorem Qau {ns:List Str} {n m:Str}:m∈Z0 ns n↔m∈ns∨m=n:=by
 unfold Z0
 split
 ·exact ⟨.inl,fun h=>h.elim id fun e=>e▸‹_›⟩
 ·rw [List.mem_append,List.mem_singleton]
theorem QiT {ns:List Str} {n:Str} (h:ns.Nodup):(Z0 ns n).Nodup:=by
 unfold Z0
 split
 ·exact h
 ·rename_i hn
  rw [List.nodup_append]
  exact ⟨h,List.pairwise_singleton _ _,fun a ha b hb e=>hn (by rw [List.mem_singleton.mp hb] at e;rw [←e];exact ha)⟩
end L2
namespace L2
open PySem PySem.Spec
inductive QaM (Q:VK) (a:Addr) (y:V) (z:V) (H3:Hp):Prop
 | mk:∀kvs k,H3 a=some (.dK kvs)→y=kV k→kvs.length<sizeLine→((∀v,Z4 kvs k=some v→Q v H3))→((Z4 kvs k=none→Q z (upd H3 a (.dK (Zj kvs k z)))))→QaM Q a y z H3
inductive QcS (ty:TE) (tx:TE) (σ:St) (Q:VK) (x:V) (H1:Hp):Prop
 | mk:∀a,x=.ref a→IsD H1 a→(ty σ H1 fun y H2=>tx σ H2 fun z H3=>QaM Q a y z H3)→QcS ty tx σ Q x H1
def tDSet (td ty tx:TE):TE:=fun σ H Q=>td σ H fun x H1=>QcS ty tx σ Q x H1
section
variable {X : Cx} {pins : List (Addr × Obj)} {σ : St} {H : Hp} {s : Shared} {a : Addr} {kvs : List (Key × V)} {k : Key} {z : V} {u r : Value} {A : Around} {E : Value → Shared → Prop}
theorem Qgz {Q:Value→Shared→Prop} (I:Inv X pins σ H s) (e:H a=some (.dK kvs)) (ry:QQ (kV k) u) (rz:QQ z r) (l:kvs.length<sizeLine)
 (h1:∀v,Z4 kvs k=some v→∀w' s',Inv X pins σ H s'→QQ v w'→Q w' s') (h2:Z4 kvs k=none→∀s',Inv X pins σ (upd H a (.dK (Zj kvs k z))) s'→Q r s') :
 wpAny (model X.prog X.w) A (call (.builtin "dict.setdefault") [.ref a,u,r]) Q E s:=by
 obtain ⟨hz,hd,vs,rel,dd⟩:=GQ I.hok e
 refine call_meetsIn PySem.F.slot_dict_setdefault dd.typeIs PySem.F.entry_dict_setdefault (PySem.F.args_dict_setdefault_3 _ _ _) (kt_meets_setdefault (Za X.prog X.w) a (Wq ry) hd r) ⟨vs,dd,by rw [←rel.length];exact hz,fun w' hw=>?_,fun hn h' dd' hs=>?_⟩
 ·have hv:=rel.val k
  rw [hw] at hv
  cases e2:Z4 kvs k with
  | none=>rw [e2] at hv;exact absurd hv (by simp [Y9])
  | some v=>rw [e2] at hv;exact h1 v e2 w' _ (I.tok _) hv
 ·have hv:=rel.val k
  rw [hn] at hv
  cases e2:Z4 kvs k with
  | some v=>rw [e2] at hv;exact absurd hv (by simp [Y9])
  | none =>
    have he:∃q,h'.get? a=some q:=let ⟨q,_,_,hq,_⟩:=dd';⟨q,hq⟩
    have hl:(Zj kvs k z).length≤sizeLine:=by have:=Ud kvs k z;omega
    exact h2 e2 _ (Wt I (by rw [e];exact True.intro) hs he (QaB hl hd (rel.put k rz) dd'))
end
section
variable {X : Cx} {o e f : Expr} {apos cpos : Pos} {td ty tx : TE}
theorem QfD (ho:PE X o td) (he:PE X e ty) (hf:PE X f tx) (m:M2 X o "setdefault" apos e f cpos):PE X (.Call (.Attribute o "setdefault" apos) [e,f] [] cpos) (tDSet td ty tx):=by
 intro pins s σ H Q I h
 refine wpAny_Call_method m.base m.few m.line PySem.F.plainAttrs_dict PySem.F.slot_dict_setdefault PySem.F.type_dict_setdefault (thn (ho pins s σ H _ I h) fun u s1 ⟨x,H1,I1,rx,a,ex,d,q1⟩=>?_)
 subst ex
 obtain rfl:u=Value.ref a:=rx
 obtain ⟨t1,t2,_⟩:=QcC I1 d
 refine ⟨t1,t2,?_⟩
 rw [m.trees]
 refine Calls.callWith_builtin rfl (Calls.evalArgs_plain (Calls.spliced_cons (thn (he pins s1 σ H1 _ I1 q1) fun iv s2 ⟨y,H2,I2,ry,q2⟩=>Calls.spliced_cons (thn (hf pins s2 σ H2 _ I2 q2) fun fv s3 ⟨z,H3,I3,rz,kvs,k,ea,ey,l,q3,q4⟩=>Calls.spliced_nil ?_))))
 subst ey
 exact Qgz I3 ea ry rz l (fun v ev w' s4 I4 rw'=>⟨_,H3,I4,rw',q3 v ev⟩) fun en s4 I4=>⟨z,_,I4,rz,q4 en⟩
end
theorem Va:∀(xs acc:List Str) {t:Str},t∈acc∨t∈xs→t∈xs.foldl Jf acc
 | [],acc,t,h=>h.elim id fun z=>nomatch z
 | x :: xs,acc,t,h=>by
   refine Va xs (Jf acc x) ?_
   unfold Jf
   rcases h with h | h
   ·left;split
    ·exact h
    ·exact List.mem_append_left _ h
   ·rcases List.mem_cons.mp h with rfl | h
    ·left;split
     ·assumption
     ·exact List.mem_append_right _ (List.mem_singleton.mpr rfl)
    ·exact .inr h
theorem Kw {xs:List Str} {t:Str} (h:t∈xs):t∈Wi xs:=Va xs [] (.inr h)
def kn (T xs:List Str):List (Key×V):=(Wi xs).map fun w=>(Sum.inr w,V.bl (decide (w∈T)))
theorem Qgd (T xs:List Str):(kn T xs).length≤xs.length:=by unfold kn;rw [List.length_map];exact QfK xs
theorem GI (T:List Str) (w:Str):∀ys:List Str,Z4 (ys.map fun w=>((Sum.inr w:Key),V.bl (decide (w∈T)))) (Sum.inr w)=if w∈ys then some (V.bl (decide (w∈T))) else none
 | []=>rfl
 | y :: ys=>by
   rw [List.map_cons]
   by_cases e:y=w
   ·subst e
    rw [UQ rfl,if_pos (List.mem_cons_self ..)]
   ·rw [UR (fun z=>e (Sum.inr.inj z)),GI T w ys]
    by_cases m:w∈ys
    ·rw [if_pos m,if_pos (List.mem_cons_of_mem _ m)]
    ·rw [if_neg m,if_neg (fun z=>(List.mem_cons.mp z).elim (fun q=>e q.symm) m)]
theorem Kz (T xs:List Str) (w:Str):Z4 (kn T xs) (Sum.inr w)=if w∈Wi xs then some (V.bl (decide (w∈T))) else none:=GI T w (Wi xs)
theorem Qgb {T xs:List Str} {w:Str} (h:w∈Wi xs):kn T (xs++[w])=kn T xs:=by
 unfold kn
 rw [Gx]
 unfold Jf
 rw [if_pos h]
theorem Qgc {T xs:List Str} {w:Str} (h:¬w∈Wi xs):kn T (xs++[w])=kn T xs++[(Sum.inr w,V.bl (decide (w∈T)))]:=by
 unfold kn
 rw [Gx]
 unfold Jf
 rw [if_neg h,List.map_append]
 rfl
theorem QiD {T xs:List Str} {w:Str} (h:w∈T):Zj (kn T xs) (Sum.inr w) (.bl true)=kn T (xs++[w]):=by
 unfold Zj
 rw [US,Kz]
 by_cases m:w∈Wi xs
 ·rw [if_pos m,Qgb m,if_pos (show (some _:Option V).isSome=true from rfl)]
  unfold kn
  rw [List.map_map]
  refine List.map_congr_left fun u _=>?_
  show (if (Sum.inr u:Key)=Sum.inr w then ((Sum.inr u:Key),V.bl true) else (Sum.inr u,V.bl (decide (u∈T))))=_
  by_cases e:u=w
  ·subst e
   rw [if_pos rfl,decide_eq_true h]
  ·rw [if_neg (fun z=>e (Sum.inr.inj z))]
 ·rw [if_neg m,if_neg (fun z=>nomatch z),Qgc m,decide_eq_true h]
theorem QbI {T xs:List Str} {w:Str} (hT:∀u∈T,u∈xs) (h:Z4 (kn T xs) (Sum.inr w)=none):Zj (kn T xs) (Sum.inr w) (.bl false)=kn T (xs++[w]):=by
 have m:¬w∈Wi xs:=fun m=>by rw [Kz,if_pos m] at h;cases h
 unfold Zj
 rw [US,h,if_neg (fun z=>nomatch z),Qgc m,decide_eq_false (fun z=>m (Kw (hT w z)))]
theorem QbH {T xs:List Str} {w:Str} {v:V} (h:Z4 (kn T xs) (Sum.inr w)=some v):kn T (xs++[w])=kn T xs:=by
 refine Qgb ?_
 by_cases m:w∈Wi xs
 ·exact m
 ·rw [Kz,if_neg m] at h;cases h
def SX (x:Addr) (H H':Hp):Prop:=∀c o,c≠x→H c=some o→H' c=some o
def Qbw:HO→Bool
 | .ins _ _ _=>false
 | _=>true
end L2
namespace L2
open PySem PySem.Spec PyProof.Rows
def VB:Value→Str
 | .str x _=>x
 | _=>""
def Y5 (prog:Program) (w:World) (led:Bool) (a:Addr) (ks:List Str) (h:Heap):Prop:=∃o es ep t,h.get? a=some o∧o.ExactSet∧o.data=.set es ep t∧ElemsOf (strKind prog w) es.toList∧es.size<scanBound∧t.fits es.size=true∧t.led=led ∧
 (t.plain=true→es.size=0)∧(es.toList.map fun e=>VB e.2).Perm ks
theorem Y5.at {prog:Program} {w:World} {led:Bool} {a:Addr} {ks:List Str} {h h':Heap} (x:Y5 prog w led a ks h) (k:∀o,h.get? a=some o→h'.get? a=some o):Y5 prog w led a ks h' :=
 let ⟨o,es,ep,t,e,r⟩:=x;⟨o,es,ep,t,k o e,r⟩
theorem KI {prog:Program} {w:World} {l:List (Int×Value)} (h:ElemsOf (strKind prog w) l) {e:Int×Value} (he:e∈l):∃t,e.2=.str (VB e.2) t:=by
 obtain ⟨⟨k,hk,_⟩,_⟩:=h e he
 obtain ⟨t,q⟩:=Value.isStrOf_shape (show Value.isStrOf k e.2=true from hk)
 exact ⟨t,by rw [q];rfl⟩
theorem Qgj {k:Str} {v:Value} {t:Tok} (h:v=.str (VB v) t):Value.isStrOf k v=decide (k=VB v):=by
 rw [h]
 show Value.isStrOf k (.str (VB v) t)=decide (k=VB v)
 by_cases e:k=VB v
 ·rw [←e,decide_eq_true rfl];simp [Value.isStrOf]
 ·rw [decide_eq_false e];simp [Value.isStrOf];exact fun z=>e z.symm
theorem QcB (t:SetTable) (es:Array (Int×Value)) (h:Int) (x:Value):(layNew t es h x).2.1.led=t.led:=by
 unfold layNew
 split
 ·show (SetTable.orStandIn _ _).led=_
  unfold SetTable.orStandIn
  split <;> rfl
 ·rfl
theorem Qai (t:SetTable) (es:Array (Int×Value)) (wanted:Nat):(relayAll t es wanted).2.1.led=t.led∧((relayAll t es wanted).2.1.plain=true→t.plain=true):=by
 unfold relayAll
 split
 ·rename_i t' order he
  have e:t'.led=t.led∧t'.plain=t.plain:=by
   unfold SetTable.relaid SetTable.laid at he
   cases hc:SetTable.layClean (SetTable.sizeAbove wanted - 1) (es.map (·.1)) with
   | none=>rw [hc] at he;cases he
   | some ow=>rw [hc] at he;cases he;exact ⟨rfl,rfl⟩
  dsimp only
  split
  ·exact ⟨e.1,fun z=>by rw [←e.2];exact z⟩
  ·exact ⟨rfl,fun z=>by cases z⟩
 ·exact ⟨rfl,fun z=>by cases z⟩
section
variable {prog : Program} {w : World} {A : Around} {E : Value → Shared → Prop} {s : Shared}
theorem X0 {h:Heap} {a:Addr} {o:Obj} {es:Array (Int×Value)} {ep:Nat} {t:SetTable} {led:Bool} {ks:List Str} (ho:h.get? a=some o) (hex:o.ExactSet) (hd:o.data=.set es ep t) {es':Array (Int×Value)} {t':SetTable}
 (hel:ElemsOf (strKind prog w) es'.toList) (hb:es'.size<scanBound) (hf:t'.fits es'.size=true) (hl:t'.led=led) (hp:t'.plain=true→es'.size=0) (hk:(es'.toList.map fun e=>VB e.2).Perm ks) :
 (h.update a (Obj.putSet es' t')).get? a=some { o with data:=.set es' (ep+1) t' }∧Y5 prog w led a ks (h.update a (Obj.putSet es' t')):=by
 have hg:(h.update a (Obj.putSet es' t')).get? a=some { o with data:=.set es' (ep+1) t' }:=by
  have e1:=putSet_of es' t' hd
  have e2:=Heap.get?_update_self (Obj.putSet es' t') ho (by rw [e1];rfl)
  rw [e1] at e2
  exact e2
 exact ⟨hg,_,es',ep+1,t',hg,hex,rfl,hel,hb,hf,hl,hp,hk⟩
theorem QeC {g:Bool→Sem Unit} (hg:∀(b:Bool) (z:Shared) (R:Unit→Shared→Prop),R () z→wpAny (model prog w) A (g b) R E z) {a:Addr} {o:Obj} {es:Array (Int×Value)} {ep:Nat} {t:SetTable} {led:Bool} {ks:List Str}
 (ho:s.heap.get? a=some o) (hex:o.ExactSet) (hd:o.data=.set es ep t) {es1:Array (Int×Value)} {t2:SetTable} (hel:ElemsOf (strKind prog w) es1.toList) (hb:es1.size<scanBound) (hf:t2.fits es1.size=true) (hl:t2.led=led) (hp:t2.plain=false)
 (hk:(es1.toList.map fun e=>VB e.2).Perm ks) {was:Bool} {R:Option Bool→Shared→Prop} (h:∀h',Heap.SameBut a s.heap h'→Y5 prog w led a ks h'→R (some true) { s with heap:=h' }) :
 wpAny (model prog w) A (do
  storeSet a es1 t2
  if (!was && t2.tooFull)=true then do
      g (relayAll t2 es1 (SetTable.grown es1.size)).2.2
      storeSet a (relayAll t2 es1 (SetTable.grown es1.size)).1 (relayAll t2 es1 (SetTable.grown es1.size)).2.1
      pure (some true)
   else pure (some true)) R E s:=by
 refine wpAny_bind (wpAny_storeSet_of ho hd ?_ (fits_of_scanBound hb))
 obtain ⟨g1,S1⟩:=X0 (prog:=prog) (w:=w) ho hex hd hel hb hf hl (fun z=>by rw [hp] at z;cases z) hk
 have b1:=Heap.SameBut.update s.heap a (Obj.putSet es1 t2)
 split
 ·have pm:=relayAll_perm t2 es1 (SetTable.grown es1.size)
  have ft:=relayAll_fits t2 es1 (SetTable.grown es1.size)
  have ld:=Qai t2 es1 (SetTable.grown es1.size)
  generalize relayAll t2 es1 (SetTable.grown es1.size)=Z at pm ft ld ⊢
  obtain ⟨es2,t3,gv⟩:=Z
  dsimp only at pm ft ld ⊢
  have z2:es2.size=es1.size:=by rw [←Array.length_toList,pm.length_eq,Array.length_toList]
  refine wpAny_bind (hg _ _ _ (wpAny_bind (wpAny_storeSet_of g1 rfl ?_ (fits_of_scanBound (by rw [z2];exact hb)))))
  obtain ⟨_,S2⟩:=X0 (prog:=prog) (w:=w) (led:=led) (ks:=ks) g1 hex rfl (hel.perm pm) (by rw [z2];exact hb) ft (ld.1.trans hl) (fun z=>by have:=ld.2 z;rw [hp] at this;cases this) ((pm.map _).trans hk)
  exact wpAny_pure (h _ (b1.trans (Heap.SameBut.update _ a _)) S2)
 ·exact wpAny_pure (h _ b1 S1)
theorem Qfc {a:Addr} {ks:List Str} {k:Str} {u:Tok} {led:Bool} {Q:Bool→Shared→Prop} (hS:Y5 prog w led a ks s.heap) (hroom:ks.length+1<scanBound)
 (h:∀(b:Bool) (h':Heap),Heap.SameBut a s.heap h'→Y5 prog w led a (Z0 ks k) h'→Q b { s with heap:=h' }):wpAny (model prog w) A (setAddHashed a (.str k u) (hashStr w k)) Q E s:=by
 obtain ⟨o,es,ep,t,ho,hex,hd,hel,hb,hf,hled,hpl,hpm⟩:=hS
 have hkey:(strKind prog w).is k (.str k u)=true:=by show Value.isStrOf k (.str k u)=true;simp [Value.isStrOf]
 have hsc:(Value.str k u).scannable=true:=rfl
 have hlen:es.size=ks.length:=by rw [←hpm.length_eq,List.length_map,Array.length_toList]
 unfold setAddHashed setAddHashedIn
 refine wpAny_holding (wpAny_bind (wpAny_setState_of ho hd hf ?_))
 dsimp only
 rw [byScan_of hsc hb hel]
 simp only [↓reduceIte]
 unfold setAddByScan
 refine wpAny_bind (wpAny_bind (wpAny_rule (wpAny_bind (wpAny_setScan_of (knd:=strKind prog w) hkey ho hd hf hel ?_))))
 cases hr:List.findIdx? (fun e=>(strKind prog w).is k e.2) es.toList with
 | some j =>
   dsimp only
   obtain ⟨hj,hpj,_⟩:=List.findIdx?_eq_some_iff_getElem.mp hr
   have hm:=List.getElem_mem hj
   obtain ⟨tj,ej⟩:=KI hel hm
   have hin:k∈ks:=hpm.mem_iff.mp (List.mem_map.mpr ⟨_,hm,by
    have e1:Value.isStrOf k es.toList[j].2=true:=hpj
    rw [Qgj ej] at e1
    exact (of_decide_eq_true e1).symm⟩)
   refine wpAny_pure (wpAny_pure ?_)
   have e:s={ s with heap:=s.heap }:=by cases s;rfl
   rw [e]
   exact h false s.heap (Heap.SameBut.refl a s.heap) ⟨o,es,ep,t,ho,hex,hd,hel,hb,hf,hled,hpl,by unfold Z0;rw [if_pos hin];exact hpm⟩
 | none =>
   dsimp only
   have hnin:¬k∈ks:=fun z=>by
    obtain ⟨e,he,hk⟩:=List.mem_map.mp (hpm.mem_iff.mpr z)
    obtain ⟨te,ee⟩:=KI hel he
    have h1:=List.findIdx?_eq_none_iff.mp hr e he
    have h2:Value.isStrOf k e.2=false:=h1
    rw [Qgj ee,hk,decide_eq_true rfl] at h2
    cases h2
   have hperm:=layNew_perm t es (hashStr w k) (.str k u)
   have hfits:=layNew_fits t es (hashStr w k) (.str k u)
   have hld:=QcB t es (hashStr w k) (.str k u)
   have hnk:(Z0 ks k)=ks++[k]:=by unfold Z0;rw [if_neg hnin]
   generalize layNew t es (hashStr w k) (.str k u)=Z at hperm hfits hld ⊢
   obtain ⟨es1,t1,was,gave⟩:=Z
   dsimp only at hperm hfits hld ⊢
   rw [Array.toList_push] at hperm
   have hel1:ElemsOf (strKind prog w) es1.toList:=(hel.push (k:=k) hkey hsc).perm hperm
   have z1:es1.size=es.size+1:=by rw [←Array.length_toList,hperm.length_eq,List.length_append,Array.length_toList];rfl
   have hb1:es1.size<scanBound:=by rw [z1,hlen];exact hroom
   have hk1:(es1.toList.map fun e=>VB e.2).Perm (Z0 ks k):=by
    rw [hnk]
    refine (hperm.map _).trans ?_
    rw [List.map_append]
    exact hpm.append_right _
   have gw:∀(b:Bool) (z:Shared) (R:Unit→Shared→Prop),R () z→wpAny (model prog w) A (match b with | true=>rule "set.scan.the-table-gave-way" | false=>pure ()) R E z:=fun b z R q=>by cases b <;> first | exact wpAny_pure q | exact wpAny_rule q
   refine wpAny_bind (gw _ _ _ ?_)
   split
   ·refine wpAny_bind ?_
    rw [hashByValue_scannable 8 hsc]
    refine wpAny_pure ?_
    refine QeC (led:=led) (ks:=Z0 ks k) ?_ ho hex hd hel1 hb1 ?_ ?_ ?_ hk1 ?_
    ·intro b z R q;cases b <;> first | exact wpAny_pure q | exact wpAny_rule q
    ·exact SetTable.fits_plain_off hfits
    ·exact hld.trans hled
    ·rfl
    ·intro h' hsb hS';dsimp only;exact wpAny_pure (h true h' hsb hS')
   ·rename_i hnp
    refine wpAny_bind (wpAny_pure ?_)
    simp only [↓reduceIte]
    refine QeC (led:=led) (ks:=Z0 ks k) ?_ ho hex hd hel1 hb1 hfits ?_ ?_ hk1 ?_
    ·intro b z R q;cases b <;> first | exact wpAny_pure q | exact wpAny_rule q
    ·exact hld.trans hled
    ·exact Bool.eq_false_iff.mpr hnp
    ·intro h' hsb hS';dsimp only;exact wpAny_pure (h true h' hsb hS')
def Kv (val:Nat→Str) (i:Nat):List Str:=((List.range i).map val).foldl Z0 []
theorem GF (val:Nat→Str) (i:Nat):Kv val (i+1)=Z0 (Kv val i) (val i):=by
 unfold Kv
 rw [List.range_succ,List.map_append,List.foldl_append]
 rfl
theorem QbA (val:Nat→Str):∀i,(Kv val i).length≤i
 | 0=>Nat.le_refl _
 | i+1=>by
   rw [GF]
   have ih:=QbA val i
   unfold Z0
   split
   ·omega
   ·rw [List.length_append,List.length_singleton];omega
theorem XZ {led:Bool} {R:Result→Shared→Prop} {I:Addr} {fp wr:List Addr} {G:Array GenState→Array GenState→Prop} {n:Nat} {P:Nat→Value→Prop} {St:Nat→Shared→Prop} (W:WalksS prog w A.in1 I fp wr G n P St) (S:Addr) (nf:S∉fp)
 (val:Nat→Str) (hval:∀i v,P i v→∃t,v=.str (val i) t) (hb:n+1<scanBound):∀(k i:Nat) (s:Shared),n - i=k→i≤n→St i s→Y5 prog w led S (Kv val i) s.heap →
   (∀s',Moved (S :: wr) G s s'→Y5 prog w led S (Kv val n) s'.heap→R (.ok (.ret .none)) s')→codeAny (model prog w) A (.builtin "set.update.loop" ⟨[.ref S,.ref I],[]⟩) R s:=by
 have nw:S∉wr:=fun h=>nf (W.sub _ h)
 have sub:∀b∈wr,b∈S :: wr:=fun b hb=>List.mem_cons_of_mem _ hb
 intro k
 induction k with
 | zero =>
   intro i s hk hi hst hS hR
   obtain rfl:i=n:=by omega
   refine codeAny_builtin F.entry_set_update_loop ?_
   rw [Around.under_plainId F.plain_set_update_loop _]
   refine wpAny_bind (m:=pyNext (.ref I)) (W.done s _ _ hst fun s' mv=>?_)
   exact wpAny_pure (hR s' (mv.mono sub) (hS.at fun o e=>mv.heap S o nw e))
 | succ k ih =>
   intro i s hk hi hst hS hR
   have lt:i<n:=by omega
   refine codeAny_builtin F.entry_set_update_loop ?_
   rw [Around.under_plainId F.plain_set_update_loop _]
   refine wpAny_bind (m:=pyNext (.ref I)) (W.item i s _ _ lt hst fun v s' hP hst' mv=>?_)
   obtain ⟨t,rfl⟩:=hval i v hP
   have hS':=hS.at (h':=s'.heap) fun o e=>mv.heap S o nw e
   refine wpAny_bind (m:=holding [Value.str (val i) t] (setAdd S (.str (val i) t))) (wpAny_holding ?_)
   unfold setAdd
   refine wpAny_holding (wpAny_bind ((strKind prog w).pyHash (k:=val i) (show Value.isStrOf (val i) (.str (val i) t)=true by simp [Value.isStrOf]) ?_))
   have room:(Kv val i).length+1<scanBound:=by have:=QbA val i;omega
   refine Qfc (s:={ s' with toks:=s'.toks+1 }) (led:=led) hS' room fun b h' sb hS2=>?_
   rw [←GF] at hS2
   refine wpAny_pure ⟨plainId_quiet F.plain_set_update_loop _,ih (i+1) _ (by omega) lt (W.frame _ s' _ _ hst' (Nat.le_succ _) fun b hb o e=>?_) hS2 fun s'' mv' hS''=>?_⟩
   ·rw [sb.2 b (fun h:b=S=>nf (by rw [←h];exact hb))];exact e
   ·refine hR s'' (Moved.trans W.gtrans ((mv.mono sub).then_heap (Nat.le_succ _) fun b o hb e=>?_) mv') hS''
    rw [sb.2 b (fun h:b=S=>hb (by rw [h];exact List.mem_cons_self))];exact e
def Jo (w:World):Obj:={ cls:=.type "set",dict:=none,data:=.set #[] 0 (.fresh 0 0 (!w.params.followText "set-order")) }
theorem GB (v:Value) {R:Value→Shared→Prop} (h:R (.ref s.heap.objs.size) { s with heap:=s.heap.push (Jo w) }):codeAny (model prog w) A (.call (.builtin "set.__new__") ⟨[.type "set",v],[]⟩) (wants R E) s:=by
 refine codeAny_of_tree ?_
 refine wpAny_bind (m:=checkBuiltinCall "set.__new__" ⟨[.type "set",v],[]⟩) (wpAny_of_eq (F.newCall_set_1 v) (wpAny_pure ⟨plainId_quiet F.plain_set_new _,codeAny_builtin F.entry_set_new ?_⟩))
 rw [Around.under_plainId F.plain_set_new _]
 unfold Builtin.«set.__new__» Builtin.Frozenset.newClass
 have sub:=sub_set_self
 obtain ⟨hp,g,d,tk,os⟩:=s
 dsimp only
 wp_walk
 refine wpAny_askSetting (wpAny_pure ?_)
 dsimp only
 simp only [newObj]
 exact wpAny_bind (wpAny_alloc (wpAny_pure (wpAny_pure h)))
theorem G7:∀{vs:List Value} {ss:List Str},StrsAre vs ss→∀(i:Nat) (v:Value),vs[i]?=some v→∃t,v=.str (ss.getD i "") t
 | _,_,.nil,i,v,h=>by simp at h
 | _,_,.cons x t r,0,v,h=>by simp at h;exact ⟨t,by rw [←h];rfl⟩
 | _,_,.cons x t r,i+1,v,h=>by
   rw [List.getElem?_cons_succ] at h
   obtain ⟨t',e⟩:=G7 r i v h
   exact ⟨t',by rw [e];rfl⟩
theorem UU:∀{vs:List Value} {ss:List Str},StrsAre vs ss→vs.length=ss.length
 | _,_,.nil=>rfl
 | _,_,.cons x t r=>by rw [List.length_cons,List.length_cons,UU r]
theorem X8 (ss:List Str):(List.range ss.length).map (fun i=>ss.getD i "")=ss:=by
 apply List.ext_getElem
 ·rw [List.length_map,List.length_range]
 ·intro i h1 h2
  rw [List.getElem_map,List.getElem_range,List.getD_eq_getElem?_getD,List.getElem?_eq_getElem h2]
  rfl
theorem QhX:Y5 prog w (!w.params.followText "set-order") s.heap.objs.size [] (s.heap.push (Jo w)) :=
 ⟨_,#[],0,_,Heap.get?_push_size _ rfl,⟨rfl,rfl,rfl⟩,rfl,(fun e he=>by simp at he),by decide,by rfl,rfl,(fun _=>rfl),by simp⟩
end
end L2
namespace L2
open PySem PySem.Spec PyProof.Rows
section
variable {prog : Program} {w : World} {A : Around} {E : Value → Shared → Prop} {s : Shared}
set_option maxHeartbeats 3200000 in
theorem QcF {l:Addr} {items:Array Value} {ss:List Str} {Q:Value→Shared→Prop} (hh:A.handled=none) (hl:s.heap.IsList l items) (hi:StrsAre items.toList ss) (hb:items.size+1<scanBound)
 (h:∀(h':Heap) (tk:Nat),Y5 prog w (!w.params.followText "set-order") s.heap.objs.size (ss.foldl Z0 []) h'→(∀b o,b<s.heap.objs.size→s.heap.get? b=some o→h'.get? b=some o)→Q (.ref s.heap.objs.size) { s with heap:=h',toks:=tk }) :
 wpAny (model prog w) A (call (.type "set") [.ref l]) Q E s:=by
 obtain ⟨c,tl,m1⟩:=F.called_set.mro
 have m2:=F.called_set.made
 have m3:=F.called_set.sub
 have m4:=F.called_set.notType
 have m5:=F.called_set.canCreate
 have m6:=F.typeCall_set_1 (.ref l)
 refine wpAny_call (codeAny_of_tree ?_)
 show wpAny _ _ (callAny (.type "set") _) _ _ _
 refine wpAny_pure ⟨Code.quiet_builtin _ (by decide +kernel),codeAny_builtin F.entry_type_call ?_⟩
 rw [Around.under_plain (weight_type_call_type "set" [.ref l] []) rfl]
 repeat (any_goals (first | assumption | wp_step))
 refine codeAny_mono (GB (.ref l) (E:=E) (R:=fun z z1=>z=.ref s.heap.objs.size∧z1={ s with heap:=s.heap.push (Jo w) }) ⟨rfl,rfl⟩) fun r s₁ hr=>?_
 cases r with
 | error e=>exact hr
 | ok fl =>
   cases fl with
   | ret z =>
     obtain ⟨rfl,rfl⟩:=hr
     have z1:(s.heap.push (Jo w)).get? s.heap.objs.size=some (Jo w):=Heap.get?_push_size _ rfl
     have z2:Shared.TypeIs { s with heap:=s.heap.push (Jo w) } (.ref s.heap.objs.size) "set":=⟨_,z1,rfl⟩
     have z3:=F.called_set.init.lookup
     have z4:=F.called_set.init.bind (.ref s.heap.objs.size)
     repeat (any_goals (first | assumption | wp_step))
     refine codeAny_mono (codeAny_call_builtin (R:=wants (fun r s₂=>r=.none∧∃h' tk,s₂={ s with heap:=h',toks:=tk }∧Y5 prog w (!w.params.followText "set-order") s.heap.objs.size (ss.foldl Z0 []) h' ∧
      (∀b o,b<s.heap.objs.size→s.heap.get? b=some o→h'.get? b=some o)) E) F.called_set.init.plain F.entry_set_init (check_set_init_1 z2 ?_)) fun r₂ s₂ hr₂=>?_
     ·obtain ⟨ol,e1,e2,nl,e3⟩:=hl
      obtain ⟨ocls,odict,odata,oslots⟩:=ol
      simp only at e2 e3
      subst e2;subst e3
      have y1:(s.heap.push (Jo w)).get? l=some { cls:=.type "list",dict:=odict,data:=.seq items nl,slots:=oslots }:=Heap.get?_push_of_some _ e1
      have y2:=F.sub_list_set
      have y3:=F.sub_list_frozenset
      have y4:(Value.type "list" == Value.type "dict")=false:=by decide
      have y5:(s.heap.push (Jo w)).IsList l items:=⟨_,y1,rfl,nl,rfl⟩
      unfold Builtin.«set.__init__» noKeywords Builtin.Frozenset.updateFrom
      generalize hPI:pyIter=PI
      unfold Jo at z1 z2 y1 y5 ⊢
      wp_walk
      subst hPI
      refine wpAny_pyIter_list y5 ?_
      refine wpAny_bind (wpAny_runValue ?_)
      have lt:l<s.heap.objs.size:=Heap.lt_size e1
      have q3:A.in1.in1.in1.handled=none:=by simp [hh]
      have ne:l≠(s.heap.push { cls:=.type "set",dict:=none,data:=.set #[] 0 (.fresh 0 0 (!w.params.followText "set-order")) }).objs.size:=by
       rw [Heap.size_push];exact Nat.ne_of_lt (Nat.lt_succ_of_lt lt)
      have nf:s.heap.objs.size∉[(s.heap.push { cls:=.type "set",dict:=none,data:=.set #[] 0 (.fresh 0 0 (!w.params.followText "set-order")) }).objs.size,l]:=by
       rw [Heap.size_push]
       intro z
       rcases List.mem_cons.mp z with z | z
       ·omega
       ·rw [List.mem_singleton.mp z] at lt
        exact Nat.lt_irrefl _ lt
      have vl:∀(i:Nat) (v:Value),items[i]?=some v→∃t,v=.str ((fun i=>ss.getD i "") i) t:=fun i v e=>G7 hi i v (by rw [Array.getElem?_toList];exact e)
      have es:Kv (fun i=>ss.getD i "") items.size=ss.foldl Z0 []:=by
       unfold Kv
       rw [←Array.length_toList,UU hi,X8]
      refine XZ (led:=!w.params.followText "set-order") ((Walks.list q3 _ l ne items).toS) s.heap.objs.size nf (fun i=>ss.getD i "") vl hb (items.size - 0) 0 _ (by omega) (Nat.zero_le _) ⟨⟨_,Heap.get?_push_size _ rfl,rfl,rfl⟩,y5.push _⟩ ?S0 ?R0
      case S0=>exact (QhX (prog:=prog) (w:=w) (s:=s)).at fun o e=>Heap.get?_push_of_some _ e
      case R0 =>
       intro s' hm hS'
       obtain ⟨h',g',d',tk',os'⟩:=s'
       have eg:g'=s.gens:=hm.gens
       have ed:d'=s.drawn:=hm.drawn
       have eo:os'=s.os:=hm.os
       subst eg;subst ed;subst eo
       rw [es] at hS'
       refine wpAny_pure (wpAny_pure ⟨rfl,h',tk',rfl,hS',fun b o hb e=>?_⟩)
       refine hm.heap b o (fun z=>?_) (Heap.get?_push_of_some _ (Heap.get?_push_of_some _ e))
       rcases List.mem_cons.mp z with z | z
       ·exact absurd z (Nat.ne_of_lt hb)
       ·have z:=List.mem_singleton.mp z
        rw [Heap.size_push] at z
        exact absurd z (Nat.ne_of_lt (Nat.lt_succ_of_lt hb))
     ·cases r₂ with
      | error e=>exact hr₂
      | ok fl₂ =>
        cases fl₂ with
        | ret r =>
          obtain ⟨rfl,h',tk,rfl,a1,a2⟩:=hr₂
          repeat (any_goals (first | assumption | wp_step))
          exact h _ _ a1 a2
        | _=>exact hr₂.elim
   | _=>exact hr.elim
end
end L2
namespace L2
open PySem PySem.Spec PyProof.Rows
theorem VU {α:Type}:∀(l:List α) (i:Nat) (h:i<l.length),(l[i] :: l.eraseIdx i).Perm l
 | x :: l,0,_=>.refl _
 | x :: l,i+1,h=>by
   show (l[i]'(Nat.lt_of_succ_lt_succ h) :: x :: l.eraseIdx i).Perm (x :: l)
   exact (List.Perm.swap x _ _).trans ((VU l i (Nat.lt_of_succ_lt_succ h)).cons x)
theorem Qdd {α:Type} (next:Nat→Nat):∀(fuel k:Nat) (left:List α) (out:Array α),left.length=fuel→(pickOrder.go next fuel k left out).toList.Perm (out.toList++left)
 | 0,k,left,out,h=>by
   obtain rfl:left=[]:=List.length_eq_zero_iff.mp h
   rw [List.append_nil]
   exact .refl _
 | n+1,k,left,out,h=>by
   have hi:next k % left.length<left.length:=Nat.mod_lt _ (by omega)
   unfold pickOrder.go
   rw [List.getElem?_eq_getElem hi]
   dsimp only
   refine (Qdd next n (k+1) _ _ (by rw [List.length_eraseIdx_of_lt hi,h];rfl)).trans ?_
   rw [Array.toList_push,List.append_assoc]
   exact (VU left _ hi).append_left _
theorem WP {α:Type} (next:Nat→Nat) (xs:Array α):(pickOrder next xs).toList.Perm xs.toList:=by
 have:=Qdd next xs.size 0 xs.toList #[] (by simp)
 exact this
theorem QX:Slot "set_iterator" "__next__" "set_iterator.__next__":=.of (owner:="set_iterator") (n:="__next__") (by rw [typeLookup_type,builtinLookup_eq_fast];kernel_rfl) (by decide +kernel) (by decide +kernel) (by decide +kernel) (by first | exact .inl (by decide +kernel) | exact .inr (by decide +kernel)) (by rw [isSubtype_type];kernel_rfl)
theorem JU:entryFor table "set_iterator.__next__"=some Builtin.«set_iterator.__next__»:=entryFor_of_tree (by kernel_rfl)
theorem Yj (a:Value):argsOk "set_iterator.__next__" ⟨[a],[]⟩:=by unfold argsOk;kernel_rfl
theorem Vj:entryFor table "set.__iter__"=some Builtin.«frozenset.__iter__»:=entryFor_alias (id':="frozenset.__iter__") (by kernel_rfl) rfl (by decide +kernel) (by kernel_rfl)
theorem VC:Slot "set_iterator" "__iter__" "set_iterator.__iter__":=.of (owner:="set_iterator") (n:="__iter__") (by rw [typeLookup_type,builtinLookup_eq_fast];kernel_rfl) (by decide +kernel) (by decide +kernel) (by decide +kernel) (by first | exact .inl (by decide +kernel) | exact .inr (by decide +kernel)) (by rw [isSubtype_type];kernel_rfl)
theorem G3 {M:Model} {A:Around} {E:Value→Shared→Prop} {s:Shared} {src:Source} {n:Nat} {Q:Nat→Shared→Prop} (hn:n≠0) (h:∀i d',i<n→Q i { s with drawn:=d' }):wpAny M A (choose src n) Q E s :=
 fun _ _ _=>⟨hn,h _ _ (Nat.mod_lt _ (Nat.pos_of_ne_zero hn))⟩
theorem UL {M:Model} {A:Around} {E:Value→Shared→Prop} {α:Type}:∀(n:Nat) (xs:List α) (s:Shared) (Q:List α→Shared→Prop),xs.length=n→(∀ys d',ys.Perm xs→Q ys { s with drawn:=d' })→wpAny M A (drawOrder n xs) Q E s
 | 0,xs,s,Q,hl,h=>by
   obtain rfl:xs=[]:=List.length_eq_zero_iff.mp hl
   have e:s={ s with drawn:=s.drawn }:=by cases s;rfl
   unfold drawOrder
   refine wpAny_pure ?_
   rw [e]
   exact h [] _ (.refl _)
 | n+1,[],s,Q,hl,h=>by cases hl
 | n+1,x :: xs,s,Q,hl,h=>by
   unfold drawOrder
   refine wpAny_bind (G3 (by simp) fun i d' hi=>?_)
   have e:(x :: xs)[i]?=some (x :: xs)[i]:=List.getElem?_eq_getElem hi
   rw [e]
   dsimp only
   refine wpAny_bind (UL n ((x :: xs).eraseIdx i) _ _ (by rw [List.length_eraseIdx_of_lt hi,hl];rfl) fun ys d'' hp=>wpAny_pure ?_)
   exact h _ d'' ((hp.cons _).trans (VU _ i hi))
def JW (h:Heap) (it a:Addr) (first:Value) (i n ep:Nat):Prop:=∃o,h.get? it=some o∧o.cls=.type "set_iterator"∧o.data=.fields #[first,.int i 0,.ref a,.int n 0,.int ep 0]
def SAt (h:Heap) (a:Addr) (es:Array (Int×Value)) (ep:Nat) (t:SetTable):Prop:=∃o,h.get? a=some o∧o.cls=.type "set"∧o.data=.set es ep t
section
variable {prog : Program} {w : World} {A : Around} {E : Value → Shared → Prop} {s : Shared} {a it : Addr} {es : Array (Int × Value)} {ep : Nat} {t : SetTable}
theorem JW.typeIs {first:Value} {i n:Nat} (h:JW s.heap it a first i n ep):s.TypeIs (.ref it) "set_iterator":=let ⟨o,e,c,_⟩:=h;⟨o,e,c⟩
theorem Vh {Q:Value→Shared→Prop} (hS:SAt s.heap a es ep t) (hf:t.fits es.size=true) (hnd:(!w.params.followText "set-order" && (!t.plain && decide (es.size > 1)))=false)
 (h:Q (.ref s.heap.objs.size) { s with heap:=s.heap.push { cls:=.type "set_iterator",data:=.fields #[.int 0 0,.int 0 0,.ref a,.int es.size 0,.int ep 0] } }) :
 wpAny (model prog w) A (pyIter (.ref a)) Q E s:=by
 obtain ⟨o,ho,hc,hd⟩:=hS
 have hT:s.TypeIs (.ref a) "set":=⟨o,ho,hc⟩
 refine wpAny_pyIter_slot hT PySem.F.slot_set_iter (wpAny_call_entry PySem.F.slot_set_iter hT Vj ?_ (PySem.F.args_set_iter_1 _))
 unfold Builtin.«frozenset.__iter__» Builtin.Frozenset.slot0 slotArgs
 simp only [List.isEmpty_nil,Bool.not_true,Bool.false_eq_true,↓reduceIte,bind_assoc,List.length_nil,bne_self_eq_false]
 unfold Builtin.Frozenset.addrOf Builtin.Frozenset.sizeOf
 refine wpAny_bind (wpAny_pure ?_)
 try dsimp only
 refine wpAny_bind (wpAny_pure ?_)
 refine wpAny_bind (wpAny_bind (wpAny_setEntries_of ho hd hf (wpAny_pure ?_)))
 unfold setDrawn setsByText
 refine wpAny_bind (wpAny_bind (wpAny_setState_of ho hd hf ?_))
 refine wpAny_bind (wpAny_bind (wpAny_askSetting (wpAny_pure ?_)))
 refine wpAny_pure ?_
 refine wpAny_ite_split (fun z=>?_) (fun _=>?_)
 ·have z':(!w.params.followText "set-order" && (!t.plain && decide (es.size > 1)))=true:=z
  rw [hnd] at z'
  cases z'
 refine wpAny_bind (wpAny_pure ?_)
 refine wpAny_bind (wpAny_setEpoch_of ho hd hf ?_)
 unfold newFields
 refine wpAny_bind (wpAny_newObj_type (wpAny_pure ⟨_,rfl,"set_iterator",_,⟨_,Heap.get?_push_size _ rfl,rfl⟩,QX.lookup,?_⟩))
 exact h
def Jm (ps:List Nat):Obj:={ cls:=.type "tuple",data:=.seq (ps.map fun (i:Nat)=>rawInt i).toArray }
theorem KC {Q:Value→Shared→Prop} (hS:SAt s.heap a es ep t) (hf:t.fits es.size=true) (hnd:(!w.params.followText "set-order" && (!t.plain && decide (es.size > 1)))=true) (hz:es.size≤sizeLine)
 (h:∀ps d',ps.Perm (List.range es.size)→Q (.ref (s.heap.push (Jm ps)).objs.size) { s with heap:=(s.heap.push (Jm ps)).push { cls:=.type "set_iterator",data:=.fields #[.ref s.heap.objs.size,.int 0 0,.ref a,.int es.size 0,.int ep 0] },drawn:=d' }) :
 wpAny (model prog w) A (pyIter (.ref a)) Q E s:=by
 obtain ⟨o,ho,hc,hd⟩:=hS
 have hT:s.TypeIs (.ref a) "set":=⟨o,ho,hc⟩
 refine wpAny_pyIter_slot hT PySem.F.slot_set_iter (wpAny_call_entry PySem.F.slot_set_iter hT Vj ?_ (PySem.F.args_set_iter_1 _))
 unfold Builtin.«frozenset.__iter__» Builtin.Frozenset.slot0 slotArgs
 simp only [List.isEmpty_nil,Bool.not_true,Bool.false_eq_true,↓reduceIte,bind_assoc,List.length_nil,bne_self_eq_false]
 unfold Builtin.Frozenset.addrOf Builtin.Frozenset.sizeOf
 refine wpAny_bind (wpAny_pure ?_)
 try dsimp only
 refine wpAny_bind (wpAny_pure ?_)
 refine wpAny_bind (wpAny_bind (wpAny_setEntries_of ho hd hf (wpAny_pure ?_)))
 unfold setDrawn setsByText
 refine wpAny_bind (wpAny_bind (wpAny_setState_of ho hd hf ?_))
 refine wpAny_bind (wpAny_bind (wpAny_askSetting (wpAny_pure ?_)))
 refine wpAny_pure ?_
 refine wpAny_ite_split (fun _=>?_) (fun z=>absurd (show (!w.params.followText "set-order" && (!t.plain && decide (es.size > 1)))=true from hnd) z)
 refine wpAny_bind (UL _ _ _ _ List.length_range fun ps d' hp=>?_)
 have hl:(ps.map fun i:Nat=>rawInt i).length≤sizeLine:=by rw [List.length_map,hp.length_eq,List.length_range];exact hz
 refine wpAny_bind (wpAny_newTuple ?_ hl)
 refine wpAny_bind (wpAny_setEpoch_of (s:={ s with heap:=s.heap.push (Jm ps),drawn:=d' }) (Heap.get?_push_of_some _ ho) hd hf ?_)
 unfold newFields
 refine wpAny_bind (wpAny_newObj_type (wpAny_pure ⟨_,rfl,"set_iterator",_,⟨_,Heap.get?_push_size _ rfl,rfl⟩,QX.lookup,?_⟩))
 exact h ps d' hp
theorem Vc {Q:Option Value→Shared→Prop} {i slot:Nat} (hI:JW s.heap it a (.int slot 0) i es.size ep) (hS:SAt s.heap a es ep t) (hf:t.fits es.size=true) (hne:a≠it) (x:Value) (nx:Nat)
 (hN:∀(A':Around) (E':Value→Shared→Prop) (R:Option (Value×Nat)→Shared→Prop),R (some (x,nx)) s→wpAny (model prog w) A' (setNext a slot i ep) R E' s)
 (h:∀h',JW h' it a (.int nx 0) (i+1) es.size ep→Heap.SameBut it s.heap h'→Q (some x) { s with heap:=h' }):wpAny (model prog w) A (pyNext (.ref it)) Q E s:=by
 obtain ⟨oi,hoi,hci,hdi⟩:=id hI
 obtain ⟨o,ho,hc,hd⟩:=hS
 unfold pyNext
 refine wpAny_bind (wpAny_attempt (wpAny_callSpecial?_slot (name:=Str.ofString "__next__") hI.typeIs QX (wpAny_call_entry QX hI.typeIs JU ?_ (Yj _))))
 unfold Builtin.«set_iterator.__next__» slotArgs
 simp only [List.isEmpty_nil,Bool.not_true,Bool.false_eq_true,↓reduceIte,bind_assoc,List.length_nil,bne_self_eq_false]
 refine wpAny_bind (wpAny_pure ?_)
 refine wpAny_bind (wpAny_fieldsOf hoi hdi ?_)
 dsimp only
 refine wpAny_bind (wpAny_setEntries_of ho hd hf ?_)
 rw [if_neg (by simp)]
 simp only [Int.toNat_natCast]
 refine wpAny_bind (hN _ _ _ ?_)
 dsimp only
 refine wpAny_bind (wpAny_setField hoi hdi (by simp) ?_)
 have g1:=Heap.get?_update_self (Obj.mapFields (·.setIfInBounds 0 (rawInt (nx:Int)))) hoi (Obj.isFreed_of_fields (Obj.data_mapFields hdi _))
 have d1:=Obj.data_mapFields hdi (·.setIfInBounds 0 (rawInt (nx:Int)))
 refine wpAny_bind (wpAny_setField (s:={ s with heap:=s.heap.update it (Obj.mapFields (·.setIfInBounds 0 (rawInt (nx:Int)))) }) g1 d1 (by simp) ?_)
 have g2:=Heap.get?_update_self (Obj.mapFields (·.setIfInBounds 1 (rawInt ((i:Int)+1)))) g1 (Obj.isFreed_of_fields (Obj.data_mapFields d1 _))
 have d2:=Obj.data_mapFields d1 (·.setIfInBounds 1 (rawInt ((i:Int)+1)))
 refine wpAny_pure ⟨_,rfl,wpAny_pure (h _ ⟨_,g2,(Obj.cls_mapFields ..).trans ((Obj.cls_mapFields ..).trans hci),?_⟩ ?_)⟩
 ·rw [d2];simp [rawInt]
 ·exact (Heap.SameBut.update ..).trans (Heap.SameBut.update ..)
theorem Ui {Q:Option Value→Shared→Prop} {i slot:Nat} (hh:A.handled=none) (hI:JW s.heap it a (.int slot 0) i es.size ep) (hS:SAt s.heap a es ep t) (hf:t.fits es.size=true)
 (hN:∀(A':Around) (E':Value→Shared→Prop) (R:Option (Value×Nat)→Shared→Prop),R none s→wpAny (model prog w) A' (setNext a slot i ep) R E' s)
 (h:∀h',Heap.ExtBut it s.heap h'→Q none { s with heap:=h' }):wpAny (model prog w) A (pyNext (.ref it)) Q E s:=by
 obtain ⟨oi,hoi,hci,hdi⟩:=id hI
 obtain ⟨o,ho,hc,hd⟩:=hS
 unfold pyNext
 refine wpAny_bind (wpAny_attempt (wpAny_callSpecial?_slot (name:=Str.ofString "__next__") hI.typeIs QX (wpAny_call_entry QX hI.typeIs JU ?_ (Yj _))))
 unfold Builtin.«set_iterator.__next__» slotArgs
 simp only [List.isEmpty_nil,Bool.not_true,Bool.false_eq_true,↓reduceIte,bind_assoc,List.length_nil,bne_self_eq_false]
 refine wpAny_bind (wpAny_pure ?_)
 refine wpAny_bind (wpAny_fieldsOf hoi hdi ?_)
 dsimp only
 refine wpAny_bind (wpAny_setEntries_of ho hd hf ?_)
 rw [if_neg (by simp)]
 simp only [Int.toNat_natCast]
 refine wpAny_bind (hN _ _ _ ?_)
 dsimp only
 refine wpAny_bind (wpAny_setField hoi hdi (by simp) ?_)
 refine wpAny_bind ?_
 simp only [newExc,newTuple]
 refine wpAny_bind (wpAny_newObj_type ?_ (by size_fits))
 refine wpAny_bind (m:=firstArgMember _ _) (wpAny_of_eq (a:=Value.none) (by first | rfl | (simp only [firstArgMember];rfl)) ?_)
 refine wpAny_newObj_type ?_ (by size_fits)
 simp only [raiseNew]
 refine wpAny_bind (wpAny_handled ?_)
 rw [show A.in1.handled=none from hh]
 refine wpAny_bind (wpAny_pure (wpAny_throw ?_))
 refine wpAny_bind (wpAny_isInstance (T:="StopIteration") (b:=true) ⟨_,Heap.get?_push_size _ rfl,rfl⟩ isSubtype_stop ?_)
 exact wpAny_pure (h _ (((Heap.SameBut.update ..).extBut.push _).push _))
theorem Kk {Q:Option Value→Shared→Prop} {T:Addr} {ps:List Nat} {i p:Nat} (hI:JW s.heap it a (.ref T) i es.size ep) (hT:s.heap.get? T=some (Jm ps)) (hS:SAt s.heap a es ep t) (hf:t.fits es.size=true) (hp:ps[i]?=some p) {e:Int×Value} (he:es[p]?=some e)
 (h:∀h',JW h' it a (.ref T) (i+1) es.size ep→Heap.SameBut it s.heap h'→Q (some e.2) { s with heap:=h' }):wpAny (model prog w) A (pyNext (.ref it)) Q E s:=by
 obtain ⟨oi,hoi,hci,hdi⟩:=id hI
 obtain ⟨o,ho,hc,hd⟩:=hS
 unfold pyNext
 refine wpAny_bind (wpAny_attempt (wpAny_callSpecial?_slot (name:=Str.ofString "__next__") hI.typeIs QX (wpAny_call_entry QX hI.typeIs JU ?_ (Yj _))))
 unfold Builtin.«set_iterator.__next__» slotArgs
 simp only [List.isEmpty_nil,Bool.not_true,Bool.false_eq_true,↓reduceIte,bind_assoc,List.length_nil,bne_self_eq_false]
 refine wpAny_bind (wpAny_pure ?_)
 refine wpAny_bind (wpAny_fieldsOf hoi hdi ?_)
 dsimp only
 refine wpAny_bind (wpAny_setEntries_of ho hd hf ?_)
 rw [if_neg (by simp)]
 simp only [Int.toNat_natCast]
 refine wpAny_bind (wpAny_seqItems hT rfl ?_)
 dsimp only
 have e1:((ps.map fun (i:Nat)=>rawInt i).toArray)[i]?=some (rawInt p):=by rw [List.getElem?_toArray,List.getElem?_map,hp];rfl
 rw [e1]
 dsimp only [rawInt]
 unfold setNextDrawn
 simp only [Int.toNat_natCast,bind_assoc]
 refine wpAny_bind (wpAny_setState_of ho hd hf ?_)
 rw [if_neg (by simp)]
 rw [he]
 dsimp only
 simp only [pure_bind]
 refine wpAny_bind (wpAny_setField hoi hdi (by simp) ?_)
 have g1:=Heap.get?_update_self (Obj.mapFields (·.setIfInBounds 1 (rawInt ((i:Int)+1)))) hoi (Obj.isFreed_of_fields (Obj.data_mapFields hdi _))
 have d1:=Obj.data_mapFields hdi (·.setIfInBounds 1 (rawInt ((i:Int)+1)))
 refine wpAny_pure ⟨_,rfl,wpAny_pure (h _ ⟨_,g1,(Obj.cls_mapFields ..).trans hci,?_⟩ (Heap.SameBut.update ..))⟩
 rw [d1];simp [rawInt]
theorem Vz {Q:Option Value→Shared→Prop} {T:Addr} {ps:List Nat} {i:Nat} (hh:A.handled=none) (hI:JW s.heap it a (.ref T) i es.size ep) (hT:s.heap.get? T=some (Jm ps)) (hS:SAt s.heap a es ep t) (hf:t.fits es.size=true) (hp:ps[i]?=none)
 (h:∀h',Heap.ExtBut it s.heap h'→Q none { s with heap:=h' }):wpAny (model prog w) A (pyNext (.ref it)) Q E s:=by
 obtain ⟨oi,hoi,hci,hdi⟩:=id hI
 obtain ⟨o,ho,hc,hd⟩:=hS
 unfold pyNext
 refine wpAny_bind (wpAny_attempt (wpAny_callSpecial?_slot (name:=Str.ofString "__next__") hI.typeIs QX (wpAny_call_entry QX hI.typeIs JU ?_ (Yj _))))
 unfold Builtin.«set_iterator.__next__» slotArgs
 simp only [List.isEmpty_nil,Bool.not_true,Bool.false_eq_true,↓reduceIte,bind_assoc,List.length_nil,bne_self_eq_false]
 refine wpAny_bind (wpAny_pure ?_)
 refine wpAny_bind (wpAny_fieldsOf hoi hdi ?_)
 dsimp only
 refine wpAny_bind (wpAny_setEntries_of ho hd hf ?_)
 rw [if_neg (by simp)]
 simp only [Int.toNat_natCast]
 refine wpAny_bind (wpAny_seqItems hT rfl ?_)
 dsimp only
 have e1:((ps.map fun (i:Nat)=>rawInt i).toArray)[i]?=none:=by rw [List.getElem?_toArray,List.getElem?_map,hp];rfl
 rw [e1]
 dsimp only
 refine wpAny_bind (wpAny_setField hoi hdi (by simp) ?_)
 have g1:=Heap.get?_update_self (Obj.mapFields (·.setIfInBounds 0 (rawInt 0))) hoi (Obj.isFreed_of_fields (Obj.data_mapFields hdi _))
 have d1:=Obj.data_mapFields hdi (·.setIfInBounds 0 (rawInt 0))
 refine wpAny_bind (wpAny_setField (s:={ s with heap:=s.heap.update it (Obj.mapFields (·.setIfInBounds 0 (rawInt 0))) }) g1 d1 (by simp) ?_)
 refine wpAny_bind ?_
 simp only [newExc,newTuple]
 refine wpAny_bind (wpAny_newObj_type ?_ (by size_fits))
 refine wpAny_bind (m:=firstArgMember _ _) (wpAny_of_eq (a:=Value.none) (by first | rfl | (simp only [firstArgMember];rfl)) ?_)
 refine wpAny_newObj_type ?_ (by size_fits)
 simp only [raiseNew]
 refine wpAny_bind (wpAny_handled ?_)
 rw [show A.in1.handled=none from hh]
 refine wpAny_bind (wpAny_pure (wpAny_throw ?_))
 refine wpAny_bind (wpAny_isInstance (T:="StopIteration") (b:=true) ⟨_,Heap.get?_push_size _ rfl,rfl⟩ isSubtype_stop ?_)
 exact wpAny_pure (h _ ((((Heap.SameBut.update ..).trans (Heap.SameBut.update ..)).extBut.push _).push _))
end
end L2
namespace L2
open PySem PySem.Spec PyProof.Rows
section
variable {prog : Program} {w : World} {A : Around} {E : Value → Shared → Prop} {s : Shared} {a it : Addr} {es : Array (Int × Value)} {ep : Nat} {t : SetTable}
theorem V6 {i slot:Nat} {R:Option (Value×Nat)→Shared→Prop} (hS:SAt s.heap a es ep t) (hf:t.fits es.size=true) (hb:w.params.followText "set-order"=true)
 (h:R (((pickOrder (w.params.setOrder a ep) es)[i]?).map fun e=>(e.2,slot)) s):wpAny (model prog w) A (setNext a slot i ep) R E s:=by
 obtain ⟨o,ho,hc,hd⟩:=hS
 unfold setNext setsByText
 refine wpAny_bind (wpAny_setState_of ho hd hf ?_)
 refine wpAny_bind (wpAny_bind (wpAny_askSetting (wpAny_pure ?_)))
 refine wpAny_ite_split (fun _=>?_) (fun z=>absurd (show w.params.followText "set-order"=true from hb) z)
 rw [if_neg (by simp)]
 refine wpAny_bind ?_
 unfold setWalk setsByText
 refine wpAny_bind (wpAny_setState_of ho hd hf ?_)
 refine wpAny_bind (wpAny_bind (wpAny_askSetting (wpAny_pure ?_)))
 refine wpAny_ite_split (fun _=>?_) (fun z=>absurd (show w.params.followText "set-order"=true from hb) z)
 refine wpAny_bind (wpAny_askSetting ?_)
 exact wpAny_pure (wpAny_pure h)
theorem U0 {i slot:Nat} {R:Option (Value×Nat)→Shared→Prop} (hS:SAt s.heap a es ep t) (hf:t.fits es.size=true) (hb:w.params.followText "set-order"=false) (hl:t.led=true) (hz:es.size≤1)
 (h:R (match es[SetTable.below t.place slot]?,t.place[SetTable.below t.place slot]? with | some (_,x),some j=>some (x,j+1) | _,_=>none) s):wpAny (model prog w) A (setNext a slot i ep) R E s:=by
 obtain ⟨o,ho,hc,hd⟩:=hS
 unfold setNext setsByText
 refine wpAny_bind (wpAny_setState_of ho hd hf ?_)
 refine wpAny_bind (wpAny_bind (wpAny_askSetting (wpAny_pure ?_)))
 refine wpAny_ite_split (fun z=>absurd (show w.params.followText "set-order"=true from z) (by rw [hb];exact Bool.false_ne_true)) (fun _=>?_)
 refine wpAny_ite_split (fun z=>?_) (fun _=>?_)
 ·have z':(!t.plain && decide (es.size > 1))=true:=z
  rw [Bool.and_eq_true] at z'
  have:=of_decide_eq_true z'.2
  omega
 refine wpAny_bind ?_
 show wpAny _ _ (if (!t.led && !es.isEmpty)=true then _ else pure ()) _ _ s
 rw [if_neg (by rw [hl];simp)]
 exact wpAny_pure (wpAny_pure h)
theorem SAt.at {h h':Heap} (x:SAt h a es ep t) (k:∀o,h.get? a=some o→h'.get? a=some o):SAt h' a es ep t:=let ⟨o,e,r⟩:=x;⟨o,k o e,r⟩
theorem JW.at {h h':Heap} {first:Value} {i n:Nat} (x:JW h it a first i n ep) (k:∀o,h.get? it=some o→h'.get? it=some o):JW h' it a first i n ep:=let ⟨o,e,r⟩:=x;⟨o,k o e,r⟩
theorem KG:entryFor table "set_iterator.__iter__"=some Builtin.«dict_keyiterator.__iter__»:=entryFor_alias (id':="dict_keyiterator.__iter__") (by kernel_rfl) rfl (by decide +kernel) (by kernel_rfl)
theorem K9 (a:Value):argsOk "set_iterator.__iter__" ⟨[a],[]⟩:=by unfold argsOk;kernel_rfl
theorem XY {first:Value} {i n:Nat} {Q:Value→Shared→Prop} (hI:JW s.heap it a first i n ep) (h:Q (.ref it) s):wpAny (model prog w) A (pyIter (.ref it)) Q E s:=by
 refine wpAny_pyIter_slot hI.typeIs VC (wpAny_call_entry VC hI.typeIs KG ?_ (K9 _))
 show wpAny _ _ (ret (.ref it)) _ _ s
 exact wpAny_pure ⟨_,rfl,"set_iterator",_,hI.typeIs,QX.lookup,h⟩
theorem Qb5 (hb:w.params.followText "set-order"=true) (hf:t.fits es.size=true) (hh:A.handled=none) (hne:a≠it) :
 Walks prog w A it [it,a] [it] es.size (fun i v=>((pickOrder (w.params.setOrder a ep) es).toList.map (·.2))[i]?=some v) (fun i h=>JW h it a (.int 0 0) i es.size ep∧SAt h a es ep t) where
 sub:=fun b hb=>by simp at hb;simp [hb]
 frame:=fun _ _ _ st hk=>⟨st.1.at fun o e=>hk it (by simp) o e,st.2.at fun o e=>hk a (by simp) o e⟩
 item:=fun i s Q E hi st hQ=>by
  have hl:(pickOrder (w.params.setOrder a ep) es).size=es.size:=by have:=(WP (w.params.setOrder a ep) es).length_eq;simpa using this
  have e1:(pickOrder (w.params.setOrder a ep) es)[i]?=some ((pickOrder (w.params.setOrder a ep) es)[i]'(by omega)):=Array.getElem?_eq_getElem (by omega)
  refine Vc (slot:=0) (nx:=0) st.1 st.2 hf hne _ (fun A' E' R r=>V6 st.2 hf hb (by rw [e1];exact r)) fun h' hI' sb=>?_
  refine hQ _ h' s.toks ?_ ⟨hI',st.2.at fun o e=>(sb.2 a hne).trans e⟩ fun b o hb e=>(sb.2 b (fun z=>hb (by simp [z]))).trans e
  rw [List.getElem?_map,Array.getElem?_toList,e1]
  rfl
 done:=fun s Q E st hQ=>by
  have hl:(pickOrder (w.params.setOrder a ep) es).size=es.size:=by have:=(WP (w.params.setOrder a ep) es).length_eq;simpa using this
  refine Ui (slot:=0) hh st.1 st.2 hf (fun A' E' R r=>V6 st.2 hf hb (by rw [Array.getElem?_eq_none (by omega)];exact r)) fun h' eb=>hQ h' s.toks fun b o hb e=>eb b o (fun z=>hb (by simp [z])) e
 self:=fun _ _ _ _ st hQ=>XY st.1 hQ
theorem Qb0 (j:Nat):SetTable.below #[j] 0=0:=by
 unfold SetTable.below
 simp [SetTable.below.go]
theorem QbZ (j:Nat):SetTable.below #[j] (j+1)=1:=by
 unfold SetTable.below
 simp [SetTable.below.go]
theorem Qdt (es:Array (Int×Value)) (pl:Array Nat) (h1:es.size=1) (h2:pl.size=es.size):∃e j,es=#[e]∧pl=#[j]:=by
 obtain ⟨l⟩:=es
 obtain ⟨m⟩:=pl
 simp only [List.size_toArray] at h1 h2
 obtain ⟨e,rfl⟩:=List.length_eq_one_iff.mp h1
 obtain ⟨j,rfl⟩:=List.length_eq_one_iff.mp (h2.trans h1)
 exact ⟨e,j,rfl,rfl⟩
theorem QdF (hb:w.params.followText "set-order"=false) (hf:t.fits es.size=true) (hl:t.led=true) (hz:es.size≤1) (hh:A.handled=none) (hne:a≠it) :
 Walks prog w A it [it,a] [it] es.size (fun i v=>(es.toList.map (·.2))[i]?=some v) (fun i h=>JW h it a (.int ((if i=0 then 0 else t.place.getD 0 0+1:Nat):Int) 0) i es.size ep∧SAt h a es ep t) where
 sub:=fun b hb=>by simp at hb;simp [hb]
 frame:=fun _ _ _ st hk=>⟨st.1.at fun o e=>hk it (by simp) o e,st.2.at fun o e=>hk a (by simp) o e⟩
 item:=fun i s Q E hi st hQ=>by
  have h1:es.size=1:=by omega
  have h0:i=0:=by omega
  subst h0
  have hp:t.place.size=es.size:=by unfold SetTable.fits at hf;rw [Bool.and_eq_true] at hf;exact eq_of_beq hf.1
  obtain ⟨e,j,e1,e2⟩:=Qdt es t.place h1 hp
  refine Vc (slot:=0) (nx:=j+1) st.1 st.2 hf hne e.2 (fun A' E' R r=>U0 st.2 hf hb hl hz (by rw [e2,Qb0,e1];exact r)) fun h' hI' sb=>?_
  refine hQ _ h' s.toks (by rw [e1];rfl) ⟨?_,st.2.at fun o e=>(sb.2 a hne).trans e⟩ fun b o hb e=>(sb.2 b (fun z=>hb (by simp [z]))).trans e
  have e3:(if 0+1=0 then 0 else t.place.getD 0 0+1:Nat)=j+1:=by rw [e2];rfl
  rw [e3]
  exact hI'
 done:=fun s Q E st hQ=>by
  by_cases h1:es.size=1
  ·have hp:t.place.size=es.size:=by unfold SetTable.fits at hf;rw [Bool.and_eq_true] at hf;exact eq_of_beq hf.1
   obtain ⟨e,j,e1,e2⟩:=Qdt es t.place h1 hp
   have e3:(if es.size=0 then 0 else t.place.getD 0 0+1:Nat)=j+1:=by rw [h1,e2];rfl
   have st1:=st.1
   rw [e3] at st1
   refine Ui (slot:=j+1) hh st1 st.2 hf (fun A' E' R r=>U0 st.2 hf hb hl hz (by rw [e2,QbZ,e1];exact r)) fun h' eb=>hQ h' s.toks fun b o hb e=>eb b o (fun z=>hb (by simp [z])) e
  ·refine Ui hh st.1 st.2 hf (fun A' E' R r=>U0 st.2 hf hb hl hz (by rw [Array.getElem?_eq_none (by omega)];exact r)) fun h' eb=>hQ h' s.toks fun b o hb e=>eb b o (fun z=>hb (by simp [z])) e
 self:=fun _ _ _ _ st hQ=>XY st.1 hQ
theorem QaI {T:Addr} {ps:List Nat} (hps:ps.Perm (List.range es.size)) (hf:t.fits es.size=true) (hh:A.handled=none) (hne:a≠it) (hTi:T≠it) :
 Walks prog w A it [it,a,T] [it] es.size (fun i v=>((ps.map fun p=>es.toList.getD p (0,.none)).map (·.2))[i]?=some v) (fun i h=>JW h it a (.ref T) i es.size ep∧SAt h a es ep t∧h.get? T=some (Jm ps)) where
 sub:=fun b hb=>by simp at hb;simp [hb]
 frame:=fun _ _ _ st hk=>⟨st.1.at fun o e=>hk it (by simp) o e,st.2.1.at fun o e=>hk a (by simp) o e,hk T (by simp) _ st.2.2⟩
 item:=fun i s Q E hi st hQ=>by
  have hl:ps.length=es.size:=by rw [hps.length_eq,List.length_range]
  have e0:ps[i]?=some (ps[i]'(by omega)):=List.getElem?_eq_getElem (by omega)
  have hlt:ps[i]'(by omega)<es.size:=List.mem_range.mp (hps.mem_iff.mp (List.getElem_mem (by omega)))
  have e1:es[ps[i]'(by omega)]?=some (es.toList.getD (ps[i]'(by omega)) (0,.none)):=by
   rw [List.getD_eq_getElem?_getD,Array.getElem?_toList,Array.getElem?_eq_getElem hlt];rfl
  refine Kk st.1 st.2.2 st.2.1 hf e0 e1 fun h' hI' sb=>?_
  refine hQ _ h' s.toks ?_ ⟨hI',st.2.1.at fun o e=>(sb.2 a hne).trans e,(sb.2 T hTi).trans st.2.2⟩ fun b o hb e=>(sb.2 b (fun z=>hb (by simp [z]))).trans e
  rw [List.getElem?_map,List.getElem?_map,e0]
  rfl
 done:=fun s Q E st hQ=>by
  have hl:ps.length=es.size:=by rw [hps.length_eq,List.length_range]
  refine Vz hh st.1 st.2.2 st.2.1 hf (List.getElem?_eq_none (by omega)) fun h' eb=>hQ h' s.toks fun b o hb e=>eb b o (fun z=>hb (by simp [z])) e
 self:=fun _ _ _ _ st hQ=>XY st.1 hQ
theorem UA:∀{l:List (Int×Value)},ElemsOf (strKind prog w) l→StrsAre (l.map (·.2)) (l.map fun e=>VB e.2)
 | [],_=>.nil
 | e :: l,h=>by
   obtain ⟨t,q⟩:=KI h (List.mem_cons_self ..)
   have ih:=UA (l:=l) fun e he=>h e (List.mem_cons_of_mem _ he)
   show StrsAre (e.2 :: l.map (·.2)) (VB e.2 :: l.map fun e=>VB e.2)
   rw [q]
   exact .cons _ _ ih
theorem Qcl {α:Type} (l:List α) (d:α):(List.range l.length).map (fun i=>l.getD i d)=l:=by
 apply List.ext_getElem
 ·rw [List.length_map,List.length_range]
 ·intro i h1 h2
  rw [List.getElem_map,List.getElem_range,List.getD_eq_getElem?_getD,List.getElem?_eq_getElem h2]
  rfl
theorem Qak (h:Heap) (o:Obj):h.objs.size<(h.push o).objs.size:=by rw [Heap.size_push];exact Nat.lt_succ_self _
theorem Qeb {ks:List Str} {Q:Value→Shared→Prop} (hS:Y5 prog w (!w.params.followText "set-order") a ks s.heap)
 (h:∀(I:Addr) (h':Heap) (d':Drawn) (fp:List Addr) (vs:List Value) (ss:List Str) (St:Nat→Heap→Prop),(∀b o,s.heap.get? b=some o→h'.get? b=some o)→s.heap.objs.size≤I→I<h'.objs.size→(∀b∈fp,b=a∨s.heap.objs.size≤b) →
   StrsAre vs ss→ss.Perm ks→(∀A':Around,A'.handled=none→Walks prog w A' I fp [I] vs.length (fun i v=>vs[i]?=some v) St)→St 0 h'→Q (.ref I) { s with heap:=h',drawn:=d' }) :
 wpAny (model prog w) A (pyIter (.ref a)) Q E s:=by
 obtain ⟨o,es,ep,t,ho,hex,hd,hel,hb,hf,hled,hpl,hpm⟩:=hS
 have hS:SAt s.heap a es ep t:=⟨o,ho,hex.1,hd⟩
 have lt:a<s.heap.objs.size:=Heap.lt_size ho
 have ne:a≠s.heap.objs.size:=Nat.ne_of_lt lt
 have fpk:∀b∈[s.heap.objs.size,a],b=a∨s.heap.objs.size≤b:=fun b hb=>by
  rcases List.mem_cons.mp hb with e | hb
  ·exact .inr (by omega)
  ·exact .inl (List.mem_singleton.mp hb)
 by_cases hbt:w.params.followText "set-order"=true
 ·have pp:=WP (w.params.setOrder a ep) es
  have hl:((pickOrder (w.params.setOrder a ep) es).toList.map (·.2)).length=es.size:=by rw [List.length_map,pp.length_eq,Array.length_toList]
  refine Vh hS hf (by rw [hbt];rfl) ?_
  refine h s.heap.objs.size _ s.drawn [s.heap.objs.size,a] ((pickOrder (w.params.setOrder a ep) es).toList.map (·.2)) ((pickOrder (w.params.setOrder a ep) es).toList.map fun e=>VB e.2) (fun i h=>JW h s.heap.objs.size a (.int 0 0) i es.size ep∧SAt h a es ep t) (fun b o e=>Heap.get?_push_of_some _ e) (Nat.le_refl _) (Qak _ _) fpk
   (UA (hel.perm pp)) ((pp.map _).trans hpm) (fun A' hA'=>by rw [hl];exact Qb5 hbt hf hA' ne) ⟨⟨_,Heap.get?_push_size _ rfl,rfl,rfl⟩,hS.at fun o e=>Heap.get?_push_of_some _ e⟩
 ·have hbf:w.params.followText "set-order"=false:=Bool.eq_false_iff.mpr hbt
  by_cases hz:es.size≤1
  ·have hl:(es.toList.map (·.2)).length=es.size:=by rw [List.length_map,Array.length_toList]
   refine Vh hS hf (by rw [decide_eq_false (show ¬es.size > 1 by omega),Bool.and_false,Bool.and_false]) ?_
   refine h s.heap.objs.size _ s.drawn [s.heap.objs.size,a] (es.toList.map (·.2)) (es.toList.map fun e=>VB e.2) (fun i h=>JW h s.heap.objs.size a (.int ((if i=0 then 0 else t.place.getD 0 0+1:Nat):Int) 0) i es.size ep∧SAt h a es ep t) (fun b o e=>Heap.get?_push_of_some _ e) (Nat.le_refl _) (Qak _ _) fpk
    (UA hel) hpm (fun A' hA'=>by rw [hl];exact QdF hbf hf (by rw [hled,hbf];rfl) hz hA' ne) ⟨⟨_,Heap.get?_push_size _ rfl,rfl,rfl⟩,hS.at fun o e=>Heap.get?_push_of_some _ e⟩
  ·have hp:t.plain=false:=by
    cases e:t.plain with
    | false=>rfl
    | true=>have:=hpl e;omega
   refine KC hS hf (by rw [hbf,hp,decide_eq_true (show es.size > 1 by omega)];rfl) (Nat.le_of_lt (Nat.lt_of_lt_of_le hb (by decide))) fun ps d' hps=>?_
   have pp:(ps.map fun p=>es.toList.getD p (0,Value.none)).Perm es.toList:=by
    have e1:=hps.map (fun p=>es.toList.getD p (0,Value.none))
    have e2:=Qcl es.toList (0,Value.none)
    rw [Array.length_toList] at e2
    rw [e2] at e1
    exact e1
   have hl:((ps.map fun p=>es.toList.getD p (0,Value.none)).map (·.2)).length=es.size:=by rw [List.length_map,pp.length_eq,Array.length_toList]
   have sz:(s.heap.push (Jm ps)).objs.size=s.heap.objs.size+1:=Heap.size_push ..
   have neI:a≠(s.heap.push (Jm ps)).objs.size:=by rw [sz];exact Nat.ne_of_lt (Nat.lt_succ_of_lt lt)
   have neT:s.heap.objs.size≠(s.heap.push (Jm ps)).objs.size:=by rw [sz];omega
   refine h (s.heap.push (Jm ps)).objs.size _ d' [(s.heap.push (Jm ps)).objs.size,a,s.heap.objs.size] ((ps.map fun p=>es.toList.getD p (0,Value.none)).map (·.2)) ((ps.map fun p=>es.toList.getD p (0,Value.none)).map fun e=>VB e.2) (fun i h=>JW h (s.heap.push (Jm ps)).objs.size a (.ref s.heap.objs.size) i es.size ep∧SAt h a es ep t∧h.get? s.heap.objs.size=some (Jm ps))
    (fun b o e=>Heap.get?_push_of_some _ (Heap.get?_push_of_some _ e)) (by rw [sz];omega) (Qak _ _) (fun b hb=>?_)
    (UA (hel.perm pp)) ((pp.map _).trans hpm) (fun A' hA'=>by rw [hl];exact QaI hps hf hA' neI neT) ⟨⟨_,Heap.get?_push_size _ rfl,rfl,rfl⟩,hS.at fun o e=>Heap.get?_push_of_some _ (Heap.get?_push_of_some _ e),Heap.get?_push_of_some _ (Heap.get?_push_size _ rfl)⟩
   rcases List.mem_cons.mp hb with e | hb
   ·exact .inr (by rw [e,sz];omega)
   ·rcases List.mem_cons.mp hb with e | hb
    ·exact .inl e
    ·exact .inr (by rw [List.mem_singleton.mp hb];exact Nat.le_refl _)
end
end L2
namespace L2
open PySem PySem.Spec PyProof.Rows
section
variable {prog : Program} {w : World} {A : Around} {E : Value → Shared → Prop} {s : Shared}
theorem Qgo {r:Addr} {Q:Bool→Shared→Prop} (hT:s.TypeIs (.ref r) "set") (h:Q false s):wpAny (model prog w) A (Builtin.List.listLengthHint (.ref r)) Q E s:=by
 unfold Builtin.List.listLengthHint
 refine wpAny_bind (wpAny_specialOf hT PySem.F.slot_set_len.lookup ?_)
 generalize hid:("set.__len__":String)=id0
 wp_delta
 rw [show splitId id0=some ("set","__len__") from by subst hid;decide +kernel]
 subst hid
 refine wpAny_bind (wpAny_isInstance (T:="set") (b:=true) hT (by rw [isSubtype_type];kernel_rfl) ?_)
 refine wpAny_ite_split (fun hab=>absurd hab (by decide)) (fun _=>?_)
 refine wpAny_ite_split (fun _=>?_) (fun hab=>absurd (by decide +kernel) hab)
 refine wpAny_bind (wpAny_typeOf hT ?_)
 exact wpAny_pure h
theorem Y5.typeIs {led:Bool} {a:Addr} {ks:List Str} (x:Y5 prog w led a ks s.heap):s.TypeIs (.ref a) "set":=let ⟨o,_,_,_,e,hex,_⟩:=x;⟨o,e,hex.1⟩
theorem Y5.lt {led:Bool} {a:Addr} {ks:List Str} {h:Heap} (x:Y5 prog w led a ks h):a<h.objs.size:=let ⟨o,_,_,_,e,_⟩:=x;Heap.lt_size e
theorem Qgi {acc:Array Value} {vs:List Value} (h:ItemsOf (fun i v=>vs[i]?=some v) acc vs.length):acc.toList=vs:=by
 have hl:acc.size=vs.length:=h.1
 apply List.ext_getElem?
 intro i
 by_cases hi:i<acc.size
 ·rw [Array.getElem?_toList,Array.getElem?_eq_getElem hi]
  exact (h.2 i _ (Array.getElem?_eq_getElem hi)).symm
 ·rw [List.getElem?_eq_none (by rw [Array.length_toList];omega),List.getElem?_eq_none (by omega)]
theorem QcE {R:Result→Shared→Prop} {r:Addr} {ks:List Str} (hh:A.handled=none) (hok:Y5 prog w (!w.params.followText "set-order") r ks s.heap) (S:Addr) (hSr:S≠r) (res:Value) (c₀:Nat) (hS:s.heap.get? S=some { cls:=.type "list",data:=.seq #[] c₀ }) (few:ks.length≤sizeLine)
 (hR:∀h' tk d' acc' c' ss,(∀b o,b≠S→s.heap.get? b=some o→h'.get? b=some o)→h'.get? S=some { cls:=.type "list",dict:=none,data:=.seq acc' c',slots:=#[] }→StrsAre acc'.toList ss→ss.Perm ks→R (.ok (.ret res)) { s with heap:=h',toks:=tk,drawn:=d' }) :
 wpAny (model prog w) A.in1 (Builtin.List.listExtendWith (.ref S) (.ref r) res)
  (fun fin s'=>match fin with | .done f=>R (.ok f) s' | .again c'=>c'.quiet=true∧codeAny (model prog w) A c' R s') (fun e s'=>R (.error e) s') s:=by
 have ltS:=Heap.lt_size hS
 unfold Builtin.List.listExtendWith
 refine wpAny_bind (wpAny_typeOf (T:="set") hok.typeIs ?_)
 have h1:Builtin.List.listSameRef (.ref S) (.ref r)=false:=by simp [Builtin.List.listSameRef,hSr]
 simp only [h1,show (Value.type "set" == Value.type "list")=false by decide,show (Value.type "set" == Value.type "tuple")=false by decide,Bool.or_false,Bool.false_eq_true,if_false]
 refine wpAny_bind (Qeb hok fun I h1 d' fp vs ss St keep geI ltI hfp hst hpm W st=>?_)
 have hSf:S∉fp:=fun z=>by
  rcases hfp S z with e | e
  ·exact hSr e
  ·exact Nat.lt_irrefl _ (Nat.lt_of_lt_of_le ltS e)
 have hlen:vs.length≤sizeLine:=by rw [UU hst,hpm.length_eq];exact few
 have key:∀(h:Heap) (c₁ tk:Nat),St 0 h→(∀b o,b≠S→s.heap.get? b=some o→h.get? b=some o)→h.get? S=some { cls:=.type "list",data:=.seq #[] c₁ } →
  codeAny (model prog w) A (.builtin "list.extend.loop" ⟨[.ref S,.ref I,res],[]⟩) R { s with heap:=h,toks:=tk,drawn:=d' }:=by
  intro h c₁ tk hst0 hk hS₁
  refine codeAny_extend_loopS (W A.in1 hh).toS hlen S hSf res vs.length 0 _ #[] c₁ rfl (Nat.zero_le _) hst0 hS₁ (ItemsOf.nil _) fun s' acc' c' hm hS' hacc=>?_
  rw [Moved.eq_with hm]
  refine hR s'.heap s'.toks d' acc' c' ss (fun b o hb e=>hm.heap b o (fun hmem=>?_) (hk b o hb e)) hS' (by rw [Qgi hacc];exact hst) hpm
  rcases List.mem_cons.mp hmem with e' | hmem
  ·exact hb e'
  ·exact absurd (Heap.lt_size e) (by rw [List.mem_singleton.mp hmem];exact Nat.not_lt.mpr geI)
 have hS₁:=keep _ _ hS
 have hok1:=hok.at (h':=h1) fun o e=>keep _ _ e
 refine wpAny_bind (wpAny_holding (Qgo (s:={ s with heap:=h1,drawn:=d' }) hok1.typeIs ?_))
 refine wpAny_ite_split (fun _=>?_) (fun _=>wpAny_pure ⟨plainId_quiet PySem.F.plain_extend_loop _,key _ c₀ _ st (fun b o _ e=>keep _ _ e) hS₁⟩)
 refine wpAny_bind (wpAny_rule ?_)
 refine wpAny_bind ?_
 show wpAny _ _ (updateSeq S (·.push .none) >>= fun _=>updateSeq S (·.pop)) _ _ _
 refine wpAny_bind (wpAny_updateSeq hS₁ rfl ?_)
 have hS₂:=Heap.get?_update_self (Obj.mapSeq (·.push Value.none)) hS₁ rfl
 refine wpAny_updateSeq (hz:=by seq_fits) hS₂ rfl ?_
 have hS₃:=Heap.get?_update_self (Obj.mapSeq (·.pop)) hS₂ rfl
 refine wpAny_pure ⟨plainId_quiet PySem.F.plain_extend_loop _,key _ _ _ ?_ (fun b o hb e=>?_) hS₃⟩
 ·refine (W A.in1 hh).frame 0 _ _ st fun b hb o e=>?_
  have hbS:b≠S:=fun h=>hSf (h▸hb)
  exact (Heap.get?_update_other _ _ (Ne.symm hbS)).trans ((Heap.get?_update_other _ _ (Ne.symm hbS)).trans e)
 ·exact (Heap.get?_update_other _ _ (Ne.symm hb)).trans ((Heap.get?_update_other _ _ (Ne.symm hb)).trans (keep _ _ e))
theorem QbS {r:Addr} {ks:List Str} {R:List Value→Shared→Prop} (calm:A.handled=none) (ok:Y5 prog w (!w.params.followText "set-order") r ks s.heap) (few:ks.length≤sizeLine)
 (fin:∀(g:Heap) (k:Nat) (d':Drawn) (got:List Value) (ss:List Str),(∀b o,s.heap.get? b=some o→g.get? b=some o)→s.heap.objs.size<g.objs.size→StrsAre got ss→ss.Perm ks→R got { s with heap:=g,toks:=k,drawn:=d' }) :
 wpAny (model prog w) A (collect (.ref r)) R E s:=by
 have lr:=ok.lt
 let new:Obj:={ cls:=.type "list",data:=.seq ([]:List Value).toArray }
 have there:(s.heap.push new).get? s.heap.objs.size=some new:=Heap.get?_push_size _ rfl
 have still:=ok.at (h':=s.heap.push new) fun o e=>Heap.get?_push_of_some (h:=s.heap) new e
 have walked:=QcE (A:=A) (s:={ s with heap:=s.heap.push new })
  (R:=fun q t=>∃(g:Heap) (k:Nat) (d':Drawn) (got:Array Value) (c:Nat) (ss:List Str),q=Except.ok (Flow.ret (.ref s.heap.objs.size))∧t={ s with heap:=g,toks:=k,drawn:=d' }∧(∀b o,s.heap.get? b=some o→g.get? b=some o) ∧
    g.get? s.heap.objs.size=some { cls:=.type "list",dict:=none,data:=.seq got c,slots:=#[] }∧StrsAre got.toList ss∧ss.Perm ks)
  calm still s.heap.objs.size (Nat.ne_of_gt lr) (.ref s.heap.objs.size) 0 there few
  (fun g k d' got c ss keep at' all pm=>⟨g,k,d',got,c,ss,rfl,rfl,fun b o e=>keep b o (Nat.ne_of_lt (Heap.lt_size e)) (Heap.get?_push_of_some _ e),at',all,pm⟩)
 have done:∀(g:Heap) (k:Nat) (d':Drawn) (got:Array Value) (c:Nat) (ss:List Str),(∀b o,s.heap.get? b=some o→g.get? b=some o)→g.get? s.heap.objs.size=some { cls:=.type "list",dict:=none,data:=.seq got c,slots:=#[] }→StrsAre got.toList ss→ss.Perm ks →
  wpAny (model prog w) A (do match (←load s.heap.objs.size).data with
   | .seq xs _=>pure xs.toList
   | _=>unsupported "internal:collect") R E { s with heap:=g,toks:=k,drawn:=d' }:=fun g k d' got c ss keep at' all pm =>
  wpAny_bind (wpAny_load at' (wpAny_pure (fin g k d' got.toList ss keep (Heap.lt_size at') all pm)))
 unfold collect
 apply wpAny_bind
 apply wpAny_runValue
 apply codeAny_builtin entry_proto_collect'
 rw [Around.under_plainId F.plain_proto_collect _]
 show wpAny _ A.in1 (newList [] >>= fun z=>again (.builtin "list.__iadd__" ⟨[z,.ref r],[]⟩)) _ _ s
 apply wpAny_bind
 refine wpAny_newObj_type ?_
 apply wpAny_pure
 refine ⟨plainId_quiet F.plain_list_iadd _,?_⟩
 apply codeAny_builtin entry_list_iadd'
 rw [Around.under_plainId F.plain_list_iadd _]
 refine wpAny_mono walked (fun f t q=>?_) (fun e t q=>?_)
 ·cases f with
  | done f =>
    obtain ⟨g,k,d',got,c,ss,e,rfl,keep,at',all,pm⟩:=q
    cases e
    exact done g k d' got c ss keep at' all pm
  | again c1 =>
    refine ⟨q.1,codeAny_mono q.2 fun z t2 y=>?_⟩
    obtain ⟨g,k,d',got,c,ss,rfl,rfl,keep,at',all,pm⟩:=y
    exact done g k d' got c ss keep at' all pm
 ·obtain ⟨_,_,_,_,_,_,e',_⟩:=q
  cases e'
end
end L2
namespace L2
open PySem PySem.Spec PyProof.Rows
theorem Inv.drew {X:Cx} {pins:List (Addr×Obj)} {σ:St} {H:Hp} {s:Shared} (I:Inv X pins σ H s) (d:Drawn):Inv X pins σ H { s with drawn:=d } :=
 ⟨I.ok,I.os,I.bare,I.base,I.loc,I.cell,I.free,I.freeC,I.pin,I.hok,I.len⟩
def QcI (P:Program) (w:World) (a:Addr) (ks:List Str):HO:=.ext fun h=>Y5 P w (!w.params.followText "set-order") a ks h
theorem Qc6 {P:Program} {w:World} {a:Addr} {ks:List Str} {H:Hp} {h:Heap} (x:Y5 P w (!w.params.followText "set-order") a ks h):Zi P w H h a (QcI P w a ks) :=
 ⟨x,let ⟨o,_,_,_,e,_⟩:=x;⟨o,e⟩,fun _ _ y k=>y.at k⟩
theorem QgB {X:Cx} (hc:X.calm=true):JA X (.type "set") (fun xs H Q=>∃(p:Addr) (ss:List Str),xs=[.ref p]∧SqL X.K H p (ss.map V.str)∧ss.length≤1000∧∀l,H l=none→Q (.ref l) (upd H l (QcI X.prog X.w l (ss.foldl Z0 [])))):=by
 intro pins s σ H xs us Q I r h
 obtain ⟨p,ss,rfl,hS,hl,q⟩:=h
 obtain ⟨u,rfl,rx⟩:=JV r
 cases rx
 obtain ⟨its,rv,pl,_⟩:=I.list hS
 have hst:=YG rv
 have hlen:its.length=ss.length:=by have:=rv.length;rw [List.length_map] at this;exact this.symm
 refine QcF (ss:=ss) (I.ok.hd hc) pl.isList (by simpa using hst) (by rw [List.size_toArray];show _<4096;omega) fun h' tk a1 a2=>?_
 exact ⟨.ref s.heap.objs.size,_,I.laid (t':=tk) (fun b u hb=>a2 b u (Heap.lt_size hb) hb) (Nat.le_refl _) (Qc6 a1),rfl,q _ (I.hok.fresh (Nat.le_refl _))⟩
theorem Xx {X:Cx} (hc:X.calm=true):JA X (.builtin "sorted") (fun xs H Q=>∃p ks,xs=[.ref p]∧H p=some (QcI X.prog X.w p ks)∧ks.length<64∧∀l,H l=none→Q (.ref l) (upd H l (.lst ((ZG ks).map V.str)))):=by
 intro pins s σ H xs us Q I r h
 obtain ⟨p,ks,rfl,hp,hl,q⟩:=h
 obtain ⟨u,rfl,rx⟩:=JV r
 cases rx
 obtain ⟨hS,_,_⟩:=(show Zi X.prog X.w H s.heap p (QcI X.prog X.w p ks) from I.hok p _ hp)
 have hh:X.A.in1.handled=none:=I.ok.hd hc
 refine Calls.call_function_entry kind_sorted plain_sorted entry_sorted (args_sorted1 _) ?_
 unfold Builtin.«sorted»
 refine wpAny_bind (m:=checkCount "sorted" 1 1 _) (wpAny_pure ?_)
 refine wpAny_bind (QbS (A:=X.A.in1) hh hS (Nat.le_of_lt (Qj (by omega))) fun h' tk d' acc ss hk hgr hst hpm=>?_)
 have hal:acc.length=ss.length:=UU hst
 have hsl:ss.length=ks.length:=hpm.length_eq
 refine wpAny_bind (wpAny_newList ?_ (by rw [hal];exact Nat.le_of_lt (Qj (by omega))))
 have hoL:(h'.push (seqObj "list" acc.toArray 0)).get? h'.objs.size=some (seqObj "list" acc.toArray 0):=Heap.get?_push_size _ rfl
 refine wpAny_bind (wpAny_holding (wpAny_call_entry slot_list_sort ⟨_,hoL,rfl⟩ entry_list_sort (list_sort_treeK strKind_oneLt hoL hst.keysOf (fun v₁ v₂ rest e=>keyKind_strs (by rw [←e];exact hst)) (by omega) fun st' a1 a2=>⟨_,rfl,?_⟩) (args_list_sort _)))
 refine wpAny_pure ⟨_,rfl,?_⟩
 obtain ⟨ss',b1,b2,b3⟩:=sorted_out_str hst a1 a2
 obtain ⟨e,he⟩:=sortedHeap_at (out:=(arrOf st').map (·.2)) hoL
 have es':ss'=ZG ks:=(V3 b2 (Qfa b3)).trans (UV hpm)
 subst es'
 have hsz:s.heap.objs.size≤h'.objs.size:=Nat.le_of_lt hgr
 have old:∀b u,s.heap.get? b=some u→(sortedHeap (h'.push (seqObj "list" acc.toArray 0)) h'.objs.size acc ((arrOf st').map (·.2))).get? b=some u:=fun b u hb=>by
  have hb':=hk b u hb
  have hlt:=Heap.lt_size hb'
  rw [sortedHeap_old (Nat.ne_of_lt hlt) (by rw [size_push'];exact Nat.lt_succ_of_lt hlt)]
  exact Heap.get?_push_of_some _ hb'
 have J:=I.laid (t':=tk) old hsz (show Zi X.prog X.w (upd H h'.objs.size (.lst ((ZG ks).map V.str))) _ _ (.lst ((ZG ks).map V.str)) from ⟨by rw [List.length_map,WJ];exact Nat.le_of_lt (Qj (by omega)),((arrOf st').map (·.2)).toList,e,Uz b1,by rw [Array.toArray_toList];exact he⟩)
 exact ⟨.ref h'.objs.size,_,J.drew d',rfl,q _ (I.hok.fresh hsz)⟩
end L2
namespace L2
open PySem PySem.Spec PyProof.Rows
inductive Gp (x:V) (xs:List V) (H:Hp) (Q:VK):Prop
 | mk:∀(z y:Str),x=.str z→xs=[.str y]→z.length≤1000000→Q (.str (Txt.rstripChars z y)) H→Gp x xs H Q
def Qg3:V→List V→Hp→VK→Prop:=fun x xs H Q=>Gp x xs H Q
theorem Qd3 {X:Cx}:MtR X "str.rstrip" Qg3:=by
 intro pins s σ H x xs v us Q I rx rv h
 obtain ⟨z,y,rfl,rfl,hz,q⟩:=h
 obtain ⟨t,rfl⟩:=rx
 obtain ⟨u,rfl,ru⟩:=JV rv
 obtain ⟨t',rfl⟩:=ru
 exact SCL.rstripChars (fun _ _ _=>⟨.str _,H,I.tok _,⟨_,rfl⟩,q⟩) (by show z.length≤2 ^ 24;omega)
theorem Qcj {x y:Str} {c:Nat} (h:c∈(Txt.rstripChars x y).cps.toList):c∈x.cps.toList:=by
 obtain ⟨j,_,e⟩:=rstripChars_is_prefix x y
 rw [e] at h
 have h:c∈(x.cps.extract 0 j).toList:=h
 rw [Array.toList_extract] at h
 exact List.mem_of_mem_drop (List.mem_of_mem_take h)
end L2
namespace L2
open PySem PySem.Spec PyProof.Rows
theorem KU:isSubtype (.type "tuple") (.type "set")=pure false:=by rw [isSubtype_type];kernel_rfl
theorem Vv:isSubtype (.type "tuple") (.type "frozenset")=pure false:=by rw [isSubtype_type];kernel_rfl
section
variable {prog : Program} {w : World} {A : Around} {E : Value → Shared → Prop} {s : Shared}
set_option maxHeartbeats 3200000 in
theorem QbU {l:Addr} {items:Array Value} {ss:List Str} {Q:Value→Shared→Prop} (hh:A.handled=none) (hl:s.heap.IsTuple l items) (hi:StrsAre items.toList ss) (hb:items.size+1<scanBound)
 (h:∀(h':Heap) (tk:Nat),Y5 prog w (!w.params.followText "set-order") s.heap.objs.size (ss.foldl Z0 []) h'→(∀b o,b<s.heap.objs.size→s.heap.get? b=some o→h'.get? b=some o)→Q (.ref s.heap.objs.size) { s with heap:=h',toks:=tk }) :
 wpAny (model prog w) A (call (.type "set") [.ref l]) Q E s:=by
 obtain ⟨c,tl,m1⟩:=F.called_set.mro
 have m2:=F.called_set.made
 have m3:=F.called_set.sub
 have m4:=F.called_set.notType
 have m5:=F.called_set.canCreate
 have m6:=F.typeCall_set_1 (.ref l)
 refine wpAny_call (codeAny_of_tree ?_)
 show wpAny _ _ (callAny (.type "set") _) _ _ _
 refine wpAny_pure ⟨Code.quiet_builtin _ (by decide +kernel),codeAny_builtin F.entry_type_call ?_⟩
 rw [Around.under_plain (weight_type_call_type "set" [.ref l] []) rfl]
 repeat (any_goals (first | assumption | wp_step))
 refine codeAny_mono (GB (.ref l) (E:=E) (R:=fun z z1=>z=.ref s.heap.objs.size∧z1={ s with heap:=s.heap.push (Jo w) }) ⟨rfl,rfl⟩) fun r s₁ hr=>?_
 cases r with
 | error e=>exact hr
 | ok fl =>
   cases fl with
   | ret z =>
     obtain ⟨rfl,rfl⟩:=hr
     have z1:(s.heap.push (Jo w)).get? s.heap.objs.size=some (Jo w):=Heap.get?_push_size _ rfl
     have z2:Shared.TypeIs { s with heap:=s.heap.push (Jo w) } (.ref s.heap.objs.size) "set":=⟨_,z1,rfl⟩
     have z3:=F.called_set.init.lookup
     have z4:=F.called_set.init.bind (.ref s.heap.objs.size)
     repeat (any_goals (first | assumption | wp_step))
     refine codeAny_mono (codeAny_call_builtin (R:=wants (fun r s₂=>r=.none∧∃h' tk,s₂={ s with heap:=h',toks:=tk }∧Y5 prog w (!w.params.followText "set-order") s.heap.objs.size (ss.foldl Z0 []) h' ∧
      (∀b o,b<s.heap.objs.size→s.heap.get? b=some o→h'.get? b=some o)) E) F.called_set.init.plain F.entry_set_init (check_set_init_1 z2 ?_)) fun r₂ s₂ hr₂=>?_
     ·obtain ⟨ol,e1,e2,nl,e3⟩:=hl
      obtain ⟨ocls,odict,odata,oslots⟩:=ol
      simp only at e2 e3
      subst e2;subst e3
      have y1:(s.heap.push (Jo w)).get? l=some { cls:=.type "tuple",dict:=odict,data:=.seq items nl,slots:=oslots }:=Heap.get?_push_of_some _ e1
      have y2:=KU
      have y3:=Vv
      have y4:(Value.type "tuple" == Value.type "dict")=false:=by decide
      have y5:(s.heap.push (Jo w)).IsTuple l items:=⟨_,y1,rfl,nl,rfl⟩
      unfold Builtin.«set.__init__» noKeywords Builtin.Frozenset.updateFrom
      generalize hPI:pyIter=PI
      unfold Jo at z1 z2 y1 y5 ⊢
      wp_walk
      subst hPI
      refine wpAny_pyIter_tuple y5 ?_
      refine wpAny_bind (wpAny_runValue ?_)
      have lt:l<s.heap.objs.size:=Heap.lt_size e1
      have q3:A.in1.in1.in1.handled=none:=by simp [hh]
      have ne:l≠(s.heap.push { cls:=.type "set",dict:=none,data:=.set #[] 0 (.fresh 0 0 (!w.params.followText "set-order")) }).objs.size:=by
       rw [Heap.size_push];exact Nat.ne_of_lt (Nat.lt_succ_of_lt lt)
      have nf:s.heap.objs.size∉[(s.heap.push { cls:=.type "set",dict:=none,data:=.set #[] 0 (.fresh 0 0 (!w.params.followText "set-order")) }).objs.size,l]:=by
       rw [Heap.size_push]
       intro z
       rcases List.mem_cons.mp z with z | z
       ·omega
       ·rw [List.mem_singleton.mp z] at lt
        exact Nat.lt_irrefl _ lt
      have vl:∀(i:Nat) (v:Value),items[i]?=some v→∃t,v=.str ((fun i=>ss.getD i "") i) t:=fun i v e=>G7 hi i v (by rw [Array.getElem?_toList];exact e)
      have es:Kv (fun i=>ss.getD i "") items.size=ss.foldl Z0 []:=by
       unfold Kv
       rw [←Array.length_toList,UU hi,X8]
      refine XZ (led:=!w.params.followText "set-order") ((Walks.tuple q3 _ l ne items).toS) s.heap.objs.size nf (fun i=>ss.getD i "") vl hb (items.size - 0) 0 _ (by omega) (Nat.zero_le _) ⟨⟨_,Heap.get?_push_size _ rfl,rfl,rfl⟩,y5.push _⟩ ?S0 ?R0
      case S0=>exact (QhX (prog:=prog) (w:=w) (s:=s)).at fun o e=>Heap.get?_push_of_some _ e
      case R0 =>
       intro s' hm hS'
       obtain ⟨h',g',d',tk',os'⟩:=s'
       have eg:g'=s.gens:=hm.gens
       have ed:d'=s.drawn:=hm.drawn
       have eo:os'=s.os:=hm.os
       subst eg;subst ed;subst eo
       rw [es] at hS'
       refine wpAny_pure (wpAny_pure ⟨rfl,h',tk',rfl,hS',fun b o hb e=>?_⟩)
       refine hm.heap b o (fun z=>?_) (Heap.get?_push_of_some _ (Heap.get?_push_of_some _ e))
       rcases List.mem_cons.mp z with z | z
       ·exact absurd z (Nat.ne_of_lt hb)
       ·have z:=List.mem_singleton.mp z
        rw [Heap.size_push] at z
        exact absurd z (Nat.ne_of_lt (Nat.lt_succ_of_lt hb))
     ·cases r₂ with
      | error e=>exact hr₂
      | ok fl₂ =>
        cases fl₂ with
        | ret r =>
          obtain ⟨rfl,h',tk,rfl,a1,a2⟩:=hr₂
          repeat (any_goals (first | assumption | wp_step))
          exact h _ _ a1 a2
        | _=>exact hr₂.elim
   | _=>exact hr.elim
end
theorem QbV {X:Cx} (hc:X.calm=true):JA X (.type "set") (fun xs H Q=>∃(p:Addr) (ss:List Str),xs=[.ref p]∧SqT X.K H p (ss.map V.str)∧ss.length≤1000∧∀l,H l=none→Q (.ref l) (upd H l (QcI X.prog X.w l (ss.foldl Z0 [])))):=by
 intro pins s σ H xs us Q I r h
 obtain ⟨p,ss,rfl,hS,hl,q⟩:=h
 obtain ⟨u,rfl,rx⟩:=JV r
 cases rx
 obtain ⟨its,rv,pl,_⟩:=I.tuple hS
 have hst:=YG rv
 have hlen:its.length=ss.length:=by have:=rv.length;rw [List.length_map] at this;exact this.symm
 refine QbU (ss:=ss) (I.ok.hd hc) pl (by simpa using hst) (by rw [List.size_toArray];show _<4096;omega) fun h' tk a1 a2=>?_
 exact ⟨.ref s.heap.objs.size,_,I.laid (t':=tk) (fun b u hb=>a2 b u (Heap.lt_size hb) hb) (Nat.le_refl _) (Qc6 a1),rfl,q _ (I.hok.fresh (Nat.le_refl _))⟩
end L2
namespace L2
open PySem PySem.Spec PyProof.Rows
def dd (ss:List Str):List Str:=ss.foldl Z0 []
theorem Qdy:∀(ss acc:List Str) {x:Str},x∈ss.foldl Z0 acc↔x∈acc∨x∈ss
 | [],acc,x=>by simp
 | y :: ss,acc,x=>by
   rw [List.foldl_cons,Qdy ss (Z0 acc y),Qau,List.mem_cons,or_assoc]
theorem Qgx:∀(ss acc:List Str),acc.Nodup→(ss.foldl Z0 acc).Nodup
 | [],_,h=>h
 | y :: ss,acc,h=>Qgx ss (Z0 acc y) (QiT h)
theorem Qat {ss:List Str} {x:Str}:x∈dd ss↔x∈ss:=by unfold dd;rw [Qdy];simp
theorem QdA (ss:List Str):(dd ss).Nodup:=Qgx ss [] List.nodup_nil
theorem Qdz:∀(ss acc:List Str),(ss.foldl Z0 acc).length≤acc.length+ss.length
 | [],acc=>by simp
 | y :: ss,acc=>by
   have ih:=Qdz ss (Z0 acc y)
   have:(Z0 acc y).length≤acc.length+1:=by unfold Z0;split <;> simp
   rw [List.foldl_cons,List.length_cons]
   omega
theorem Qgy (ss:List Str):(dd ss).length≤ss.length:=by have:=Qdz ss [];simpa [dd] using this
def SS (ss:List Str):List Str:=ZG (dd ss)
theorem Qav {ss:List Str} {x:Str}:x∈SS ss↔x∈ss:=QdL.trans Qat
theorem QgM (ss:List Str):(SS ss).length≤ss.length:=by unfold SS;rw [WJ];exact Qgy ss
theorem WE {a b:List Str} (h:∀x,x∈a↔x∈b):SS a=SS b:=UV ((List.perm_ext_iff_of_nodup (QdA a) (QdA b)).mpr fun x=>Qat.trans ((h x).trans Qat.symm))
theorem Qh6 (ss:List Str):(SS ss).Nodup:=(J1 _).nodup_iff.mpr (QdA ss)
theorem QgL {l:List Str} (hn:l.Nodup):SS l=ZG l:=UV ((List.perm_ext_iff_of_nodup (QdA l) hn).mpr fun x=>Qat)
theorem QhD {l:List Str} (hs:Sor l) (hn:l.Nodup):SS l=l:=by rw [QgL hn];exact (V3 (.refl l) hs).symm
theorem QaF (l:List Str):SS (SS l)=SS l:=WE fun _=>Qav
theorem G1 (l:List Str) (p:Str→Bool):SS ((SS l).filter p)=(SS l).filter p:=QhD ((Vn _).filter _) ((Qh6 l).filter _)
theorem QbW {X:Cx} (hc:X.calm=true):JA X (.type "set") (fun xs H Q=>∃(p:Addr) (ss:List Str),xs=[.ref p]∧(SqL X.K H p (ss.map V.str)∨SqT X.K H p (ss.map V.str))∧ss.length≤1000∧∀l,H l=none→Q (.ref l) (upd H l (QcI X.prog X.w l (dd ss)))):=by
 intro pins s σ H xs us Q I r h
 obtain ⟨p,ss,e,hS | hS,hl,q⟩:=h
 ·exact QgB hc pins s σ H xs us Q I r ⟨p,ss,e,hS,hl,q⟩
 ·exact QbV hc pins s σ H xs us Q I r ⟨p,ss,e,hS,hl,q⟩
end L2
namespace L2
open PySem PySem.Spec PyProof.Rows
end L2
namespace L2
open PySem PySem.Spec PyProof.Rows
theorem Xj {K:PySem.W.Frag} {a:Addr} {α:Type} {xs:List α} {fr:List (Nat×Str)} {tt:TT} {te:TE} {σ:St} {H1:Hp} {Q:VK} (g:α→V) (pr:α→Bool) (f:α→V) (hz:xs.length≤sizeLine) (hS:SqL K H1 a (xs.map g))
 (htt:∀(x:α) (H3:Hp) (Q':Bool→Hp→Prop),x∈xs→Qm H1 H3→(∀H4,Qm H3 H4→Q' (pr x) H4)→tt (some (g x) :: frV σ fr) H3 Q')
 (hte:∀(x:α) (H3:Hp) (Q':VK),x∈xs→Qm H1 H3→pr x=true→(∀H4,Qm H3 H4→Q' (f x) H4)→te (some (g x) :: frV σ fr) H3 Q')
 (hQ:∀D H2,H1 D=none→Qm H1 H2→H2 D=some (.lst ((xs.filter pr).map f))→Q (.ref D) H2) :
 Jg (Itl K a) fr tt te σ H1 Q:=by
 intro D hD
 refine ⟨fun i m ys H2=>m=xs.length - i∧i≤xs.length∧ys=((xs.take i).filter pr).map f∧Qm H1 H2∧H2 D=some (.lst ys),⟨xs.length,by simp,Nat.zero_le _,by simp,Qm.upd_new hD,Qh⟩,?_⟩
 rintro i m ys H2 ⟨rfl,hi,rfl,s2,d2⟩
 refine ⟨d2,?_⟩
 have hS2:=s2.seq hS
 by_cases hlt:i<xs.length
 ·have hx0:(xs.map g)[i]?=some (g xs[i]):=by rw [List.getElem?_map,List.getElem?_eq_getElem hlt];rfl
  refine .inr ⟨⟨xs.map g,g xs[i],hS2,hx0⟩,?_⟩
  rintro v H3 ⟨rfl,hv⟩
  have hx:(xs.map g)[i]?=some v:=hv _ hS2
  rw [hx0] at hx
  cases hx
  have hm:xs[i]∈xs:=List.getElem_mem hlt
  have et:xs.take (i+1)=xs.take i++[xs[i]]:=by rw [List.take_add_one,List.getElem?_eq_getElem hlt];rfl
  refine htt xs[i] _ _ hm s2 fun H4 s4=>?_
  cases hp:pr xs[i] with
  | false =>
    refine QU ⟨xs.length - (i+1),by omega,rfl,hlt,?_,s2.trans s4,s4 _ _ d2⟩
    rw [et,List.filter_append,List.filter_cons,hp]
    simp
  | true =>
    refine Zc (hte xs[i] _ _ hm (s2.trans s4) hp fun H5 s5=>⟨s5 _ _ (s4 _ _ d2),?_,xs.length - (i+1),by omega,rfl,hlt,?_,((s2.trans s4).trans s5).upd_of hD,Qh⟩)
    ·have:=List.length_filter_le pr (xs.take i)
     rw [List.length_take] at this
     rw [List.length_map]
     omega
    ·rw [et,List.filter_append,List.filter_cons,hp]
     simp
 ·have e:i=xs.length:=by omega
  subst e
  have e2:xs.take xs.length=xs:=List.take_of_length_le (Nat.le_refl _)
  rw [e2] at d2
  exact .inl ⟨⟨xs.map g,hS2,by rw [List.length_map];exact Nat.le_refl _⟩,hQ D H2 hD s2 d2⟩
theorem KJ {K:PySem.W.Frag} {a:Addr} {xs:List V} {fr:List (Nat×Str)} {te:TE} {σ:St} {H1:Hp} {Q:VK} (Pv:Addr→Nat→List V→Hp→Prop) (hz:xs.length≤sizeLine) (hS:SqL K H1 a xs) (h0:∀D,H1 D=none→Pv D 0 [] (upd H1 D (.lst []))) (hlen:∀D i ys H,Pv D i ys H→ys.length=i)
 (hte:∀(D:Addr) (i:Nat) (x:V) (ys:List V) (H3:Hp) (Q':VK),xs[i]?=some x→H1 D=none→Pv D i ys H3→H3 D=some (.lst ys)→Qm H1 H3→(∀y H5,Qm H3 H5→Pv D (i+1) (ys++[y]) (upd H5 D (.lst (ys++[y])))→Q' y H5)→te (some x :: frV σ fr) H3 Q')
 (hQ:∀D ys H2,H1 D=none→Pv D xs.length ys H2→Qm H1 H2→H2 D=some (.lst ys)→Q (.ref D) H2) :
 Jg (Itl K a) fr W7 te σ H1 Q:=by
 intro D hD
 refine ⟨fun i m ys H2=>m=xs.length - i∧i≤xs.length∧Pv D i ys H2∧Qm H1 H2∧H2 D=some (.lst ys),⟨xs.length,by simp,Nat.zero_le _,h0 D hD,Qm.upd_new hD,Qh⟩,?_⟩
 rintro i m ys H2 ⟨rfl,hi,p,s2,d2⟩
 refine ⟨d2,?_⟩
 have hS2:=s2.seq hS
 by_cases hlt:i<xs.length
 ·refine .inr ⟨⟨xs,xs[i],hS2,List.getElem?_eq_getElem hlt⟩,?_⟩
  rintro v H3 ⟨rfl,hv⟩
  refine UT (Zc ?_)
  refine hte D i v ys _ _ (hv xs hS2) hD p d2 s2 fun y H5 s5 p'=>⟨s5 _ _ d2,?_,xs.length - (i+1),by omega,rfl,hlt,p',(s2.trans s5).upd_of hD,Qh⟩
  rw [hlen D i ys _ p];omega
 ·have e:i=xs.length:=by omega
  subst e
  exact .inl ⟨⟨xs,hS2,Nat.le_refl _⟩,hQ D ys H2 hD p s2 d2⟩
end L2
namespace L2
open PySem PySem.Spec PyProof.Rows
section
variable {X : Cx} {pins : List (Addr × Obj)} {σ : St} {Hc H' : Hp} {sc : Shared}
end
section
variable {P : Program} {w : World} {K : PySem.W.Frag} {mg : Str → Option Value} {base : Heap} {N : List Str} {qual : Str} {scope : Scope} {f : Addr} {cd : Value} {A : Around} {outer : List Env} {s : Shared} {H : Hp} {E : XK}
end
section
variable {P : Program} {w : World} {K : PySem.W.Frag} {mg : Str → Option Value} {base : Heap} {N : List Str} {qual : Str} {scope : Scope} {f : Addr} {cd : Value} {A : Around} {outer : List Env} {s : Shared} {H : Hp} {E : XK}
end
section
variable {X : Cx} {CX : CXT} {k : Nat} {f C : Addr} {fd : FuncData} {ps : List Str} {sp : Sp} {dvs : List V} {ds : List Value} {R : St → XK} {x m : Str} {p pos apos : Pos} {e o : Expr} {es : List Expr} {ta : TE} {t : TA}
end
section
variable {X : Cx} {pins pins' : List (Addr × Obj)} {σ : St} {H : Hp} {s : Shared} {R : St → XK}
end
end L2
namespace L2
open PySem PySem.Spec PyProof.Rows
end L2
set_option maxHeartbeats 400000
namespace L2
open PySem PySem.Spec PyProof.Rows
open PySem.Builtin PySem.Builtin.ObjectAttr PySem.Builtin.Getset_descriptor
section
variable {prog : Program} {w : World} {A : Around} {E : Value → Shared → Prop} {K : PySem.W.Frag} {x C : Addr} {h : Heap} {g : Array GenState} {d : Drawn} {t : Nat} {os : OsState}
end
end L2
set_option maxHeartbeats 4000000
namespace L2
open PySem PySem.Spec PyProof.Rows
section
variable {X : Cx} {pins : List (Addr × Obj)} {σ : St} {H : Hp} {s : Shared}
theorem Inv.track {e:Addr} {o:HO} (I:Inv X pins σ H s) (hn:H e=none) (h0:X.s₀.heap.get? e=none) (hL:e≠X.env.locals) (hC:∀x c,X.env.cells.lookup x=some c→c≠e) (hp:∀p∈X.pn++pins,p.1≠e)
 (ok:Zi X.prog X.w (upd H e o) s.heap e o):Inv X pins σ (upd H e o) s where
 ok:=I.ok
 os:=I.os
 bare:=I.bare
 base:=⟨I.base.keep,I.base.slot,fun b ob q n hx=>by
  have hb:b≠e:=fun z=>by rw [z,h0] at q;cases q
  rw [Qk hb];exact I.base.free b ob q n hx,I.base.there,
  fun b xs q=>by have:=I.base.tups b xs q;rw [Qk (Qu this hn)];exact this,
  fun b o u q=>by have:=I.base.frzs b o u q;rw [Qk (Qu this hn)];exact this,
  fun b ps q=>by obtain ⟨more,this⟩:=I.base.tbls b ps q;exact ⟨more,by rw [Qk (Qu this hn)];exact this⟩⟩
 loc:=I.loc
 cell:=I.cell
 free:=by rw [Qk (Ne.symm hL)];exact I.free
 freeC:=fun x c q=>by rw [Qk (hC x c q)];exact I.freeC x c q
 pin:=fun p q=>by
  obtain ⟨a,b,c⟩:=I.pin p q
  exact ⟨a,by rw [Qk (hp p q)];exact b,c⟩
 hok:=fun b u q=>by
  by_cases hb:b=e
  ·subst hb;rw [Qh] at q;cases q;exact ok
  ·rw [Qk hb] at q
   exact (I.hok b u q).stay (fun _ _ _ z=>z) (fun c z=>by rw [Qk (Qu z hn)];exact z) fun c xs z=>by rw [Qk (Qu z hn)];exact z
 len:=I.len
end
end L2
set_option maxHeartbeats 400000
namespace L2
open PySem PySem.Spec PyProof.Rows
end L2
namespace L2
open PySem PySem.Spec PyProof.Rows
theorem QaJ {k:Bool}:∀{bs:List Bool} {us:List Value},QW (bs.map V.bl) us→(∀y∈us,∃b,y=Value.bool b)∧us.countP (isBoolOf k)=bs.count k
 | [],us,r=>by
   cases r
   exact ⟨fun y hy=>(List.not_mem_nil hy).elim,rfl⟩
 | b :: bs,us,r=>by
   cases r with
   | cons r1 r2 =>
     rename_i u us'
     obtain rfl:u=Value.bool b:=r1
     obtain ⟨h1,h2⟩:=QaJ (k:=k) r2
     refine ⟨fun y hy=>?_,?_⟩
     ·rcases List.mem_cons.mp hy with rfl | hy
      ·exact ⟨b,rfl⟩
      ·exact h1 y hy
     ·rw [List.countP_cons,List.count_cons,h2]
      rfl
inductive Gq (x:V) (vs:List V) (H:Hp) (Q:VK):Prop
 | mk:∀(l:Addr) (bs:List Bool) (k:Bool),x=.ref l→vs=[.bl k]→H l=some (.lst (bs.map V.bl))→Q (.int (bs.count k:Nat)) H→Gq x vs H Q
def Qg4:V→List V→Hp→VK→Prop:=fun x vs H Q=>Gq x vs H Q
theorem Qd4 {X:Cx}:MtR X "list.count" Qg4:=by
 intro pins s σ H x vs v us Q I rx rv h
 obtain ⟨l,bs,k,rfl,rfl,hH,q⟩:=h
 cases rx
 obtain ⟨u,rfl,ru⟩:=JV rv
 obtain rfl:u=Value.bool k:=ru
 obtain ⟨z,its,n,r,hl,e⟩:=I.lstM hH
 obtain ⟨h1,h2⟩:=QaJ (k:=k) r
 refine call_meets F.slot_list_count ⟨_,e,rfl⟩ F.entry_list_count (F.args_list_count_2 _ _) (SeqAt.list_countAt l its.toArray n _ _ (.bool k) (isBoolOf k)) ⟨e,fun y hy=>?_,?_⟩
 ·obtain ⟨b,rfl⟩:=h1 y (by simpa using hy)
  exact SeqAt.EqAt.bool_bool b k
 ·rw [show its.toArray.toList=its from rfl,h2]
  exact ⟨.int (bs.count k:Nat),H,I.tok _,⟨_,rfl⟩,q⟩
end L2
namespace L2
open PySem PySem.Spec PyProof.Rows
section
variable {X : Cx} {k : Nat} {f : Addr} {fd : FuncData} {ps : List Str} {sp : Sp} {dvs : List V} {ds : List Value} {E : XK} {x : Str} {p pos : Pos} {e : Expr} {es : List Expr} {t : TA}
end
end L2
namespace L2
open PySem PySem.Spec PyProof.Rows
section
variable {X : Cx} {o e : Expr} {es : List Expr} {to : TE} {t : TA} {name : Str} {apos cpos : Pos} {T id : String} {r : V → List V → Hp → VK → Prop}
theorem QfG (K:PySem.W.Frag) (pa:PlainAttrs T) (slot:Slot T name id) (hty:typeOf (.builtin id)=pure (.type "method_descriptor")) (hm:MtR X id r) (ho:PE X o to) (ha:PA X (e :: es) t) (hK:X.K=K:=by rfl)
 (hbase:attributeBase o name X.env (eval o X.env)=eval o X.env:=by rfl)
 (hfew:((backTo cpos (starEach (e :: es) X.env)).all (fun x=>!x.1) && (backToKw cpos (keywordEach [] X.env)).all (fun x=>x.1.isSome)
   && decide ((e :: es).length+([]:List Keyword).length+(if ([]:List Keyword).isEmpty then 0 else 1)<30))=true:=by rfl)
 (hline:(apos.endLine == cpos.line)=true:=by rfl) (hs:starEach (e :: es) X.env=(false,eval e X.env) :: starEach es X.env:=by rfl) (hplain:(backTo cpos (starEach es X.env)).any (·.1)=false:=by rfl) :
 PE X (.Call (.Attribute o name apos) (e :: es) [] cpos) (tBM K T r to t):=hK▸Z8 pa slot hty hm ho ha hbase hfew hline hs hplain
end
end L2
set_option maxHeartbeats 4000000
namespace L2
open PySem PySem.Spec PyProof.Rows
end L2
namespace L2
open PySem PySem.Spec PyProof.Rows
end L2
namespace L2
open PySem PySem.Spec PyProof.Rows
def runT {α:Type} (lt:Nat→Nat→Bool):W.KasT α→α
 | .ret a=>a
 | .ask i j k=>runT lt (k (lt i j))
section
variable {n : Nat}
end
end L2
namespace L2
open PySem PySem.Spec PyProof.Rows
section
variable {X : Cx} {pins : List (Addr × Obj)} {σ : St} {H : Hp} {s : Shared} {h' : Heap}
theorem Inv.turnedL {t':Nat} {ch:List Addr} (I:Inv X pins σ H s) (k:∀b o,b∉ch→s.heap.get? b=some o→h'.get? b=some o) (f:∀b∈ch,Xy X pins H b):Inv X pins σ H { s with heap:=h',toks:=t' }:=by
 have nit:∀b u,H b=some u→b∉ch:=fun b u e z=>by rw [(f b z).1] at e;cases e
 refine I.step (g':=s.gens) (d':=s.drawn) (ch:=ch) (fun b hb=>?_) (fun b o _ _ hc e _=>k b o hc e) (fun b o _ _ hc e _=>⟨o.slots,k b o hc e⟩) (fun _ _ _ _ n=>n)
  (fun b o hc e=>⟨o,k b o hc e⟩) (fun _ _ e=>e) (fun _ _ _ e=>e) (fun b ps e=>⟨#[],by rw [e];simp⟩) (fun m hm=>?_) (fun b u e=>?_) I.bare
 ·obtain ⟨_,f1,_,f3,f4,f5⟩:=f b hb
  exact ⟨f3,f1,f4,f5⟩
 ·obtain ⟨o,es,ep,ho,r⟩:=hm
  exact ⟨o,es,ep,k _ o (fun z=>(f _ z).2.1 rfl) ho,r⟩
 ·refine (I.hok b u e).stay (fun c v hc q=>k c v ?_ q) (fun _ q=>q) fun _ _ q=>q
  rcases hc with z | z
  ·rw [z];exact nit b u e
  ·exact nit c _ z
end
def Ite (K:PySem.W.Frag) (l:Addr):It :=
 ⟨fun i H=>∃xs x,SqL K H l xs∧xs[i]?=some x,fun i H v H'=>∃(T:Addr) (x:V),(∀xs,SqL K H l xs→xs[i]?=some x)∧H T=none∧v=.ref T∧H'=upd H T (.tup [.int i,x]),fun i H=>∃xs,SqL K H l xs∧xs.length=i⟩
theorem QdI {P:Program} {w:World} {K:PySem.W.Frag} {elts:List Expr} {kt:Nat} {pt:Pos} (l e it:Addr) (h1:e≠it) (h2:l≠e) (h3:l≠it):QcH P w K (.Tuple elts kt pt) (Ite K l) [e,it] e (fun i h=>(∃old,IsEnum h e it (i:Int) old)∧h.IsListIter it l i) where
 mem:=by simp
 obj:=fun i h st b hb=>by
  obtain ⟨⟨old,s1⟩,o,s2,c,d⟩:=st
  rcases List.mem_cons.mp hb with rfl | hb
  ·exact ⟨_,s1,fun v z=>by cases z⟩
  ·have e:=List.mem_singleton.mp hb
   subst e
   exact ⟨o,s2,fun v z=>by rw [d] at z;cases z⟩
 keep:=fun i h h' st k=>⟨let ⟨old,s1⟩:=st.1;⟨old,k e (by simp) _ s1⟩,st.2.at fun o q=>k it (by simp) o q⟩
 item:=by
  intro X hP hw hK hc i pins s σ H E I hf st hg
  subst hP hw hK
  obtain ⟨xs,x,hq,hx⟩:=hg
  obtain ⟨its,rv,p,hz⟩:=I.list hq
  obtain ⟨u,hu,ru⟩:=rv.get hx
  have hlt:i<its.length:=(List.getElem?_eq_some_iff.mp hu).1
  have W:=WalksT.enumerate (prog:=X.prog) (w:=X.w) (I.ok.hd hc) e it l h1 h2 h3 its.toArray
  refine W.item i s _ E (by simpa using hlt) ⟨st.1,st.2,p.isList⟩ fun T vals h' tk hv hT isT mid same=>⟨.ref T,rfl,?_⟩
  obtain ⟨t,x',hx',rfl⟩:=hv
  have ex:x'=u:=by
   have:its.toArray[i]?=some u:=by simpa using hu
   rw [this] at hx'
   exact (Option.some.inj hx').symm
  subst ex
  refine W.go elts kt pt i T _ _ E mid fun h2' st2 same2=>?_
  have hf':∀b∈[e,it],Xy X pins H b:=hf
  have I1:Inv X pins σ H { s with heap:=h2',toks:=tk }:=I.turnedL (t':=tk) (ch:=[e,it]) (fun b o hb q=>same2 b o hb (same b o hb q)) hf'
  have nT:T∉[e,it]:=W.apart _ _ _ mid
  obtain ⟨o,oT,oc,n,od⟩:=id isT
  have isT2:h2'.IsTuple T #[.int (i:Int) t,x']:=⟨o,same2 T o nT oT,oc,n,od⟩
  have hn:H T=none:=I.hok.fresh hT
  have fp:=I.fpOk (b:=T) (H':=H) hT hn
  have h0:X.s₀.heap.get? T=none:=by
   cases q:X.s₀.heap.get? T with
   | none=>rfl
   | some o=>exact absurd (Nat.lt_of_lt_of_le (Heap.lt_size q) (Nat.le_trans I.sz hT)) (Nat.lt_irrefl _)
  refine ⟨.ref T,upd H T (.tup [.int i,x]),I1.track hn h0 fp.2.1 fp.2.2.2.2.1 fp.2.2.2.2.2 ?_,rfl,⟨T,x,fun ys hy=>by rw [I.list_inj hy hq];exact hx,hn,rfl,rfl⟩,⟨st2.1,st2.2.1⟩,fun b hb=>?_⟩
  ·exact ⟨by show 2≤sizeLine;decide,[.int i t,x'],.cons ⟨t,rfl⟩ (.cons ru .nil),isT2⟩
  ·rw [Qk (fun z=>nT (by rw [←z];exact hb))]
   exact (hf b hb).1
 done:=by
  intro X hP hw hK hc i pins s σ H E I hf st hg
  subst hP hw hK
  obtain ⟨xs,hq,hx⟩:=hg
  obtain ⟨its,rv,p,hz⟩:=I.list hq
  have hl:=rv.length
  have W:=WalksT.enumerate (prog:=X.prog) (w:=X.w) (I.ok.hd hc) e it l h1 h2 h3 its.toArray
  have ei:its.toArray.size=i:=by simp;omega
  have hf':∀b∈[e,it],Xy X pins H b:=hf
  refine W.done s _ E (by rw [ei];exact ⟨st.1,st.2,p.isList⟩) fun h' tk same=>⟨rfl,I.turnedL (t':=tk) (ch:=[e,it]) same hf'⟩
 self:=fun A i s Q E st h=>let ⟨_,s1⟩:=st.1;wpAny_pyIter_enum s1 h
inductive Qdr (K:PySem.W.Frag) (R:(It→Hp→Prop)) (vs:List V) (H1:Hp):Prop
 | mk:∀(l:Addr) (xs:List V),vs=[.ref l]→H1 l=some (.lst xs)→R (Ite K l) H1→Qdr K R vs H1
def iEnum (K:PySem.W.Frag) (ta:TA):TI:=fun σ H R=>ta σ H fun vs H1=>Qdr K R vs H1
theorem Qg9 {X:Cx} {elts:List Expr} {kt:Nat} {pt:Pos} {a:Expr} {ta:TA} {p pos:Pos} (hg:Gl X "enumerate") (hm:X.mg "enumerate"=none) (ha:PA X [a] ta) (hs:starEach [a] X.env=[(false,eval a X.env)]:=by rfl):PI X (.Tuple elts kt pt) (.Call (.Name "enumerate" p) [a] [] pos) (iEnum X.K ta):=by
 intro pins s σ H R I h
 refine Call_ (W0 I hg hm boot_enumerate (PyProof.Rows.callWith_type1 (thn (ha pos pins s σ H _ I h) fun us s1 ⟨vs,H1,I1,r1,q1⟩=>?_) hs rfl))
 obtain ⟨l,xs,e,hl,q⟩:=q1
 subst e
 cases r1 with
 | cons r rr =>
   cases rr
   cases r
   obtain ⟨its,rv,p,_⟩:=I1.list (SqL.of hl)
   have ll:l<s1.heap.objs.size:=(I1.hok l _ hl).lt
   refine call_enumerate_list p.isList fun h' i1 i2 hz keep=>?_
   have I2:Inv X pins σ H1 { s1 with heap:=h' }:=I1.kept (t':=s1.toks) keep
   refine wpAny_pyIter_enum i1 ⟨s1.heap.objs.size+1,[s1.heap.objs.size+1,s1.heap.objs.size],_,_,H1,rfl,I2,QdI l (s1.heap.objs.size+1) s1.heap.objs.size (Nat.succ_ne_self _) (Nat.ne_of_lt (Nat.lt_succ_of_lt ll)) (Nat.ne_of_lt ll),⟨⟨_,i1⟩,i2⟩,fun b hb=>?_,q⟩
   rcases List.mem_cons.mp hb with rfl | hb
   ·exact I1.fpOk (Nat.le_succ _) (I1.hok.fresh (Nat.le_succ _))
   ·rw [List.mem_singleton.mp hb]
    exact I1.fpOk (Nat.le_refl _) (I1.hok.fresh (Nat.le_refl _))
end L2
namespace HT
open PySem PyProof.Rows
section
open PySem.SeqAt
open PySem.AutoSeq1 (wpAny_loadPart')
open PySem.MeetsSeq PySem.MeetsSeq2 PySem.MeetsSeq3
end
end HT
namespace L2
open PySem PySem.Spec PyProof.Rows
end L2
namespace L2
open PySem PySem.Spec PyProof.Rows
section
variable {prog : Program} {w : World} {A : Around} {E : Value → Shared → Prop} {s : Shared} {d it : Addr} {es : Array DictEntry} {ep i : Nat}
end
end L2
namespace L2
open PySem PySem.Spec PyProof.Rows
end L2
namespace HT
open PySem PyProof.Rows
variable {prog : Program} {w : World} {A : Around} {E : Value → Shared → Prop} {s : Shared}
theorem getItem_tuple_whole {t sl:Addr} {items:Array Value} {vl vu:Value} {lo hi:Option Int} {Q:Value→Shared→Prop} (ht:IsTup s.heap t items) (hs:s.heap.IsSliceOf sl vl vu .none) (pl:IsPart vl lo) (pu:IsPart vu hi)
 (hw:sIx items.size 0 lo=0∧sIx items.size items.size hi=items.size) (h:Q (.ref t) s):wpAny (model prog w) A (getItem (.ref t) (.ref sl)) Q E s:=by
 have hTs:s.TypeIs (.ref sl) "slice":=let ⟨os,hos,hcs,_⟩:=hs;⟨os,hos,hcs⟩
 unfold getItem
 try with_reducible refine wpAny_holding ?_
 first | refine wpAny_bind (wpAny_pure ?_) | skip
 refine wpAny_bind (wpAny_sequenceKey ht.typeIs (by decide) ?_)
 refine wpAny_bind (wpAny_callSpecial?_slot (name:=Str.ofString "__getitem__") ht.typeIs PyProof.Rows.slot_tuple_getitem
  (wpAny_call_entry PyProof.Rows.slot_tuple_getitem ht.typeIs entry_tuple_getitem ?_ (args_tuple_getitem _ _)))
 show wpAny _ _ (Builtin.Tuple.tupleItemsOf (.ref t) >>= _) _ _ s
 refine wpAny_bind (tupleItemsOf_ ht (wpAny_bind (wpAny_typeOf hTs ?_)))
 rw [if_pos (by decide)]
 refine wpAny_bind (Um hs pl pu ?_)
 show wpAny _ _ (if (((sIx items.size 0 lo:Nat):Int) == 0 && (1:Int) == 1 && (sIx items.size items.size hi - sIx items.size 0 lo) == items.size)=true then _ else _) _ _ s
 rw [if_pos (by rw [hw.1,hw.2];simp)]
 show wpAny _ _ (Builtin.Tuple.tupleIsExact (.ref t) >>= _) _ _ s
 unfold Builtin.Tuple.tupleIsExact
 refine wpAny_bind ?_
 refine wpAny_bind (wpAny_typeOf ht.typeIs (wpAny_pure ?_))
 show wpAny _ _ (if (Value.type "tuple" == Value.type "tuple")=true then _ else _) _ _ s
 rw [if_pos (by decide)]
 refine wpAny_bind (wpAny_rule ?_)
 exact wpAny_pure ⟨_,rfl,wpAny_pure h⟩
end HT
namespace L2
open PySem PySem.Spec PyProof.Rows
inductive Qfk (K:PySem.W.Frag) (x:V) (lo:Option Int) (hi:Option Int) (H:Hp) (Q:VK):Prop
 | mk:∀a xs,x=.ref a→SqT K H a xs→((HT.sIx xs.length 0 lo=0∧HT.sIx xs.length xs.length hi=xs.length)→Q (.ref a) H)→(∀p,H p=none→Q (.ref p) (upd H p (.tup (Yo xs lo hi))))→Qfk K x lo hi H Q
def rSlA (K:PySem.W.Frag):V→Option Int→Option Int→Hp→VK→Prop:=fun x lo hi H Q=>Qfk K x lo hi H Q
theorem Qg0 {X:Cx}:SlR X (rSlA X.K):=by
 intro pins s σ H x v vl vu lo hi sl Q I rx hs pl pu h
 obtain ⟨a,xs,rfl,hx,q1,q2⟩:=h
 by_cases hw:HT.sIx xs.length 0 lo=0∧HT.sIx xs.length xs.length hi=xs.length
 ·cases rx
  obtain ⟨its,r,ht,hz⟩:=I.tuple hx
  have hlen:its.toArray.size=xs.length:=by rw [List.size_toArray];exact r.length.symm
  exact ⟨"tuple",_,PyProof.Rows.slot_tuple_getitem.lookup,ht.typeIs,HT.getItem_tuple_whole ht hs pl pu (by rw [hlen];exact hw) ⟨.ref a,H,I,rfl,q1 hw⟩⟩
 ·exact Qil pins s σ H (.ref a) v vl vu lo hi sl Q I rx hs pl pu ⟨a,xs,rfl,hx,hw,q2⟩
section
variable {X : Cx} {pins : List (Addr × Obj)} {σ : St} {H : Hp} {s : Shared} {a : Addr} {oa : Obj} {kvs : List (List Key × V)}
end
end L2
namespace Hd
open PySem PySem.W PySem.Calls PyProof.Rows L2
noncomputable def runT (st:SharedT→Thread→Option (SharedT×Thread)) (ok:Thread→Bool) (n:Nat):SharedT→Thread→Option SharedT :=
 @Nat.rec (fun _=>SharedT→Thread→Option SharedT) (fun _ _=>none) (fun _ ih s t=>match through t with
  | true=>some s
  | false=>match ok t with
    | false=>none
    | true=>match st s t with
      | some (s',t')=>ih s' t'
      | none=>none) n
theorem QdO (st:SharedT→Thread→Option (SharedT×Thread)) (ok:Thread→Bool) (n:Nat) (s:SharedT) (t:Thread):runT st ok (n+1) s t=(match through t with
 | true=>some s
 | false=>match ok t with
   | false=>none
   | true=>match st s t with
     | some (s',t')=>runT st ok n s' t'
     | none=>none):=rfl
theorem Qc9 {tb:String→Option Builtin} {p:Program} {w:World} {n₀:Nat} {ann:Option Value}:∀(n:Nat) (s:SharedT) (t:Thread) (s':SharedT),
 runT (stepT (denote tb) p w) (stepOk n₀ ann) n s t=some s'→topRun tb p w n₀ ann n s.abs t=some s'.abs
 | 0,_,_,_,h=>nomatch (h:none=some _)
 | n+1,s,t,s',h=>by
   rw [QdO] at h
   unfold topRun
   cases ht:through t with
   | true=>rw [ht] at h;cases h;rfl
   | false =>
     rw [ht] at h
     cases hk:stepOk n₀ ann t with
     | false=>rw [hk] at h;cases h
     | true =>
       rw [hk] at h
       dsimp only at h ⊢
       cases hs:stepT (denote tb) p w s t with
       | none=>rw [hs] at h;cases h
       | some x =>
         obtain ⟨s₂,t₂⟩:=x
         rw [hs] at h
         rw [stepT_spec hs]
         exact Qc9 n s₂ t₂ s' h
def QgE (t:BT) (n:Nat):List Obj→BT
 | []=>t
 | o :: r=>QgE (t.ins n o) (n+1) r
noncomputable def Qh5 (P:Params):BT:=QgE .nil 0 (boot_heap P).objs.toList
theorem Qes (P:Params):((boot_heap P).isNs mainGlobals,(boot_heap P).objs.size,(boot_heap P).nsMap mainGlobals "__annotations__")=(true,11,some (.ref 6)):=by kernel_rfl
theorem QgF (P:Params):absHeap (Qh5 P) 11 {}=boot_heap P:=by kernel_rfl
noncomputable def S0 (w:World) (os:OsState):SharedT:=⟨Qh5 w.params,11,{},#[],boot_drawn,boot_toks,os⟩
theorem QiY (w:World) (os:OsState):(S0 w os).abs=⟨boot_heap w.params,#[],boot_drawn,boot_toks,os⟩:=congrArg (fun h=>(⟨h,#[],boot_drawn,boot_toks,os⟩:Shared)) (QgF w.params)
noncomputable def chk (p:Program) (P:Params) (s:Shared):Bool:=staticsOk (importedModules p.main.body) (boot_heap P) s.heap && namesBound p s.heap && gensDone s && laidKept (boot_heap P) s.heap
noncomputable abbrev stepQ:(Code→Sem Fin)→Program→World→SharedT→Thread→Option (SharedT×Thread):=PySem.W.Fast.tw10156331382660048174
noncomputable abbrev denQ:Code→Sem Fin:=PySem.W.Fast.tw11892475500146522536 PySem.W.Fast.tw14364793385576792824
noncomputable abbrev okQ:Nat→Option Value→Thread→Bool:=PySem.W.Fast.tw6613529449190102663
noncomputable abbrev seenQ:=@PySem.W.Fast.tw4187177175401517315
theorem left {p q:Program} {loose:List Str} {Xt:Shared→Bool} {α:Type} {Yf:Shared→α} {Ya:World→α} {N:Nat} (e:opening p=plainProg p.main.scope.names) (hN:Nat.ble 600 N=true) (f:∀s,fenceModules? p s=some s)
 (h:∀(w:World) (os:OsState),(runT (stepQ denQ p w) (okQ 11 (some (.ref 6))) N (S0 w os) (topStub p)).map (fun s=>(chk p w.params s.abs,seenQ q loose (importedModules p.main.body) Xt true s.abs,Yf s.abs))=some (true,openGood q loose,Ya w)) :
 LeftO p q loose Xt Yf Ya N:=fun w=>by
 obtain ⟨⟨hh,gs,d,k,os⟩,e1,e'⟩:=Option.map_eq_some_iff.mp (boot_open e hN f w)
 obtain ⟨rfl,rfl,rfl,rfl⟩:hh=boot_heap w.params∧gs=#[]∧d=boot_drawn∧k=boot_toks:=by simpa using e'
 have h:=h w os
 unfold stepQ denQ okQ seenQ at h
 rw [←PySem.W.Fast.te10156331382660048174,←PySem.W.Fast.te11892475500146522536,←PySem.W.Fast.te14364793385576792824,←PySem.W.Fast.te6613529449190102663,←PySem.W.Fast.te4187177175401517315] at h
 obtain ⟨s,r,l⟩:=Option.map_eq_some_iff.mp h
 obtain ⟨l1,l2,l3⟩:_∧_∧_:=by simpa only [Prod.mk.injEq] using l
 have r:=Qc9 N _ _ _ r
 rw [QiY] at r
 obtain ⟨z1,z2,z3⟩:_∧_∧_:=by simpa only [Prod.mk.injEq] using Qes w.params
 have t:topFrom treeTable p w N ⟨boot_heap w.params,#[],boot_drawn,boot_toks,os⟩=some s.abs:=by
  unfold topFrom
  dsimp only
  rw [z1,z2,z3,r]
  show (match staticsOk (importedModules p.main.body) (boot_heap w.params) s.abs.heap && namesBound p s.abs.heap && gensDone s.abs && laidKept (boot_heap w.params) s.abs.heap with | true=>_ | false=>_)=_
  rw [show (staticsOk (importedModules p.main.body) (boot_heap w.params) s.abs.heap && namesBound p s.abs.heap && gensDone s.abs && laidKept (boot_heap w.params) s.abs.heap)=true from l1]
 unfold openEnds
 rw [e1]
 show (topFrom treeTable p w N _).map _=_
 rw [t]
 exact congrArg some (Prod.ext l2 l3)
def GL (h:Heap):Frag:=(List.range h.objs.size).filterMap fun a=>(h.get? a).map fun o=>(a,o)
theorem Kx (f:Nat→Option Obj) (a:Addr) (o:Obj):∀l:List Nat,(l.filterMap fun a=>(f a).map fun o=>(a,o)).lookup a=some o→f a=some o
 | [],e=>nomatch e
 | b :: l,e=>by
   cases hb:f b with
   | none=>rw [List.filterMap_cons_none (by rw [hb];rfl)] at e;exact Kx f a o l e
   | some x =>
     rw [List.filterMap_cons_some (by rw [hb];rfl),List.lookup_cons] at e
     split at e
     ·rename_i q;cases e;rw [beq_iff_eq.mp q];exact hb
     ·exact Kx f a o l e
theorem Qhu (h:Heap):(GL h).In h:=fun a o e=>Kx h.get? a o _ e
def fragT (s:SharedT):Frag:=(List.range s.n).filterMap fun a=>(match Nat.blt a s.n with | true=>alive ((s.tree.get a).getD default) | false=>none).map fun o=>(a,o)
theorem Qgs (s:SharedT):fragT s=GL s.abs.heap:=by
 unfold fragT GL
 show _=(List.range (absHeap s.tree s.n s.life).objs.size).filterMap fun a=>((absHeap s.tree s.n s.life).get? a).map fun o=>(a,o)
 rw [absHeap_size]
 congr 1
 funext a
 congr 1
 unfold Heap.get?
 rw [absHeap_at]
 cases h:Nat.blt a s.n with
 | true =>
   rw [if_pos (show a<s.n from Nat.le_of_ble_eq_true h)]
   dsimp only
   cases (s.tree.get a).getD default with
   | mk c d dt sl=>cases dt <;> rfl
 | false =>
   rw [if_neg (fun q=>by rw [show Nat.blt a s.n=true from Nat.ble_eq_true_of_le q] at h;cases h)]
def says {α:Type} (obs:Frag→α) (good:α) (_:World) (h:Heap):Prop:=∃K:Frag,K.In h∧obs K=good
theorem close {l:OpenLaw} {q:Program} {loose:List Str} {d:DefRec} {α:Type} {obs:Frag→α} {good:α} {N:Nat}
 (look:PySem.W.Fast.tw9446332074065402090 l=true) (e:opening l.prog=plainProg l.prog.main.scope.names) (hN:Nat.ble 600 N=true) (f:∀s,fenceModules? l.prog s=some s)
 (h:∀(w:World) (os:OsState),(runT (stepQ denQ l.prog w) (okQ 11 (some (.ref 6))) N (S0 w os) (topStub l.prog)).map (fun s=>(chk l.prog w.params s.abs,seenQ q loose (importedModules l.prog.main.body) (fun s=>recOk [] s) true s.abs,obs (fragT s)))=some (true,openGood q loose,good))
 (hdef:defOf q l.name=some (d,[])) (hp:l.prog.theDef l.name=some (d.params,d.body,d.scope)) (hk:kwWritten? d.params.kwonlyargs d.params.kw_defaults=some []) (hwr:(!l.writes || ([]:WRecords).isEmpty)=true)
 (ok:(chainsOk q && opensWell l.prog && (frees l.row.toRowW && l.row.within.isEmpty))=true) (hb:l.prog.bare) (hw:l.row.toRowW.promised)
 (call:WalkO q loose (fun _ _=>True) (says obs good) l.row.toRowW d [] fun f vs=>PySem.call f vs):l.Holds:=by
 rw [←PySem.W.Fast.te9446332074065402090] at look
 refine holds_law look fun said=>?_
 have lf:LeftO l.prog q loose (fun s=>recOk [] s) (fun s=>obs (GL s.heap)) (fun _=>good) N:=left e hN f fun w os=>by
  have:=h w os
  rw [show (fun s:SharedT=>(chk l.prog w.params s.abs,seenQ q loose (importedModules l.prog.main.body) (fun s=>recOk [] s) true s.abs,obs (fragT s)))=fun s=>(chk l.prog w.params s.abs,seenQ q loose (importedModules l.prog.main.body) (fun s=>recOk [] s) true s.abs,obs (GL s.abs.heap)) from funext fun s=>by rw [Qgs]] at this
  exact this
 exact holds_open (r:=l.row) (q:=q) (loose:=loose) (Xt:=fun s=>recOk [] s) (XP:=fun _ _=>True) (YP:=says obs good) lf (fun _ s y=>⟨GL s.heap,Qhu _,y⟩) (fun _ _ _ ⟨K,X,y⟩ k=>⟨K,X.keeps k,y⟩) (fun _ _=>trivial) (fun _ _ _ _ _=>trivial) hdef hp hk (fun _ e=>recFacts_of e) hwr said ok hb hw call
def bareV:Value→Value
 | .int n _=>.int n 0
 | .str x _=>.str x 0
 | v=>v
def Qdu (K:Frag):Value→Option (List Value)
 | .none=>none
 | .ref D=>(match K.lookup D with
   | some ⟨_,_,.seq items _,_⟩=>some (items.toList.map bareV)
   | _=>some [])
 | _=>some []
def adOf:Option (Option Value)→Addr
 | some (some (.ref f))=>f
 | _=>0
def see (K:Frag) (r:Option (Option Value)) (q:Str):Option (FuncData×Option (List Value))×Bool:=match r with
 | some (some (.ref f))=>(match K.lookup f with
   | some ⟨_,_,.func fd,_⟩=>(some ({ fd with defaults:=.none,kwdefaults:=.none,doc:=.none,pyModule:=.none,annotations:=none,code:=.none,closureTuple:=.none },Qdu K fd.defaults),codeIn K fd.code q && (keepIn K (.ref f) && isFn K (.ref f)))
   | _=>(none,false))
 | _=>(none,false)
abbrev bareFn (x q:Str) (st:Stmt):FuncData:=fnOf x q (Zf st) (QM st) (Qe st) .none .none .none .none none .none .none
theorem Qc7 {K:Frag} {r:Option (Option Value)} {x q:Str} {st:Stmt} {ds:Option (List Value)} (h:see K r q=(some (bareFn x q st,ds),true)):∃(oc:Value) (od:Option Addr) (dV kV doc pm:Value) (an:Option Addr) (cdv ct:Value) (osl:Array (Option Value)),
 r=some (some (.ref (adOf r)))∧K.lookup (adOf r)=some ⟨oc,od,.func (fnOf x q (Zf st) (QM st) (Qe st) dV kV doc pm an cdv ct),osl⟩∧Qdu K dV=ds∧codeIn K cdv q=true∧keepIn K (.ref (adOf r))=true∧isFn K (.ref (adOf r))=true:=by
 unfold see at h
 split at h
 ·rename_i f
  split at h
  ·rename_i oc od fd osl hl
   obtain ⟨h1,h2⟩:=Prod.mk.inj h
   obtain ⟨h3,h4⟩:=Prod.mk.inj (Option.some.inj h1)
   obtain ⟨c1,c2⟩:=Bool.and_eq_true_iff.mp h2
   obtain ⟨c2,c3⟩:=Bool.and_eq_true_iff.mp c2
   obtain ⟨n,qn,ps,b,sc,g,cl,dV,kV,doc,pm,an,cdv,ct,bs⟩:=fd
   simp only [FuncData.mk.injEq] at h3
   obtain ⟨rfl,rfl,rfl,rfl,rfl,rfl,rfl,-,-,-,-,-,-,-,rfl⟩:=h3
   exact ⟨oc,od,dV,kV,doc,pm,an,cdv,ct,osl,rfl,hl,h4,c1,c2,c3⟩
  ·cases h
 ·cases h
theorem see_fun {K:Frag} {r:Option (Option Value)} {x q:Str} {st:Stmt} (h:see K r q=(some (bareFn x q st,none),true)):r=some (some (.ref (adOf r)))∧keepIn K (.ref (adOf r))=true∧isFn K (.ref (adOf r))=true∧∃fd,Fun K x q st (adOf r) fd:=by
 obtain ⟨oc,od,dV,kV,doc,pm,an,cdv,ct,osl,h1,h2,h3,h4,h5,h6⟩:=Qc7 h
 have:dV=.none:=by
  cases dV with
  | none=>rfl
  | ref D=>simp only [Qdu] at h3;split at h3 <;> cases h3
  | _=>cases h3
 subst this
 exact ⟨h1,h5,h6,_,QiK h2 h4 h5⟩
theorem see_funD {K:Frag} {r:Option (Option Value)} {x q:Str} {st:Stmt} {b:Value} {bs:List Value} (h:see K r q=(some (bareFn x q st,some (b :: bs)),true)):r=some (some (.ref (adOf r)))∧keepIn K (.ref (adOf r))=true∧isFn K (.ref (adOf r))=true ∧
 ∃(D:Addr) (kV doc pm:Value) (an:Option Addr) (cdv ct:Value) (o:Obj) (items:List Value) (n:Nat),Qb4 K x q st (adOf r) (fnOf x q (Zf st) (QM st) (Qe st) (.ref D) kV doc pm an cdv ct)∧K.lookup D=some o∧o.data=.seq items.toArray n∧items.map bareV=b :: bs:=by
 obtain ⟨oc,od,dV,kV,doc,pm,an,cdv,ct,osl,h1,h2,h3,h4,h5,h6⟩:=Qc7 h
 cases dV with
 | none=>cases h3
 | ref D =>
   simp only [Qdu] at h3
   split at h3
   ·rename_i c dd items n sl hl
    refine ⟨h1,h5,h6,D,kV,doc,pm,an,cdv,ct,_,items.toList,n,Qhs h2 h4 h5,hl,?_,Option.some.inj h3⟩
    rw [Array.toArray_toList]
   ·cases h3
 | _=>cases h3
theorem map1 {f:Value→Value} {b:Value} {l:List Value} (h:l.map f=[b]):∃u,l=[u]∧f u=b:=by
 match l,h with
 | [u],h=>exact ⟨u,rfl,(List.cons.inj h).1⟩
theorem map2 {f:Value→Value} {b c:Value} {l:List Value} (h:l.map f=[b,c]):∃u v,l=[u,v]∧f u=b∧f v=c:=by
 match l,h with
 | [u,v],h=>exact ⟨u,v,rfl,(List.cons.inj h).1,(List.cons.inj (List.cons.inj h).2).1⟩
def bv:V→Value
 | .int n=>.int n 0
 | .str x=>.str x 0
 | .bl b=>.bool b
 | _=>.none
def flat:V→Bool
 | .int _ | .str _ | .bl _ | .non=>true
 | _=>false
theorem bare_rel {v:V} {u:Value} (h:bareV u=bv v) (hv:flat v=true:=by rfl):QQ v u:=by
 cases v <;> first | (cases hv;done) | skip
 all_goals (cases u <;> first | (cases h;done) | skip)
 all_goals first | rfl | (injection h with h1;subst h1;exact ⟨_,rfl⟩) | (injection h with h1 _;subst h1;exact ⟨_,rfl⟩) | (injection h with h1;subst h1;rfl)
abbrev gl (K:Frag) (x:Str):Option (Option Value):=nsIn K mainGlobals x
abbrev cl (K:Frag) (x:Str):Addr:=adOf (gl K x)
theorem all_at {l:List Bool} (h:l.all id=true) (i:Nat) {b:Bool} (e:l[i]?=some b):b=true:=List.all_eq_true.mp h b (List.mem_of_getElem? e)
theorem eq_at {α:Type} {l m:List α} (h:l=m) (i:Nat) {a b:α} (e:l[i]?=some a) (e':m[i]?=some b):a=b:=by
 subst h
 exact Option.some.inj (e.symm.trans e')
theorem walk {l:OpenLaw} {n k:Nat} {q:Program} {loose:List Str} {XP:(Str→Option Value)→Heap→Prop} {α:Type} {obs:Frag→α} {good:α} {d:DefRec} {sp:Frag→Sp} {x:Str}
 (hn:l.most=some n) (hn2:n≤sizeLine) (hdf:d.params.defaults=[]) (hr:QG k callerA)
 (F:∀(w:World) (K:Frag) (mg:Str→Option Value) (fa:Addr) (h:Heap),K.In h→obs K=good→h.Ns mainGlobals mg→mg d.name=some (.ref fa) →
   ∃fd:FuncData,(∀(s:Shared) (u:Value),BindsTo s fd ⟨[u],[]⟩ [(x,u)])∧∀base:Heap,K.In base→base.Ns mainGlobals mg→Qw l.prog w K mg base CX0 k fa fd [x] (sp K))
 (hsp:∀(K:Frag) (H:Hp) (a:Addr) (ns:List Int),ns.length≤n→Only H→SqL K H a (ns.map V.int)→sp K [.ref a] H (fun v _=>v=.bl true) fun _ _ _=>False) :
 WalkO q loose XP (says obs good) l.row.toRowW d [] (fun f vs=>PySem.call f vs):=by
 refine Att.attach_call hn hdf fun w s₀ s₁ mg mb fa o pm cd doc a vs ns G Y ho hd hcd hmg hobj hints hlen hg=>?_
 obtain ⟨K,KX,y⟩:=Y
 obtain ⟨fd,hb,hF⟩:=F w K mg fa _ KX y G.T.g hmg
 exact Qga KX G.T.g G.T.b G.T.builtins G.T.nolimit hg hobj hints (Nat.le_trans hlen hn2) hr hF hb (fun H hO hS=>hsp K H a ns hlen hO hS) fun _ _ _ z=>z
theorem const_at {K:Frag} {h:Heap} {mg:Str→Option Value} {x:Str} {v:V} (X:K.In h) (G:h.Ns mainGlobals mg) (e:(gl K x).map (Option.map bareV)=some (some (bv v))) (hv:flat v=true:=by rfl):∃u,mg x=some u∧QQ v u:=by
 obtain ⟨r,h1,h2⟩:=Option.map_eq_some_iff.mp e
 obtain ⟨u,h3,h4⟩:=Option.map_eq_some_iff.mp h2
 subst h3
 exact ⟨u,mg_of X G h1,bare_rel h4 hv⟩
theorem no_at {K:Frag} {C:Addr} {f:Str} (h:decide (findIn K (.ref C) f=some none)=true):QD K C f:=by have e:findIn K (.ref C) f=some none:=of_decide_eq_true h;exact e
def isVal (o:Option CFound) (v:Value):Bool:=match o with | some (.val u)=>decide (u=v) | _=>false
theorem isVal_of {o:Option CFound} {v:Value} (h:isVal o v=true):o=some (.val v):=by
 unfold isVal at h
 split at h
 ·rw [of_decide_eq_true h]
 ·cases h
end Hd
namespace L2
open PySem PySem.Spec PyProof.Rows
abbrev Yx (o:HO) (H:Hp) (Q:VK):Prop:=∀p H',H p=none→Qm H H'→H' p=some o→Q (.ref p) H'
theorem Yx.put {o:HO} {H:Hp} {Q:VK} (k:Yx o H Q) {p:Addr} (hp:H p=none):Q (.ref p) (upd H p o):=k p _ hp (Qm.upd_new hp) Qh
inductive Qh2 (xs:List V) (H:Hp) (Q:VK):Prop
 | mk:xs.length≤sizeLine→Yx (.lst xs) H Q→Qh2 xs H Q
inductive Qh0 (xs:List V) (H:Hp) (Q:VK):Prop
 | mk:xs.length≤sizeLine→Yx (.tup xs) H Q→Qh0 xs H Q
def tLstG (t:TA):TE:=fun σ H Q=>t σ H fun xs H1=>Qh2 xs H1 Q
def tTupG (t:TA):TE:=fun σ H Q=>t σ H fun xs H1=>Qh0 xs H1 Q
theorem Q0 {X:Cx} {es:List Expr} {t:TA} {pos:Pos} (h:PAs X es t):PE X (.List es pos) (tLstG t):=by
 intro pins s σ H Q I hq
 refine wpAny_List_spliced (thn (h.h pos pins s σ H _ I hq) fun us s1 ⟨xs,H1,I1,r,z,q⟩=>⟨by rw [←r.length];exact z,?_⟩)
 have hf:H1 s1.heap.objs.size=none:=I1.hok.fresh (Nat.le_refl _)
 refine ⟨.ref s1.heap.objs.size,upd H1 s1.heap.objs.size (.lst xs),I1.laid (t':=s1.toks) (fun b u e=>Heap.get?_push_of_some _ e) (Nat.le_refl _) ?_,rfl,Yx.put q hf⟩
 exact ⟨z,us,0,r,Heap.get?_push_size _ rfl⟩
theorem QV {X:Cx} {es:List Expr} {t:TA} {x1:Nat} {pos:Pos} (h:PAs X es t):PE X (.Tuple es x1 pos) (tTupG t):=by
 intro pins s σ H Q I hq
 refine wpAny_Tuple_spliced (thn (h.h pos pins s σ H _ I hq) fun us s1 ⟨xs,H1,I1,r,z,q⟩=>⟨by rw [←r.length];exact z,?_⟩)
 have hf:H1 s1.heap.objs.size=none:=I1.hok.fresh (Nat.le_refl _)
 refine ⟨.ref s1.heap.objs.size,upd H1 s1.heap.objs.size (.tup xs),I1.laid (t':=s1.toks) (fun b u e=>Heap.get?_push_of_some _ e) (Nat.le_refl _) ?_,rfl,Yx.put q hf⟩
 exact ⟨z,us,r,⟨_,Heap.get?_push_size _ rfl,rfl,_,rfl⟩⟩
theorem SlR.mono {X:Cx} {r r':V→Option Int→Option Int→Hp→VK→Prop} (h:SlR X r) (k:∀x lo hi H Q,r' x lo hi H Q→r x lo hi H Q):SlR X r' :=
 fun pins s σ H x v vl vu lo hi sl Q I rx hs pl pu q=>h pins s σ H x v vl vu lo hi sl Q I rx hs pl pu (k _ _ _ _ _ q)
theorem OpR.mono {X:Cx} {f:Value→Value→Sem Value} {r r':R2} (h:OpR X f r) (k:∀x y H Q,r' x y H Q→r x y H Q):OpR X f r' :=
 fun pins s σ H x y v u Q I rx ry q=>h pins s σ H x y v u Q I rx ry (k _ _ _ _ q)
inductive gSlL (K:PySem.W.Frag) (x:V) (lo hi:Option Int) (H:Hp) (Q:VK):Prop
 | mk:∀a xs,x=.ref a→SqL K H a xs→Yx (.lst (Yo xs lo hi)) H Q→gSlL K x lo hi H Q
theorem Zs {X:Cx}:SlR X (gSlL X.K):=XE.mono fun x lo hi H Q ⟨a,xs,e,h,k⟩=>⟨a,xs,e,h,fun p hp=>Yx.put k hp⟩
inductive gCat (x y:V) (H:Hp) (Q:VK):Prop
 | mk:∀l b xs zs,x=.ref l→y=.ref b→H l=some (.lst xs)→H b=some (.lst zs)→xs.length+zs.length≤sizeLine→Yx (.lst (xs++zs)) H Q→gCat x y H Q
theorem YA {X:Cx}:OpR X (binaryOp .Add) gCat:=QfJ.mono fun x y H Q ⟨l,b,xs,zs,e1,e2,h1,h2,hz,k⟩=>⟨l,b,xs,zs,e1,e2,h1,h2,hz,fun p hp=>Yx.put k hp⟩
inductive gSlT (K:PySem.W.Frag) (x:V) (lo hi:Option Int) (H:Hp) (Q:VK):Prop
 | mk:∀a xs,x=.ref a→H a=some (.tup xs)→(∀p H',Qm H H'→H' p=some (.tup (Yo xs lo hi))→Q (.ref p) H')→gSlT K x lo hi H Q
theorem Qeo {xs:List V} {lo hi:Option Int} (h:HT.sIx xs.length 0 lo=0∧HT.sIx xs.length xs.length hi=xs.length):Yo xs lo hi=xs:=by
 unfold Yo
 rw [h.1,h.2]
 simp
theorem QgZ {X:Cx}:SlR X (gSlT X.K):=Qg0.mono fun x lo hi H Q ⟨a,xs,e,h,k⟩=>⟨a,xs,e,SqT.of h,fun c=>k a H (Qm.refl H) (by rw [Qeo c];exact h),fun p hp=>k p _ (Qm.upd_new hp) Qh⟩
theorem Wu {α:Type} (f:α→V) (xs:List α) (v:Int) (h:0≤v):Yo (xs.map f) (some v) none=(xs.drop v.toNat).map f:=by
 have hv:¬v<0:=by omega
 simp only [Yo,HT.sIx,if_neg hv,List.length_map,←List.map_drop,←List.map_take]
 congr 1
 by_cases hl:v.toNat≤xs.length
 ·rw [show min v.toNat xs.length=v.toNat by omega]
  exact List.take_of_length_le (by rw [List.length_drop];omega)
 ·rw [show min v.toNat xs.length=xs.length by omega,List.drop_eq_nil_of_le (Nat.le_refl _),List.drop_eq_nil_of_le (show xs.length≤v.toNat by omega)]
  simp
theorem Qhy {α:Type} (f:α→V) (xs:List α) (v u:Int) (h:0≤v) (h2:v≤u):Yo (xs.map f) (some v) (some u)=((xs.drop v.toNat).take (u.toNat - v.toNat)).map f:=by
 have hv:¬v<0:=by omega
 have hu:¬u<0:=by omega
 simp only [Yo,HT.sIx,if_neg hv,if_neg hu,List.length_map,←List.map_drop,←List.map_take]
 congr 1
 by_cases hl:v.toNat≤xs.length
 ·rw [show min v.toNat xs.length=v.toNat by omega]
  by_cases hl2:u.toNat≤xs.length
  ·rw [show min u.toNat xs.length=u.toNat by omega]
  ·rw [show min u.toNat xs.length=xs.length by omega,List.take_of_length_le (by rw [List.length_drop];omega),List.take_of_length_le (by rw [List.length_drop];omega)]
 ·rw [show min v.toNat xs.length=xs.length by omega,List.drop_eq_nil_of_le (Nat.le_refl _),List.drop_eq_nil_of_le (show xs.length≤v.toNat by omega)]
  simp
theorem XQ {x y:Str}:(!decide (V.str x=V.str y)) = !decide (x=y):=by
 by_cases h:x=y
 ·rw [h,decide_eq_true rfl,decide_eq_true rfl]
 ·rw [decide_eq_false h,decide_eq_false fun z=>h (V.str.inj z)]
theorem Qcc {x y:Str}:decide (V.str x=V.str y)=decide (x=y):=by
 by_cases h:x=y
 ·rw [h,decide_eq_true rfl,decide_eq_true rfl]
 ·rw [decide_eq_false h,decide_eq_false fun z=>h (V.str.inj z)]
theorem KD {x y:Int}:decide (V.int x=V.int y)=decide (x=y):=by
 by_cases h:x=y
 ·rw [h,decide_eq_true rfl,decide_eq_true rfl]
 ·rw [decide_eq_false h,decide_eq_false fun z=>h (V.int.inj z)]
end L2
namespace L2
open PySem PySem.Spec PyProof.Rows
inductive QaL (P:Program) (w:World) (K:PySem.W.Frag) (mg:Str→Option Value) (base:Heap) (A:Around) (m:Str) (t:TA) (σ:St) (Q:VK) (x:V) (H1:Hp):Prop
 | mk:∀(a dx:Addr) (fs:List (Str×V)) (C f:Addr) (fd:FuncData) (ps:List Str) (sp:Sp) (k:Nat),x=.ref a→H1 a=some (.ins C dx fs)→Cls K C→QN K C m f→Qw P w K mg base CX0 k f fd ps sp→QG k A→Qt K fd ps []→fs.lookup m=none→(t σ H1 fun vs H2=>sp (x :: vs) H2 Q E0)→QaL P w K mg base A m t σ Q x H1
def QeH (P:Program) (w:World) (K:PySem.W.Frag) (mg:Str→Option Value) (base:Heap) (A:Around) (m:Str) (ta:TE) (t:TA):TE:=fun σ H Q=>ta σ H fun x H1=>QaL P w K mg base A m t σ Q x H1
section
variable {X : Cx} {o e : Expr} {es : List Expr} {ta : TE} {t : TA} {m : Str} {apos pos : Pos}
theorem Zz {P:Program} {w:World} {K:PySem.W.Frag} {mg:Str→Option Value} {base:Heap} {A:Around} {pl:Sem Bool} (he:PE X o ta) (ha:PA X (e :: es) t) (hP:X.prog=P:=by rfl) (hw:X.w=w:=by rfl) (hK:X.K=K:=by rfl) (hmg:X.mg=mg:=by rfl) (hba:X.base=base:=by rfl) (hA:X.A=A:=by rfl)
 (hst:starEach (e :: es) X.env=(false,eval e X.env) :: starEach es X.env:=by rfl) (hpl:(backTo pos (starEach es X.env)).any (·.1)=false:=by rfl)
 (ht:eval (.Call (.Attribute o m apos) (e :: es) [] pos) X.env=(do
   let ov ←eval o X.env
   standAt apos.atName
   let (f,first) ←holding [ov] (getMethod ov m pl)
   callWith pos f first (backTo pos (starEach (e :: es) X.env)) (backToKw pos (keywordEach [] X.env))):=by rfl) :
 PE X (.Call (.Attribute o m apos) (e :: es) [] pos) (QeH P w K mg base A m ta t):=by
 subst hP hw hK hmg hba hA
 intro pins s σ H Q I h
 refine PySem.W.methodCall_KW (pl:=pl) (thn (he pins s σ H _ I h) fun u s1 ⟨x,H1,I1,rx,a,dx,fs,C,f,fd,ps,sp,k,ex,ea,c,hm,F,hr,hb,l,q⟩=>?_) ht
 subst ex
 obtain rfl:u=Value.ref a:=rx
 refine UH I1 ea c hm l ?_
 refine PySem.W.callWith_K (first:=[.ref a]) (h₀:=X.base) I.ok.mod.kin hm.kp (thn (ha pos pins s1 σ H1 _ I1 q) fun us s2 ⟨vs,H2,I2,r,q2⟩=>⟨I2.kIn,?_⟩) hst hpl
 exact WN (us:=.ref a :: us) (vs:=.ref a :: vs) F hr hb .nil Qy I2 (.cons rfl r) (by rw [List.append_nil];exact q2)
theorem Us {P:Program} {w:World} {K:PySem.W.Frag} {mg:Str→Option Value} {base:Heap} {A:Around} {pl:Sem Bool} (he:PE X o ta) (hP:X.prog=P:=by rfl) (hw:X.w=w:=by rfl) (hK:X.K=K:=by rfl) (hmg:X.mg=mg:=by rfl) (hba:X.base=base:=by rfl) (hA:X.A=A:=by rfl)
 (ht:eval (.Call (.Attribute o m apos) [] [] pos) X.env=(do
   let ov ←eval o X.env
   standAt apos.atName
   let (f,first) ←holding [ov] (getMethod ov m pl)
   callWith pos f first (backTo pos (starEach [] X.env)) (backToKw pos (keywordEach [] X.env))):=by rfl) :
 PE X (.Call (.Attribute o m apos) [] [] pos) (QeH P w K mg base A m ta tNil):=by
 subst hP hw hK hmg hba hA
 intro pins s σ H Q I h
 refine PySem.W.methodCall_KW (pl:=pl) (thn (he pins s σ H _ I h) fun u s1 ⟨x,H1,I1,rx,a,dx,fs,C,f,fd,ps,sp,k,ex,ea,c,hm,F,hr,hb,l,q⟩=>?_) ht
 subst ex
 obtain rfl:u=Value.ref a:=rx
 refine UH I1 ea c hm l ?_
 exact PySem.W.callWith_K0 (first:=[.ref a]) I1.kIn hm.kp (WN (us:=[.ref a]) (vs:=[.ref a]) F hr hb .nil Qy I1 (.cons rfl .nil) (by rw [List.append_nil];exact q))
structure CFn (K:PySem.W.Frag) (C f:Addr) (m:Str):Prop where
 ga:PySem.W.specialIn K (.ref C) "__getattribute__"=some (some (.builtin "type.__getattribute__"))
 rd:PySem.W.readsIn K C (.type "type")=true
 fc:PySem.W.findCls K (.ref C) (.type "type") m=some (.val (.ref f))
 hn:PySem.W.handedIn (.ref f)=true
 kp:PySem.W.keepIn K (.ref f)=true
theorem Qba {C f:Addr} {k:Nat} {fd:FuncData} {ps:List Str} {sp:Sp} {pl:Sem Bool} {x:Str} {np:Pos} (hg:Gl X x) (hmx:X.mg x=some (.ref C)) (c:CFn X.K C f m) (F:Qw X.prog X.w X.K X.mg X.base CX0 k f fd ps sp) (hr:QG k X.A) (hb:Qt X.K fd ps []) (ha:PA X (e :: es) t)
 (hdb:(x == ("__debug__":Str))=false:=by decide)
 (hst:starEach (e :: es) X.env=(false,eval e X.env) :: starEach es X.env:=by rfl) (hpl:(backTo pos (starEach es X.env)).any (·.1)=false:=by rfl)
 (ht:eval (.Call (.Attribute (.Name x np) m apos) (e :: es) [] pos) X.env=(do
   let ov ←eval (.Name x np) X.env
   standAt apos.atName
   let (f,first) ←holding [ov] (getMethod ov m pl)
   callWith pos f first (backTo pos (starEach (e :: es) X.env)) (backToKw pos (keywordEach [] X.env))):=by rfl) :
 PE X (.Call (.Attribute (.Name x np) m apos) (e :: es) [] pos) (QhK sp [] E0 t):=by
 intro pins s σ H Q I h
 refine PySem.W.methodCall_KW (pl:=pl) (thn (Qdf (v:=.ref C) hg hmx rfl hdb pins s σ H (fun v H1=>v=.ref C∧H1=H) I ⟨rfl,rfl⟩) fun u s1 ⟨y,H1,I1,rx,ey,eH⟩=>?_) ht
 subst ey eH
 obtain rfl:u=Value.ref C:=rx
 refine PySem.W.method_cls I1.kIn c.ga (PySem.W.cls_value I1.kIn c.rd c.fc c.hn ?_)
 have I2:Inv X pins σ H1 { s1 with toks:=s1.toks+1 }:=I1.tok _
 refine PySem.W.callWith_K (first:=[]) (h₀:=X.base) I.ok.mod.kin c.kp (thn (ha pos pins _ σ H1 _ I2 h) fun us s2 ⟨vs,H2,I3,r,q2⟩=>⟨I3.kIn,?_⟩) hst hpl
 exact WN (us:=us) (vs:=vs) F hr hb .nil Qy I3 r q2
end
end L2
namespace L2
open PySem PySem.Spec PyProof.Rows
def Itz (K:PySem.W.Frag) (l m:Addr):It :=
 ⟨fun i H=>∃xs ys x y,SqL K H l xs∧SqL K H m ys∧xs[i]?=some x∧ys[i]?=some y,
  fun i H v H'=>∃(T:Addr) (x y:V),(∀xs,SqL K H l xs→xs[i]?=some x)∧(∀ys,SqL K H m ys→ys[i]?=some y)∧H T=none∧v=.ref T∧H'=upd H T (.tup [x,y]),
  fun i H=>∃xs ys,SqL K H l xs∧SqL K H m ys∧min xs.length ys.length=i⟩
theorem Qez {P:Program} {w:World} {K:PySem.W.Frag} {elts:List Expr} {kt:Nat} {pt:Pos} (l m z TI TO i1 i2:Addr) (D:ZipApart z TI TO i1 i2 l m) :
 QcH P w K (.Tuple elts kt pt) (Itz K l m) [z,TI,TO,i1,i2] z (fun i h=>IsZip h z TI TO .none∧IsPair h TI (.ref i1) (.ref i2)∧(∃a b,IsPair h TO a b)∧h.IsListIter i1 l i∧h.IsListIter i2 m i) where
 mem:=by simp
 obj:=fun i h st b hb=>by
  obtain ⟨s1,s2,⟨a,b',s3⟩,⟨o4,s4,_,d4⟩,⟨o5,s5,_,d5⟩⟩:=st
  simp only [List.mem_cons,List.not_mem_nil,or_false] at hb
  rcases hb with rfl | rfl | rfl | rfl | rfl
  ·exact ⟨_,s1,fun v z=>by cases z⟩
  ·exact ⟨_,s2,fun v z=>by cases z⟩
  ·exact ⟨_,s3,fun v z=>by cases z⟩
  ·exact ⟨o4,s4,fun v z=>by rw [d4] at z;cases z⟩
  ·exact ⟨o5,s5,fun v z=>by rw [d5] at z;cases z⟩
 keep:=fun i h h' st k=>by
  obtain ⟨s1,s2,⟨a,b',s3⟩,s4,s5⟩:=st
  exact ⟨k z (by simp) _ s1,k TI (by simp) _ s2,⟨a,b',k TO (by simp) _ s3⟩,s4.at fun o q=>k i1 (by simp) o q,s5.at fun o q=>k i2 (by simp) o q⟩
 item:=by
  intro X hP hw hK hc i pins s σ H E I hf st hg
  subst hP hw hK
  obtain ⟨xs,ys,x,y,hq,hq2,hx,hy⟩:=hg
  obtain ⟨its,rv,p,hz⟩:=I.list hq
  obtain ⟨its2,rv2,p2,hz2⟩:=I.list hq2
  obtain ⟨u,hu,ru⟩:=rv.get hx
  obtain ⟨u2,hu2,ru2⟩:=rv2.get hy
  have hlt:i<its.length:=(List.getElem?_eq_some_iff.mp hu).1
  have hlt2:i<its2.length:=(List.getElem?_eq_some_iff.mp hu2).1
  have W:=WalksT.zip2 (prog:=X.prog) (w:=X.w) (I.ok.hd hc) z TI TO i1 i2 l m D its.toArray its2.toArray
  obtain ⟨s1,s2,s3,s4,s5⟩:=st
  refine W.item i s _ E (by simp;omega) ⟨s1,s2,s3,s4,s5,p.isList,p2.isList⟩ fun T vals h' tk hv hT isT mid same=>⟨.ref T,rfl,?_⟩
  obtain ⟨x',y',hx',hy',rfl⟩:=hv
  have ex:x'=u:=by
   have:its.toArray[i]?=some u:=by simpa using hu
   rw [this] at hx'
   exact (Option.some.inj hx').symm
  have ey:y'=u2:=by
   have:its2.toArray[i]?=some u2:=by simpa using hu2
   rw [this] at hy'
   exact (Option.some.inj hy').symm
  subst ex ey
  refine W.go elts kt pt i T _ _ E mid fun h2' st2 same2=>?_
  have sub:∀b,b∈[z,TO,i1,i2]→b∈[z,TI,TO,i1,i2]:=fun b hb=>by simp at hb ⊢;rcases hb with rfl | rfl | rfl | rfl <;> simp
  have I1:Inv X pins σ H { s with heap:=h2',toks:=tk }:=I.turnedL (t':=tk) (ch:=[z,TO,i1,i2]) (fun b o hb q=>same2 b o hb (same b o hb q)) fun b hb=>hf b (sub b hb)
  have nT:T∉[z,TO,i1,i2]:=W.apart _ _ _ mid
  have nTI:T≠TI:=fun e=>absurd (Heap.lt_size s2) (Nat.not_lt.mpr (by rw [←e];exact hT))
  obtain ⟨o,oT,oc,n,od⟩:=id isT
  have isT2:h2'.IsTuple T #[x',y']:=⟨o,same2 T o nT oT,oc,n,od⟩
  have hn:H T=none:=I.hok.fresh hT
  have fp:=I.fpOk (b:=T) (H':=H) hT hn
  have h0:X.s₀.heap.get? T=none:=by
   cases q:X.s₀.heap.get? T with
   | none=>rfl
   | some o=>exact absurd (Nat.lt_of_lt_of_le (Heap.lt_size q) (Nat.le_trans I.sz hT)) (Nat.lt_irrefl _)
  obtain ⟨t1,t2,t3,t4,t5,_,_⟩:=st2
  refine ⟨.ref T,upd H T (.tup [x,y]),I1.track hn h0 fp.2.1 fp.2.2.2.2.1 fp.2.2.2.2.2 ?_,rfl,⟨T,x,y,fun zs hzs=>by rw [I.list_inj hzs hq];exact hx,fun zs hzs=>by rw [I.list_inj hzs hq2];exact hy,hn,rfl,rfl⟩,⟨t1,t2,t3,t4,t5⟩,fun b hb=>?_⟩
  ·exact ⟨by show 2≤sizeLine;decide,[x',y'],.cons ru (.cons ru2 .nil),isT2⟩
  ·rw [Qk (fun e=>by
    rw [e] at hb
    simp only [List.mem_cons,List.not_mem_nil,or_false] at hb nT
    rcases hb with q | q | q | q | q
    ·exact nT (.inl q)
    ·exact nTI q
    ·exact nT (.inr (.inl q))
    ·exact nT (.inr (.inr (.inl q)))
    ·exact nT (.inr (.inr (.inr q))))]
   exact (hf b hb).1
 done:=by
  intro X hP hw hK hc i pins s σ H E I hf st hg
  subst hP hw hK
  obtain ⟨xs,ys,hq,hq2,hx⟩:=hg
  obtain ⟨its,rv,p,hz⟩:=I.list hq
  obtain ⟨its2,rv2,p2,hz2⟩:=I.list hq2
  have hl:=rv.length
  have hl2:=rv2.length
  have W:=WalksT.zip2 (prog:=X.prog) (w:=X.w) (I.ok.hd hc) z TI TO i1 i2 l m D its.toArray its2.toArray
  have ei:min its.toArray.size its2.toArray.size=i:=by simp;omega
  have sub:∀b,b∈[z,TO,i1,i2]→b∈[z,TI,TO,i1,i2]:=fun b hb=>by simp at hb ⊢;rcases hb with rfl | rfl | rfl | rfl <;> simp
  obtain ⟨s1,s2,s3,s4,s5⟩:=st
  refine W.done s _ E (by rw [ei];exact ⟨s1,s2,s3,s4,s5,p.isList,p2.isList⟩) fun h' tk same=>⟨rfl,I.turnedL (t':=tk) (ch:=[z,TO,i1,i2]) same fun b hb=>hf b (sub b hb)⟩
 self:=fun A i s Q E st h=>wpAny_pyIter_zip st.1 h
inductive Qgl (K:PySem.W.Frag) (R:(It→Hp→Prop)) (vs:List V) (H1:Hp):Prop
 | mk:∀(l m:Addr) (xs ys:List V),vs=[.ref l,.ref m]→H1 l=some (.lst xs)→H1 m=some (.lst ys)→R (Itz K l m) H1→Qgl K R vs H1
def iZip (K:PySem.W.Frag) (ta:TA):TI:=fun σ H R=>ta σ H fun vs H1=>Qgl K R vs H1
theorem QfA {X:Cx} {elts:List Expr} {kt:Nat} {pt:Pos} {a b:Expr} {ta:TA} {p pos:Pos} (hg:Gl X "zip") (hm:X.mg "zip"=none) (ha:PA X [a,b] ta) (hs:starEach [a,b] X.env=(false,eval a X.env) :: starEach [b] X.env:=by rfl) (hpl:(backTo pos (starEach [b] X.env)).any (·.1)=false:=by rfl):PI X (.Tuple elts kt pt) (.Call (.Name "zip" p) [a,b] [] pos) (iZip X.K ta):=by
 intro pins s σ H R I h
 refine Call_ (W0 I hg hm boot_zip (PyProof.Rows.callWith_type1 (thn (ha pos pins s σ H _ I h) fun us s1 ⟨vs,H1,I1,r1,q1⟩=>?_) hs hpl))
 obtain ⟨l,m,xs,ys,e,hl,hm,q⟩:=q1
 subst e
 cases r1 with
 | cons r rr =>
   cases rr with
   | cons r' rr =>
     cases rr
     cases r
     cases r'
     obtain ⟨its,rv,p,_⟩:=I1.list (SqL.of hl)
     obtain ⟨its2,rv2,p2,_⟩:=I1.list (SqL.of hm)
     have ll:l<s1.heap.objs.size:=(I1.hok l _ hl).lt
     have lm:m<s1.heap.objs.size:=(I1.hok m _ hm).lt
     refine call_zip_2 p.isList p2.isList fun h' z1 z2 z3 z4 z5 hz keep=>?_
     have I2:Inv X pins σ H1 { s1 with heap:=h' }:=I1.kept (t':=s1.toks) keep
     refine wpAny_pyIter_zip z1 ⟨s1.heap.objs.size+4,[s1.heap.objs.size+4,s1.heap.objs.size+2,s1.heap.objs.size+3,s1.heap.objs.size,s1.heap.objs.size+1],_,_,H1,rfl,I2,Qez l m _ _ _ _ _ (PyProof.Rows.zipApart_new ll lm),⟨z1,z2,⟨_,_,z3⟩,z4,z5⟩,fun b hb=>?_,q⟩
     have hge:s1.heap.objs.size≤b:=by
      simp only [List.mem_cons,List.not_mem_nil,or_false] at hb
      rcases hb with rfl | rfl | rfl | rfl | rfl <;> omega
     exact I1.fpOk hge (I1.hok.fresh hge)
theorem QbO {K:PySem.W.Frag} {α β:Type} {l m:Addr} {xs:List α} {ys:List β} {fr:List (Nat×Str)} {te:TE} {σ:St} {H1:Hp} {Q:VK} (g1:α→V) (g2:β→V) (f:α→β→V) (hz:xs.length≤sizeLine) (hl:xs.length=ys.length) (hS:SqL K H1 l (xs.map g1)) (hS2:SqL K H1 m (ys.map g2))
 (hte:∀(x:α) (y:β) (H3:Hp) (Q':VK),Q' (f x y) H3→te (some (g1 x) :: some (g2 y) :: frV σ fr) H3 Q')
 (hQ:∀D H2,H1 D=none→Qm H1 H2→H2 D=some (.lst (List.zipWith f xs ys))→Q (.ref D) H2) :
 Vu K (Itz K l m) fr te σ H1 Q:=by
 intro D hD
 refine ⟨fun i n zs H2=>n=xs.length - i∧i≤xs.length∧zs=(List.zipWith f xs ys).take i∧Qm H1 H2∧H2 D=some (.lst zs),⟨xs.length,by simp,Nat.zero_le _,by simp,Qm.upd_new hD,Qh⟩,?_⟩
 rintro i n zs H2 ⟨rfl,hi,rfl,s2,d2⟩
 refine ⟨d2,?_⟩
 have hT:=s2.seq hS
 have hT2:=s2.seq hS2
 by_cases hlt:i<xs.length
 ·have hlt2:i<ys.length:=by omega
  have e1:(xs.map g1)[i]?=some (g1 xs[i]):=by rw [List.getElem?_map,List.getElem?_eq_getElem hlt];rfl
  have e2:(ys.map g2)[i]?=some (g2 ys[i]):=by rw [List.getElem?_map,List.getElem?_eq_getElem hlt2];rfl
  refine .inr ⟨⟨_,_,_,_,hT,hT2,e1,e2⟩,?_⟩
  rintro v H3 ⟨T,x,y,hx,hy,hT',rfl,rfl⟩
  have ex:=hx _ hT
  have ey:=hy _ hT2
  rw [e1] at ex
  rw [e2] at ey
  cases ex
  cases ey
  have s3:Qm H2 (upd H2 T (.tup [g1 xs[i],g2 ys[i]])):=Qm.upd_new hT'
  refine ⟨T,_,_,rfl,SqT.of Qh,?_⟩
  refine hte xs[i] ys[i] _ _ ⟨s3 _ _ d2,?_,xs.length - (i+1),by omega,rfl,hlt,?_,(s2.trans s3).upd_of hD,Qh⟩
  ·rw [List.length_take,List.length_zipWith];omega
  ·rw [List.take_add_one,List.getElem?_zipWith,List.getElem?_eq_getElem hlt,List.getElem?_eq_getElem hlt2]
   rfl
 ·have e:i=xs.length:=by omega
  subst e
  refine .inl ⟨⟨_,_,hT,hT2,by rw [List.length_map,List.length_map];omega⟩,hQ D H2 hD s2 ?_⟩
  rw [d2,List.take_of_length_le (by rw [List.length_zipWith];omega)]
theorem Qet {bs:List Bool}:(List.range bs.length).any (fun i=>bs.getD i true)=bs.any id:=by
 rw [Bool.eq_iff_iff,List.any_eq_true,List.any_eq_true]
 constructor
 ·rintro ⟨i,hi,h⟩
  have hi':=List.mem_range.mp hi
  simp only [List.getD_eq_getElem?_getD,List.getElem?_eq_getElem hi',Option.getD_some] at h
  exact ⟨_,List.getElem_mem hi',h⟩
 ·rintro ⟨b,hb,h⟩
  obtain ⟨i,hi,e⟩:=List.mem_iff_getElem.mp hb
  refine ⟨i,List.mem_range.mpr hi,?_⟩
  simp only [List.getD_eq_getElem?_getD,List.getElem?_eq_getElem hi,Option.getD_some]
  rw [e];exact h
theorem QgC {X:Cx} (hc:X.calm=true):JA X (.builtin "any") (fun xs H Q=>∃(p:Addr) (bs:List Bool),xs=[.ref p]∧SqL X.K H p (bs.map V.bl)∧Q (.bl (bs.any id)) H):=by
 intro pins s σ H xs us Q I r h
 obtain ⟨p,bs,rfl,hq,q⟩:=h
 obtain ⟨u,rfl,rx⟩:=JV r
 cases rx
 obtain ⟨its,rv,pl,hz⟩:=I.list hq
 have hlen:=rv.length
 rw [List.length_map] at hlen
 have hpl:p<s.heap.objs.size:=by obtain ⟨o,e,_⟩:=pl.isList;exact Heap.lt_size e
 refine call_any_walk (wpAny_pyIter_list pl.isList ?_)
 refine ⟨s.heap.objs.size,_,[s.heap.objs.size],its.toArray.size,_,_,fun i=>bs.getD i true,rfl,Walks.list (A:=X.A.in1) (I.ok.hd hc) s.heap.objs.size p (Nat.ne_of_lt hpl) its.toArray,⟨⟨_,Heap.get?_push_size _ rfl,rfl,rfl⟩,pl.isList.push _⟩,?_,?_⟩
 ·intro i v s' Q' E' hv hq'
  have hv':its[i]?=some v:=by simpa using hv
  have hi:i<its.length:=(List.getElem?_eq_some_iff.mp hv').1
  have hb:(bs.map V.bl)[i]?=some (V.bl (bs.getD i true)):=by
   rw [List.getElem?_map,List.getElem?_eq_getElem (by omega)]
   simp [List.getD_eq_getElem?_getD,List.getElem?_eq_getElem (show i<bs.length by omega)]
  obtain ⟨u,e1,e2⟩:=rv.get hb
  rw [hv'] at e1
  cases e1
  cases e2
  exact wpAny_truthy_bool hq'
 ·intro h' tk hk
  have hsz:its.toArray.size=bs.length:=by rw [List.size_toArray];exact hlen.symm
  rw [hsz,Qet]
  exact ⟨.bl (bs.any id),H,I.kept (t':=tk) fun b o e=>hk b o (fun z=>absurd (Heap.lt_size e) (by rw [List.mem_singleton.mp z];exact Nat.lt_irrefl _)) (Heap.get?_push_of_some _ e),rfl,q⟩
inductive Qfq (x:V) (xs:List V) (H:Hp) (Q:VK):Prop
 | mk:∀y:Str,x=.str y→xs=[]→Q (.bl (Txt.isalnum y)) H→Qfq x xs H Q
theorem Qcy {X:Cx}:MtR X "str.isalnum" Qfq:=by
 intro pins s σ H x xs v us Q I rx rv h
 obtain ⟨y,rfl,rfl,q⟩:=h
 obtain ⟨t,rfl⟩:=rx
 cases rv
 exact call_gives F.slot_str_isalnum (typeIs_str _ _ _) F.entry_str_isalnum (F.args_str_isalnum_1 _) (gives_str_isalnum y t) ⟨.bl _,H,I,rfl,q⟩
end L2
namespace L2
open PySem PySem.Spec PyProof.Rows
end L2
namespace Hd
open PySem PySem.W L2
def VT:List Value→List Str→Bool
 | [],[]=>true
 | .str x _ :: us,y :: ys=>decide (x=y) && VT us ys
 | _,_=>false
theorem Xg:∀{us:List Value} {ys:List Str},VT us ys=true→QW (ys.map V.str) us
 | [],[],_=>.nil
 | [],_ :: _,h=>by simp [VT] at h
 | u :: us,[],h=>by cases u <;> simp [VT] at h
 | u :: us,y :: ys,h=>by
   cases u with
   | str x t =>
     rw [VT,Bool.and_eq_true] at h
     have e:=of_decide_eq_true h.1
     subst e
     exact .cons ⟨t,rfl⟩ (Xg h.2)
   | _=>simp [VT] at h
def QeA (o:Option Obj) (ys:List Str):Bool:=match o with
 | some ob=>decide (ob.cls=.type "tuple") && (match ob.data with | .seq its _=>decide (its.size≤sizeLine) && VT its.toList ys | _=>false)
 | none=>false
def tupStrs (K:Frag) (x:Str) (ys:List Str):Bool:=decide (gl K x=some (some (.ref (adOf (gl K x))))) && QeA (K.lookup (adOf (gl K x))) ys
theorem tup_at {K:Frag} {h:Heap} {mg:Str→Option Value} {x:Str} {ys:List Str} (X:K.In h) (G:h.Ns mainGlobals mg) (e:tupStrs K x ys=true):∃p,mg x=some (.ref p)∧∀H,SqT K H p (ys.map V.str):=by
 unfold tupStrs at e
 rw [Bool.and_eq_true] at e
 refine ⟨_,mg_of X G (of_decide_eq_true e.1),fun H=>.inr ?_⟩
 have e2:=e.2
 unfold QeA at e2
 cases ho:K.lookup (adOf (gl K x)) with
 | none=>rw [ho] at e2;cases e2
 | some ob =>
   rw [ho] at e2
   dsimp only at e2
   rw [Bool.and_eq_true] at e2
   obtain ⟨c1,c2⟩:=e2
   cases hd:ob.data with
   | seq its n =>
     rw [hd] at c2
     dsimp only at c2
     rw [Bool.and_eq_true] at c2
     exact ⟨ob,its,n,rfl,of_decide_eq_true c1,hd,of_decide_eq_true c2.1,Xg c2.2⟩
   | _=>rw [hd] at c2;cases c2
end Hd
namespace L2
open PySem PySem.Spec PyProof.Rows
inductive Qa6 (K:PySem.W.Frag) (x:V) (xs:List V) (H:Hp) (Q:VK):Prop
 | mk:∀(sep:Str) (p:Addr) (ys:List Str),x=.str sep→xs=[.ref p]→SqT K H p (ys.map V.str)→(ys.map (·.length)).sum+ys.length*sep.length≤16777216→Q (.str (Txt.join sep ys)) H→Qa6 K x xs H Q
def Qfm (K:PySem.W.Frag):V→List V→Hp→VK→Prop:=fun x xs H Q=>Qa6 K x xs H Q
theorem Ku {X:Cx}:MtR X "str.join" (Qfm X.K):=by
 intro pins s σ H x xs v us Q I rx rv h
 obtain ⟨sep,p,ys,rfl,rfl,hq,hz,q⟩:=h
 obtain ⟨t,rfl⟩:=rx
 obtain ⟨u,rfl,ru⟩:=JV rv
 cases ru
 obtain ⟨its,r,pl,_⟩:=I.tuple hq
 exact join_tuple pl (by have:=YG r;simpa using this) hz fun t' k=>⟨.str (Txt.join sep ys),H,I.tok k,⟨t',rfl⟩,q⟩
theorem GE {X:Cx} (K:PySem.W.Frag) (hK:X.K=K:=by rfl):MtR X "str.join" (Qfm K):=hK▸Ku
abbrev TF:=St→Hp→Str→(Str→Hp→Prop)→Prop
def PF (X:Cx) (es:List Expr) (t:TF):Prop:=∀(pins:List (Addr×Obj)) (s:Shared) (σ:St) (H:Hp) (acc:Str) (Q:Str→Hp→Prop),Inv X pins σ H s→t σ H acc Q →
 Joins (model X.prog X.w) X.A X.xe (evalEach es X.env) acc (fun out s1=>∃H',Inv X pins σ H' s1∧Q out H') s
def tfNil:TF:=fun _ H acc Q=>Q acc H
inductive QhG (t:TF) (σ:St) (acc:Str) (Q:Str→Hp→Prop) (v:V) (H1:Hp):Prop
 | mk:∀y:Str,v=.str y→(acc++y).length≤sizeLine→t σ H1 (acc++y) Q→QhG t σ acc Q v H1
def Qib (te:TE) (t:TF):TF:=fun σ H acc Q=>te σ H fun v H1=>QhG t σ acc Q v H1
section
variable {X : Cx} {e : Expr} {es : List Expr} {te : TE} {t : TF} {pos : Pos}
theorem Qcq:PF X [] tfNil:=fun _ s _ H _ _ I h=>⟨H,I,h⟩
theorem ZS (he:PE X e te) (h:PF X es t) (hev:evalEach (e :: es) X.env=eval e X.env :: evalEach es X.env:=by rfl):PF X (e :: es) (Qib te t):=by
 intro pins s σ H acc Q I q
 rw [hev]
 refine thn (he pins s σ H _ I q) fun u s1 ⟨v,H1,I1,r,y,ev,hz,q1⟩=>?_
 subst ev
 obtain ⟨tk,rfl⟩:=r
 exact ⟨y,tk,rfl,hz,h pins s1 σ H1 _ Q I1 q1⟩
inductive QhJ (Q:VK) (out:Str) (H':Hp):Prop
 | mk:out.length≤sizeLine→Q (.str out) H'→QhJ Q out H'
def tFs (t:TF):TE:=fun σ H Q=>t σ H Str.empty fun out H'=>QhJ Q out H'
theorem QfC {v1 v2:Expr} {rest:List Expr} (h:PF X (v1 :: v2 :: rest) t):PE X (.JoinedStr (v1 :: v2 :: rest) pos) (tFs t):=by
 intro pins s σ H Q I q
 refine wpAny_JoinedStr ?_
 have hj:=h pins s σ H Str.empty _ I q
 have mono:∀(ps:List (Sem Value)) (acc:Str) (Q1 Q2:Str→Shared→Prop) (s:Shared),(∀o s,Q1 o s→Q2 o s)→Joins (model X.prog X.w) X.A X.xe ps acc Q1 s→Joins (model X.prog X.w) X.A X.xe ps acc Q2 s:=by
  intro ps
  induction ps with
  | nil=>intro acc Q1 Q2 s k j;exact k _ _ j
  | cons p ps ih =>
    intro acc Q1 Q2 s k j
    exact thn j fun v s1 ⟨y,t,ev,hz,hr⟩=>⟨y,t,ev,hz,ih _ Q1 Q2 s1 k hr⟩
 refine mono _ _ _ _ _ (fun out s1 ⟨H',I',hz,q'⟩=>⟨hz,⟨.str out,H',I'.tok _,⟨_,rfl⟩,q'⟩⟩) hj
inductive Qca (Q:VK) (v:V) (H1:Hp):Prop
 | str:∀y:Str,v=.str y→y.length≤sizeLine→Q (.str y) H1→Qca Q v H1
 | int:∀i:Int,v=.int i→i.natAbs.log2<1920→Q (.str (toString i)) H1→Qca Q v H1
def tFmt (te:TE):TE:=fun σ H Q=>te σ H fun v H1=>Qca Q v H1
theorem VQ (he:PE X e te):PE X (.FormattedValue e (-1) none pos) (tFmt te):=by
 intro pins s σ H Q I q
 refine wpAny_FormattedValue_plain (thn (he pins s σ H _ I q) fun u s1 ⟨v,H1,I1,r,q1⟩=>?_)
 cases q1 with
 | str y ev hz q1 =>
   subst ev
   obtain ⟨tk,rfl⟩:=r
   exact wpAny_formatField_str ⟨.str y,H1,I1,⟨tk,rfl⟩,q1⟩ ⟨.str y,H1,I1.tok _,⟨_,rfl⟩,q1⟩ hz
 | int i ev hz q1 =>
   subst ev
   obtain ⟨tk,rfl⟩:=r
   exact wpAny_formatField_int hz ⟨.str _,H1,I1.tok _,⟨_,rfl⟩,q1⟩
end
end L2
namespace L2
open PySem PySem.Spec PyProof.Rows
theorem GT {K:PySem.W.Frag} {a:Addr} {α:Type} {xs:List α} {fr:List (Nat×Str)} {te:TE} {σ:St} {H1:Hp} {Q:VK} (g:α→V) (f:α→V) (hz:xs.length≤sizeLine) (hS:SqT K H1 a (xs.map g))
 (hte:∀(x:α) (H3:Hp) (Q':VK),x∈xs→Qm H1 H3→(∀H4,Qm H3 H4→Q' (f x) H4)→te (some (g x) :: frV σ fr) H3 Q')
 (hQ:∀D H2,H1 D=none→Qm H1 H2→H2 D=some (.lst (xs.map f))→Q (.ref D) H2) :
 Jg (Itt K a) fr W7 te σ H1 Q:=by
 intro D hD
 refine ⟨fun i m ys H2=>m=xs.length - i∧i≤xs.length∧ys=(xs.map f).take i∧Qm H1 H2∧H2 D=some (.lst ys),⟨xs.length,by simp,Nat.zero_le _,by simp,Qm.upd_new hD,Qh⟩,?_⟩
 rintro i m ys H2 ⟨rfl,hi,rfl,s2,d2⟩
 refine ⟨d2,?_⟩
 have hS2:=s2.tup hS
 by_cases hlt:i<xs.length
 ·have hx0:(xs.map g)[i]?=some (g xs[i]):=by rw [List.getElem?_map,List.getElem?_eq_getElem hlt];rfl
  refine .inr ⟨⟨xs.map g,g xs[i],hS2,hx0⟩,?_⟩
  rintro v H3 ⟨rfl,hv⟩
  have ev:=hv _ hS2
  rw [hx0] at ev
  cases ev
  refine UT (Zc ?_)
  refine hte xs[i] H3 _ (List.getElem_mem hlt) s2 fun H4 s4=>⟨s4 _ _ d2,?_,xs.length - (i+1),by omega,rfl,hlt,?_,(s2.trans s4).upd_of hD,Qh⟩
  ·rw [List.length_take,List.length_map];omega
  ·rw [List.take_add_one,List.getElem?_map,List.getElem?_eq_getElem hlt];rfl
 ·have e:i=xs.length:=by omega
  subst e
  refine .inl ⟨⟨xs.map g,hS2,by rw [List.length_map];exact Nat.le_refl _⟩,hQ D H2 hD s2 ?_⟩
  rw [d2,List.take_of_length_le (by rw [List.length_map];exact Nat.le_refl _)]
theorem Ue {K:PySem.W.Frag} {a:Addr} {α:Type} {xs:List α} {fr:List (Nat×Str)} {te:TE} {σ:St} {H1:Hp} {Q:VK} (g:α→Addr) (f1 f2:α→V) (Pv:Addr→Nat→List V→Hp→Prop) (hz:xs.length≤sizeLine) (hS:SqL K H1 a (xs.map fun x=>V.ref (g x))) (h0:∀D,H1 D=none→Pv D 0 [] (upd H1 D (.lst []))) (hlen:∀D i ys H,Pv D i ys H→ys.length=i)
 (hpr:∀x∈xs,∀H3,Qm H1 H3→SqT K H3 (g x) [f1 x,f2 x])
 (hte:∀(D:Addr) (i:Nat) (x:α) (ys:List V) (H3:Hp) (Q':VK),xs[i]?=some x→H1 D=none→Pv D i ys H3→H3 D=some (.lst ys)→Qm H1 H3→(∀y H5,Qm H3 H5→Pv D (i+1) (ys++[y]) (upd H5 D (.lst (ys++[y])))→Q' y H5)→te (some (f1 x) :: some (f2 x) :: frV σ fr) H3 Q')
 (hQ:∀D ys H2,H1 D=none→Pv D xs.length ys H2→Qm H1 H2→H2 D=some (.lst ys)→Q (.ref D) H2) :
 Vu K (Itl K a) fr te σ H1 Q:=by
 intro D hD
 refine ⟨fun i m ys H2=>m=xs.length - i∧i≤xs.length∧Pv D i ys H2∧Qm H1 H2∧H2 D=some (.lst ys),⟨xs.length,by simp,Nat.zero_le _,h0 D hD,Qm.upd_new hD,Qh⟩,?_⟩
 rintro i m ys H2 ⟨rfl,hi,p,s2,d2⟩
 refine ⟨d2,?_⟩
 have hS2:=s2.seq hS
 by_cases hlt:i<xs.length
 ·have hx0:(xs.map fun x=>V.ref (g x))[i]?=some (V.ref (g xs[i])):=by rw [List.getElem?_map,List.getElem?_eq_getElem hlt];rfl
  refine .inr ⟨⟨_,_,hS2,hx0⟩,?_⟩
  rintro v H3 ⟨rfl,hv⟩
  have ev:=hv _ hS2
  rw [hx0] at ev
  cases ev
  refine ⟨g xs[i],_,_,rfl,hpr xs[i] (List.getElem_mem hlt) H3 s2,hte D i xs[i] ys H3 _ (List.getElem?_eq_getElem hlt) hD p d2 s2 fun y H5 s5 pv=>⟨s5 _ _ d2,?_,xs.length - (i+1),by omega,rfl,hlt,pv,(s2.trans s5).upd_of hD,Qh⟩⟩
  rw [hlen D i ys _ p];omega
 ·have e:i=xs.length:=by omega
  subst e
  exact .inl ⟨⟨_,hS2,by rw [List.length_map];exact Nat.le_refl _⟩,hQ D ys H2 hD p s2 d2⟩
inductive Qdb (K:PySem.W.Frag) (x:V) (y:V) (H:Hp) (Q:VK):Prop
 | mk:∀d ds,RD K H x d→RD K H y (.tuple ds)→PyData.canLayAll0 ds=true→d.canLay0=true→d.depth≤20→Q (.bl (ds.any fun e=>PyData.eqv e d)) H→Qdb K x y H Q
def rInDT (K:PySem.W.Frag):R2:=fun x y H Q=>Qdb K x y H Q
theorem Qhd {X:Cx} (hu:X.A.units+64<cLine):OpR X (compareOp .In) (rInDT X.K):=by
 intro pins s σ H x y v u Q I rx ry h
 obtain ⟨d,ds,hd,hy,l1,l2,l3,q⟩:=h
 obtain ⟨as,ra⟩:=hd.reads I rx
 obtain ⟨bs,rb⟩:=hy.reads I ry
 refine SeqAt.in_tuple_reads rb ra l1 l2 ?_ ⟨.bl _,H,I,rfl,q⟩
 have:=Nat.min_le_right (PyData.depthAll ds) d.depth
 omega
end L2
namespace K16
open PySem L2
def top (i:Nat):Stmt:=PySem.Challenge.pw_mailroom_k16_rules_run.main.body.getD i (.Pass ⟨0,0,0,0⟩)
abbrev QeO:Stmt:=top 0
abbrev ZP:Stmt:=top 5
abbrev Ji:Stmt:=top 6
abbrev ZD:Stmt:=top 28
abbrev J3:Stmt:=top 33
abbrev UY:Stmt:=top 34
abbrev YC:Stmt:=top 35
abbrev UZ:Stmt:=top 40
abbrev Up:Stmt:=top 41
abbrev JK:Stmt:=top 42
abbrev JL:Stmt:=top 43
abbrev YN:Stmt:=top 46
abbrev UX:Stmt:=top 47
abbrev JD:Stmt:=top 48
abbrev YK:Stmt:=top 49
abbrev Zr:Stmt:=top 50
abbrev YO:Stmt:=top 51
abbrev Uo:Stmt:=top 52
abbrev V5:Stmt:=top 53
abbrev YL:Stmt:=top 54
abbrev YJ:Stmt:=top 55
abbrev YI:Stmt:=top 56
abbrev V4:Stmt:=top 57
abbrev YM:Stmt:=top 58
abbrev YH:Stmt:=top 59
abbrev YQ:Stmt:=top 60
abbrev UW:Stmt:=top 61
abbrev Jj:Stmt:=top 62
abbrev Vo:Stmt:=top 63
abbrev Xn:Stmt:=top 64
abbrev QI:Stmt:=QF (top 2) 0
abbrev UD:Stmt:=QF (top 2) 1
abbrev UC:Stmt:=QF (top 2) 2
abbrev YV:Stmt:=QF (top 2) 3
abbrev JH:Stmt:=QF (top 7) 0
abbrev JG:Stmt:=QF (top 7) 1
abbrev JF:Stmt:=QF (top 7) 2
abbrev Jc:Stmt:=QF (top 7) 3
abbrev YT:Stmt:=QF (top 7) 4
abbrev ZJ:Stmt:=QF (top 7) 5
abbrev ZZ:Stmt:=QF (top 13) 0
abbrev ZL:Stmt:=QF (top 13) 1
abbrev Ze:Stmt:=QF (top 13) 2
abbrev ZY:Stmt:=QF (top 13) 3
abbrev Zp:Stmt:=QF (top 13) 4
abbrev Jd:Stmt:=QF (top 15) 0
abbrev Zh:Stmt:=QF (top 16) 0
abbrev Jx:Stmt:=QF (top 17) 0
abbrev ZU:Stmt:=QF (top 18) 0
abbrev Zv:Stmt:=QF (top 18) 1
abbrev Yk:Stmt:=QF (top 19) 0
abbrev ZV:Stmt:=QF (top 20) 0
abbrev Zw:Stmt:=QF (top 21) 0
abbrev Ju:Stmt:=QF (top 22) 0
abbrev ZI:Stmt:=QF (top 22) 1
abbrev YU:Stmt:=QF (top 23) 0
abbrev JI:Stmt:=QF (top 23) 1
abbrev ZW:Stmt:=QF (top 24) 0
abbrev Zo:Stmt:=QF (top 24) 1
abbrev JQ:Stmt:=QF (top 25) 0
abbrev Zb:Stmt:=QF (top 25) 1
abbrev Yl:Stmt:=QF (top 26) 0
abbrev Jl:Stmt:=QF (top 26) 1
abbrev Jz:Stmt:=QF (top 26) 2
abbrev Jy:Stmt:=QF (top 27) 0
abbrev ZK:Stmt:=QF (top 27) 1
abbrev ZX:Stmt:=QF (top 27) 2
abbrev QL:Stmt:=QF (top 44) 0
abbrev JP:Stmt:=QF (top 44) 1
abbrev Jv:Stmt:=QF (top 44) 2
abbrev Jw:Stmt:=QF (top 44) 3
abbrev Ug:Stmt:=QF (top 44) 4
abbrev Jq:Stmt:=QF (top 44) 5
abbrev VG:List Str:=["card","acts","folder","marks","word","act"]
theorem ZH:Qp VG ["card","acts"] (Qe ZP):=⟨rfl,rfl,rfl,by decide +kernel,rfl,by decide +kernel,by decide +kernel⟩
abbrev VF:List Str:=["condition","acts","asked","done"]
theorem YR:Qp VF ["condition","acts"] (Qe Ji):=⟨rfl,rfl,rfl,by decide +kernel,rfl,by decide +kernel,by decide +kernel⟩
abbrev Kn:List Str:=["tree","kind"]
theorem Yq:Qp Kn ["tree"] (Qe ZD):=⟨rfl,rfl,rfl,by decide +kernel,rfl,by decide +kernel,by decide +kernel⟩
abbrev Xc:List Str:=["text","signs"]
theorem Qad:Qp Xc ["text","signs"] (Qe J3):=⟨rfl,rfl,rfl,by decide +kernel,rfl,by decide +kernel,by decide +kernel⟩
abbrev Qd0:List Str:=["thing"]
theorem Qcg:Qp Qd0 ["thing"] (Qe UY):=⟨rfl,rfl,rfl,by decide +kernel,rfl,by decide +kernel,by decide +kernel⟩
abbrev Km:List Str:=["text","signs"]
theorem W9:Qp Km ["text"] (Qe YC):=⟨rfl,rfl,rfl,by decide +kernel,rfl,by decide +kernel,by decide +kernel⟩
abbrev Qd1:List Str:=["thing","most"]
theorem Qch:Qp Qd1 ["thing","most"] (Qe UZ):=⟨rfl,rfl,rfl,by decide +kernel,rfl,by decide +kernel,by decide +kernel⟩
abbrev Qcx:List Str:=["thing"]
theorem Qa1:Qp Qcx ["thing"] (Qe Up):=⟨rfl,rfl,rfl,by decide +kernel,rfl,by decide +kernel,by decide +kernel⟩
abbrev K3:List Str:=["thing"]
theorem X1:Qp K3 ["thing"] (Qe JK):=⟨rfl,rfl,rfl,by decide +kernel,rfl,by decide +kernel,by decide +kernel⟩
abbrev K4:List Str:=["sender","title","body","day","answers"]
theorem X2:Qp K4 ["sender","title","body","day","answers"] (Qe JL):=⟨rfl,rfl,rfl,by decide +kernel,rfl,by decide +kernel,by decide +kernel⟩
abbrev Qbq:List Str:=["_law_script","_law_k"]
theorem Qac:Qp Qbq ["_law_script","_law_k"] (Qe YN):=⟨rfl,rfl,rfl,by decide +kernel,rfl,by decide +kernel,by decide +kernel⟩
abbrev QdZ:List Str:=["_law_script","_law_start","_law_many","_law_found","_law_more","_law_k"]
theorem YS:Qp QdZ ["_law_script","_law_start","_law_many"] (Qe UX):=⟨rfl,rfl,rfl,by decide +kernel,rfl,by decide +kernel,by decide +kernel⟩
abbrev Xb:List Str:=["_law_shape","_law_k","_law_own","_law_place","_law_word","_law_turn"]
theorem Zt:Qp Xb ["_law_shape","_law_k"] (Qe JD):=⟨rfl,rfl,rfl,by decide +kernel,rfl,by decide +kernel,by decide +kernel⟩
abbrev Qbn:List Str:=["_law_shape","_law_cells","_law_text_here","_law_cell","_law_word"]
theorem ZQ:Qp Qbn ["_law_shape","_law_cells"] (Qe YK):=⟨rfl,rfl,rfl,by decide +kernel,rfl,by decide +kernel,by decide +kernel⟩
abbrev UG:List Str:=["_law_shape","_law_cells","_law_title","_law_body","_law_day","_law_answers"]
theorem Z2:Qp UG ["_law_shape","_law_cells"] (Qe Zr):=⟨rfl,rfl,rfl,by decide +kernel,rfl,by decide +kernel,by decide +kernel⟩
abbrev Qbr:List Str:=["_law_shape","_law_cells","_law_folder","_law_marks","_law_k","_law_word"]
theorem JN:Qp Qbr ["_law_shape","_law_cells"] (Qe YO):=⟨rfl,rfl,rfl,by decide +kernel,rfl,by decide +kernel,by decide +kernel⟩
abbrev Qcw:List Str:=["_law_parts"]
theorem Qa0:Qp Qcw ["_law_parts"] (Qe Uo):=⟨rfl,rfl,rfl,by decide +kernel,rfl,by decide +kernel,by decide +kernel⟩
abbrev Qf6:List Str:=["_law_card"]
theorem QdN:Qp Qf6 ["_law_card"] (Qe V5):=⟨rfl,rfl,rfl,by decide +kernel,rfl,by decide +kernel,by decide +kernel⟩
abbrev Qbp:List Str:=["_law_shape","_law_cell","_law_word","_law_kind","_law_low"]
theorem Yy:Qp Qbp ["_law_shape","_law_cell"] (Qe YL):=⟨rfl,rfl,rfl,by decide +kernel,rfl,by decide +kernel,by decide +kernel⟩
abbrev Qbm:List Str:=["_law_tree","_law_most","_law_part"]
theorem JM:Qp Qbm ["_law_tree"] (Qe YJ):=⟨rfl,rfl,rfl,by decide +kernel,rfl,by decide +kernel,by decide +kernel⟩
abbrev Qbl:List Str:=["_law_shape","_law_cells","_law_pile","_law_cell","_law_kind"]
theorem Zu:Qp Qbl ["_law_shape","_law_cells"] (Qe YI):=⟨rfl,rfl,rfl,by decide +kernel,rfl,by decide +kernel,by decide +kernel⟩
abbrev Qf5:List Str:=["_law_text_here","_law_found","_law_run_here","_law_sign"]
theorem YD:Qp Qf5 ["_law_text_here"] (Qe V4):=⟨rfl,rfl,rfl,by decide +kernel,rfl,by decide +kernel,by decide +kernel⟩
abbrev GD:List Str:=["_law_tree","_law_card","_law_others","_law_parts","_law_folder","_law_marks","_law_kind","_law_k","_law_where"]
theorem Jb:Qp GD ["_law_tree","_law_card","_law_others"] (Qe YM):=⟨rfl,rfl,rfl,by decide +kernel,rfl,by decide +kernel,by decide +kernel⟩
abbrev Qbk:List Str:=["_law_tree"]
theorem V7:Qp Qbk ["_law_tree"] (Qe YH):=⟨rfl,rfl,rfl,by decide +kernel,rfl,by decide +kernel,by decide +kernel⟩
abbrev Qbs:List Str:=["_law_shape","_law_cell","_law_acts","_law_k","_law_more","_law_word","_law_some"]
theorem Jk:Qp Qbs ["_law_shape","_law_cell"] (Qe YQ):=⟨rfl,rfl,rfl,by decide +kernel,rfl,by decide +kernel,by decide +kernel⟩
abbrev Qaq:List Str:=["_law_rows","_law_card","_law_others","_law_places","_law_k","_law_act","_law_parts","_law_folder","_law_marks"]
theorem Ja:Qp Qaq ["_law_rows","_law_card","_law_others"] (Qe UW):=⟨rfl,rfl,rfl,by decide +kernel,rfl,by decide +kernel,by decide +kernel⟩
abbrev Uu:List Str:=["_law_rules","_law_rows","_law_cards","_law_made_here","_law_turn","_law_card","_law_places","_law_found","_law_met","_law_told_here","_law_others"]
theorem J2:Qp Uu ["_law_rules","_law_rows","_law_cards","_law_made_here","_law_turn"] (Qe Jj):=⟨rfl,rfl,rfl,by decide +kernel,rfl,by decide +kernel,by decide +kernel⟩
abbrev Qbo:List Str:=["_law_rows","_law_lines","_law_tree","_law_acts"]
theorem Vp:Qp Qbo ["_law_rows"] (Qe Vo):=⟨rfl,rfl,rfl,by decide +kernel,rfl,by decide +kernel,by decide +kernel⟩
abbrev GC:List Str:=["_law_script","_law_cells","_law_shape","_law_cards","_law_made_here","_law_rows","_law_k","_law_tree","_law_handed","_law_rules"]
theorem Uf:Qp GC ["_law_script"] (Qe Xn):=⟨rfl,rfl,rfl,by decide +kernel,rfl,by decide +kernel,by decide +kernel⟩
abbrev Qbv:List Str:=["self","letter","folder","marks"]
theorem Qag:Qp Qbv ["self","letter","folder","marks"] (Qe QI):=⟨rfl,rfl,rfl,by decide +kernel,rfl,by decide +kernel,by decide +kernel⟩
abbrev Wm:List Str:=["self","rows"]
theorem KZ:Qp Wm ["self","rows"] (Qe JH):=⟨rfl,rfl,rfl,by decide +kernel,rfl,by decide +kernel,by decide +kernel⟩
abbrev Wl:List Str:=["self"]
theorem KY:Qp Wl ["self"] (Qe JG):=⟨rfl,rfl,rfl,by decide +kernel,rfl,by decide +kernel,by decide +kernel⟩
abbrev Xd:List Str:=["self","card","others","places","place","row"]
theorem JO:Qp Xd ["self","card","others"] (Qe JF):=⟨rfl,rfl,rfl,by decide +kernel,rfl,by decide +kernel,by decide +kernel⟩
abbrev Xu:List Str:=["self","card","others","end"]
theorem Uq:Qp Xu ["self","card","others"] (Qe Jc):=⟨rfl,rfl,rfl,by decide +kernel,rfl,by decide +kernel,by decide +kernel⟩
abbrev Qbt:List Str:=["self","card","others"]
theorem Qae:Qp Qbt ["self","card","others"] (Qe YT):=⟨rfl,rfl,rfl,by decide +kernel,rfl,by decide +kernel,by decide +kernel⟩
abbrev UM:List Str:=["self"]
theorem WK:Qp UM ["self"] (Qe ZJ):=⟨rfl,rfl,rfl,by decide +kernel,rfl,by decide +kernel,by decide +kernel⟩
abbrev WX:List Str:=["self","tree"]
theorem Wd:Qp WX ["self","tree"] (Qe ZZ):=⟨rfl,rfl,rfl,by decide +kernel,rfl,by decide +kernel,by decide +kernel⟩
abbrev Wo:List Str:=["self","card","others"]
theorem VN:Qp Wo ["self","card","others"] (Qe ZL):=⟨rfl,rfl,rfl,by decide +kernel,rfl,by decide +kernel,by decide +kernel⟩
abbrev Y1:List Str:=["self","cards"]
theorem Vx:Qp Y1 ["self","cards"] (Qe Ze):=⟨rfl,rfl,rfl,by decide +kernel,rfl,by decide +kernel,by decide +kernel⟩
abbrev WW:List Str:=["self"]
theorem Wc:Qp WW ["self"] (Qe ZY):=⟨rfl,rfl,rfl,by decide +kernel,rfl,by decide +kernel,by decide +kernel⟩
abbrev VA:List Str:=["self"]
theorem U2:Qp VA ["self"] (Qe Zp):=⟨rfl,rfl,rfl,by decide +kernel,rfl,by decide +kernel,by decide +kernel⟩
abbrev Xv:List Str:=["self","card","others"]
theorem WL:Qp Xv ["self","card","others"] (Qe Jd):=⟨rfl,rfl,rfl,by decide +kernel,rfl,by decide +kernel,by decide +kernel⟩
abbrev Vd:List Str:=["self","card","others"]
theorem UO:Qp Vd ["self","card","others"] (Qe Zh):=⟨rfl,rfl,rfl,by decide +kernel,rfl,by decide +kernel,by decide +kernel⟩
abbrev Kr:List Str:=["self","card","others"]
theorem Xq:Qp Kr ["self","card","others"] (Qe Jx):=⟨rfl,rfl,rfl,by decide +kernel,rfl,by decide +kernel,by decide +kernel⟩
abbrev WS:List Str:=["self","card","others"]
theorem V8:Qp WS ["self","card","others"] (Qe ZU):=⟨rfl,rfl,rfl,by decide +kernel,rfl,by decide +kernel,by decide +kernel⟩
abbrev VR:List Str:=["self","first","last"]
theorem Jp:Qp VR ["self"] (Qe Zv):=⟨rfl,rfl,rfl,by decide +kernel,rfl,by decide +kernel,by decide +kernel⟩
abbrev Qar:List Str:=["self","card","others"]
theorem K1:Qp Qar ["self","card","others"] (Qe Yk):=⟨rfl,rfl,rfl,by decide +kernel,rfl,by decide +kernel,by decide +kernel⟩
abbrev WT:List Str:=["self","card","others"]
theorem V9:Qp WT ["self","card","others"] (Qe ZV):=⟨rfl,rfl,rfl,by decide +kernel,rfl,by decide +kernel,by decide +kernel⟩
abbrev VS:List Str:=["self","card","others"]
theorem Vw:Qp VS ["self","card","others"] (Qe Zw):=⟨rfl,rfl,rfl,by decide +kernel,rfl,by decide +kernel,by decide +kernel⟩
abbrev Ko:List Str:=["self","tree"]
theorem Xo:Qp Ko ["self","tree"] (Qe Ju):=⟨rfl,rfl,rfl,by decide +kernel,rfl,by decide +kernel,by decide +kernel⟩
abbrev Wk:List Str:=["self"]
theorem VM:Qp Wk ["self"] (Qe ZI):=⟨rfl,rfl,rfl,by decide +kernel,rfl,by decide +kernel,by decide +kernel⟩
abbrev Qbu:List Str:=["self","card","others"]
theorem Qaf:Qp Qbu ["self","card","others"] (Qe YU):=⟨rfl,rfl,rfl,by decide +kernel,rfl,by decide +kernel,by decide +kernel⟩
abbrev Wn:List Str:=["self","cards"]
theorem K0:Qp Wn ["self","cards"] (Qe JI):=⟨rfl,rfl,rfl,by decide +kernel,rfl,by decide +kernel,by decide +kernel⟩
abbrev WU:List Str:=["self","card","others"]
theorem Wa:Qp WU ["self","card","others"] (Qe ZW):=⟨rfl,rfl,rfl,by decide +kernel,rfl,by decide +kernel,by decide +kernel⟩
abbrev Uc:List Str:=["self","cards","inner","holding"]
theorem JE:Qp Uc ["self","cards"] (Qe Zo):=⟨rfl,rfl,rfl,by decide +kernel,rfl,by decide +kernel,by decide +kernel⟩
abbrev K7:List Str:=["self","tree"]
theorem X4:Qp K7 ["self","tree"] (Qe JQ):=⟨rfl,rfl,rfl,by decide +kernel,rfl,by decide +kernel,by decide +kernel⟩
abbrev UP:List Str:=["self","between","one","other"]
theorem ZR:Qp UP ["self","between"] (Qe Zb):=⟨rfl,rfl,rfl,by decide +kernel,rfl,by decide +kernel,by decide +kernel⟩
abbrev Qas:List Str:=["self","card","others"]
theorem K2:Qp Qas ["self","card","others"] (Qe Yl):=⟨rfl,rfl,rfl,by decide +kernel,rfl,by decide +kernel,by decide +kernel⟩
abbrev VH:List Str:=["self","cards"]
theorem X5:Qp VH ["self","cards"] (Qe Jl):=⟨rfl,rfl,rfl,by decide +kernel,rfl,by decide +kernel,by decide +kernel⟩
abbrev Kt:List Str:=["self"]
theorem Xs:Qp Kt ["self"] (Qe Jz):=⟨rfl,rfl,rfl,by decide +kernel,rfl,by decide +kernel,by decide +kernel⟩
abbrev Ks:List Str:=["self","card","others"]
theorem Xr:Qp Ks ["self","card","others"] (Qe Jy):=⟨rfl,rfl,rfl,by decide +kernel,rfl,by decide +kernel,by decide +kernel⟩
abbrev UN:List Str:=["self","cards"]
theorem WM:Qp UN ["self","cards"] (Qe ZK):=⟨rfl,rfl,rfl,by decide +kernel,rfl,by decide +kernel,by decide +kernel⟩
abbrev WV:List Str:=["self"]
theorem Wb:Qp WV ["self"] (Qe ZX):=⟨rfl,rfl,rfl,by decide +kernel,rfl,by decide +kernel,by decide +kernel⟩
abbrev K6:List Str:=["self","sender","title","body","day","answers"]
theorem X3:Qp K6 ["self","sender","title","body","day","answers"] (Qe QL):=⟨rfl,rfl,rfl,by decide +kernel,rfl,by decide +kernel,by decide +kernel⟩
abbrev K5:List Str:=["self","twin"]
theorem U1:Qp K5 ["self"] (Qe JP):=⟨rfl,rfl,rfl,by decide +kernel,rfl,by decide +kernel,by decide +kernel⟩
abbrev Kp:List Str:=["self"]
theorem Xp:Qp Kp ["self"] (Qe Jv):=⟨rfl,rfl,rfl,by decide +kernel,rfl,by decide +kernel,by decide +kernel⟩
abbrev Kq:List Str:=["self","found","word"]
theorem JB:Qp Kq ["self"] (Qe Jw):=⟨rfl,rfl,rfl,by decide +kernel,rfl,by decide +kernel,by decide +kernel⟩
set_option genInjectivity false in
structure Adr where
 f_wall:Addr
 f_card_behind:Addr
 f_row_written:Addr
 f_condition_of:Addr
 f_all_among:Addr
 f_is_word:Addr
 f_words_of:Addr
 f_is_text:Addr
 f_is_whole:Addr
 f_is_answered:Addr
 f_check_parts:Addr
 f_l_cell_at:Addr
 f_l_mixed:Addr
 f_l_word_by:Addr
 f_l_text_by:Addr
 f_l_parts_by:Addr
 f_l_card_by:Addr
 f_l_letter:Addr
 f_l_made:Addr
 f_l_leaf_by:Addr
 f_l_threads:Addr
 f_l_tree_by:Addr
 f_l_runs:Addr
 f_l_holds:Addr
 f_l_written:Addr
 f_l_acts_by:Addr
 f_l_run:Addr
 f_l_told:Addr
 f_l_text:Addr
 f_law:Addr
 f_Card_init:Addr
 f_Card_placed:Addr
 f_Card_signed:Addr
 f_Card_unsigned:Addr
 f_Rules_init:Addr
 f_Rules_rows:Addr
 f_Rules_run:Addr
 f_Rules_outcome:Addr
 f_Rules_met:Addr
 f_Rules_written:Addr
 f_Condition_init:Addr
 f_Condition_holds:Addr
 f_Condition_truths:Addr
 f_Condition_tree:Addr
 f_Condition_written:Addr
 f_HasWord_holds:Addr
 f_HasTitleWord_holds:Addr
 f_IsFrom_holds:Addr
 f_IsOfDays_holds:Addr
 f_IsOfDays_written:Addr
 f_IsIn_holds:Addr
 f_IsMarked_holds:Addr
 f_DoesAnswer_holds:Addr
 f_Wrapped_init:Addr
 f_Wrapped_written:Addr
 f_Not_holds:Addr
 f_Not_truths:Addr
 f_InThread_holds:Addr
 f_InThread_truths:Addr
 f_Joined_init:Addr
 f_Joined_written_with:Addr
 f_Both_holds:Addr
 f_Both_truths:Addr
 f_Both_written:Addr
 f_Either_holds:Addr
 f_Either_truths:Addr
 f_Either_written:Addr
 f_Letter_init:Addr
 f_Letter_twin:Addr
 f_Letter_parts:Addr
 f_Letter_known:Addr
 f_Letter_words:Addr
 f_Letter_title_words:Addr
 C_Card:Addr
 C_Rules:Addr
 C_Condition:Addr
 C_Always:Addr
 C_HasWord:Addr
 C_HasTitleWord:Addr
 C_IsFrom:Addr
 C_IsOfDays:Addr
 C_IsIn:Addr
 C_IsMarked:Addr
 C_DoesAnswer:Addr
 C_Wrapped:Addr
 C_Not:Addr
 C_InThread:Addr
 C_Joined:Addr
 C_Both:Addr
 C_Either:Addr
 C_Letter:Addr
 dummy:Nat:=0
structure Txt (K:PySem.W.Frag) (mg:Str→Option Value) (a:Adr):Prop where
 m_wall:mg "_wall"=some (.ref a.f_wall)
 m_card_behind:mg "card_behind"=some (.ref a.f_card_behind)
 m_row_written:mg "row_written"=some (.ref a.f_row_written)
 m_condition_of:mg "condition_of"=some (.ref a.f_condition_of)
 m_all_among:mg "all_among"=some (.ref a.f_all_among)
 m_is_word:mg "is_word"=some (.ref a.f_is_word)
 m_words_of:mg "words_of"=some (.ref a.f_words_of)
 m_is_text:mg "is_text"=some (.ref a.f_is_text)
 m_is_whole:mg "is_whole"=some (.ref a.f_is_whole)
 m_is_answered:mg "is_answered"=some (.ref a.f_is_answered)
 m_check_parts:mg "check_parts"=some (.ref a.f_check_parts)
 m_l_cell_at:mg "_law_cell_at"=some (.ref a.f_l_cell_at)
 m_l_mixed:mg "_law_mixed"=some (.ref a.f_l_mixed)
 m_l_word_by:mg "_law_word_by"=some (.ref a.f_l_word_by)
 m_l_text_by:mg "_law_text_by"=some (.ref a.f_l_text_by)
 m_l_parts_by:mg "_law_parts_by"=some (.ref a.f_l_parts_by)
 m_l_card_by:mg "_law_card_by"=some (.ref a.f_l_card_by)
 m_l_letter:mg "_law_letter"=some (.ref a.f_l_letter)
 m_l_made:mg "_law_made"=some (.ref a.f_l_made)
 m_l_leaf_by:mg "_law_leaf_by"=some (.ref a.f_l_leaf_by)
 m_l_threads:mg "_law_threads"=some (.ref a.f_l_threads)
 m_l_tree_by:mg "_law_tree_by"=some (.ref a.f_l_tree_by)
 m_l_runs:mg "_law_runs"=some (.ref a.f_l_runs)
 m_l_holds:mg "_law_holds"=some (.ref a.f_l_holds)
 m_l_written:mg "_law_written"=some (.ref a.f_l_written)
 m_l_acts_by:mg "_law_acts_by"=some (.ref a.f_l_acts_by)
 m_l_run:mg "_law_run"=some (.ref a.f_l_run)
 m_l_told:mg "_law_told"=some (.ref a.f_l_told)
 m_l_text:mg "_law_text"=some (.ref a.f_l_text)
 m_law:mg "law"=some (.ref a.f_law)
 g_WORD_SIGNS:∃u,mg "WORD_SIGNS"=some u∧QQ (.str "abcdefghijklmnopqrstuvwxyz0123456789") u
 g_RUN_SIGNS:∃u,mg "RUN_SIGNS"=some u∧QQ (.str "abcdefghijklmnopqrstuvwxyzABCDEFGHIJKLMNOPQRSTUVWXYZ0123456789") u
 g_MOST_WORD:∃u,mg "MOST_WORD"=some u∧QQ (.int 20) u
 g_MOST_TITLE:∃u,mg "MOST_TITLE"=some u∧QQ (.int 60) u
 g_MOST_BODY:∃u,mg "MOST_BODY"=some u∧QQ (.int 400) u
 g_LAST_DAY:∃u,mg "LAST_DAY"=some u∧QQ (.int 9999) u
 gt_STOP:∃p,mg "STOP"=some (.ref p)∧∀H,SqT K H p ((["stop"]:List Str).map V.str)
 b_len:mg "len"=none
 b_range:mg "range"=none
 b_isinstance:mg "isinstance"=none
 b_str:mg "str"=none
 b_int:mg "int"=none
 b_bool:mg "bool"=none
 b_list:mg "list"=none
 b_tuple:mg "tuple"=none
 b_set:mg "set"=none
 b_max:mg "max"=none
 b_all:mg "all"=none
 b_any:mg "any"=none
 b_sorted:mg "sorted"=none
 b_enumerate:mg "enumerate"=none
 b_zip:mg "zip"=none
 mc_Card:mg "Card"=some (.ref a.C_Card)
 c_Card:Cls K a.C_Card
 k_Card:Mk K a.C_Card a.f_Card_init
 M_Card_placed:QN K a.C_Card "placed" a.f_Card_placed
 M_Card_signed:QN K a.C_Card "signed" a.f_Card_signed
 M_Card_unsigned:QN K a.C_Card "unsigned" a.f_Card_unsigned
 n_Card_letter:QD K a.C_Card "letter"
 n_Card_box:QD K a.C_Card "box"
 n_Card_signs:QD K a.C_Card "signs"
 mc_Rules:mg "Rules"=some (.ref a.C_Rules)
 c_Rules:Cls K a.C_Rules
 k_Rules:Mk K a.C_Rules a.f_Rules_init
 M_Rules_rows:QN K a.C_Rules "rows" a.f_Rules_rows
 M_Rules_run:QN K a.C_Rules "run" a.f_Rules_run
 M_Rules_outcome:QN K a.C_Rules "outcome" a.f_Rules_outcome
 M_Rules_met:QN K a.C_Rules "met" a.f_Rules_met
 M_Rules_written:QN K a.C_Rules "written" a.f_Rules_written
 n_Rules_kept:QD K a.C_Rules "kept"
 mc_Condition:mg "Condition"=some (.ref a.C_Condition)
 c_Condition:Cls K a.C_Condition
 k_Condition:Mk K a.C_Condition a.f_Condition_init
 M_Condition_holds:QN K a.C_Condition "holds" a.f_Condition_holds
 M_Condition_truths:QN K a.C_Condition "truths" a.f_Condition_truths
 M_Condition_tree:QN K a.C_Condition "tree" a.f_Condition_tree
 M_Condition_written:QN K a.C_Condition "written" a.f_Condition_written
 n_Condition_shape:QD K a.C_Condition "shape"
 mc_Always:mg "Always"=some (.ref a.C_Always)
 c_Always:Cls K a.C_Always
 k_Always:Mk K a.C_Always a.f_Condition_init
 M_Always_holds:QN K a.C_Always "holds" a.f_Condition_holds
 M_Always_truths:QN K a.C_Always "truths" a.f_Condition_truths
 M_Always_tree:QN K a.C_Always "tree" a.f_Condition_tree
 M_Always_written:QN K a.C_Always "written" a.f_Condition_written
 n_Always_shape:QD K a.C_Always "shape"
 mc_HasWord:mg "HasWord"=some (.ref a.C_HasWord)
 c_HasWord:Cls K a.C_HasWord
 k_HasWord:Mk K a.C_HasWord a.f_Condition_init
 M_HasWord_holds:QN K a.C_HasWord "holds" a.f_HasWord_holds
 M_HasWord_truths:QN K a.C_HasWord "truths" a.f_Condition_truths
 M_HasWord_tree:QN K a.C_HasWord "tree" a.f_Condition_tree
 M_HasWord_written:QN K a.C_HasWord "written" a.f_Condition_written
 n_HasWord_shape:QD K a.C_HasWord "shape"
 mc_HasTitleWord:mg "HasTitleWord"=some (.ref a.C_HasTitleWord)
 c_HasTitleWord:Cls K a.C_HasTitleWord
 k_HasTitleWord:Mk K a.C_HasTitleWord a.f_Condition_init
 M_HasTitleWord_holds:QN K a.C_HasTitleWord "holds" a.f_HasTitleWord_holds
 M_HasTitleWord_truths:QN K a.C_HasTitleWord "truths" a.f_Condition_truths
 M_HasTitleWord_tree:QN K a.C_HasTitleWord "tree" a.f_Condition_tree
 M_HasTitleWord_written:QN K a.C_HasTitleWord "written" a.f_Condition_written
 n_HasTitleWord_shape:QD K a.C_HasTitleWord "shape"
 mc_IsFrom:mg "IsFrom"=some (.ref a.C_IsFrom)
 c_IsFrom:Cls K a.C_IsFrom
 k_IsFrom:Mk K a.C_IsFrom a.f_Condition_init
 M_IsFrom_holds:QN K a.C_IsFrom "holds" a.f_IsFrom_holds
 M_IsFrom_truths:QN K a.C_IsFrom "truths" a.f_Condition_truths
 M_IsFrom_tree:QN K a.C_IsFrom "tree" a.f_Condition_tree
 M_IsFrom_written:QN K a.C_IsFrom "written" a.f_Condition_written
 n_IsFrom_shape:QD K a.C_IsFrom "shape"
 mc_IsOfDays:mg "IsOfDays"=some (.ref a.C_IsOfDays)
 c_IsOfDays:Cls K a.C_IsOfDays
 k_IsOfDays:Mk K a.C_IsOfDays a.f_Condition_init
 M_IsOfDays_holds:QN K a.C_IsOfDays "holds" a.f_IsOfDays_holds
 M_IsOfDays_truths:QN K a.C_IsOfDays "truths" a.f_Condition_truths
 M_IsOfDays_tree:QN K a.C_IsOfDays "tree" a.f_Condition_tree
 M_IsOfDays_written:QN K a.C_IsOfDays "written" a.f_IsOfDays_written
 n_IsOfDays_shape:QD K a.C_IsOfDays "shape"
 mc_IsIn:mg "IsIn"=some (.ref a.C_IsIn)
 c_IsIn:Cls K a.C_IsIn
 k_IsIn:Mk K a.C_IsIn a.f_Condition_init
 M_IsIn_holds:QN K a.C_IsIn "holds" a.f_IsIn_holds
 M_IsIn_truths:QN K a.C_IsIn "truths" a.f_Condition_truths
 M_IsIn_tree:QN K a.C_IsIn "tree" a.f_Condition_tree
 M_IsIn_written:QN K a.C_IsIn "written" a.f_Condition_written
 n_IsIn_shape:QD K a.C_IsIn "shape"
 mc_IsMarked:mg "IsMarked"=some (.ref a.C_IsMarked)
 c_IsMarked:Cls K a.C_IsMarked
 k_IsMarked:Mk K a.C_IsMarked a.f_Condition_init
 M_IsMarked_holds:QN K a.C_IsMarked "holds" a.f_IsMarked_holds
 M_IsMarked_truths:QN K a.C_IsMarked "truths" a.f_Condition_truths
 M_IsMarked_tree:QN K a.C_IsMarked "tree" a.f_Condition_tree
 M_IsMarked_written:QN K a.C_IsMarked "written" a.f_Condition_written
 n_IsMarked_shape:QD K a.C_IsMarked "shape"
 mc_DoesAnswer:mg "DoesAnswer"=some (.ref a.C_DoesAnswer)
 c_DoesAnswer:Cls K a.C_DoesAnswer
 k_DoesAnswer:Mk K a.C_DoesAnswer a.f_Condition_init
 M_DoesAnswer_holds:QN K a.C_DoesAnswer "holds" a.f_DoesAnswer_holds
 M_DoesAnswer_truths:QN K a.C_DoesAnswer "truths" a.f_Condition_truths
 M_DoesAnswer_tree:QN K a.C_DoesAnswer "tree" a.f_Condition_tree
 M_DoesAnswer_written:QN K a.C_DoesAnswer "written" a.f_Condition_written
 n_DoesAnswer_shape:QD K a.C_DoesAnswer "shape"
 mc_Wrapped:mg "Wrapped"=some (.ref a.C_Wrapped)
 c_Wrapped:Cls K a.C_Wrapped
 k_Wrapped:Mk K a.C_Wrapped a.f_Wrapped_init
 M_Wrapped_holds:QN K a.C_Wrapped "holds" a.f_Condition_holds
 M_Wrapped_truths:QN K a.C_Wrapped "truths" a.f_Condition_truths
 M_Wrapped_tree:QN K a.C_Wrapped "tree" a.f_Condition_tree
 M_Wrapped_written:QN K a.C_Wrapped "written" a.f_Wrapped_written
 n_Wrapped_shape:QD K a.C_Wrapped "shape"
 n_Wrapped_inner:QD K a.C_Wrapped "inner"
 mc_Not:mg "Not"=some (.ref a.C_Not)
 c_Not:Cls K a.C_Not
 k_Not:Mk K a.C_Not a.f_Wrapped_init
 M_Not_holds:QN K a.C_Not "holds" a.f_Not_holds
 M_Not_truths:QN K a.C_Not "truths" a.f_Not_truths
 M_Not_tree:QN K a.C_Not "tree" a.f_Condition_tree
 M_Not_written:QN K a.C_Not "written" a.f_Wrapped_written
 n_Not_shape:QD K a.C_Not "shape"
 n_Not_inner:QD K a.C_Not "inner"
 mc_InThread:mg "InThread"=some (.ref a.C_InThread)
 c_InThread:Cls K a.C_InThread
 k_InThread:Mk K a.C_InThread a.f_Wrapped_init
 M_InThread_holds:QN K a.C_InThread "holds" a.f_InThread_holds
 M_InThread_truths:QN K a.C_InThread "truths" a.f_InThread_truths
 M_InThread_tree:QN K a.C_InThread "tree" a.f_Condition_tree
 M_InThread_written:QN K a.C_InThread "written" a.f_Wrapped_written
 n_InThread_shape:QD K a.C_InThread "shape"
 n_InThread_inner:QD K a.C_InThread "inner"
 mc_Joined:mg "Joined"=some (.ref a.C_Joined)
 c_Joined:Cls K a.C_Joined
 k_Joined:Mk K a.C_Joined a.f_Joined_init
 M_Joined_holds:QN K a.C_Joined "holds" a.f_Condition_holds
 M_Joined_truths:QN K a.C_Joined "truths" a.f_Condition_truths
 M_Joined_tree:QN K a.C_Joined "tree" a.f_Condition_tree
 M_Joined_written:QN K a.C_Joined "written" a.f_Condition_written
 M_Joined_written_with:QN K a.C_Joined "written_with" a.f_Joined_written_with
 n_Joined_shape:QD K a.C_Joined "shape"
 n_Joined_one:QD K a.C_Joined "one"
 n_Joined_other:QD K a.C_Joined "other"
 mc_Both:mg "Both"=some (.ref a.C_Both)
 c_Both:Cls K a.C_Both
 k_Both:Mk K a.C_Both a.f_Joined_init
 M_Both_holds:QN K a.C_Both "holds" a.f_Both_holds
 M_Both_truths:QN K a.C_Both "truths" a.f_Both_truths
 M_Both_tree:QN K a.C_Both "tree" a.f_Condition_tree
 M_Both_written:QN K a.C_Both "written" a.f_Both_written
 M_Both_written_with:QN K a.C_Both "written_with" a.f_Joined_written_with
 n_Both_shape:QD K a.C_Both "shape"
 n_Both_one:QD K a.C_Both "one"
 n_Both_other:QD K a.C_Both "other"
 mc_Either:mg "Either"=some (.ref a.C_Either)
 c_Either:Cls K a.C_Either
 k_Either:Mk K a.C_Either a.f_Joined_init
 M_Either_holds:QN K a.C_Either "holds" a.f_Either_holds
 M_Either_truths:QN K a.C_Either "truths" a.f_Either_truths
 M_Either_tree:QN K a.C_Either "tree" a.f_Condition_tree
 M_Either_written:QN K a.C_Either "written" a.f_Either_written
 M_Either_written_with:QN K a.C_Either "written_with" a.f_Joined_written_with
 n_Either_shape:QD K a.C_Either "shape"
 n_Either_one:QD K a.C_Either "one"
 n_Either_other:QD K a.C_Either "other"
 mc_Letter:mg "Letter"=some (.ref a.C_Letter)
 c_Letter:Cls K a.C_Letter
 k_Letter:Mk K a.C_Letter a.f_Letter_init
 M_Letter_twin:QN K a.C_Letter "twin" a.f_Letter_twin
 M_Letter_parts:QN K a.C_Letter "parts" a.f_Letter_parts
 M_Letter_known:QN K a.C_Letter "known" a.f_Letter_known
 M_Letter_words:QN K a.C_Letter "words" a.f_Letter_words
 M_Letter_title_words:QN K a.C_Letter "title_words" a.f_Letter_title_words
 n_Letter_sender:QD K a.C_Letter "sender"
 n_Letter_title:QD K a.C_Letter "title"
 n_Letter_body:QD K a.C_Letter "body"
 n_Letter_day:QD K a.C_Letter "day"
 n_Letter_answers:QD K a.C_Letter "answers"
 n_Letter_found:QD K a.C_Letter "found"
 cf_Condition_init:CFn K a.C_Condition a.f_Condition_init "__init__"
 top_:True
structure Z1 (K:PySem.W.Frag) (a:Adr):Prop where
 F_wall:∃fd,Fun K "_wall" "_wall" QeO a.f_wall fd∧Qt K fd ["k"] []
 F_card_behind:∃fd,Fun K "card_behind" "card_behind" ZP a.f_card_behind fd∧Qt K fd ["card","acts"] []
 F_row_written:∃fd,Fun K "row_written" "row_written" Ji a.f_row_written fd∧Qt K fd ["condition","acts"] []
 F_condition_of:∃fd,Fun K "condition_of" "condition_of" ZD a.f_condition_of fd∧Qt K fd ["tree"] []
 F_all_among:∃fd,Fun K "all_among" "all_among" J3 a.f_all_among fd∧Qt K fd ["text","signs"] []
 F_is_word:∃fd,Fun K "is_word" "is_word" UY a.f_is_word fd∧Qt K fd ["thing"] []
 F_words_of:∃fd,Fun K "words_of" "words_of" YC a.f_words_of fd∧Qt K fd ["text"] []
 F_is_text:∃fd,Fun K "is_text" "is_text" UZ a.f_is_text fd∧Qt K fd ["thing","most"] []
 F_is_whole:∃fd,Fun K "is_whole" "is_whole" Up a.f_is_whole fd∧Qt K fd ["thing"] []
 F_is_answered:∃fd,Fun K "is_answered" "is_answered" JK a.f_is_answered fd∧Qt K fd ["thing"] []
 F_check_parts:∃fd,Fun K "check_parts" "check_parts" JL a.f_check_parts fd∧Qt K fd ["sender","title","body","day","answers"] []
 F_l_cell_at:∃fd,Fun K "_law_cell_at" "_law_cell_at" YN a.f_l_cell_at fd∧Qt K fd ["_law_script","_law_k"] []
 F_l_mixed:∃fd,Fun K "_law_mixed" "_law_mixed" UX a.f_l_mixed fd∧Qt K fd ["_law_script","_law_start","_law_many"] []
 F_l_word_by:∃fd,Fun K "_law_word_by" "_law_word_by" JD a.f_l_word_by fd∧Qt K fd ["_law_shape","_law_k"] []
 F_l_text_by:∃fd,Fun K "_law_text_by" "_law_text_by" YK a.f_l_text_by fd∧Qt K fd ["_law_shape","_law_cells"] []
 F_l_parts_by:∃fd,Fun K "_law_parts_by" "_law_parts_by" Zr a.f_l_parts_by fd∧Qt K fd ["_law_shape","_law_cells"] []
 F_l_card_by:∃fd,Fun K "_law_card_by" "_law_card_by" YO a.f_l_card_by fd∧Qt K fd ["_law_shape","_law_cells"] []
 F_l_letter:∃fd,Fun K "_law_letter" "_law_letter" Uo a.f_l_letter fd∧Qt K fd ["_law_parts"] []
 F_l_made:∃fd,Fun K "_law_made" "_law_made" V5 a.f_l_made fd∧Qt K fd ["_law_card"] []
 F_l_leaf_by:∃fd,Fun K "_law_leaf_by" "_law_leaf_by" YL a.f_l_leaf_by fd∧Qt K fd ["_law_shape","_law_cell"] []
 F_l_threads:∃fd,Fun K "_law_threads" "_law_threads" YJ a.f_l_threads fd∧Qt K fd ["_law_tree"] []
 F_l_tree_by:∃fd,Fun K "_law_tree_by" "_law_tree_by" YI a.f_l_tree_by fd∧Qt K fd ["_law_shape","_law_cells"] []
 F_l_runs:∃fd,Fun K "_law_runs" "_law_runs" V4 a.f_l_runs fd∧Qt K fd ["_law_text_here"] []
 F_l_holds:∃fd,Fun K "_law_holds" "_law_holds" YM a.f_l_holds fd∧Qt K fd ["_law_tree","_law_card","_law_others"] []
 F_l_written:∃fd,Fun K "_law_written" "_law_written" YH a.f_l_written fd∧Qt K fd ["_law_tree"] []
 F_l_acts_by:∃fd,Fun K "_law_acts_by" "_law_acts_by" YQ a.f_l_acts_by fd∧Qt K fd ["_law_shape","_law_cell"] []
 F_l_run:∃fd,Fun K "_law_run" "_law_run" UW a.f_l_run fd∧Qt K fd ["_law_rows","_law_card","_law_others"] []
 F_l_told:∃fd,Fun K "_law_told" "_law_told" Jj a.f_l_told fd∧Qt K fd ["_law_rules","_law_rows","_law_cards","_law_made_here","_law_turn"] []
 F_l_text:∃fd,Fun K "_law_text" "_law_text" Vo a.f_l_text fd∧Qt K fd ["_law_rows"] []
 F_law:∃fd,Fun K "law" "law" Xn a.f_law fd∧Qt K fd ["_law_script"] []
 F_Card_init:∃fd,Qb4 K "__init__" "Card.__init__" QI a.f_Card_init fd∧Qt K fd ["self","letter","folder","marks"] []∧(∃ds,QW [.str "inbox",.non] ds∧Qt K fd ["self","letter","folder","marks"] ds)∧(∃ds,QW [.non] ds∧Qt K fd ["self","letter","folder","marks"] ds)
 F_Card_placed:∃fd,Fun K "placed" "Card.placed" UD a.f_Card_placed fd∧Qt K fd ["self","folder"] []
 F_Card_signed:∃fd,Fun K "signed" "Card.signed" UC a.f_Card_signed fd∧Qt K fd ["self","word"] []
 F_Card_unsigned:∃fd,Fun K "unsigned" "Card.unsigned" YV a.f_Card_unsigned fd∧Qt K fd ["self","word"] []
 F_Rules_init:∃fd,Fun K "__init__" "Rules.__init__" JH a.f_Rules_init fd∧Qt K fd ["self","rows"] []
 F_Rules_rows:∃fd,Fun K "rows" "Rules.rows" JG a.f_Rules_rows fd∧Qt K fd ["self"] []
 F_Rules_run:∃fd,Fun K "run" "Rules.run" JF a.f_Rules_run fd∧Qt K fd ["self","card","others"] []
 F_Rules_outcome:∃fd,Fun K "outcome" "Rules.outcome" Jc a.f_Rules_outcome fd∧Qt K fd ["self","card","others"] []
 F_Rules_met:∃fd,Fun K "met" "Rules.met" YT a.f_Rules_met fd∧Qt K fd ["self","card","others"] []
 F_Rules_written:∃fd,Fun K "written" "Rules.written" ZJ a.f_Rules_written fd∧Qt K fd ["self"] []
 F_Condition_init:∃fd,Fun K "__init__" "Condition.__init__" ZZ a.f_Condition_init fd∧Qt K fd ["self","tree"] []
 F_Condition_holds:∃fd,Fun K "holds" "Condition.holds" ZL a.f_Condition_holds fd∧Qt K fd ["self","card","others"] []
 F_Condition_truths:∃fd,Fun K "truths" "Condition.truths" Ze a.f_Condition_truths fd∧Qt K fd ["self","cards"] []
 F_Condition_tree:∃fd,Fun K "tree" "Condition.tree" ZY a.f_Condition_tree fd∧Qt K fd ["self"] []
 F_Condition_written:∃fd,Fun K "written" "Condition.written" Zp a.f_Condition_written fd∧Qt K fd ["self"] []
 F_HasWord_holds:∃fd,Fun K "holds" "HasWord.holds" Jd a.f_HasWord_holds fd∧Qt K fd ["self","card","others"] []
 F_HasTitleWord_holds:∃fd,Fun K "holds" "HasTitleWord.holds" Zh a.f_HasTitleWord_holds fd∧Qt K fd ["self","card","others"] []
 F_IsFrom_holds:∃fd,Fun K "holds" "IsFrom.holds" Jx a.f_IsFrom_holds fd∧Qt K fd ["self","card","others"] []
 F_IsOfDays_holds:∃fd,Fun K "holds" "IsOfDays.holds" ZU a.f_IsOfDays_holds fd∧Qt K fd ["self","card","others"] []
 F_IsOfDays_written:∃fd,Fun K "written" "IsOfDays.written" Zv a.f_IsOfDays_written fd∧Qt K fd ["self"] []
 F_IsIn_holds:∃fd,Fun K "holds" "IsIn.holds" Yk a.f_IsIn_holds fd∧Qt K fd ["self","card","others"] []
 F_IsMarked_holds:∃fd,Fun K "holds" "IsMarked.holds" ZV a.f_IsMarked_holds fd∧Qt K fd ["self","card","others"] []
 F_DoesAnswer_holds:∃fd,Fun K "holds" "DoesAnswer.holds" Zw a.f_DoesAnswer_holds fd∧Qt K fd ["self","card","others"] []
 F_Wrapped_init:∃fd,Fun K "__init__" "Wrapped.__init__" Ju a.f_Wrapped_init fd∧Qt K fd ["self","tree"] []
 F_Wrapped_written:∃fd,Fun K "written" "Wrapped.written" ZI a.f_Wrapped_written fd∧Qt K fd ["self"] []
 F_Not_holds:∃fd,Fun K "holds" "Not.holds" YU a.f_Not_holds fd∧Qt K fd ["self","card","others"] []
 F_Not_truths:∃fd,Fun K "truths" "Not.truths" JI a.f_Not_truths fd∧Qt K fd ["self","cards"] []
 F_InThread_holds:∃fd,Fun K "holds" "InThread.holds" ZW a.f_InThread_holds fd∧Qt K fd ["self","card","others"] []
 F_InThread_truths:∃fd,Fun K "truths" "InThread.truths" Zo a.f_InThread_truths fd∧Qt K fd ["self","cards"] []
 F_Joined_init:∃fd,Fun K "__init__" "Joined.__init__" JQ a.f_Joined_init fd∧Qt K fd ["self","tree"] []
 F_Joined_written_with:∃fd,Fun K "written_with" "Joined.written_with" Zb a.f_Joined_written_with fd∧Qt K fd ["self","between"] []
 F_Both_holds:∃fd,Fun K "holds" "Both.holds" Yl a.f_Both_holds fd∧Qt K fd ["self","card","others"] []
 F_Both_truths:∃fd,Fun K "truths" "Both.truths" Jl a.f_Both_truths fd∧Qt K fd ["self","cards"] []
 F_Both_written:∃fd,Fun K "written" "Both.written" Jz a.f_Both_written fd∧Qt K fd ["self"] []
 F_Either_holds:∃fd,Fun K "holds" "Either.holds" Jy a.f_Either_holds fd∧Qt K fd ["self","card","others"] []
 F_Either_truths:∃fd,Fun K "truths" "Either.truths" ZK a.f_Either_truths fd∧Qt K fd ["self","cards"] []
 F_Either_written:∃fd,Fun K "written" "Either.written" ZX a.f_Either_written fd∧Qt K fd ["self"] []
 F_Letter_init:∃fd,Qb4 K "__init__" "Letter.__init__" QL a.f_Letter_init fd∧Qt K fd ["self","sender","title","body","day","answers"] []∧(∃ds,QW [.str ""] ds∧Qt K fd ["self","sender","title","body","day","answers"] ds)
 F_Letter_twin:∃fd,Fun K "twin" "Letter.twin" JP a.f_Letter_twin fd∧Qt K fd ["self"] []
 F_Letter_parts:∃fd,Fun K "parts" "Letter.parts" Jv a.f_Letter_parts fd∧Qt K fd ["self"] []
 F_Letter_known:∃fd,Fun K "known" "Letter.known" Jw a.f_Letter_known fd∧Qt K fd ["self"] []
 F_Letter_words:∃fd,Fun K "words" "Letter.words" Ug a.f_Letter_words fd∧Qt K fd ["self"] []
 F_Letter_title_words:∃fd,Fun K "title_words" "Letter.title_words" Jq a.f_Letter_title_words fd∧Qt K fd ["self"] []
def isW (x:Str):Bool:=decide (1≤(x.length:Int)) && (decide ((x.length:Int)≤20) && x.cps.toList.all fun c=>decide (c∈aZ.cps.toList))
theorem Qge {K:PySem.W.Frag}:PySem.W.kitOne K (.type "str") (.type "str")=some true:=by unfold PySem.W.kitOne;rw [if_pos (beq_self_eq_true _)]
inductive Gk (vs:List V) (H:Hp) (Q:VK):Prop
 | mk:∀x y:Str,vs=[.str x,.str y]→x.length≤1000→(∀H',Qm H H'→Q (.bl (x.cps.toList.all fun c=>decide (c∈y.cps.toList))) H')→Gk vs H Q
def Qc5:Sp:=fun vs H Q _=>Gk vs H Q
def XT (K:PySem.W.Frag):Sp:=fun vs H Q _=>(∃x:Str,vs=[.str x]∧x.length≤1000∧∀H',Qm H H'→Q (.bl (isW x)) H') ∨
 ∃v t,vs=[v]∧Yp K H v t∧PySem.W.kitOne K t (.type "str")=some false∧Q (.bl false) H
section
variable {P : Program} {w : World} {K : PySem.W.Frag} {mg : Str → Option Value} {base : Heap} {a : Adr}
theorem Qf4 {fd:FuncData} (F:Fun K "all_among" "all_among" J3 a.f_all_among fd) (T:Txt K mg a):Qw P w K mg base CX0 1 a.f_all_among fd ["text","signs"] Qc5:=by
 refine F.ok Qad (fun vs H Q E h=>?_) (fun cdv A outer s H vs Q E hr h=>?_)
 ·obtain ⟨x,y,rfl,_⟩:=h;rfl
 ·obtain ⟨x,y,rfl,hx,k⟩:=h
  refine ⟨_,Qd (Qo (QO (QgD rfl) rfl T.b_all PyProof.Rows.boot_all (pac (Ub (sc:=Qe J3) (N:=Xc) (fr:=[(1,"signs")]) ⟨rfl,rfl,by decide +kernel,by decide +kernel,by decide +kernel,by decide +kernel,by decide +kernel⟩ rfl rfl rfl (Qcp (pv 0))
   (fun _ _ _ _=>JS) (fun _ _ _ _=>JC WR (pv 0) (pv 1) (by with_unfolding_all rfl))) Qf))),?_⟩
  refine ⟨_,rfl,x,rfl,QbP (fun c=>.bl (decide (c∈y.cps.toList))) (Nat.le_of_lt (Qj hx)) ?_ ?_⟩
  ·intro c H3 Q' hc q
   refine ⟨_,rfl,_,rfl,_,_,rfl,rfl,?_⟩
   rw [StrLaws.found_one]
   exact q
  ·intro D hD
   refine ⟨D,x.cps.toList.map fun c=>decide (c∈y.cps.toList),rfl,SqL.of (by rw [List.map_map];exact Qh),?_⟩
   rw [List.all_map]
   exact k _ (Qm.upd_new hD)
theorem Gz {fd:FuncData} (F:Fun K "is_word" "is_word" UY a.f_is_word fd) (T:Txt K mg a) (FF:Z1 K a):Qw P w K mg base CX0 2 a.f_is_word fd ["thing"] (XT K):=by
 obtain ⟨fdA,FA,bA⟩:=FF.F_all_among
 have GA:Qw P w K mg base CX0 1 a.f_all_among fdA ["text","signs"] Qc5:=Qf4 FA T
 refine F.ok Qcg (fun vs H Q E h=>?_) (fun cdv A outer s H vs Q E hr h=>?_)
 ·rcases h with ⟨x,rfl,_⟩ | ⟨v,t,rfl,_⟩ <;> rfl
 ·refine ⟨_,Qd (Qo (U9 (QO Zn rfl T.b_isinstance PyProof.Rows.boot_isinstance (pac (pv 0) (pac (Yi (v:=.ty "str") rfl T.b_str PyProof.Rows.boot_str rfl) Qf)))
   (U9 (Ke Wh Wh Qa (QO Wx rfl T.b_len PySem.boot_len (pac (pv 0) Qf)) (Xa rfl T.g_MOST_WORD))
   (YY (Qx GA hr rfl T.m_all_among FA.kp bA .nil Qy (pac (pv 0) (pac (Xa rfl T.g_WORD_SIGNS) Qf))))))),?_⟩
  rcases h with ⟨x,rfl,hx,k⟩ | ⟨v,t,rfl,ty,hk,k⟩
  ·refine ⟨_,rfl,_,_,_,_,_,rfl,rfl,Yp.str x,Qge,_,rfl,Zc ?_⟩
   refine ⟨_,rfl,x,rfl,Nat.le_of_lt (Qj hx),_,_,rfl,rfl,_,rfl,?_⟩
   have hdef:isW x=(decide (1≤(x.length:Int)) && (decide ((x.length:Int)≤20) && x.cps.toList.all fun c=>decide (c∈aZ.cps.toList))):=rfl
   by_cases h1:(1:Int)≤(x.length:Int)
   ·rw [decide_eq_true h1]
    rw [decide_eq_true h1,Bool.true_and] at hdef
    refine Zc ⟨_,_,rfl,rfl,_,rfl,?_⟩
    by_cases h2:(x.length:Int)≤20
    ·rw [decide_eq_true h2]
     rw [decide_eq_true h2,Bool.true_and] at hdef
     refine Zc ⟨_,rfl,x,aZ,rfl,hx,fun H' s'=>?_⟩
     rw [←hdef]
     exact k H' s'
    ·rw [decide_eq_false h2]
     rw [decide_eq_false h2,Bool.false_and] at hdef
     refine QU ?_
     rw [←hdef]
     exact k H (Qm.refl H)
   ·rw [decide_eq_false h1]
    rw [decide_eq_false h1,Bool.false_and] at hdef
    refine QU ⟨_,rfl,QU ?_⟩
    rw [←hdef]
    exact k H (Qm.refl H)
  ·exact ⟨_,rfl,_,_,_,_,_,rfl,rfl,ty,hk,_,rfl,QU k⟩
end
theorem QiR {x:Str} (h:(x.cps.toList.all fun c=>decide (c<128))=true):Asc x:=fun c hc=>of_decide_eq_true (List.all_eq_true.mp h c hc)
theorem KH:("":Str)=Str.empty:=by decide +kernel
theorem QcM:∀(l:List Nat) (st:List Str×Str),(l.foldl wst st).1.length≤st.1.length+l.length∧(l.foldl wst st).2.length≤st.2.length+l.length
 | [],st=>⟨Nat.le_refl _,Nat.le_refl _⟩
 | c :: l,st=>by
   rw [List.foldl_cons,List.length_cons]
   have q:=QcM l (wst st c)
   have e:(wst st c).1.length≤st.1.length+1∧(wst st c).2.length≤st.2.length+1:=by
    unfold wst
    split
    ·exact ⟨Nat.le_succ _,by rw [Jn,Qdk];exact Nat.le_refl _⟩
    ·refine ⟨by rw [List.length_append];exact Nat.le_refl _,?_⟩
     show Str.empty.length≤_
     exact Nat.zero_le _
   omega
theorem QcN (l:List Nat):(wsc l).1.length≤l.length∧(wsc l).2.length≤l.length:=by
 have q:=QcM l ([],Str.empty)
 have e:Str.empty.length=0:=rfl
 rw [List.length_nil,e,Nat.zero_add] at q
 exact q
theorem Qev {l:List Nat} {i c:Nat} (h:l[i]?=some c):wsc (l.take (i+1))=wst (wsc (l.take i)) c:=by
 rw [List.take_add_one,h]
 unfold wsc
 rw [List.foldl_append];rfl
theorem XA (x:Str):(wds x).length≤x.length+1:=by
 have q:=QcN x.cps.toList
 have e:=List.length_filter_le Vi ((wsc x.cps.toList).1++[(wsc x.cps.toList).2])
 rw [List.length_append,List.length_singleton] at e
 rw [Y2]
 show (List.filter Vi _).length≤_
 omega
inductive Ge (vs:List V) (H:Hp) (Q:VK):Prop
 | mk:∀x:Str,vs=[.str x]→Asc x→x.length≤900→(∀(l:Addr) (H':Hp),H l=none→Qm H H'→H' l=some (.lst ((wds x).map V.str))→Q (.ref l) H')→Ge vs H Q
def XC:Sp:=fun vs H Q _=>Ge vs H Q
section
variable {P : Program} {w : World} {K : PySem.W.Frag} {mg : Str → Option Value} {base : Heap} {a : Adr}
theorem Qbc {fd:FuncData} (F:Fun K "words_of" "words_of" YC a.f_words_of fd) (T:Txt K mg a):Qw P w K mg base CX0 1 a.f_words_of fd ["text"] XC:=by
 refine F.ok W9 (fun vs H Q E h=>?_) (fun cdv A outer s H vs Q E hr h=>?_)
 ·obtain ⟨x,rfl,_⟩:=h;rfl
 ·obtain ⟨x,rfl,hA,hx,k⟩:=h
  refine ⟨_,(Qb (UE (sc:=Qe YC) (N:=Km) (i:=1) (fr:=[]) ⟨rfl,rfl,by decide +kernel,by decide +kernel,by decide +kernel,by decide +kernel,by decide +kernel⟩ rfl rfl rfl W9.nd rfl rfl (Qcp (pv 0)) (fun _ _ _ _=>JS) (fun _ _ _ _=>(Kd (Qr WR (pv 0) (Xa rfl T.g_RUN_SIGNS) (by with_unfolding_all rfl)) (Qhb K PySem.F.plainAttrs_str PySem.F.slot_str_lower PySem.F.type_str_lower Qbx (pv 0)) Qi)))
   (Qd (Qo (Kf PySem.F.plainAttrs_str PySem.F.slot_str_split PySem.F.type_str_split Qd2 (Z8 PySem.F.plainAttrs_str PySem.F.slot_str_join PySem.F.type_str_join Wp Qi (pac (pv 1) Qf)))))),?_⟩
  refine ⟨_,rfl,x,rfl,QbP (fun c=>.str ⟨#[gS c]⟩) (Nat.le_of_lt (Qj (by show x.length≤1000;omega))) ?_ ?_⟩
  ·intro c H3 Q' hc q
   refine ⟨_,rfl,_,_,rfl,rfl,_,rfl,?_⟩
   rw [StrLaws.found_one]
   have eg:gS c=if decide (c∈rS.cps.toList)=true then PyProof.Rows.lo1 c else 32:=rfl
   rw [eg] at q
   refine Qec (fun h=>?_) (fun h=>?_)
   ·rw [if_pos h] at q
    refine ⟨_,rfl,rfl,⟨#[c]⟩,rfl,rfl,hA.one hc,(by show 1≤1000000;decide),?_⟩
    have e:(#[c]:Array Nat).map PyProof.Rows.lo1=#[PyProof.Rows.lo1 c]:=by simp
    show Q' (.str ⟨(#[c]:Array Nat).map PyProof.Rows.lo1⟩) H3
    rw [e]
    exact q
   ·rw [if_neg h] at q
    exact q
  ·intro D hD
   generalize hys:x.cps.toList.map (fun c=>(⟨#[gS c]⟩:Str))=ys
   have e1:x.cps.toList.map (fun c=>V.str ⟨#[gS c]⟩)=ys.map V.str:=by rw [←hys,List.map_map];rfl
   have hl1:∀y∈ys,y.length=1:=fun y hy=>by
    rw [←hys] at hy
    obtain ⟨c,_,rfl⟩:=List.mem_map.mp hy
    rfl
   have hyl:ys.length=x.length:=by rw [←hys,List.length_map,Y2]
   have e2:(Txt.join "" ys).cps.toList=x.cps.toList.map gS:=by
    rw [QhZ,←hys,List.map_map]
    clear hA hx k hys e1 hl1 hyl hD
    induction x.cps.toList with
    | nil=>rfl
    | cons c r ih=>simpa using ih
   rw [e1]
   refine ⟨rfl,_,rfl,"",D,ys,rfl,rfl,SqL.of Qh,Qgg hl1 (by omega),rfl,_,rfl,rfl,(by rw [Qea hl1];omega),fun l hl=>?_⟩
   rw [QdD e2]
   have s1:Qm H (upd H D (.lst (ys.map V.str))):=Qm.upd_new hD
   exact k l _ (s1.free hl) (s1.upd_of (s1.free hl)) Qh
end
theorem Qcd {xs:List Str} {i:Nat} {y:V} (h:(xs.map V.str)[i]?=some y):∃t,y=.str t∧xs[i]?=some t:=by
 rw [List.getElem?_map] at h
 cases e:xs[i]? with
 | none=>rw [e] at h;cases h
 | some t=>rw [e] at h;exact ⟨t,(Option.some.inj h).symm,rfl⟩
structure KS (s t b:Str) (d:Int) (an:Str):Prop where
 s_:Q4 s
 t_:Asc t
 tl:t.length≤60
 tn:¬10∈t.cps.toList
 b_:Asc b
 bl:b.length≤400
 d0:0≤d
 d1:d≤9999
 a_:an=""∨Q4 an
abbrev lfs (s t b:Str) (d:Int) (an:Str) (f:V):List (Str×V):=[("sender",.str s),("title",.str t),("body",.str b),("day",.int d),("answers",.str an),("found",f)]
def QcK (a:Adr) (H:Hp) (x:Addr) (s t b:Str) (d:Int) (an:Str) (D:Addr):Prop:=(∃dx,H x=some (.ins a.C_Letter dx (lfs s t b d an (.ref D))))∧H D=some (.dK (kn (wds t) (wds t++wds b)))
def ZN (a:Adr) (H:Hp) (x:Addr) (s t b:Str) (d:Int) (an:Str):Prop:=(∃dx,H x=some (.ins a.C_Letter dx (lfs s t b d an .non)))∨∃D,QcK a H x s t b d an D
theorem ZN.mono {a:Adr} {H H':Hp} {x:Addr} {s t b:Str} {d:Int} {an:Str} (h:ZN a H x s t b d an) (q:Qm H H'):ZN a H' x s t b d an:=by
 rcases h with ⟨dx,e⟩ | ⟨D,⟨dx,e⟩,eD⟩
 ·exact .inl ⟨dx,q _ _ e⟩
 ·exact .inr ⟨D,⟨dx,q _ _ e⟩,q _ _ eD⟩
theorem ZN.at {a:Adr} {H:Hp} {x:Addr} {s t b:Str} {d:Int} {an:Str} (h:ZN a H x s t b d an):∃dx f,H x=some (.ins a.C_Letter dx (lfs s t b d an f)):=by
 rcases h with ⟨dx,e⟩ | ⟨D,⟨dx,e⟩,eD⟩
 ·exact ⟨dx,_,e⟩
 ·exact ⟨dx,_,e⟩
theorem ZN.other {a:Adr} {H H':Hp} {x y:Addr} {s t b:Str} {d:Int} {an:Str} {C dy:Addr} {fs:List (Str×V)} (h:ZN a H x s t b d an) (ne:x≠y) (ey:H y=some (.ins C dy fs)) (q:SX y H H'):ZN a H' x s t b d an:=by
 rcases h with ⟨dx,e⟩ | ⟨D,⟨dx,e⟩,eD⟩
 ·exact .inl ⟨dx,q _ _ ne e⟩
 ·exact .inr ⟨D,⟨dx,q _ _ ne e⟩,q _ _ (Zq eD ey (fun z=>nomatch z)) eD⟩
theorem ZN.list {a:Adr} {H:Hp} {x l:Addr} {s t b:Str} {d:Int} {an:Str} {xs ys:List V} (h:ZN a H x s t b d an) (e:H l=some (.lst xs)):ZN a (upd H l (.lst ys)) x s t b d an:=by
 rcases h with ⟨dx,ex⟩ | ⟨D,⟨dx,ex⟩,eD⟩
 ·exact .inl ⟨dx,by rw [Qk (Zq ex e (fun z=>nomatch z))];exact ex⟩
 ·exact .inr ⟨D,⟨dx,by rw [Qk (Zq ex e (fun z=>nomatch z))];exact ex⟩,by rw [Qk (Zq eD e (fun z=>nomatch z))];exact eD⟩
theorem Qgk {x:Str} (h:Q4 x):isW x=true:=by
 unfold isW
 have h1:=h.lo
 have h2:=h.hi
 rw [decide_eq_true (by omega),decide_eq_true (by omega),Bool.true_and,Bool.true_and]
 exact List.all_eq_true.mpr fun c hc=>decide_eq_true (h.in_ c hc)
theorem Qee:isW ""=false:=by decide +kernel
inductive XU (vs:List V) (H:Hp) (Q:VK):Prop
 | mk:∀(x:Str) (m:Int),vs=[.str x,.int m]→x.length≤1000→Q (.bl (decide ((x.length:Int)≤m))) H→XU vs H Q
def QaV:Sp:=fun vs H Q _=>XU vs H Q
inductive Gf (vs:List V) (H:Hp) (Q:VK):Prop
 | mk:∀i:Int,vs=[.int i]→Q (.bl true) H→Gf vs H Q
def QcV:Sp:=fun vs H Q _=>Gf vs H Q
inductive V2 (vs:List V) (H:Hp) (Q:VK):Prop
 | mk:∀x:Str,vs=[.str x]→(x=""∨Q4 x)→(∀H',Qm H H'→Q (.bl true) H')→V2 vs H Q
def XV:Sp:=fun vs H Q _=>V2 vs H Q
inductive Gj (vs:List V) (H:Hp) (Q:VK):Prop
 | mk:∀s t b d an,vs=[.str s,.str t,.str b,.int d,.str an]→KS s t b d an→(∀H',Qm H H'→Q .non H')→Gj vs H Q
def Qc4:Sp:=fun vs H Q _=>Gj vs H Q
inductive QaW (a:Adr) (vs:List V) (H:Hp) (Q:VK):Prop
 | mk:∀x dx s t b d an,vs=[.ref x,.str s,.str t,.str b,.int d,.str an]→KS s t b d an→H x=some (.ins a.C_Letter dx [])→(∀H',(∀c o,c≠x→H c=some o→H' c=some o)→H' x=some (.ins a.C_Letter dx (lfs s t b d an .non))→Q .non H')→QaW a vs H Q
def G9 (a:Adr):Sp:=fun vs H Q _=>QaW a vs H Q
inductive WH (a:Adr) (vs:List V) (H:Hp) (Q:VK):Prop
 | mk:∀x s t b d an,vs=[.ref x]→ZN a H x s t b d an→(∀p,H p=none→Q (.ref p) (upd H p (.tup [.str s,.str t,.str b,.int d,.str an])))→WH a vs H Q
def QcZ (a:Adr):Sp:=fun vs H Q _=>WH a vs H Q
inductive Gi (a:Adr) (vs:List V) (H:Hp) (Q:VK):Prop
 | mk:∀x s t b d an,vs=[.ref x]→ZN a H x s t b d an→KS s t b d an→(∀D H',SX x H H'→QcK a H' x s t b d an D→Q (.ref D) H')→Gi a vs H Q
def G8 (a:Adr):Sp:=fun vs H Q _=>Gi a vs H Q
theorem QhY {K:PySem.W.Frag}:PySem.W.kitOne K (.type "tuple") (.type "tuple")=some true:=by unfold PySem.W.kitOne;rw [if_pos (beq_self_eq_true _)]
theorem kitII {K:PySem.W.Frag}:PySem.W.kitOne K (.type "int") (.type "int")=some true:=by unfold PySem.W.kitOne;rw [if_pos (beq_self_eq_true _)]
theorem kitIB {K:PySem.W.Frag}:PySem.W.kitOne K (.type "int") (.type "bool")=some false:=by kernel_rfl
theorem QiC:("\n":Str)=⟨#[10]⟩:=by decide +kernel
theorem Kl {a:Adr} {s t b:Str} {d:Int} {an:Str} {H:Hp} {R:VK} {E:XK} {x dx:Addr} (hx:H x=none) (hd:H dx=none) (ne:dx≠x) (g:KS s t b d an) (k:∀H',Qm H H'→ZN a H' x s t b d an→R .non H') :
 G9 a [.ref x,.str s,.str t,.str b,.int d,.str an] (upd (upd H dx (.own x)) x (.ins a.C_Letter dx [])) R E:=by
 refine ⟨x,dx,s,t,b,d,an,rfl,g,Qh,fun H' hs hx'=>k H' (fun c o e=>hs c o (Qu e hx) ?_) (.inl ⟨dx,hx'⟩)⟩
 rw [Qk (Qu e hx),Qk (Qu e hd)]
 exact e
section
variable {P : Program} {w : World} {K : PySem.W.Frag} {mg : Str → Option Value} {base : Heap} {a : Adr}
theorem Qcu {fd:FuncData} (F:Fun K "is_text" "is_text" UZ a.f_is_text fd) (T:Txt K mg a):Qw P w K mg base CX0 1 a.f_is_text fd ["thing","most"] QaV:=by
 refine F.ok Qch (fun vs H Q E h=>?_) (fun cdv A outer s H vs Q E hr h=>?_)
 ·obtain ⟨x,m,rfl,_⟩:=h;rfl
 ·obtain ⟨x,m,rfl,hx,k⟩:=h
  refine ⟨_,(Qd (Qo (U9 (QO Zn rfl T.b_isinstance PyProof.Rows.boot_isinstance (pac (pv 0) (pac (Yi (v:=.ty "str") rfl T.b_str PyProof.Rows.boot_str rfl) Qf))) (YY (JC Wh (QO Wx rfl T.b_len PySem.boot_len (pac (pv 0) Qf)) (pv 1) (Qz _)))))),?_⟩
  exact ⟨_,rfl,_,_,_,_,_,rfl,rfl,Yp.str x,Qge,_,rfl,Zc ⟨_,rfl,x,rfl,Nat.le_of_lt (Qj hx),_,rfl,_,_,rfl,rfl,k⟩⟩
theorem Qbe {fd:FuncData} (F:Fun K "is_whole" "is_whole" Up a.f_is_whole fd) (T:Txt K mg a):Qw P w K mg base CX0 1 a.f_is_whole fd ["thing"] QcV:=by
 refine F.ok Qa1 (fun vs H Q E h=>?_) (fun cdv A outer s H vs Q E hr h=>?_)
 ·obtain ⟨x,rfl,_⟩:=h;rfl
 ·obtain ⟨x,rfl,k⟩:=h
  refine ⟨_,(Qd (Qo (U9 (QO Zn rfl T.b_isinstance PyProof.Rows.boot_isinstance (pac (pv 0) (pac (Yi (v:=.ty "int") rfl T.b_int PyProof.Rows.boot_int rfl) Qf))) (YY (Qam (QO Zn rfl T.b_isinstance PyProof.Rows.boot_isinstance (pac (pv 0) (pac (Yi (v:=.ty "bool") rfl T.b_bool PyProof.Rows.boot_bool rfl) Qf)))))))),?_⟩
  exact ⟨_,rfl,_,_,_,_,_,rfl,rfl,Yp.int x,kitII,_,rfl,Zc ⟨_,rfl,_,_,_,_,_,rfl,rfl,Yp.int x,kitIB,_,rfl,k⟩⟩
theorem Kj {fd:FuncData} (F:Fun K "is_answered" "is_answered" JK a.f_is_answered fd) (T:Txt K mg a) (FF:Z1 K a):Qw P w K mg base CX0 3 a.f_is_answered fd ["thing"] XV:=by
 obtain ⟨fdA,F_is_word,b_is_word⟩:=FF.F_is_word
 have G_is_word:Qw P w K mg base CX0 2 a.f_is_word fdA ["thing"] (XT K):=Gz F_is_word T FF
 refine F.ok X1 (fun vs H Q E h=>?_) (fun cdv A outer s H vs Q E hr h=>?_)
 ·obtain ⟨x,rfl,_⟩:=h;rfl
 ·obtain ⟨x,rfl,hx,k⟩:=h
  have hr_is_word:QG 2 _:=hr
  refine ⟨_,(Qd (Qo (Qde (Qx G_is_word hr_is_word rfl T.m_is_word F_is_word.kp b_is_word .nil Qy (pac (pv 0) Qf)) (YY (U9 (QO Zn rfl T.b_isinstance PyProof.Rows.boot_isinstance (pac (pv 0) (pac (Yi (v:=.ty "str") rfl T.b_str PyProof.Rows.boot_str rfl) Qf))) (YY (JC QZ (pv 0) Qi (Qz _)))))))),?_⟩
  rcases hx with rfl | hx
  ·refine ⟨_,rfl,.inl ⟨_,rfl,by rw [GN];omega,fun H' s'=>?_⟩⟩
   rw [Qee]
   refine ⟨_,rfl,QU ⟨_,rfl,_,_,_,_,_,rfl,rfl,Yp.str _,Qge,_,rfl,Zc ⟨_,rfl,rfl,?_⟩⟩⟩
   rw [decide_eq_true rfl]
   exact k H' s'
  ·have:=hx.hi
   refine ⟨_,rfl,.inl ⟨_,rfl,by omega,fun H' s'=>?_⟩⟩
   rw [Qgk hx]
   exact ⟨_,rfl,Zc (k H' s')⟩
theorem Qf3 {fd:FuncData} (F:Fun K "check_parts" "check_parts" JL a.f_check_parts fd) (T:Txt K mg a) (FF:Z1 K a):Qw P w K mg base CX0 4 a.f_check_parts fd ["sender","title","body","day","answers"] Qc4:=by
 obtain ⟨fdA,F_is_word,b_is_word⟩:=FF.F_is_word
 have G_is_word:Qw P w K mg base CX0 2 a.f_is_word fdA ["thing"] (XT K):=Gz F_is_word T FF
 obtain ⟨fdB,F_is_text,b_is_text⟩:=FF.F_is_text
 have G_is_text:Qw P w K mg base CX0 1 a.f_is_text fdB ["thing","most"] QaV:=Qcu F_is_text T
 obtain ⟨fdC,F_is_whole,b_is_whole⟩:=FF.F_is_whole
 have G_is_whole:Qw P w K mg base CX0 1 a.f_is_whole fdC ["thing"] QcV:=Qbe F_is_whole T
 obtain ⟨fdD,F_is_answered,b_is_answered⟩:=FF.F_is_answered
 have G_is_answered:Qw P w K mg base CX0 3 a.f_is_answered fdD ["thing"] XV:=Kj F_is_answered T FF
 refine F.ok X2 (fun vs H Q E h=>?_) (fun cdv A outer s H vs Q E hr h=>?_)
 ·obtain ⟨s,t,b,d,an,rfl,_⟩:=h;rfl
 ·obtain ⟨s,t,b,d,an,rfl,g,k⟩:=h
  have hr_is_word:QG 2 _:=hr.mono (by decide)
  have hr_is_text:QG 1 _:=hr.mono (by decide)
  have hr_is_whole:QG 1 _:=hr.mono (by decide)
  have hr_is_answered:QG 3 _:=hr
  refine ⟨_,(Qb (QK (YX (Js (Qx G_is_word hr_is_word rfl T.m_is_word F_is_word.kp b_is_word .nil Qy (pac (pv 0) Qf)))) (Qd U4) QB)
   (Qb (QK (PW.pt (Wf (YX (Js (Qx G_is_text hr_is_text rfl T.m_is_text F_is_text.kp b_is_text .nil Qy (pac (pv 1) (pac (Xa rfl T.g_MOST_TITLE) Qf))))) (VP (Qr WR Qi (pv 1) (by with_unfolding_all rfl))))) (Qd U4) QB)
   (Qb (QK (YX (Js (Qx G_is_text hr_is_text rfl T.m_is_text F_is_text.kp b_is_text .nil Qy (pac (pv 2) (pac (Xa rfl T.g_MOST_BODY) Qf))))) (Qd U4) QB)
   (Qb (QK (PW.pt (Wf (YX (Js (Qx G_is_whole hr_is_whole rfl T.m_is_whole F_is_whole.kp b_is_whole .nil Qy (pac (pv 3) Qf)))) (VP (YX (Qfx Wh Wh Qa (pv 3) (Xa rfl T.g_LAST_DAY)))))) (Qd U4) QB)
   (Qd (QK (YX (Js (Qx G_is_answered hr_is_answered rfl T.m_is_answered F_is_answered.kp b_is_answered .nil Qy (pac (pv 4) Qf)))) (Qd U4) QB)))))),?_⟩
  have hs:=g.s_.hi
  refine ⟨_,rfl,.inl ⟨s,rfl,by omega,fun H1 s1=>?_⟩⟩
  rw [Qgk g.s_]
  refine ⟨_,rfl,QU ?_⟩
  refine ⟨_,rfl,t,60,rfl,by have:=g.tl;omega,?_⟩
  rw [decide_eq_true (by have:=g.tl;omega)]
  refine ⟨_,rfl,QU ⟨_,rfl,_,_,rfl,rfl,_,rfl,?_⟩⟩
  rw [QiC,StrLaws.found_one,decide_eq_false g.tn]
  refine QU ⟨_,rfl,b,400,rfl,by have:=g.bl;omega,?_⟩
  rw [decide_eq_true (by have:=g.bl;omega)]
  refine ⟨_,rfl,QU ⟨_,rfl,d,rfl,_,rfl,QU ?_⟩⟩
  refine ⟨_,rfl,_,_,rfl,rfl,_,rfl,?_⟩
  rw [decide_eq_true g.d0]
  refine Zc ⟨_,_,rfl,rfl,_,rfl,?_⟩
  rw [decide_eq_true g.d1]
  refine QU ⟨_,rfl,an,rfl,g.a_,fun H2 s2=>⟨_,rfl,QU (k H2 (s1.trans s2))⟩⟩
end
section
variable {P : Program} {w : World} {K : PySem.W.Frag} {mg : Str → Option Value} {base : Heap} {a : Adr}
theorem Qdl {fd:FuncData} (F:Qb4 K "__init__" "Letter.__init__" QL a.f_Letter_init fd) (T:Txt K mg a) (FF:Z1 K a):Qw P w K mg base CX0 5 a.f_Letter_init fd ["self","sender","title","body","day","answers"] (G9 a):=by
 obtain ⟨fdA,F_check_parts,b_check_parts⟩:=FF.F_check_parts
 have G_check_parts:Qw P w K mg base CX0 4 a.f_check_parts fdA ["sender","title","body","day","answers"] Qc4:=Qf3 F_check_parts T FF
 refine F.ok X3 (fun vs H Q E h=>?_) (fun cdv A outer s H vs Q E hr h=>?_)
 ·obtain ⟨x,dx,s,t,b,d,an,rfl,_⟩:=h;rfl
 ·obtain ⟨x,dx,s,t,b,d,an,rfl,g,hx,k⟩:=h
  have hr_check_parts:QG 4 _:=hr
  refine ⟨_,(Qb (Q9 (Qx G_check_parts hr_check_parts rfl T.m_check_parts F_check_parts.kp b_check_parts .nil Qy (pac (pv 1) (pac (pv 2) (pac (pv 3) (pac (pv 4) (pac (pv 5) Qf)))))))
   (Qb (Jt (pv 0) (pv 1) rfl)
   (Qb (Jt (pv 0) (pv 2) rfl)
   (Qb (Jt (pv 0) (pv 3) rfl)
   (Qb (Jt (pv 0) (pv 4) rfl)
   (Qb (Jt (pv 0) (pv 5) rfl)
   (Qd (Jt (pv 0) Qan rfl)))))))),?_⟩
  refine ⟨_,rfl,_,rfl,_,rfl,_,rfl,_,rfl,s,t,b,d,an,rfl,g,fun H1 s1=>?_⟩
  refine ⟨_,rfl,_,rfl,x,_,dx,_,rfl,s1 _ _ hx,T.c_Letter,T.n_Letter_sender,by decide,?_⟩
  refine ⟨_,rfl,_,rfl,x,_,dx,_,rfl,Qh,T.c_Letter,T.n_Letter_title,(by show 1<1000;decide),?_⟩
  refine ⟨_,rfl,_,rfl,x,_,dx,_,rfl,Qh,T.c_Letter,T.n_Letter_body,(by show 2<1000;decide),?_⟩
  refine ⟨_,rfl,_,rfl,x,_,dx,_,rfl,Qh,T.c_Letter,T.n_Letter_day,(by show 3<1000;decide),?_⟩
  refine ⟨_,rfl,_,rfl,x,_,dx,_,rfl,Qh,T.c_Letter,T.n_Letter_answers,(by show 4<1000;decide),?_⟩
  refine ⟨_,rfl,x,_,dx,_,rfl,Qh,T.c_Letter,T.n_Letter_found,(by show 5<1000;decide),?_⟩
  refine k _ (fun c o ne e=>?_) ?_
  ·rw [Qk ne,Qk ne,Qk ne,Qk ne,Qk ne,Qk ne]
   exact s1 _ _ e
  ·exact Qh
theorem QfS {fd:FuncData} (F:Fun K "parts" "Letter.parts" Jv a.f_Letter_parts fd) (T:Txt K mg a):Qw P w K mg base CX0 1 a.f_Letter_parts fd ["self"] (QcZ a):=by
 refine F.ok Xp (fun vs H Q E h=>?_) (fun cdv A outer s H vs Q E hr h=>?_)
 ·obtain ⟨x,s,t,b,d,an,rfl,_⟩:=h;rfl
 ·obtain ⟨x,s,t,b,d,an,rfl,hL,k⟩:=h
  obtain ⟨dx,f,hx⟩:=hL.at
  refine ⟨_,(Qd (Qo (Qal (Qc (QC (pv 0) rfl) (Qc (QC (pv 0) rfl) (Qc (QC (pv 0) rfl) (Qc (QC (pv 0) rfl) (Qc (QC (pv 0) rfl) Qq)))))))),?_⟩
  exact ⟨_,rfl,x,_,dx,_,_,rfl,hx,T.c_Letter,T.n_Letter_sender,rfl,_,rfl,x,_,dx,_,_,rfl,hx,T.c_Letter,T.n_Letter_title,rfl,_,rfl,x,_,dx,_,_,rfl,hx,T.c_Letter,T.n_Letter_body,rfl,_,rfl,x,_,dx,_,_,rfl,hx,T.c_Letter,T.n_Letter_day,rfl,_,rfl,x,_,dx,_,_,rfl,hx,T.c_Letter,T.n_Letter_answers,rfl,(by show 5≤sizeLine;decide),k⟩
end
section
variable {P : Program} {w : World} {K : PySem.W.Frag} {mg : Str → Option Value} {base : Heap} {a : Adr}
theorem Qbd {fd:FuncData} (F:Fun K "known" "Letter.known" Jw a.f_Letter_known fd) (T:Txt K mg a) (FF:Z1 K a):Qw P w K mg base CX0 2 a.f_Letter_known fd ["self"] (G8 a):=by
 obtain ⟨fdA,F_words_of,b_words_of⟩:=FF.F_words_of
 have G_words_of:Qw P w K mg base CX0 1 a.f_words_of fdA ["text"] XC:=Qbc F_words_of T
 refine F.ok JB (fun vs H Q E h=>?_) (fun cdv A outer s H vs Q E hr h=>?_)
 ·obtain ⟨x,s,t,b,d,an,rfl,_⟩:=h;rfl
 ·obtain ⟨x,s,t,b,d,an,rfl,hL,g,k⟩:=h
  have hu:=QbJ hr
  have hr_words_of:QG 1 _:=hr
  refine ⟨_,(Qb (QK (Qr QfH (QC (pv 0) rfl) Qan (Qz _)) (Qb (Qv (i:=1) JB.nd rfl (Or.inl rfl) Qa9)
   (Qb (Z5 PassesOwn.never rfl (Zx (Qx G_words_of hr_words_of rfl T.m_words_of F_words_of.kp b_words_of .nil Qy (pac (QC (pv 0) rfl) Qf))) (QR (i:=2) JB.nd rfl (Or.inl rfl)) (Qd (Wg hu (pv 1) (pv 2) Yu rfl)))
   (Qb (Z5 PassesOwn.never rfl (Zx (Qx G_words_of hr_words_of rfl T.m_words_of F_words_of.kp b_words_of .nil Qy (pac (QC (pv 0) rfl) Qf))) (QR (i:=2) JB.nd rfl (Or.inl rfl)) (Qd (Q9 (QfD (pv 1) (pv 2) Yu ⟨rfl,rfl,rfl,rfl⟩))))
   (Qd (Jt (pv 0) (pv 1) rfl))))) QB)
   (Qd (Qo (QC (pv 0) rfl)))),?_⟩
  have h1:=g.tl
  have h2:=XA t
  have h3:=g.bl
  have h4:=XA b
  rcases hL with ⟨dx,hx⟩ | ⟨D,⟨dx,hx⟩,hD⟩
  ·refine ⟨_,rfl,x,_,dx,_,_,rfl,hx,T.c_Letter,T.n_Letter_found,rfl,rfl,_,rfl,Zc ?_⟩
   refine fun D nD=>?_
   have s1:Qm H (upd H D (.dK [])):=Qm.upd_new nD
   have D1:(upd H D (.dK [])) D=some (.dK []):=Qh
   show Qb8 _ _ _ _ (upd H D (.dK []))
   generalize upd H D (.dK [])=H1 at s1 D1
   refine ⟨_,rfl,x,_,dx,_,_,rfl,s1 _ _ hx,T.c_Letter,T.n_Letter_title,rfl,t,rfl,g.t_,by omega,fun l1 H2 n1 s2 hl1=>?_⟩
   have s3:=s1.trans s2
   have lD:l1≠D:=(Qu D1 n1).symm
   refine ⟨l1,rfl,⟨_,SqL.of hl1⟩,Uw (K:=K) (a:=l1) (xs:=(wds t).map V.str) (fun i σ H3=>∃o:Option V,σ=[some (.ref x),some (.ref D),o]∧Qm H H3∧H3 D=some (.dK (kn (wds t) ((wds t).take i)))∧H3 l1=some (.lst ((wds t).map V.str)))
    ⟨none,rfl,s3,s2 _ _ D1,hl1⟩ (fun i σ H3 _ ⟨_,_,_,_,h⟩=>SqL.of h) ?_ ?_⟩
   ·rintro i y σ H3 hi ⟨o,rfl,s4,D4,l4⟩
    obtain ⟨u,rfl,hu'⟩:=Qcd hi
    have hk:=Qgd (wds t) ((wds t).take i)
    rw [List.length_take] at hk
    refine ⟨_,rfl,_,rfl,D,_,rfl,QaG.k (k:=Sum.inr u) D4 (Qj (by omega)),_,rfl,s4.upd_of nD,?_,by rw [Qk lD];exact l4⟩
    rw [Qh,QiD (List.mem_of_getElem? hu'),List.take_add_one,hu']
    rfl
   ·rintro σ H3 ⟨o,rfl,s4,D4,l4⟩
    rw [List.length_map,List.take_of_length_le (Nat.le_refl _)] at D4
    refine ⟨_,rfl,x,_,dx,_,_,rfl,s4 _ _ hx,T.c_Letter,T.n_Letter_body,rfl,b,rfl,g.b_,by omega,fun l2 H4 n2 s5 hl2=>?_⟩
    have s6:=s4.trans s5
    have l2D:l2≠D:=(Qu D4 n2).symm
    refine ⟨l2,rfl,⟨_,SqL.of hl2⟩,Uw (K:=K) (a:=l2) (xs:=(wds b).map V.str) (fun i σ H5=>∃o:Option V,σ=[some (.ref x),some (.ref D),o]∧Qm H H5∧H5 D=some (.dK (kn (wds t) (wds t++(wds b).take i)))∧H5 l2=some (.lst ((wds b).map V.str)))
     ⟨o,rfl,s6,by rw [List.take_zero,List.append_nil];exact s5 _ _ D4,hl2⟩ (fun i σ H5 _ ⟨_,_,_,_,h⟩=>SqL.of h) ?_ ?_⟩
    ·rintro i y σ H5 hi ⟨o2,rfl,s7,D7,l7⟩
     obtain ⟨u,rfl,hu'⟩:=Qcd hi
     have hk:=Qgd (wds t) (wds t++(wds b).take i)
     rw [List.length_append,List.length_take] at hk
     have etk:wds t++(wds b).take (i+1)=(wds t++(wds b).take i)++[u]:=by rw [List.take_add_one,hu',List.append_assoc];rfl
     refine ⟨_,rfl,D,rfl,.inl ⟨_,.inl D7⟩,_,rfl,_,Sum.inr u,D7,rfl,Qj (by omega),fun v hv=>?_,fun hv=>?_⟩
     ·exact ⟨_,rfl,s7,by rw [etk,QbH hv];exact D7,l7⟩
     ·exact ⟨_,rfl,s7.upd_of nD,by rw [Qh,etk,QbI (fun z hz=>List.mem_append_left _ hz) hv],by rw [Qk l2D];exact l7⟩
    ·rintro σ H5 ⟨o2,rfl,s7,D7,l7⟩
     rw [List.length_map,List.take_of_length_le (Nat.le_refl _)] at D7
     refine ⟨_,rfl,_,rfl,x,_,dx,_,rfl,s7 _ _ hx,T.c_Letter,T.n_Letter_found,(by show 6<1000;decide),?_⟩
     refine ⟨_,rfl,x,_,dx,_,_,rfl,Qh,T.c_Letter,T.n_Letter_found,rfl,?_⟩
     refine k D _ (fun c o ne e=>?_) ⟨⟨dx,Qh⟩,?_⟩
     ·rw [Qk ne];exact s7 _ _ e
     ·rw [Qk (Zq D7 (s7 _ _ hx) (fun z=>nomatch z))];exact D7
  ·refine ⟨_,rfl,x,_,dx,_,_,rfl,hx,T.c_Letter,T.n_Letter_found,rfl,rfl,_,rfl,QU ?_⟩
   exact ⟨_,rfl,x,_,dx,_,_,rfl,hx,T.c_Letter,T.n_Letter_found,rfl,k D H (fun _ _ _ e=>e) ⟨⟨dx,hx⟩,hD⟩⟩
end
inductive QaX (K:PySem.W.Frag) (vs:List V) (H:Hp) (Q:VK):Prop
 | mk:∀(a:Addr) (ns:List Int) (k:Int),vs=[.ref a,.int k]→SqL K H a (ns.map V.int)→0≤k→(∀z:Int,Q (.int z) H)→QaX K vs H Q
def Qe6 (K:PySem.W.Frag):Sp:=fun vs H Q _=>QaX K vs H Q
inductive Gh (K:PySem.W.Frag) (vs:List V) (H:Hp) (Q:VK):Prop
 | mk:∀(a:Addr) (ns:List Int) (st:Int) (n:Nat),vs=[.ref a,.int st,.int n]→SqL K H a (ns.map V.int)→0≤st→n≤1000→(∀(p:Addr) (rs:List Int) (H':Hp),rs.length=n→(∀r∈rs,0≤r∧r<2147483629)→H p=none→Qm H H'→H' p=some (.lst (rs.map V.int))→Q (.ref p) H')→Gh K vs H Q
def Qc1 (K:PySem.W.Frag):Sp:=fun vs H Q _=>Gh K vs H Q
inductive XS (vs:List V) (H:Hp) (Q:VK):Prop
 | mk:∀(b k:Int),vs=[.int b,.int k]→0≤b→b<2147483647→0≤k→k<6→(∀H',Qm H H'→Q (.str (ZO b k)) H')→XS vs H Q
def Ul:Sp:=fun vs H Q _=>XS vs H Q
theorem Qhl {P:Program} {w:World} {K:PySem.W.Frag} {mg:Str→Option Value} {base:Heap} {a:Adr} {fd:FuncData} (F:Fun K "_law_cell_at" "_law_cell_at" YN a.f_l_cell_at fd) (T:Txt K mg a):Qw P w K mg base CX0 1 a.f_l_cell_at fd ["_law_script","_law_k"] (Qe6 K):=by
 refine F.ok Qac (fun vs H Q E h=>?_) (fun cdv A outer s H vs Q E hr h=>?_)
 ·obtain ⟨x,ns,n,rfl,_⟩:=h;rfl
 ·obtain ⟨q,ns,i,rfl,hS,hi,k⟩:=h
  refine ⟨_,(Qb (QK (Qr Qdj (pv 1) (QO Zk rfl T.b_len PySem.boot_len (pac (pv 0) Qf)) (Qz _)) (Qd (Qo (Qn QA (pv 0) (pv 1) (fun _ _=>rfl)))) QB)
   (Qd (Qo Qa))),?_⟩
  refine ⟨_,rfl,_,rfl,q,_,rfl,.inl hS,_,_,rfl,rfl,_,rfl,?_⟩
  refine Qec (fun h=>?_) (fun _=>k 0)
  obtain ⟨v,hv,hm,_⟩:=ZB (xs:=ns.map V.int) hi (of_decide_eq_true h)
  obtain ⟨z,rfl,_⟩:=QbB hm
  exact ⟨_,rfl,_,rfl,q,_,_,_,rfl,rfl,hS,hv,k z⟩
theorem QfT {P:Program} {w:World} {K:PySem.W.Frag} {mg:Str→Option Value} {base:Heap} {a:Adr} {fd:FuncData} (F:Fun K "_law_mixed" "_law_mixed" UX a.f_l_mixed fd) (T:Txt K mg a) (FF:Z1 K a):Qw P w K mg base CX0 2 a.f_l_mixed fd ["_law_script","_law_start","_law_many"] (Qc1 K):=by
 obtain ⟨fdC,F_l_cell_at,b_l_cell_at⟩:=FF.F_l_cell_at
 have G_l_cell_at:Qw P w K mg base CX0 1 a.f_l_cell_at fdC ["_law_script","_law_k"] (Qe6 K):=Qhl F_l_cell_at T
 refine F.ok YS (fun vs H Q E h=>?_) (fun cdv A outer s H vs Q E hr h=>?_)
 ·obtain ⟨x,ns,st,n,rfl,_⟩:=h;rfl
 ·obtain ⟨q,ns,st,n,rfl,hS,hst,hn,k⟩:=h
  have hr_l_cell_at:QG 1 _:=hr
  refine ⟨_,(Qb (Qv (i:=3) YS.nd rfl (Or.inl rfl) (UF Qq))
   (Qb (Qv (i:=4) YS.nd rfl (Or.inl rfl) Qa)
   (Qb (Z5 PassesOwn.never rfl (JJ rfl T.b_range (pac (pv 2) Qf)) (QR (i:=5) YS.nd rfl (Or.inl rfl)) (Qb (Qv (i:=4) YS.nd rfl (Or.inl rfl) (Ql QP (Ql ZE (Ql ZE (Ql ZE (Ql Yr (pv 4) Qa) (Qx G_l_cell_at hr_l_cell_at rfl T.m_l_cell_at F_l_cell_at.kp b_l_cell_at .nil Qy (pac (pv 0) (pac (Ql ZE (pv 1) (pv 5)) Qf)))) (Ql Yr Qa (pv 5))) Qa) Qa))
   (Qd (Q9 (Z8 PySem.F.plainAttrs_list PySem.F.slot_list_append PySem.F.type_list_append Q3 (pv 3) (pac (Ql QP (Ql Yr (pv 4) (pv 4)) Qa) Qf))))))
   (Qd (Qo (pv 3)))))),?_⟩
  refine ⟨Nat.zero_le _,fun p hp=>?_⟩
  refine ⟨_,rfl,(n:Int),rfl,by omega,by omega,Yd (n:=(n:Int).toNat) (fun i σ H2=>∃(rs:List Int) (more:Int) (c1:Option V),σ=[some (.ref q),some (.int st),some (.int n),some (.ref p),some (.int more),c1]∧0≤more∧more<2147483647 ∧
   rs.length=i∧(∀r∈rs,0≤r∧r<2147483629)∧H2 p=some (.lst (rs.map V.int))∧Qm H H2)
   ⟨[],7,none,rfl,by decide,by decide,rfl,(fun _ h=>nomatch h),Qh,Qm.upd_new hp⟩ ?_ ?_⟩
  ·rintro i σ H2 hi ⟨rs,more,c1,rfl,h0,h1,hl,hb,hp2,hs⟩
   have hS2:=hs.seq hS
   have hin:i<n:=by omega
   refine ⟨_,rfl,_,_,rfl,rfl,.inl ⟨by omega,by omega⟩,_,rfl,_,rfl,_,rfl,_,_,rfl,rfl,q,ns,_,rfl,hS2,by omega,fun z=>?_⟩
   refine ⟨_,_,rfl,rfl,_,rfl,_,_,rfl,rfl,.inl ⟨by decide,by decide⟩,_,_,rfl,rfl,_,_,rfl,rfl,_,_,rfl,rfl,(by show (0:Int)<2147483647;decide),?_⟩
   have b0:0≤(more*48271+z+31*(0+(i:Int))+1) % 2147483647:=Int.emod_nonneg _ (by decide)
   have b1:(more*48271+z+31*(0+(i:Int))+1) % 2147483647<2147483647:=Int.emod_lt_of_pos _ (by decide)
   refine ⟨_,rfl,.inl ⟨rfl,_,SqL.of hp2⟩,_,rfl,_,rfl,_,_,rfl,rfl,.inl ⟨by omega,by omega⟩,_,_,rfl,rfl,(by show (0:Int)<2147483629;decide),p,_,_,rfl,rfl,hp2,(by rw [List.length_map];exact Qj (by omega)),?_⟩
   refine ⟨rs++[_],_,_,rfl,b0,b1,by rw [List.length_append,hl];rfl,fun r hr=>?_,by rw [List.map_append];exact Qh,hs.upd_of hp⟩
   rcases List.mem_append.mp hr with hr | hr
   ·exact hb r hr
   ·rw [List.mem_singleton.mp hr]
    exact ⟨Int.emod_nonneg _ (by decide),Int.emod_lt_of_pos _ (by decide)⟩
  ·rintro σ H2 ⟨rs,more,c1,rfl,h0,h1,hl,hb,hp2,hs⟩
   exact ⟨_,rfl,k p rs H2 (by omega) hb hp hs hp2⟩
theorem Ut {P:Program} {w:World} {K:PySem.W.Frag} {mg:Str→Option Value} {base:Heap} {a:Adr} {fd:FuncData} (F:Fun K "_law_word_by" "_law_word_by" JD a.f_l_word_by fd) (T:Txt K mg a):Qw P w K mg base CX0 1 a.f_l_word_by fd ["_law_shape","_law_k"] Ul:=by
 refine F.ok Zt (fun vs H Q E h=>?_) (fun cdv A outer s H vs Q E hr h=>?_)
 ·obtain ⟨b,k,rfl,_⟩:=h;rfl
 ·obtain ⟨b,i,rfl,hb0,hb1,hi0,hi1,k⟩:=h
  have hsm:∀n:Nat,n≤1000→n≤sizeLine:=fun n h=>Nat.le_of_lt (Qj h)
  obtain ⟨t1,h1,sp1⟩:∃t,PSs (UI CX0 P w K mg base Xb "_law_word_by" (Qe JD) a.f_l_word_by cdv A outer s H E).nox ((QM JD).drop 1) t ∧
   (¬b % 4=1→t { nx:=fun _ H'=>Q .non H',rt:=Q } [some (.int b),some (.int i),none,none,none,none] H):=by
   refine ⟨_,(Qb (Qv (i:=3) Zt.nd rfl (Or.inl rfl) (Ql QP (Ql QT (pv 0) Qa) Qa))
    (Qb (Qv (i:=4) Zt.nd rfl (Or.inl rfl) Qi)
    (Qb (Z5 PassesOwn.never rfl (JJ rfl T.b_range (pac (Ql ZE (Ql ZE (pv 3) Qa) (Ql QP (Ql QT (pv 0) Qa) (Ql Qcs Qa (pv 3)))) Qf)) (QR (i:=5) Zt.nd rfl (Or.inl rfl)) (Qd (QK (Qr QZ (pv 5) (pv 3) (Qz _)) (Qd (Qv (i:=4) Zt.nd rfl (Or.inl rfl) (Ql QH (pv 4) (Qn Qgh Qi (pv 1) (fun _ _=>rfl))))) (Qd (Qv (i:=4) Zt.nd rfl (Or.inl rfl) (Ql QH (pv 4) (Qn Qgh Qi (Ql QP (Ql ZE (Ql QT (pv 0) Qa) (Ql Yr Qa (pv 5))) Qa) (fun _ _=>rfl))))))))
    (Qd (Qo (pv 4)))))),fun hne=>?_⟩
   have p0:0≤b / 4 % 6:=Int.emod_nonneg _ (by decide)
   have p1:b / 4 % 6<6:=Int.emod_lt_of_pos _ (by decide)
   have q0:0≤b / 24 % (20 - b / 4 % 6):=Int.emod_nonneg _ (by omega)
   have q1:b / 24 % (20 - b / 4 % 6)<20 - b / 4 % 6:=Int.emod_lt_of_pos _ (by omega)
   refine ⟨_,rfl,_,_,rfl,rfl,⟨by decide,by decide⟩,_,_,rfl,rfl,(by show (0:Int)<6;decide),?_⟩
   refine ⟨_,rfl,_,_,rfl,rfl,_,rfl,_,_,rfl,rfl,⟨by decide,by decide⟩,_,rfl,_,_,rfl,rfl,_,_,rfl,rfl,(by show (0:Int)<20 - b / 4 % 6;omega),_,_,rfl,rfl,_,rfl,(by show -2 ^ 62≤b / 4 % 6+1+b / 24 % (20 - b / 4 % 6);omega),(by show b / 4 % 6+1+b / 24 % (20 - b / 4 % 6)<2 ^ 62;omega),Yd (n:=(b / 4 % 6+1+b / 24 % (20 - b / 4 % 6)).toNat)
    (fun j σ H2=>∃(o:Option V),σ=[some (.int b),some (.int i),none,some (.int (b / 4 % 6)),some (.str ⟨((List.range j).map (ZT b i)).toArray⟩),o]∧H2=H) ⟨none,rfl,rfl⟩ ?_ ?_⟩
   ·rintro j σ H2 hj ⟨o,rfl,rfl⟩
    have hj20:j<20:=by omega
    have fit:∀c:Nat,(⟨((List.range j).map (ZT b i)).toArray⟩:Str).length+(⟨#[c]⟩:Str).length≤sizeLine:=fun c=>hsm _ (by
     rw [Qdk,Y2,List.length_map,List.length_range];omega)
    have app:∀c:Nat,ZT b i j=c→(⟨((List.range j).map (ZT b i)).toArray⟩:Str)++(⟨#[c]⟩:Str)=⟨((List.range (j+1)).map (ZT b i)).toArray⟩:=fun c hc=>by
     rw [List.range_succ,List.map_append,List.map_singleton,hc]
     refine Str.ext' ?_
     rw [Str.cps_append]
     simp
    refine ⟨_,rfl,_,rfl,rfl,_,rfl,?_⟩
    refine Qec (fun h=>?_) (fun h=>?_)
    ·have he:(0:Int)+(j:Int)=b / 4 % 6:=by
      have:=of_decide_eq_true h
      exact V.int.inj this
     obtain ⟨c,hc,_⟩:=Vq (z:=abS) (i:=i) hi0 (by rw [QgI];exact hi1)
     refine ⟨_,rfl,_,rfl,abS,_,c,rfl,rfl,QgH,hc,_,_,rfl,rfl,fit c,?_⟩
     refine ⟨some (.int (0+(j:Int))),?_,rfl⟩
     rw [app c (by unfold ZT;rw [if_pos (by omega),hc];rfl)]
     rfl
    ·have he:¬(0:Int)+(j:Int)=b / 4 % 6:=fun z=>h (decide_eq_true (by rw [z]))
     obtain ⟨c,hc,_⟩:=Vq (z:=aZ) (i:=(b / 500+7*(0+(j:Int))) % 36) (Int.emod_nonneg _ (by decide)) (by rw [QgK];exact Int.emod_lt_of_pos _ (by decide))
     refine ⟨_,rfl,_,rfl,_,_,rfl,rfl,⟨by decide,by decide⟩,_,rfl,_,_,rfl,rfl,.inl ⟨by decide,by decide⟩,_,_,rfl,rfl,_,_,rfl,rfl,(by show (0:Int)<36;decide),aZ,_,c,rfl,rfl,QgJ,hc,_,_,rfl,rfl,fit c,?_⟩
     refine ⟨some (.int (0+(j:Int))),?_,rfl⟩
     rw [app c (by unfold ZT;rw [if_neg (by omega),show (7*(j:Int))=7*(0+(j:Int)) by omega,hc];rfl)]
     rfl
   ·rintro σ H2 ⟨o,rfl,rfl⟩
    refine ⟨_,rfl,?_⟩
    have e:ZO b i=⟨((List.range (b / 4 % 6+1+b / 24 % (20 - b / 4 % 6)).toNat).map (ZT b i)).toArray⟩:=by
     unfold ZO;rw [if_neg hne]
    rw [←e]
    exact k _ (Qm.refl _)
  refine ⟨_,(X9 (qs_if (Qr QZ (Ql QP (pv 0) Qa) Qa (Qz _)) (X9 (Qft (i:=2) Zt.nd rfl (Or.inl rfl) (Qfu (Qc Qi (Qc Qi (Qc Qi (Qc Qi (Qc Qi (Qc Qi (Qc Qi (Qc Qi (Qc Qi (Qc Qi (Qc Qi (Qc Qi Qq))))))))))))))
   (X9 (Qft (i:=2) Zt.nd rfl (Or.inl rfl) (qe_op QfJ (pv 2) (Qfu (Qc Qi (Qc Qi (Qc Qi (Qc Qi (Qc Qi (Qc Qi (Qc Qi (Qc Qi (Qc Qi Qq))))))))))))
   (Qg6 (qs_of (Qo (Qn QA (pv 2) (Ql QP (Ql ZE (Ql QT (pv 0) Qa) (Ql Yr Qa (pv 1))) Qa) (fun _ _=>rfl))))))) QB)
   (Qir h1)).h,?_⟩
  refine ⟨_,rfl,_,_,rfl,rfl,(by show (0:Int)<4;decide),rfl,_,rfl,?_⟩
  refine Qec (fun h=>?_) (fun h=>sp1 fun z=>h (decide_eq_true (congrArg V.int z)))
  have he:b % 4=1:=by
   have:=of_decide_eq_true h
   exact V.int.inj this
  obtain ⟨v,hv,hvm,_⟩:=ZB (xs:=Y0) (i:=(b / 4+5*i) % 21) (Int.emod_nonneg _ (by decide)) (by rw [Qdi];exact Int.emod_lt_of_pos _ (by decide))
  have hv':atI (Y0.map V.str) ((b / 4+5*i) % 21)=some (V.str v):=by
   rw [QhB,hv];rfl
  refine ⟨(by show 12≤sizeLine;decide),fun l1 n1=>?_⟩
  refine ⟨_,rfl,(by show 9≤sizeLine;decide),fun l2 n2=>⟨l1,l2,_,_,rfl,rfl,(by rw [Qk (Qu Qh n2)];exact Qh),Qh,(by show 12+9≤sizeLine;decide),fun l3 n3=>?_⟩⟩
  refine ⟨_,rfl,_,rfl,_,_,rfl,rfl,⟨by decide,by decide⟩,_,rfl,_,_,rfl,rfl,.inl ⟨by decide,by decide⟩,_,_,rfl,rfl,_,_,rfl,rfl,(by show (0:Int)<21;decide),l3,Y0.map V.str,_,_,rfl,rfl,SqL.of Qh,hv',?_⟩
  have e:ZO b i=v:=by unfold ZO;rw [if_pos he,hv];rfl
  rw [←e]
  exact k _ (((Qm.upd_new n1).trans (Qm.upd_new n2)).trans (Qm.upd_new n3))
def QaS:Sp:=fun vs H Q _=>∃(sh:Int) (p:Addr) (cs:List Int),vs=[.int sh,.ref p]∧0≤sh∧sh<2147483629∧H p=some (.lst (cs.map V.int))∧(∀c∈cs,0≤c)∧cs.length≤12∧∀(x:Str) (H':Hp),Prt x→x.length≤23*cs.length→Qm H H'→Q (.str x) H'
def Gg:Sp:=fun vs H Q _=>∃(sh:Int) (p:Addr) (cs:List Int),vs=[.int sh,.ref p]∧0≤sh∧sh<2147483629∧H p=some (.lst (cs.map V.int))∧(∀c∈cs,0≤c∧c<2147483629)∧10≤cs.length∧∀q s t b d an H',KS s t b d an→H q=none→Qm H H'→H' q=some (.tup [.str s,.str t,.str b,.int d,.str an])→Q (.ref q) H'
def QaY:Sp:=fun vs H Q _=>∃(sh:Int) (p:Addr) (cs:List Int),vs=[.int sh,.ref p]∧0≤sh∧sh<2147483629∧H p=some (.lst (cs.map V.int))∧(∀c∈cs,0≤c∧c<2147483629)∧10≤cs.length ∧
 ∀u q m s t b d an fo ms H',KS s t b d an→Q4 fo→(∀x∈ms,Q4 x)→ms.Nodup→ms.length≤4→Qm H H'→H' u=some (.tup [.ref q,.str fo,.ref m])→H' q=some (.tup [.str s,.str t,.str b,.int d,.str an])→H m=none→H' m=some (.lst ((ZG ms).map V.str))→Q (.ref u) H'
theorem QgT (x:Str):(⟨x.cps.map PyProof.Rows.up1⟩:Str).length=x.length:=by show (x.cps.map _).size=x.cps.size;simp
theorem QgU {c:Nat} (h:32≤c∧c<127):32≤PyProof.Rows.up1 c∧PyProof.Rows.up1 c<127:=by unfold PyProof.Rows.up1;split <;> omega
theorem Prt.up {x:Str} (h:Prt x):Prt ⟨x.cps.map PyProof.Rows.up1⟩:=fun c hc=>by
 have:c∈x.cps.toList.map PyProof.Rows.up1:=by simpa using hc
 obtain ⟨d,hd,rfl⟩:=List.mem_map.mp this
 exact QgU (h d hd)
theorem QiV:Prt aZ:=Uh (by decide +kernel)
theorem QaH {x:Str} (h:Q4 x):Prt x:=fun c hc=>QiV c (h.in_ c hc)
theorem Qhv:∀v∈([.str "",.str " ",.str "!",.str "("]:List V),∃y:Str,v=.str y∧Prt y∧y.length≤1:=by
 intro v hv
 simp only [List.mem_cons,List.not_mem_nil,or_false] at hv
 rcases hv with rfl | rfl | rfl | rfl
 ·exact ⟨_,rfl,Uh (by decide +kernel),by decide +kernel⟩
 ·exact ⟨_,rfl,Uh (by decide +kernel),by decide +kernel⟩
 ·exact ⟨_,rfl,Uh (by decide +kernel),by decide +kernel⟩
 ·exact ⟨_,rfl,Uh (by decide +kernel),by decide +kernel⟩
theorem QiS:∀v∈([.str " ",.str ", ",.str "-",.str ": "]:List V),∃y:Str,v=.str y∧Prt y∧y.length≤2:=by
 intro v hv
 simp only [List.mem_cons,List.not_mem_nil,or_false] at hv
 rcases hv with rfl | rfl | rfl | rfl
 ·exact ⟨_,rfl,Uh (by decide +kernel),by decide +kernel⟩
 ·exact ⟨_,rfl,Uh (by decide +kernel),by decide +kernel⟩
 ·exact ⟨_,rfl,Uh (by decide +kernel),by decide +kernel⟩
 ·exact ⟨_,rfl,Uh (by decide +kernel),by decide +kernel⟩
section
variable {P : Program} {w : World} {K : PySem.W.Frag} {mg : Str → Option Value} {base : Heap} {a : Adr}
theorem QdR {fd:FuncData} (F:Fun K "_law_text_by" "_law_text_by" YK a.f_l_text_by fd) (T:Txt K mg a) (FF:Z1 K a):Qw P w K mg base CX0 2 a.f_l_text_by fd ["_law_shape","_law_cells"] QaS:=by
 obtain ⟨fdW,F_l_word_by,b_l_word_by⟩:=FF.F_l_word_by
 have G_l_word_by:Qw P w K mg base CX0 1 a.f_l_word_by fdW ["_law_shape","_law_k"] Ul:=Ut F_l_word_by T
 refine F.ok ZQ (fun vs H Q E h=>?_) (fun cdv A outer s H vs Q E hr h=>?_)
 ·obtain ⟨sh,p,cs,rfl,_⟩:=h;rfl
 ·obtain ⟨sh,p,cs,rfl,hs0,hs1,hp,hc,hl,k⟩:=h
  have hr_l_word_by:QG 1 _:=hr
  have hsm:∀n:Nat,n≤1000→n≤sizeLine:=fun n h=>Nat.le_of_lt (Qj h)
  refine ⟨_,(Qb (Qv (i:=2) ZQ.nd rfl (Or.inl rfl) Qi)
   (Qb (Z5 PassesOwn.never rfl (Zx (pv 1)) (QR (i:=3) ZQ.nd rfl (Or.inl rfl)) (Qb (Qv (i:=4) ZQ.nd rfl (Or.inl rfl) (Qx G_l_word_by hr_l_word_by rfl T.m_l_word_by F_l_word_by.kp b_l_word_by .nil Qy (pac (pv 0) (pac (Ql QP (pv 3) Qa) Qf))))
   (Qb (QK (Qr QZ (Ql QP (Ql QT (pv 3) Qa) Qa) Qa (Qz _)) (Qd (Qv (i:=4) ZQ.nd rfl (Or.inl rfl) (Kf PySem.F.plainAttrs_str PySem.F.slot_str_upper PySem.F.type_str_upper Qf7 (pv 4)))) QB)
   (Qb (Qv (i:=2) ZQ.nd rfl (Or.inl rfl) (Ql QH (Ql QH (pv 2) (Qn QA (UF (Qc Qi (Qc Qi (Qc Qi (Qc Qi Qq))))) (Ql QP (Ql QT (pv 3) Qa) Qa) (fun _ _=>rfl))) (pv 4)))
   (Qd (Qv (i:=2) ZQ.nd rfl (Or.inl rfl) (Ql QH (pv 2) (Qn QA (UF (Qc Qi (Qc Qi (Qc Qi (Qc Qi Qq))))) (Ql QP (Ql QT (pv 3) Qa) Qa) (fun _ _=>rfl)))))))))
   (Qd (Qo (pv 2))))),?_⟩
  refine ⟨_,rfl,p,rfl,⟨_,SqL.of hp⟩,Uw (K:=K) (a:=p) (xs:=cs.map V.int) (fun i σ H2=>∃(x:Str) (o3 o4:Option V),σ=[some (.int sh),some (.ref p),some (.str x),o3,o4]∧Qm H H2∧Prt x∧x.length≤23*i)
   ⟨"",none,none,rfl,Qm.refl H,Uh (by decide +kernel),by decide +kernel⟩ (fun i σ H2 _ ⟨_,_,_,_,s2,_⟩=>SqL.of (s2 _ _ hp)) ?_ ?_⟩
  ·rintro i y σ H2 hi ⟨x,o3,o4,rfl,s2,hx,hxl⟩
   obtain ⟨c,rfl,hcm⟩:∃c:Int,y=.int c∧c∈cs:=by
    obtain ⟨c,hc1,hc2⟩:=List.mem_map.mp (List.mem_of_getElem? hi)
    exact ⟨c,hc2.symm,hc1⟩
   have hil:i<cs.length:=by have:=(List.getElem?_eq_some_iff.mp hi).1;rw [List.length_map] at this;exact this
   have c0:=hc c hcm
   have m0:0≤c % 5:=Int.emod_nonneg _ (by decide)
   have m1:c % 5<5:=Int.emod_lt_of_pos _ (by decide)
   have hw:Q4 (ZO sh (c % 5)):=JY m0 (by omega)
   refine ⟨_,rfl,_,rfl,_,_,rfl,rfl,(by show (0:Int)<5;decide),?_⟩
   refine ⟨sh,c % 5,rfl,hs0,by omega,m0,by omega,fun H3 s3=>?_⟩
   have s4:=s2.trans s3
   obtain ⟨v1,hv1,hm1,_⟩:=ZB (xs:=([.str "",.str " ",.str "!",.str "("]:List V)) (i:=c / 15 % 4) (Int.emod_nonneg _ (by decide)) (Int.emod_lt_of_pos _ (by decide))
   obtain ⟨v2,hv2,hm2,_⟩:=ZB (xs:=([.str " ",.str ", ",.str "-",.str ": "]:List V)) (i:=c / 60 % 4) (Int.emod_nonneg _ (by decide)) (Int.emod_lt_of_pos _ (by decide))
   obtain ⟨y1,rfl,hy1,ly1⟩:=Qhv v1 hm1
   obtain ⟨y2,rfl,hy2,ly2⟩:=QiS v2 hm2
   have hi20:=hw.hi
   refine ⟨_,rfl,_,_,rfl,rfl,⟨by decide,by decide⟩,_,_,rfl,rfl,(by show (0:Int)<3;decide),rfl,_,rfl,?_⟩
   refine Qec (fun _=>?_) (fun _=>?_)
   ·have hU:Prt ⟨(ZO sh (c % 5)).cps.map PyProof.Rows.up1⟩:=Prt.up (QaH hw)
    have lU:=QgT (ZO sh (c % 5))
    refine ⟨_,rfl,rfl,_,rfl,rfl,hw.asc,by omega,?_⟩
    refine ⟨_,rfl,(by show 4≤sizeLine;decide),fun l hl=>?_⟩
    have s5:Qm H (upd H3 l (.lst [.str "",.str " ",.str "!",.str "("])):=s4.upd_of (s4.free hl)
    have e5:(upd H3 l (.lst [.str "",.str " ",.str "!",.str "("])) l=some (.lst [.str "",.str " ",.str "!",.str "("]):=Qh
    generalize upd H3 l (.lst [.str "",.str " ",.str "!",.str "("])=H4 at s5 e5
    refine ⟨_,rfl,_,_,rfl,rfl,⟨by decide,by decide⟩,_,_,rfl,rfl,(by show (0:Int)<4;decide),l,_,_,_,rfl,rfl,SqL.of e5,hv1,_,_,rfl,rfl,hsm _ (by omega),_,rfl,_,_,rfl,rfl,hsm _ (by rw [Jn];omega),?_⟩
    refine ⟨_,rfl,(by show 4≤sizeLine;decide),fun l2 hl2=>?_⟩
    have s6:Qm H (upd H4 l2 (.lst [.str " ",.str ", ",.str "-",.str ": "])):=s5.upd_of (s5.free hl2)
    refine ⟨_,rfl,_,_,rfl,rfl,⟨by decide,by decide⟩,_,_,rfl,rfl,(by show (0:Int)<4;decide),l2,_,_,_,rfl,rfl,SqL.of Qh,hv2,_,_,rfl,rfl,hsm _ (by rw [Jn,Jn];omega),?_⟩
    exact ⟨_,_,_,rfl,s6,((hx.app hy1).app hU).app hy2,by rw [Jn,Jn,Jn];omega⟩
   ·skip
    refine ⟨_,rfl,(by show 4≤sizeLine;decide),fun l hl=>?_⟩
    have s5:Qm H (upd H3 l (.lst [.str "",.str " ",.str "!",.str "("])):=s4.upd_of (s4.free hl)
    have e5:(upd H3 l (.lst [.str "",.str " ",.str "!",.str "("])) l=some (.lst [.str "",.str " ",.str "!",.str "("]):=Qh
    generalize upd H3 l (.lst [.str "",.str " ",.str "!",.str "("])=H4 at s5 e5
    refine ⟨_,rfl,_,_,rfl,rfl,⟨by decide,by decide⟩,_,_,rfl,rfl,(by show (0:Int)<4;decide),l,_,_,_,rfl,rfl,SqL.of e5,hv1,_,_,rfl,rfl,hsm _ (by omega),_,rfl,_,_,rfl,rfl,hsm _ (by rw [Jn];omega),?_⟩
    refine ⟨_,rfl,(by show 4≤sizeLine;decide),fun l2 hl2=>?_⟩
    have s6:Qm H (upd H4 l2 (.lst [.str " ",.str ", ",.str "-",.str ": "])):=s5.upd_of (s5.free hl2)
    refine ⟨_,rfl,_,_,rfl,rfl,⟨by decide,by decide⟩,_,_,rfl,rfl,(by show (0:Int)<4;decide),l2,_,_,_,rfl,rfl,SqL.of Qh,hv2,_,_,rfl,rfl,hsm _ (by rw [Jn,Jn];omega),?_⟩
    exact ⟨_,_,_,rfl,s6,((hx.app hy1).app (QaH hw)).app hy2,by rw [Jn,Jn,Jn];omega⟩
  ·rintro σ H2 ⟨x,o3,o4,rfl,s2,hx,hxl⟩
   rw [List.length_map] at hxl
   exact ⟨_,rfl,k x H2 hx hxl s2⟩
end
theorem QbN {cs:List Int} {lo m:Int} (h0:0≤lo) (hn:lo≤(cs.length:Int)) (hm:0≤m):∃cs':List Int,Yo (cs.map V.int) (some lo) (some (lo+m))=cs'.map V.int∧(∀c∈cs',c∈cs)∧(cs'.length:Int)≤m:=by
 refine ⟨(cs.drop (HT.sIx cs.length 0 (some lo))).take (HT.sIx cs.length cs.length (some (lo+m)) - HT.sIx cs.length 0 (some lo)),?_,fun c hc=>List.mem_of_mem_drop (List.mem_of_mem_take hc),?_⟩
 ·unfold Yo
  rw [List.length_map,←List.map_drop,←List.map_take]
 ·rw [List.length_take]
  have e1:HT.sIx cs.length 0 (some lo)=lo.toNat:=by simp only [HT.sIx];split <;> omega
  have e2:HT.sIx cs.length cs.length (some (lo+m))≤(lo+m).toNat:=by simp only [HT.sIx];split <;> omega
  rw [e1]
  omega
theorem Qci {x y:Str} (h:Prt x):Prt (Txt.rstripChars x y):=fun c hc=>h c (Qcj hc)
section
variable {P : Program} {w : World} {K : PySem.W.Frag} {mg : Str → Option Value} {base : Heap} {a : Adr}
theorem Qct {fd:FuncData} (F:Fun K "_law_parts_by" "_law_parts_by" Zr a.f_l_parts_by fd) (T:Txt K mg a) (FF:Z1 K a):Qw P w K mg base CX0 3 a.f_l_parts_by fd ["_law_shape","_law_cells"] Gg:=by
 obtain ⟨fdW,F_l_word_by,b_l_word_by⟩:=FF.F_l_word_by
 have G_l_word_by:Qw P w K mg base CX0 1 a.f_l_word_by fdW ["_law_shape","_law_k"] Ul:=Ut F_l_word_by T
 obtain ⟨fdT,F_l_text_by,b_l_text_by⟩:=FF.F_l_text_by
 have G_l_text_by:Qw P w K mg base CX0 2 a.f_l_text_by fdT ["_law_shape","_law_cells"] QaS:=QdR F_l_text_by T FF
 refine F.ok Z2 (fun vs H Q E h=>?_) (fun cdv A outer s H vs Q E hr h=>?_)
 ·obtain ⟨sh,p,cs,rfl,_⟩:=h;rfl
 ·obtain ⟨sh,p,cs,rfl,hs0,hs1,hp,hc,hl,k⟩:=h
  have hr_l_word_by:QG 1 _:=hr.mono (by decide)
  have hr_l_text_by:QG 2 _:=hr
  have hsm:∀n:Nat,n≤1000→n≤sizeLine:=fun n h=>Nat.le_of_lt (Qj h)
  obtain ⟨z0,e0,b00,b01⟩:=JR hc 0 (by decide) (by omega)
  obtain ⟨z8,e8,b80,b81⟩:=JR hc 8 (by decide) (by omega)
  have sq:∀{H1:Hp},Qm H H1→SqL K H1 p (cs.map V.int):=fun s1=>SqL.of (s1 _ _ hp)
  obtain ⟨t3,h3,sp3⟩:∃t,PSs (UI CX0 P w K mg base UG "_law_parts_by" (Qe Zr) a.f_l_parts_by cdv A outer s H E).nox ((QM Zr).drop 3) t ∧
   ∀(H1:Hp) (t1 b1:Str),Qm H H1→Prt t1→t1.length≤60→Prt b1→b1.length≤400→t { nx:=fun _ H'=>Q .non H',rt:=Q } [some (.int sh),some (.ref p),some (.str t1),some (.str b1),none,none] H1:=by
   refine ⟨_,(Qb (Qv (i:=4) Z2.nd rfl (Or.inl rfl) (Qn QA (UF (Qc Qa (Qc Qa (Qc (Ql QP (Ql QT (Qn QA (pv 1) Qa (fun _ _=>rfl)) Qa) Qa) (Qc (Ql QP (Ql QT (Qn QA (pv 1) Qa (fun _ _=>rfl)) Qa) Qa) Qq))))) (Ql QP (Qn QA (pv 1) Qa (fun _ _=>rfl)) Qa) (fun _ _=>rfl)))
    (Qb (Qv (i:=5) Z2.nd rfl (Or.inl rfl) (Qn QA (UF (Qc Qi (Qc (Qx G_l_word_by hr_l_word_by rfl T.m_l_word_by F_l_word_by.kp b_l_word_by .nil Qy (pac (pv 0) (pac (Ql QP (Ql QT (Qn QA (pv 1) Qa (fun _ _=>rfl)) Qa) Qa) Qf))) Qq))) (Ql QP (Ql QT (Qn QA (pv 1) Qa (fun _ _=>rfl)) Qa) Qa) (fun _ _=>rfl)))
    (Qd (Qo (Qal (Qc (Qx G_l_word_by hr_l_word_by rfl T.m_l_word_by F_l_word_by.kp b_l_word_by .nil Qy (pac (pv 0) (pac (Ql QP (Ql QT (Qn QA (pv 1) Qa (fun _ _=>rfl)) Qa) Qa) Qf))) (Qc (pv 2) (Qc (pv 3) (Qc (pv 4) (Qc (pv 5) Qq)))))))))),fun H1 t1 b1 s1 ht htl hb hbl=>?_⟩
   refine ⟨_,rfl,p,_,_,_,rfl,rfl,sq s1,e0,_,_,rfl,rfl,⟨by decide,by decide⟩,_,_,rfl,rfl,(by show (0:Int)<10000;decide),_,rfl,p,_,_,_,rfl,rfl,sq s1,e0,_,_,rfl,rfl,⟨by decide,by decide⟩,_,_,rfl,rfl,(by show (0:Int)<9;decide),(by show 4≤sizeLine;decide),fun l hl'=>?_⟩
   have s2:Qm H (upd H1 l (.lst [.int 0,.int 9999,.int (z0 / 18 % 10000),.int (z0 / 18 % 9)])):=s1.upd_of (s1.free hl')
   obtain ⟨v,hv,hvm,_⟩:=ZB (xs:=[V.int 0,V.int 9999,V.int (z0 / 18 % 10000),V.int (z0 / 18 % 9)]) (i:=z8 % 4) (Int.emod_nonneg _ (by decide)) (Int.emod_lt_of_pos _ (by decide))
   obtain ⟨d,rfl,hd0,hd1⟩:∃d:Int,v=.int d∧0≤d∧d≤9999:=by
    have m1:0≤z0 / 18 % 10000:=Int.emod_nonneg _ (by decide)
    have m2:z0 / 18 % 10000<10000:=Int.emod_lt_of_pos _ (by decide)
    have m3:0≤z0 / 18 % 9:=Int.emod_nonneg _ (by decide)
    have m4:z0 / 18 % 9<9:=Int.emod_lt_of_pos _ (by decide)
    simp only [List.mem_cons,List.not_mem_nil,or_false] at hvm
    rcases hvm with rfl | rfl | rfl | rfl
    ·exact ⟨_,rfl,by decide,by decide⟩
    ·exact ⟨_,rfl,by decide,by decide⟩
    ·exact ⟨_,rfl,by omega,by omega⟩
    ·exact ⟨_,rfl,by omega,by omega⟩
   refine ⟨_,rfl,p,_,_,_,rfl,rfl,sq s2,e8,_,_,rfl,rfl,(by show (0:Int)<4;decide),l,_,_,_,rfl,rfl,SqL.of Qh,hv,?_⟩
   have m1:0≤z8 / 4 % 5:=Int.emod_nonneg _ (by decide)
   have m2:z8 / 4 % 5<5:=Int.emod_lt_of_pos _ (by decide)
   have m3:0≤z8 / 40 % 5:=Int.emod_nonneg _ (by decide)
   have m4:z8 / 40 % 5<5:=Int.emod_lt_of_pos _ (by decide)
   refine ⟨_,rfl,_,rfl,p,_,_,_,rfl,rfl,sq s2,e8,_,_,rfl,rfl,⟨by decide,by decide⟩,_,_,rfl,rfl,(by show (0:Int)<5;decide),?_⟩
   refine ⟨sh,z8 / 4 % 5,rfl,hs0,by omega,m1,by omega,fun H3 s3=>?_⟩
   have s4:=s2.trans s3
   refine ⟨(by show 2≤sizeLine;decide),fun l2 hl2=>?_⟩
   have s5:Qm H (upd H3 l2 (.lst [.str "",.str (ZO sh (z8 / 4 % 5))])):=s4.upd_of (s4.free hl2)
   obtain ⟨v2,hv2,hvm2,_⟩:=ZB (xs:=[V.str "",V.str (ZO sh (z8 / 4 % 5))]) (i:=z8 / 20 % 2) (Int.emod_nonneg _ (by decide)) (Int.emod_lt_of_pos _ (by decide))
   obtain ⟨an,rfl,han⟩:∃an:Str,v2=.str an∧(an=""∨Q4 an):=by
    simp only [List.mem_cons,List.not_mem_nil,or_false] at hvm2
    rcases hvm2 with rfl | rfl
    ·exact ⟨_,rfl,.inl rfl⟩
    ·exact ⟨_,rfl,.inr (JY m1 (by omega))⟩
   refine ⟨_,rfl,p,_,_,_,rfl,rfl,sq s5,e8,_,_,rfl,rfl,⟨by decide,by decide⟩,_,_,rfl,rfl,(by show (0:Int)<2;decide),l2,_,_,_,rfl,rfl,SqL.of Qh,hv2,?_⟩
   refine ⟨_,rfl,_,rfl,p,_,_,_,rfl,rfl,sq s5,e8,_,_,rfl,rfl,⟨by decide,by decide⟩,_,_,rfl,rfl,(by show (0:Int)<5;decide),?_⟩
   refine ⟨sh,z8 / 40 % 5,rfl,hs0,by omega,m3,by omega,fun H4 s6=>?_⟩
   have s7:=s5.trans s6
   refine ⟨_,rfl,_,rfl,_,rfl,_,rfl,(by show 5≤sizeLine;decide),fun q hq=>?_⟩
   exact k q _ t1 b1 d an _ ⟨JY m3 (by omega),ht.asc,htl,(fun z=>absurd (ht 10 z).1 (by decide)),hb.asc,hbl,hd0,hd1,han⟩ (s7.free hq) (s7.upd_of (s7.free hq)) Qh
  obtain ⟨t2,h2,sp2⟩:∃t,PSs (UI CX0 P w K mg base UG "_law_parts_by" (Qe Zr) a.f_l_parts_by cdv A outer s H E).nox ((QM Zr).drop 2) t ∧
   ∀(H1:Hp) (t1:Str),Qm H H1→Prt t1→t1.length≤60→t { nx:=fun _ H'=>Q .non H',rt:=Q } [some (.int sh),some (.ref p),some (.str t1),none,none,none] H1:=by
   refine ⟨_,(Qb (Qv (i:=3) Z2.nd rfl (Or.inl rfl) (Qx G_l_text_by hr_l_text_by rfl T.m_l_text_by F_l_text_by.kp b_l_text_by .nil Qy (pac (pv 0) (pac (Q7 XE (pv 1) (Q6 Qa) (Q6 (Ql ZE Qa (Ql QP (Ql QT (Qn QA (pv 1) Qa (fun _ _=>rfl)) Qa) Qa)))) Qf))))
    h3),fun H1 t1 s1 ht htl=>?_⟩
   have m1:0≤z0 / 3 % 6:=Int.emod_nonneg _ (by decide)
   have m2:z0 / 3 % 6<6:=Int.emod_lt_of_pos _ (by decide)
   obtain ⟨cs',ec,hcm,hcl⟩:=QbN (cs:=cs) (lo:=3) (m:=z0 / 3 % 6) (by decide) (by omega) m1
   refine ⟨_,rfl,_,rfl,_,rfl,_,rfl,p,_,_,_,rfl,rfl,sq s1,e0,_,_,rfl,rfl,⟨by decide,by decide⟩,_,_,rfl,rfl,(by show (0:Int)<6;decide),_,_,rfl,rfl,_,rfl,p,_,rfl,sq s1,fun l hl'=>?_⟩
   rw [ec]
   have s2:Qm H (upd H1 l (.lst (cs'.map V.int))):=s1.upd_of (s1.free hl')
   refine ⟨sh,l,cs',rfl,hs0,hs1,Qh,fun c hc'=>(hc c (hcm c hc')).1,by omega,fun x H2 hx hxl s3=>?_⟩
   exact sp3 H2 t1 x (s2.trans s3) ht htl hx (by omega)
  refine ⟨_,(Qb (Qv (i:=2) Z2.nd rfl (Or.inl rfl) (Qx G_l_text_by hr_l_text_by rfl T.m_l_text_by F_l_text_by.kp b_l_text_by .nil Qy (pac (pv 0) (pac (Q7 XE (pv 1) (Q6 Qa) (Q6 (Ql ZE Qa (Ql QP (Qn QA (pv 1) Qa (fun _ _=>rfl)) Qa)))) Qf))))
   (Qb (QK (Qr QZ (Ql QP (Ql QT (Qn QA (pv 1) Qa (fun _ _=>rfl)) Qa) Qa) Qa (Qz _)) (Qd (Qv (i:=2) Z2.nd rfl (Or.inl rfl) (Z8 PySem.F.plainAttrs_str PySem.F.slot_str_rstrip PySem.F.type_str_rstrip Qd3 (pv 2) (pac Qi Qf)))) QB)
   h2)),?_⟩
  have m1:0≤z0 % 3:=Int.emod_nonneg _ (by decide)
  have m2:z0 % 3<3:=Int.emod_lt_of_pos _ (by decide)
  obtain ⟨cs',ec,hcm,hcl⟩:=QbN (cs:=cs) (lo:=1) (m:=z0 % 3) (by decide) (by omega) m1
  have s1:Qm H H:=Qm.refl H
  refine ⟨_,rfl,_,rfl,_,rfl,_,rfl,p,_,_,_,rfl,rfl,sq s1,e0,_,_,rfl,rfl,(by show (0:Int)<3;decide),_,_,rfl,rfl,_,rfl,p,_,rfl,sq s1,fun l hl'=>?_⟩
  rw [ec]
  have s2:Qm H (upd H l (.lst (cs'.map V.int))):=s1.upd_of (s1.free hl')
  refine ⟨sh,l,cs',rfl,hs0,hs1,Qh,fun c hc'=>(hc c (hcm c hc')).1,by omega,fun x H2 hx hxl s3=>?_⟩
  have s4:=s2.trans s3
  refine ⟨_,rfl,p,_,_,_,rfl,rfl,sq s4,e8,_,_,rfl,rfl,⟨by decide,by decide⟩,_,_,rfl,rfl,(by show (0:Int)<2;decide),rfl,_,rfl,?_⟩
  have hrl:=PyProof.Rows.len_rstripChars x " ,-:"
  refine Qec (fun _=>⟨_,rfl,rfl,x," ,-:",rfl,rfl,by omega,sp2 H2 _ s4 (Qci hx) (by omega)⟩) (fun _=>sp2 H2 x s4 hx (by omega))
end
section
variable {P : Program} {w : World} {K : PySem.W.Frag} {mg : Str → Option Value} {base : Heap} {a : Adr}
theorem QdW {fd:FuncData} (F:Fun K "_law_card_by" "_law_card_by" YO a.f_l_card_by fd) (T:Txt K mg a) (FF:Z1 K a):Qw P w K mg base CX0 4 a.f_l_card_by fd ["_law_shape","_law_cells"] QaY:=by
 obtain ⟨fdW,F_l_word_by,b_l_word_by⟩:=FF.F_l_word_by
 have G_l_word_by:Qw P w K mg base CX0 1 a.f_l_word_by fdW ["_law_shape","_law_k"] Ul:=Ut F_l_word_by T
 obtain ⟨fdT,F_l_parts_by,b_l_parts_by⟩:=FF.F_l_parts_by
 have G_l_parts_by:Qw P w K mg base CX0 3 a.f_l_parts_by fdT ["_law_shape","_law_cells"] Gg:=Qct F_l_parts_by T FF
 refine F.ok JN (fun vs H Q E h=>?_) (fun cdv A outer s H vs Q E hr h=>?_)
 ·obtain ⟨sh,p,cs,rfl,_⟩:=h;rfl
 ·obtain ⟨sh,p,cs,rfl,hs0,hs1,hp,hc,hl,k⟩:=h
  have hr_l_word_by:QG 1 _:=hr.mono (by decide)
  have hr_l_parts_by:QG 3 _:=hr
  obtain ⟨z9,e9,b90,b91⟩:=JR hc 9 (by decide) (by omega)
  have sq:∀{H1:Hp},Qm H H1→SqL K H1 p (cs.map V.int):=fun s1=>SqL.of (s1 _ _ hp)
  refine ⟨_,(Qb (Qv (i:=2) JN.nd rfl (Or.inl rfl) (Qx G_l_word_by hr_l_word_by rfl T.m_l_word_by F_l_word_by.kp b_l_word_by .nil Qy (pac (pv 0) (pac (Ql QP (Qn QA (pv 1) Qa (fun _ _=>rfl)) Qa) Qf))))
   (Qb (Qv (i:=3) JN.nd rfl (Or.inl rfl) (UF Qq))
   (Qb (Z5 PassesOwn.never rfl (JJ rfl T.b_range (pac (Ql QP (Ql QT (Qn QA (pv 1) Qa (fun _ _=>rfl)) Qa) Qa) Qf)) (QR (i:=4) JN.nd rfl (Or.inl rfl)) (Qb (Qv (i:=5) JN.nd rfl (Or.inl rfl) (Qx G_l_word_by hr_l_word_by rfl T.m_l_word_by F_l_word_by.kp b_l_word_by .nil Qy (pac (pv 0) (pac (Ql QP (Ql QT (Qn QA (pv 1) Qa (fun _ _=>rfl)) (Ql ZE Qa (Ql Yr Qa (pv 4)))) Qa) Qf))))
   (Qd (QK (Qr Qap (pv 5) (pv 3) (by with_unfolding_all rfl)) (Qd (Q9 (Z8 PySem.F.plainAttrs_list PySem.F.slot_list_append PySem.F.type_list_append Q3 (pv 3) (pac (pv 5) Qf)))) QB))))
   (Qd (Qo (Qal (Qc (Qx G_l_parts_by hr_l_parts_by rfl T.m_l_parts_by F_l_parts_by.kp b_l_parts_by .nil Qy (pac (pv 0) (pac (pv 1) Qf))) (Qc (pv 2) (Qc (QO Xm rfl T.b_sorted PyProof.Rows.boot_sorted (pac (pv 3) Qf)) Qq))))))))),?_⟩
  have m0:0≤z9 % 5:=Int.emod_nonneg _ (by decide)
  have m1:z9 % 5<5:=Int.emod_lt_of_pos _ (by decide)
  refine ⟨_,rfl,_,rfl,p,_,_,_,rfl,rfl,sq (Qm.refl H),e9,_,_,rfl,rfl,(by show (0:Int)<5;decide),?_⟩
  refine ⟨sh,z9 % 5,rfl,hs0,by omega,m0,by omega,fun H1 s1=>?_⟩
  refine ⟨(by show 0≤sizeLine;decide),fun m hm=>?_⟩
  have nm:H m=none:=s1.free hm
  have s2:Qm H (upd H1 m (.lst [])):=s1.upd_of nm
  have n0:0≤z9 / 5 % 4:=Int.emod_nonneg _ (by decide)
  have n1:z9 / 5 % 4<4:=Int.emod_lt_of_pos _ (by decide)
  refine ⟨_,rfl,p,_,_,_,rfl,rfl,sq s2,e9,_,_,rfl,rfl,⟨by decide,by decide⟩,_,_,rfl,rfl,(by show (0:Int)<4;decide),z9 / 5 % 4,rfl,by omega,by omega,Yd (n:=(z9 / 5 % 4).toNat) (fun i σ H2=>∃(ms:List Str) (o4 o5:Option V),σ=[some (.int sh),some (.ref p),some (.str (ZO sh (z9 % 5))),some (.ref m),o4,o5]∧Qm H H2∧H2 m=some (.lst (ms.map V.str))∧ms.length≤i∧ms.Nodup∧∀x∈ms,Q4 x)
   ⟨[],none,none,rfl,s2,Qh,Nat.le_refl _,List.nodup_nil,fun _ z=>nomatch z⟩ ?_ ?_⟩
  ·rintro i σ H2 hi ⟨ms,o4,o5,rfl,s3,hm3,hl3,nd3,hw3⟩
   have hi4:i<4:=by omega
   have dv:(0:Int)<20+5*(0+(i:Int)):=by omega
   have dv2:20+5*(0+(i:Int))<1073741824:=by omega
   have k0:0≤z9 / (20+5*(0+(i:Int))) % 5:=Int.emod_nonneg _ (by decide)
   have k1:z9 / (20+5*(0+(i:Int))) % 5<5:=Int.emod_lt_of_pos _ (by decide)
   refine ⟨_,rfl,_,rfl,p,_,_,_,rfl,rfl,sq s3,e9,_,rfl,_,_,rfl,rfl,.inl ⟨by decide,by decide⟩,_,_,rfl,rfl,_,_,rfl,rfl,⟨dv,dv2⟩,_,_,rfl,rfl,(by show (0:Int)<5;decide),?_⟩
   refine ⟨sh,z9 / (20+5*(0+(i:Int))) % 5,rfl,hs0,by omega,k0,by omega,fun H3 s4=>?_⟩
   have hm4:=s4 _ _ hm3
   have s5:=s3.trans s4
   have hwd:Q4 (ZO sh (z9 / (20+5*(0+(i:Int))) % 5)):=JY k0 (by omega)
   generalize ZO sh (z9 / (20+5*(0+(i:Int))) % 5)=wd at hwd
   refine ⟨_,rfl,_,rfl,m,_,rfl,.inl (SqL.of hm4),rfl,Ye _,_,rfl,?_⟩
   rw [if_pos rfl,Y3]
   by_cases hin:wd∈ms
   ·rw [decide_eq_true hin]
    exact QU ⟨ms,_,_,rfl,s5,hm4,by omega,nd3,hw3⟩
   ·rw [decide_eq_false hin]
    refine Zc ⟨_,rfl,.inl ⟨rfl,_,SqL.of hm4⟩,_,rfl,m,_,_,rfl,rfl,hm4,(by rw [List.length_map];exact Qj (by omega)),?_⟩
    refine ⟨ms++[wd],_,_,rfl,s5.upd_of nm,by rw [Qh,List.map_append];rfl,by rw [List.length_append,List.length_singleton];omega,?_,fun x hx=>?_⟩
    ·rw [List.nodup_append]
     exact ⟨nd3,List.pairwise_singleton _ _,fun x hx y hy e=>hin (by rw [List.mem_singleton.mp hy] at e;rw [←e];exact hx)⟩
    ·rcases List.mem_append.mp hx with hx | hx
     ·exact hw3 x hx
     ·rw [List.mem_singleton.mp hx];exact hwd
  ·rintro σ H2 ⟨ms,o4,o5,rfl,s3,hm3,hl3,nd3,hw3⟩
   refine ⟨_,rfl,_,rfl,?_⟩
   refine ⟨sh,p,cs,rfl,hs0,hs1,s3 _ _ hp,hc,hl,fun q s t b d an H3 g nq s4 hq=>?_⟩
   refine ⟨_,rfl,_,rfl,m,ms,rfl,SqL.of (s4 _ _ hm3),by omega,fun m2 hm2=>?_⟩
   have s5:=s3.trans s4
   have s6:Qm H (upd H3 m2 (.lst ((ZG ms).map V.str))):=s5.upd_of (s5.free hm2)
   have q6:(upd H3 m2 (.lst ((ZG ms).map V.str))) q=some (.tup [.str s,.str t,.str b,.int d,.str an]):=by rw [Qk (Qu hq hm2)];exact hq
   have g6:(upd H3 m2 (.lst ((ZG ms).map V.str))) m2=some (.lst ((ZG ms).map V.str)):=Qh
   refine ⟨(by show 3≤sizeLine;decide),fun u hu=>?_⟩
   exact k u q m2 s t b d an _ ms _ g (JY m0 (by omega)) hw3 nd3 (by omega) (s6.upd_of (s6.free hu)) Qh (by rw [Qk (Qu q6 hu)];exact q6) (s5.free hm2) (by rw [Qk (Qu g6 hu)];exact g6)
end
abbrev cfs (y:Addr) (fo:Str) (g:Addr):List (Str×V):=[("letter",.ref y),("box",.str fo),("signs",.ref g)]
def Yh (a:Adr) (H:Hp) (x g:Addr) (s t b:Str) (d:Int) (an fo:Str) (ms:List Str):Prop:=(∃dx y,H x=some (.ins a.C_Card dx (cfs y fo g))∧ZN a H y s t b d an)∧H g=some (.lst (ms.map V.str))
theorem Yh.mono {a:Adr} {H H':Hp} {x g:Addr} {s t b:Str} {d:Int} {an fo:Str} {ms:List Str} (h:Yh a H x g s t b d an fo ms) (q:Qm H H'):Yh a H' x g s t b d an fo ms:=let ⟨⟨dx,y,e,l⟩,eg⟩:=h;⟨⟨dx,y,q _ _ e,l.mono q⟩,q _ _ eg⟩
theorem Yh.list {a:Adr} {H:Hp} {x g l:Addr} {s t b:Str} {d:Int} {an fo:Str} {ms:List Str} {xs ys:List V} (h:Yh a H x g s t b d an fo ms) (e:H l=some (.lst xs)) (ne:g≠l):Yh a (upd H l (.lst ys)) x g s t b d an fo ms:=by
 obtain ⟨⟨dx,y,ex,hy⟩,eg⟩:=h
 exact ⟨⟨dx,y,by rw [Qk (Zq ex e (fun z=>nomatch z))];exact ex,hy.list e⟩,by rw [Qk ne];exact eg⟩
def WF (H:Hp) (m:V) (ss:List Str):Prop:=(m=.non∧ss=[])∨∃p,m=.ref p∧(H p=some (.lst (ss.map V.str))∨H p=some (.tup (ss.map V.str)))
theorem WF.mono {H H':Hp} {m:V} {ss:List Str} (h:WF H m ss) (q:Qm H H'):WF H' m ss:=by
 rcases h with h | ⟨p,e,h | h⟩
 ·exact .inl h
 ·exact .inr ⟨p,e,.inl (q _ _ h)⟩
 ·exact .inr ⟨p,e,.inr (q _ _ h)⟩
def QeS (a:Adr):Sp:=fun vs H Q _=>∃x s t b d an,vs=[.ref x]∧ZN a H x s t b d an∧KS s t b d an∧∀y H',H y=none→Qm H H'→ZN a H' y s t b d an→Q (.ref y) H'
def XD (a:Adr):Sp:=fun vs H Q _=>∃x dx lt fo m s t b d an ss,vs=[.ref x,.ref lt,.str fo,m]∧H x=some (.ins a.C_Card dx [])∧ZN a H lt s t b d an∧KS s t b d an∧WF H m ss∧ss.length≤60 ∧
 ∀H' g,(∀c o,c≠x→H c=some o→H' c=some o)→H g=none→Yh a H' x g s t b d an fo (SS ss)→Q .non H'
theorem Qbj {a:Adr} {s t b:Str} {d:Int} {an fo:Str} {m:V} {ss:List Str} {H:Hp} {R:VK} {E:XK} {x dx lt:Addr} (hx:H x=none) (hd:H dx=none) (ne:dx≠x) (hl:ZN a H lt s t b d an) (gd:KS s t b d an) (hm:WF H m ss) (hz:ss.length≤60)
 (k:∀H' g,Qm H H'→H g=none→Yh a H' x g s t b d an fo (SS ss)→R .non H'):XD a [.ref x,.ref lt,.str fo,m] (upd (upd H dx (.own x)) x (.ins a.C_Card dx [])) R E:=by
 have sm:Qm H (upd (upd H dx (.own x)) x (.ins a.C_Card dx [])):=fun c o e=>by rw [Qk (Qu e hx),Qk (Qu e hd)];exact e
 refine ⟨x,dx,lt,fo,m,s,t,b,d,an,ss,rfl,Qh,hl.mono sm,gd,hm.mono sm,hz,fun H' g hs ng hc=>k H' g (fun c o e=>hs c o (Qu e hx) (sm _ _ e)) (sm.free ng) hc⟩
section
variable {P : Program} {w : World} {K : PySem.W.Frag} {mg : Str → Option Value} {base : Heap} {a : Adr}
theorem Qhe {fd:FuncData} (F:Fun K "twin" "Letter.twin" JP a.f_Letter_twin fd) (T:Txt K mg a) (FF:Z1 K a):Qw P w K mg base CX0 7 a.f_Letter_twin fd ["self"] (QeS a):=by
 obtain ⟨fdA,F_init,b_Letter_init,_⟩:=FF.F_Letter_init
 have G_Letter_init:Qw P w K mg base CX0 5 a.f_Letter_init fdA ["self","sender","title","body","day","answers"] (G9 a):=Qdl F_init T FF
 refine F.ok U1 (fun vs H Q E h=>?_) (fun cdv A outer s H vs Q E hr h=>?_)
 ·obtain ⟨x,s,t,b,d,an,rfl,_⟩:=h;rfl
 ·obtain ⟨x,s,t,b,d,an,rfl,hL,g,k⟩:=h
  have hr_Letter_mk:QG 6 _:=hr
  obtain ⟨dx,f,hx⟩:=hL.at
  refine ⟨_,(Qb (Qv (i:=1) U1.nd rfl (Or.inl rfl) (ZA T.k_Letter G_Letter_init hr_Letter_mk rfl T.mc_Letter b_Letter_init .nil Qy (pac (QC (pv 0) rfl) (pac (QC (pv 0) rfl) (pac (QC (pv 0) rfl) (pac (QC (pv 0) rfl) (pac (QC (pv 0) rfl) Qf)))))))
   (Qb (Jt (pv 1) (QC (pv 0) rfl) rfl)
   (Qd (Qo (pv 1))))),?_⟩
  refine ⟨_,rfl,x,_,dx,_,_,rfl,hx,T.c_Letter,T.n_Letter_sender,rfl,_,rfl,x,_,dx,_,_,rfl,hx,T.c_Letter,T.n_Letter_title,rfl,_,rfl,x,_,dx,_,_,rfl,hx,T.c_Letter,T.n_Letter_body,rfl,_,rfl,x,_,dx,_,_,rfl,hx,T.c_Letter,T.n_Letter_day,rfl,_,rfl,x,_,dx,_,_,rfl,hx,T.c_Letter,T.n_Letter_answers,rfl,fun y dy ny nd ne=>Kl ny nd ne g fun H1 s1 hy=>⟨rfl,?_⟩⟩
  obtain ⟨dy2,f2,ey⟩:=hy.at
  refine ⟨_,rfl,x,_,dx,_,_,rfl,s1 _ _ hx,T.c_Letter,T.n_Letter_found,rfl,_,rfl,y,_,dy2,_,rfl,ey,T.c_Letter,T.n_Letter_found,(by show 6<1000;decide),?_⟩
  refine ⟨_,rfl,k y _ ny (s1.upd_of ny) ?_⟩
  rcases hL with ⟨dx',hx'⟩ | ⟨D,⟨dx',hx'⟩,hD⟩
  ·have e:=hx.symm.trans hx'
   injection e with e
   injection e with _ _ e
   simp only [List.cons.injEq,Prod.mk.injEq,true_and,and_true] at e
   subst e
   exact .inl ⟨dy2,Qh⟩
  ·have e:=hx.symm.trans hx'
   injection e with e
   injection e with _ _ e
   simp only [List.cons.injEq,Prod.mk.injEq,true_and,and_true] at e
   subst e
   exact .inr ⟨D,⟨dy2,Qh⟩,by rw [Qk (Qu hD ny)];exact s1 _ _ hD⟩
theorem Qbf {fd:FuncData} (F:Qb4 K "__init__" "Card.__init__" QI a.f_Card_init fd) (T:Txt K mg a) (FF:Z1 K a):Qw P w K mg base CX0 8 a.f_Card_init fd ["self","letter","folder","marks"] (XD a):=by
 obtain ⟨fdA,F_Letter_twin,b_Letter_twin⟩:=FF.F_Letter_twin
 have G_Letter_twin:Qw P w K mg base CX0 7 a.f_Letter_twin fdA ["self"] (QeS a):=Qhe F_Letter_twin T FF
 refine F.ok Qag (fun vs H Q E h=>?_) (fun cdv A outer st H vs Q E hr h=>?_)
 ·obtain ⟨x,dx,lt,fo,m,s,t,b,d,an,ss,rfl,_⟩:=h;rfl
 ·obtain ⟨x,dx,lt,fo,m,s,t,b,d,an,ss,rfl,hx,hl,gd,hm,hz,k⟩:=h
  have hr_Letter_twin:QG 7 _:=hr
  refine ⟨_,(Qb (Jt (pv 0) (YZ (pv 1) T.c_Letter T.M_Letter_twin G_Letter_twin hr_Letter_twin b_Letter_twin .nil Qy) rfl)
   (Qb (Jt (pv 0) (pv 2) rfl)
   (Qd (Jt (pv 0) (Kd (Qr QfH (pv 3) Qan (Qz _)) (UF Qq) (QO (Xx rfl) rfl T.b_sorted PyProof.Rows.boot_sorted (pac (Z3 (QbW rfl) rfl T.b_set PyProof.Rows.boot_set (pac (pv 3) Qf)) Qf))) rfl)))),?_⟩
  obtain ⟨dl,fl,el⟩:=hl.at
  refine ⟨_,rfl,lt,dl,_,rfl,el,rfl,lt,s,t,b,d,an,rfl,hl,gd,fun y H1 ny s1 hy=>?_⟩
  have hx1:=s1 _ _ hx
  have xy:x≠y:=Qu hx ny
  refine ⟨_,rfl,x,_,dx,_,rfl,hx1,T.c_Card,T.n_Card_letter,(by show 0<1000;decide),?_⟩
  refine ⟨_,rfl,_,rfl,x,_,dx,_,rfl,Qh,T.c_Card,T.n_Card_box,(by show 1<1000;decide),?_⟩
  rw [G4]
  generalize hH2:upd H1 x (.ins a.C_Card dx (YW "box" (.str fo) (YW "letter" (.ref y) [])))=H2
  have kp2:∀c o,c≠x→H1 c=some o→H2 c=some o:=fun c o n e=>by rw [←hH2,Qk n];exact e
  have hx2:H2 x=some (.ins a.C_Card dx [("letter",.ref y),("box",.str fo)]):=by rw [←hH2];exact Qh
  have yx:y≠x:=xy.symm
  have hy2:ZN a H2 y s t b d an:=hy.other yx hx1 kp2
  have fin:∀(H3:Hp) (g:Addr) (ms:List Str),Qm H2 H3→H3 g=none→ms=SS ss →
   ∃a_1 C dx_1 fs,V.ref x=.ref a_1∧(upd H3 g (.lst (ms.map V.str))) a_1=some (.ins C dx_1 fs)∧Cls K C∧QD K C "signs"∧fs.length<1000∧Q .non (upd (upd H3 g (.lst (ms.map V.str))) a_1 (.ins C dx_1 (YW "signs" (.ref g) fs))):=by
   intro H3 g ms s3 ng hms
   have hx3:=s3 _ _ hx2
   have xg:x≠g:=Qu hx3 ng
   refine ⟨x,_,dx,_,rfl,(by rw [Qk xg];exact hx3),T.c_Card,T.n_Card_signs,(by show 2<1000;decide),?_⟩
   have ng2:H2 g=none:=s3.free ng
   have gH:H g=none:=by
    cases e:H g with
    | none=>rfl
    | some o=>rw [kp2 g o xg.symm (s1 _ _ e)] at ng2;cases ng2
   have hy3:ZN a (upd H3 g (.lst (ms.map V.str))) y s t b d an:=(hy2.mono s3).mono (Qm.upd_new ng)
   refine k _ g (fun c o n e=>?_) gH ⟨⟨dx,y,Qh,?_⟩,?_⟩
   ·have e3:=s3 _ _ (kp2 c o n (s1 _ _ e))
    rw [Qk n,Qk (Qu e3 ng)]
    exact e3
   ·exact hy3.other yx (by rw [Qk xg];exact hx3) fun c o n e=>by rw [Qk n];exact e
   ·rw [Qk xg.symm,Qh,hms]
  rcases hm with ⟨rfl,rfl⟩ | ⟨p,rfl,hS⟩
  ·refine ⟨_,rfl,rfl,_,rfl,Zc ⟨(by show 0≤sizeLine;decide),fun g ng=>⟨_,rfl,?_⟩⟩⟩
   obtain ⟨p1,p2,p3,p4,q1,q2,q3,q4,q5,q6⟩:=fin H2 g [] (Qm.refl _) ng rfl
   exact ⟨p1,p2,p3,p4,q1,q2,q3,q4,q5,q6⟩
  ·have hS2:SqL K H2 p (ss.map V.str)∨SqT K H2 p (ss.map V.str):=by
    rcases hS with hS | hS
    ·exact .inl (SqL.of (kp2 _ _ (Zq hS hx (fun z=>nomatch z)) (s1 _ _ hS)))
    ·exact .inr (SqT.of (kp2 _ _ (Zq hS hx (fun z=>nomatch z)) (s1 _ _ hS)))
   refine ⟨_,rfl,rfl,_,rfl,QU ⟨_,rfl,p,ss,rfl,hS2,by omega,fun l nl=>?_⟩⟩
   have s3:Qm H2 (upd H2 l (QcI P w l (dd ss))):=Qm.upd_new nl
   have hdl:=Qgy ss
   refine ⟨l,dd ss,rfl,Qh,by omega,fun g ng=>⟨_,rfl,?_⟩⟩
   obtain ⟨p1,p2,p3,p4,q1,q2,q3,q4,q5,q6⟩:=fin _ g (SS ss) s3 ng rfl
   exact ⟨p1,p2,p3,p4,q1,q2,q3,q4,q5,q6⟩
end
def KL (a:Adr) (H H':Hp):Prop:=∀c o,H c=some o→H' c=some o∨∃dx f s t b d an D,o=.ins a.C_Letter dx (lfs s t b d an f)∧QcK a H' c s t b d an D
theorem KL.of {a:Adr} {H H':Hp} (h:Qm H H'):KL a H H':=fun c o e=>.inl (h c o e)
theorem KL.refl (a:Adr) (H:Hp):KL a H H:=fun c o e=>.inl e
theorem KL.keep {a:Adr} {H H':Hp} {c:Addr} {o:HO} (k:KL a H H') (e:H c=some o) (n:Qbw o=true):H' c=some o:=by
 rcases k c o e with z | ⟨_,_,_,_,_,_,_,_,rfl,_⟩
 ·exact z
 ·cases n
theorem KL.inst {a:Adr} {H H':Hp} {c C dx:Addr} {fs:List (Str×V)} (k:KL a H H') (e:H c=some (.ins C dx fs)) (n:fs.lookup ("found":Str)=none):H' c=some (.ins C dx fs):=by
 rcases k c _ e with z | ⟨dx',f,s,t,b,d,an,D,q,_⟩
 ·exact z
 ·injection q with _ _ q
  subst q
  exact absurd (show some f=none from n) (by simp)
theorem Qdn {s t b s' t' b':Str} {d d':Int} {an an':Str} {f f':V} (h:lfs s t b d an f=lfs s' t' b' d' an' f'):s=s'∧t=t'∧b=b'∧d=d'∧an=an'∧f=f':=by
 simp only [List.cons.injEq,Prod.mk.injEq,true_and,and_true,V.str.injEq,V.int.injEq] at h
 exact h
theorem QcK.kl {a:Adr} {H H':Hp} {x:Addr} {s t b:Str} {d:Int} {an:Str} {D:Addr} (h:QcK a H x s t b d an D) (k:KL a H H'):∃D',QcK a H' x s t b d an D':=by
 obtain ⟨⟨dx,e⟩,eD⟩:=h
 rcases k x _ e with z | ⟨dx',f,s',t',b',d',an',D',q,hk⟩
 ·exact ⟨D,⟨dx,z⟩,k.keep eD rfl⟩
 ·injection q with _ _ q
  obtain ⟨rfl,rfl,rfl,rfl,rfl,_⟩:=Qdn q
  exact ⟨D',hk⟩
theorem KL.trans {a:Adr} {H H1 H2:Hp} (h:KL a H H1) (g:KL a H1 H2):KL a H H2:=fun c o e=>by
 rcases h c o e with z | ⟨dx,f,s,t,b,d,an,D,rfl,hk⟩
 ·exact g c o z
 ·obtain ⟨D',hk'⟩:=hk.kl g
  exact .inr ⟨dx,f,s,t,b,d,an,D',rfl,hk'⟩
theorem ZN.kl {a:Adr} {H H':Hp} {x:Addr} {s t b:Str} {d:Int} {an:Str} (h:ZN a H x s t b d an) (k:KL a H H'):ZN a H' x s t b d an:=by
 rcases h with ⟨dx,e⟩ | ⟨D,hk⟩
 ·rcases k x _ e with z | ⟨dx',f,s',t',b',d',an',D',q,hk⟩
  ·exact .inl ⟨dx,z⟩
  ·injection q with _ _ q
   obtain ⟨rfl,rfl,rfl,rfl,rfl,_⟩:=Qdn q
   exact .inr ⟨D',hk⟩
 ·exact .inr (hk.kl k)
theorem KL.free {a:Adr} {H H':Hp} {p:Addr} (k:KL a H H') (n:H' p=none):H p=none:=by
 cases e:H p with
 | none=>rfl
 | some o =>
   rcases k p o e with z | ⟨_,_,_,_,_,_,_,_,_,⟨dx,z⟩,_⟩
   ·rw [n] at z;cases z
   ·rw [n] at z;cases z
theorem KL.upd_of {a:Adr} {H H':Hp} {p:Addr} {o:HO} (k:KL a H H') (hp:H p=none) (hn:∀kv,H' p≠some (.dK kv)):KL a H (upd H' p o):=fun c u e=>by
 have cp:c≠p:=fun z=>by rw [z,hp] at e;cases e
 rcases k c u e with z | ⟨dx,f,s,t,b,d,an,D,q,⟨dx',z⟩,zD⟩
 ·exact .inl (by rw [Qk cp];exact z)
 ·exact .inr ⟨dx,f,s,t,b,d,an,D,q,⟨dx',by rw [Qk cp];exact z⟩,by rw [Qk (fun y=>hn _ (by rw [←y];exact zD))];exact zD⟩
theorem KL.known {a:Adr} {H H':Hp} {x:Addr} {s t b:Str} {d:Int} {an:Str} {D:Addr} (h:ZN a H x s t b d an) (q:SX x H H') (hk:QcK a H' x s t b d an D):KL a H H':=fun c o e=>by
 by_cases z:c=x
 ·subst z
  obtain ⟨dx,f,e'⟩:=h.at
  rw [e'] at e
  cases e
  exact .inr ⟨dx,f,s,t,b,d,an,D,rfl,hk⟩
 ·exact .inl (q c o z e)
structure CD where
 s:Str
 t:Str
 b:Str
 d:Int
 an:Str
 fo:Str
 ms:List Str
structure ZC (c:CD):Prop where
 g:KS c.s c.t c.b c.d c.an
 f:Q4 c.fo
 m:∀x∈c.ms,Q4 x
 l:c.ms.length≤50
def Yt (a:Adr) (H:Hp) (x:Addr) (c:CD):Prop:=∃g,Yh a H x g c.s c.t c.b c.d c.an c.fo c.ms
theorem Yt.kl {a:Adr} {H H':Hp} {x:Addr} {c:CD} (h:Yt a H x c) (k:KL a H H'):Yt a H' x c:=by
 obtain ⟨g,⟨dx,y,e,l⟩,eg⟩:=h
 exact ⟨g,⟨dx,y,k.inst e rfl,l.kl k⟩,k.keep eg rfl⟩
inductive Zl (a:Adr) (H:Hp):List V→List CD→Prop
 | nil:Zl a H [] []
 | cons {x:Addr} {c:CD} {xs:List V} {cs:List CD}:Yt a H x c→Zl a H xs cs→Zl a H (.ref x :: xs) (c :: cs)
theorem Zl.kl {a:Adr} {H H':Hp} {xs:List V} {cs:List CD} (h:Zl a H xs cs) (k:KL a H H'):Zl a H' xs cs:=by
 induction h with
 | nil=>exact .nil
 | cons h _ ih=>exact .cons (h.kl k) ih
theorem Zl.len {a:Adr} {H:Hp} {xs:List V} {cs:List CD} (h:Zl a H xs cs):xs.length=cs.length:=by
 induction h with
 | nil=>rfl
 | cons _ _ ih=>rw [List.length_cons,List.length_cons,ih]
theorem Zl.at {a:Adr} {H:Hp} {xs:List V} {cs:List CD} (h:Zl a H xs cs):∀(i:Nat) (v:V),xs[i]?=some v→∃x c,v=.ref x∧cs[i]?=some c∧Yt a H x c:=by
 induction h with
 | nil=>intro i v e;cases e
 | cons h _ ih =>
   intro i v e
   cases i with
   | zero=>cases e;exact ⟨_,_,rfl,rfl,h⟩
   | succ i=>exact ih i v e
inductive Tr where
 | any
 | ans
 | word (w:Str)
 | title (w:Str)
 | frm (w:Str)
 | days (l h:Int)
 | inn (w:Str)
 | mrk (w:Str)
 | nt (t:Tr)
 | thr (t:Tr)
 | bth (u v:Tr)
 | eth (u v:Tr)
def Tr.dp:Tr→Nat
 | .nt t=>t.dp+1
 | .thr t=>t.dp+1
 | .bth u v=>max u.dp v.dp+1
 | .eth u v=>max u.dp v.dp+1
 | _=>0
def DayB (l h:Int):Prop:=0≤l∧l≤9999∧0≤h∧h≤9999
inductive TAt (H:Hp):Addr→Tr→Prop
 | any {p:Addr}:H p=some (.tup [.str "any"])→TAt H p .any
 | ans {p:Addr}:H p=some (.tup [.str "answers"])→TAt H p .ans
 | word {p:Addr} {w:Str}:H p=some (.tup [.str "word",.str w])→Q4 w→TAt H p (.word w)
 | title {p:Addr} {w:Str}:H p=some (.tup [.str "title",.str w])→Q4 w→TAt H p (.title w)
 | frm {p:Addr} {w:Str}:H p=some (.tup [.str "from",.str w])→Q4 w→TAt H p (.frm w)
 | days {p:Addr} {l h:Int}:H p=some (.tup [.str "day",.int l,.int h])→DayB l h→TAt H p (.days l h)
 | inn {p:Addr} {w:Str}:H p=some (.tup [.str "in",.str w])→Q4 w→TAt H p (.inn w)
 | mrk {p:Addr} {w:Str}:H p=some (.tup [.str "marked",.str w])→Q4 w→TAt H p (.mrk w)
 | nt {p q:Addr} {t:Tr}:H p=some (.tup [.str "not",.ref q])→TAt H q t→TAt H p (.nt t)
 | thr {p q:Addr} {t:Tr}:H p=some (.tup [.str "thread",.ref q])→TAt H q t→TAt H p (.thr t)
 | bth {p q r:Addr} {u v:Tr}:H p=some (.tup [.str "both",.ref q,.ref r])→TAt H q u→TAt H r v→TAt H p (.bth u v)
 | eth {p q r:Addr} {u v:Tr}:H p=some (.tup [.str "either",.ref q,.ref r])→TAt H q u→TAt H r v→TAt H p (.eth u v)
theorem TAt.kl {a:Adr} {H H':Hp} {p:Addr} {t:Tr} (h:TAt H p t) (k:KL a H H'):TAt H' p t:=by
 induction h with
 | any e=>exact .any (k.keep e rfl)
 | ans e=>exact .ans (k.keep e rfl)
 | word e w=>exact .word (k.keep e rfl) w
 | title e w=>exact .title (k.keep e rfl) w
 | frm e w=>exact .frm (k.keep e rfl) w
 | days e b=>exact .days (k.keep e rfl) b
 | inn e w=>exact .inn (k.keep e rfl) w
 | mrk e w=>exact .mrk (k.keep e rfl) w
 | nt e _ ih=>exact .nt (k.keep e rfl) ih
 | thr e _ ih=>exact .thr (k.keep e rfl) ih
 | bth e _ _ i1 i2=>exact .bth (k.keep e rfl) i1 i2
 | eth e _ _ i1 i2=>exact .eth (k.keep e rfl) i1 i2
theorem TAt.mono {H H':Hp} {p:Addr} {t:Tr} (h:TAt H p t) (k:Qm H H'):TAt H' p t:=by
 induction h with
 | any e=>exact .any (k _ _ e)
 | ans e=>exact .ans (k _ _ e)
 | word e w=>exact .word (k _ _ e) w
 | title e w=>exact .title (k _ _ e) w
 | frm e w=>exact .frm (k _ _ e) w
 | days e b=>exact .days (k _ _ e) b
 | inn e w=>exact .inn (k _ _ e) w
 | mrk e w=>exact .mrk (k _ _ e) w
 | nt e _ ih=>exact .nt (k _ _ e) ih
 | thr e _ ih=>exact .thr (k _ _ e) ih
 | bth e _ _ i1 i2=>exact .bth (k _ _ e) i1 i2
 | eth e _ _ i1 i2=>exact .eth (k _ _ e) i1 i2
def Yw (a:Adr):Tr→Addr
 | .any=>a.C_Always
 | .ans=>a.C_DoesAnswer
 | .word _=>a.C_HasWord
 | .title _=>a.C_HasTitleWord
 | .frm _=>a.C_IsFrom
 | .days _ _=>a.C_IsOfDays
 | .inn _=>a.C_IsIn
 | .mrk _=>a.C_IsMarked
 | .nt _=>a.C_Not
 | .thr _=>a.C_InThread
 | .bth _ _=>a.C_Both
 | .eth _ _=>a.C_Either
def W3:Tr→Bool
 | .nt _ | .thr _ | .bth _ _ | .eth _ _=>false
 | _=>true
inductive QJ (a:Adr) (H:Hp):Addr→Tr→Prop
 | lf {x dx p:Addr} {t:Tr}:W3 t=true→H x=some (.ins (Yw a t) dx [("shape",.ref p)])→TAt H p t→QJ a H x t
 | nt {x dx p y:Addr} {u:Tr}:H x=some (.ins a.C_Not dx [("shape",.ref p),("inner",.ref y)])→TAt H p (.nt u)→QJ a H y u→QJ a H x (.nt u)
 | thr {x dx p y:Addr} {u:Tr}:H x=some (.ins a.C_InThread dx [("shape",.ref p),("inner",.ref y)])→TAt H p (.thr u)→QJ a H y u→QJ a H x (.thr u)
 | bth {x dx p y z:Addr} {u v:Tr}:H x=some (.ins a.C_Both dx [("shape",.ref p),("one",.ref y),("other",.ref z)])→TAt H p (.bth u v)→QJ a H y u→QJ a H z v→QJ a H x (.bth u v)
 | eth {x dx p y z:Addr} {u v:Tr}:H x=some (.ins a.C_Either dx [("shape",.ref p),("one",.ref y),("other",.ref z)])→TAt H p (.eth u v)→QJ a H y u→QJ a H z v→QJ a H x (.eth u v)
theorem QJ.kl {a:Adr} {H H':Hp} {x:Addr} {t:Tr} (h:QJ a H x t) (k:KL a H H'):QJ a H' x t:=by
 induction h with
 | lf l e t=>exact .lf l (k.inst e rfl) (t.kl k)
 | nt e t _ ih=>exact .nt (k.inst e rfl) (t.kl k) ih
 | thr e t _ ih=>exact .thr (k.inst e rfl) (t.kl k) ih
 | bth e t _ _ i1 i2=>exact .bth (k.inst e rfl) (t.kl k) i1 i2
 | eth e t _ _ i1 i2=>exact .eth (k.inst e rfl) (t.kl k) i1 i2
theorem QJ.mono {a:Adr} {H H':Hp} {x:Addr} {t:Tr} (h:QJ a H x t) (k:Qm H H'):QJ a H' x t:=h.kl (KL.of k)
def QbF (c:CD):Tr→Bool
 | .ans=>!decide (c.an="")
 | .word w=>decide (w∈wds c.t++wds c.b)
 | .title w=>decide (w∈wds c.t)
 | .frm w=>decide (c.s=w)
 | .days l h=>decide (l≤c.d) && decide (c.d≤h)
 | .inn w=>decide (c.fo=w)
 | .mrk w=>decide (w∈c.ms)
 | _=>true
def trs:Tr→List CD→List Bool
 | .nt u,cs=>(trs u cs).map (!·)
 | .thr u,cs=>(trs u cs).map fun b=>decide (((trs u cs).count true:Int) > if b then 1 else 0)
 | .bth u v,cs=>List.zipWith (·&& ·) (trs u cs) (trs v cs)
 | .eth u v,cs=>List.zipWith (·|| ·) (trs u cs) (trs v cs)
 | t,cs=>cs.map fun c=>QbF c t
def Z9:Tr→CD→List CD→Bool
 | .nt u,c,os=>!Z9 u c os
 | .thr u,c,os=>((trs u (c :: os)).drop 1).any id
 | .bth u v,c,os=>Z9 u c os && Z9 v c os
 | .eth u v,c,os=>Z9 u c os || Z9 v c os
 | t,c,_=>QbF c t
theorem Zd:∀(t:Tr) (cs:List CD),(trs t cs).length=cs.length
 | .nt u,cs=>by show ((trs u cs).map _).length=_;rw [List.length_map,Zd u]
 | .thr u,cs=>by show ((trs u cs).map _).length=_;rw [List.length_map,Zd u]
 | .bth u v,cs=>by show (List.zipWith _ _ _).length=_;rw [List.length_zipWith,Zd u,Zd v,Nat.min_self]
 | .eth u v,cs=>by show (List.zipWith _ _ _).length=_;rw [List.length_zipWith,Zd u,Zd v,Nat.min_self]
 | .any,cs=>List.length_map _
 | .ans,cs=>List.length_map _
 | .word _,cs=>List.length_map _
 | .title _,cs=>List.length_map _
 | .frm _,cs=>List.length_map _
 | .days _ _,cs=>List.length_map _
 | .inn _,cs=>List.length_map _
 | .mrk _,cs=>List.length_map _
theorem Gs {X:Cx} {ss:List Stmt}:PSs X ss (fun _ _ _=>False):=fun _ _ _ _ _ _ h=>h.elim
theorem skS {x y:Str} {A B:Prop} (h:decide (x=y)=false) (k:B):if decide (V.str x=V.str y)=true then A else B:=by
 rw [Qcc,h];exact QU k
theorem JT {x:Str} {A B:Prop} (k:A):if decide (V.str x=V.str x)=true then A else B:=by
 rw [decide_eq_true rfl];exact Zc k
theorem TAt.nin {H H':Hp} {p:Addr} {t:Tr} (h:TAt H p t) (k:∀c o,H c=some o→Qbw o=true→H' c=some o):TAt H' p t:=by
 induction h with
 | any e=>exact .any (k _ _ e rfl)
 | ans e=>exact .ans (k _ _ e rfl)
 | word e w=>exact .word (k _ _ e rfl) w
 | title e w=>exact .title (k _ _ e rfl) w
 | frm e w=>exact .frm (k _ _ e rfl) w
 | days e b=>exact .days (k _ _ e rfl) b
 | inn e w=>exact .inn (k _ _ e rfl) w
 | mrk e w=>exact .mrk (k _ _ e rfl) w
 | nt e _ ih=>exact .nt (k _ _ e rfl) ih
 | thr e _ ih=>exact .thr (k _ _ e rfl) ih
 | bth e _ _ i1 i2=>exact .bth (k _ _ e rfl) i1 i2
 | eth e _ _ i1 i2=>exact .eth (k _ _ e rfl) i1 i2
def UK (a:Adr) (H H':Hp) (y:Addr) (t:Tr):Prop:=∀H'',(∀c o,H' c=some o→(H c=none∨Qbw o=true)→H'' c=some o)→QJ a H'' y t
theorem UK.at {a:Adr} {H H':Hp} {y:Addr} {t:Tr} (h:UK a H H' y t):QJ a H' y t:=h H' fun _ _ e _=>e
def Qe7 (K:PySem.W.Frag):Sp:=fun vs H Q _=>∃x dx C p,vs=[.ref x,p]∧Cls K C∧QD K C "shape"∧H x=some (.ins C dx [])∧Q .non (upd H x (.ins C dx [("shape",p)]))
def Qaa (a:Adr) (n:Nat):Sp:=fun vs H Q _=>∃p t,vs=[.ref p]∧TAt H p t∧t.dp<n∧∀y H',Qm H H'→UK a H H' y t→Q (.ref y) H'
def spWI (K:PySem.W.Frag) (a:Adr) (n:Nat):Sp:=fun vs H Q _=>∃x dx C p s q u,vs=[.ref x,.ref p]∧Cls K C∧QD K C "shape"∧QD K C "inner"∧H x=some (.ins C dx [])∧H p=some (.tup [.str s,.ref q])∧TAt H q u∧u.dp<n ∧
 ∀y H',(∀c o,c≠x→H c=some o→H' c=some o)→H' x=some (.ins C dx [("shape",.ref p),("inner",.ref y)])→UK a H H' y u→Q .non H'
def spJI (K:PySem.W.Frag) (a:Adr) (n:Nat):Sp:=fun vs H Q _=>∃x dx C p s q u r v,vs=[.ref x,.ref p]∧Cls K C∧QD K C "shape"∧QD K C "one"∧QD K C "other"∧H x=some (.ins C dx [])∧H p=some (.tup [.str s,.ref q,.ref r])∧TAt H q u∧TAt H r v∧u.dp<n∧v.dp<n ∧
 ∀y z H',(∀c o,c≠x→H c=some o→H' c=some o)→H' x=some (.ins C dx [("shape",.ref p),("one",.ref y),("other",.ref z)])→UK a H H' y u→UK a H H' z v→Q .non H'
theorem UK.back {a:Adr} {H H1 H2:Hp} {y:Addr} {t:Tr} (h:UK a H1 H2 y t) (e0:∀c,H1 c=none→H c=none):UK a H H2 y t:=fun H'' k=>h H'' fun c u e hc=>k c u e (hc.imp (e0 c) id)
theorem UK.fwd {a:Adr} {H H1 H2:Hp} {y x:Addr} {t:Tr} (h:UK a H H1 y t) (k1:∀c o,c≠x→H1 c=some o→H2 c=some o) (hx:∀o,H1 x=some o→Qbw o=false) (hn:H x≠none):UK a H H2 y t:=fun H'' k=>h H'' fun c u e hc=>by
 have cx:c≠x:=fun z=>by
  subst z
  rcases hc with hc | hc
  ·exact hn hc
  ·rw [hx u e] at hc;cases hc
 exact k c u (k1 c u cx e) hc
theorem WY {H:Hp} {x dx C:Addr} (nx:H x=none) (nd:H dx=none):Qm H (upd (upd H dx (.own x)) x (.ins C dx [])):=fun c o e=>by rw [Qk (Qu e nx),Qk (Qu e nd)];exact e
theorem Ym {K:PySem.W.Frag} {a:Adr} {t:Tr} {H:Hp} {p:Addr} {R:VK} {E:XK} (c:Cls K (Yw a t)) (n:QD K (Yw a t) "shape") (l:W3 t=true) (tt:TAt H p t) (k:∀y H',Qm H H'→UK a H H' y t→R (.ref y) H') (x dx:Addr) (nx:H x=none) (nd:H dx=none) (ne:dx≠x) :
 Qe7 K [.ref x,.ref p] (upd (upd H dx (.own x)) x (.ins (Yw a t) dx [])) (fun v H2=>v=.non∧R (.ref x) H2) E:=by
 have s1:=WY (C:=Yw a t) nx nd
 refine ⟨x,dx,_,_,rfl,c,n,Qh,rfl,k x _ (s1.upd_of nx) fun H'' kk=>?_⟩
 refine .lf l (kk x _ Qh (.inl nx)) (tt.nin fun c o e z=>kk c o (s1.upd_of nx _ _ e) (.inr z))
theorem Qbh {K:PySem.W.Frag} {a:Adr} {n:Nat} {t u:Tr} {C:Addr} {s:Str} {H:Hp} {p q:Addr} {R:VK} {E:XK} (c:Cls K C) (n1:QD K C "shape") (n2:QD K C "inner") (tt:TAt H p t) (e:H p=some (.tup [.str s,.ref q])) (hq:TAt H q u) (hd:u.dp<n) (k:∀y H',Qm H H'→UK a H H' y t→R (.ref y) H')
 (mk:∀x dx p y H',H' x=some (.ins C dx [("shape",.ref p),("inner",.ref y)])→TAt H' p t→QJ a H' y u→QJ a H' x t) (x dx:Addr) (nx:H x=none) (nd:H dx=none) (ne:dx≠x) :
 spWI K a n [.ref x,.ref p] (upd (upd H dx (.own x)) x (.ins C dx [])) (fun v H2=>v=.non∧R (.ref x) H2) E:=by
 have s1:=WY (C:=C) nx nd
 refine ⟨x,dx,C,p,s,q,u,rfl,c,n1,n2,Qh,s1 _ _ e,hq.mono s1,hd,fun y H' kp ex cn=>⟨rfl,?_⟩⟩
 have s2:Qm H H':=fun c o z=>kp c o (Qu z nx) (s1 _ _ z)
 refine k x H' s2 fun H'' kk=>mk x dx p y H'' (kk x _ ex (.inl nx)) (tt.nin fun c o z w=>kk c o (s2 _ _ z) (.inr w)) (cn H'' fun c o z w=>kk c o z (w.imp s1.free id))
theorem Qbi {K:PySem.W.Frag} {a:Adr} {n:Nat} {t u v:Tr} {C:Addr} {s:Str} {H:Hp} {p q r:Addr} {R:VK} {E:XK} (c:Cls K C) (n1:QD K C "shape") (n2:QD K C "one") (n3:QD K C "other") (tt:TAt H p t) (e:H p=some (.tup [.str s,.ref q,.ref r])) (hq:TAt H q u) (hr:TAt H r v) (hd:u.dp<n) (hd2:v.dp<n) (k:∀y H',Qm H H'→UK a H H' y t→R (.ref y) H')
 (mk:∀x dx p y z H',H' x=some (.ins C dx [("shape",.ref p),("one",.ref y),("other",.ref z)])→TAt H' p t→QJ a H' y u→QJ a H' z v→QJ a H' x t) (x dx:Addr) (nx:H x=none) (nd:H dx=none) (ne:dx≠x) :
 spJI K a n [.ref x,.ref p] (upd (upd H dx (.own x)) x (.ins C dx [])) (fun v H2=>v=.non∧R (.ref x) H2) E:=by
 have s1:=WY (C:=C) nx nd
 refine ⟨x,dx,C,p,s,q,u,r,v,rfl,c,n1,n2,n3,Qh,s1 _ _ e,hq.mono s1,hr.mono s1,hd,hd2,fun y z H' kp ex cn cn2=>⟨rfl,?_⟩⟩
 have s2:Qm H H':=fun c o z=>kp c o (Qu z nx) (s1 _ _ z)
 refine k x H' s2 fun H'' kk=>mk x dx p y z H'' (kk x _ ex (.inl nx)) (tt.nin fun c o z w=>kk c o (s2 _ _ z) (.inr w)) (cn H'' fun c o z w=>kk c o z (w.imp s1.free id)) (cn2 H'' fun c o z w=>kk c o z (w.imp s1.free id))
section
variable {P : Program} {w : World} {K : PySem.W.Frag} {mg : Str → Option Value} {base : Heap} {a : Adr}
theorem Qf2 {fd:FuncData} (F:Fun K "__init__" "Condition.__init__" ZZ a.f_Condition_init fd) (T:Txt K mg a):Qw P w K mg base CX0 1 a.f_Condition_init fd ["self","tree"] (Qe7 K):=by
 refine F.ok Wd (fun vs H Q E h=>?_) (fun cdv A outer s H vs Q E hr h=>?_)
 ·obtain ⟨x,dx,C,p,rfl,_⟩:=h;rfl
 ·obtain ⟨x,dx,C,p,rfl,c,n,e,k⟩:=h
  exact ⟨_,(Qd (Jt (pv 0) (pv 1) rfl)),⟨_,rfl,_,rfl,x,_,dx,_,rfl,e,c,n,(by show 0<1000;decide),k⟩⟩
theorem ok_wi {fd fdc:FuncData} {n:Nat} (F:Fun K "__init__" "Wrapped.__init__" Ju a.f_Wrapped_init fd) (T:Txt K mg a) (FF:Z1 K a) (F_co:Fun K "condition_of" "condition_of" ZD a.f_condition_of fdc) (b_co:Qt K fdc ["tree"] []) (G_co:Qw P w K mg base CX0 (3*n+3) a.f_condition_of fdc ["tree"] (Qaa a n)):Qw P w K mg base CX0 (3*n+4) a.f_Wrapped_init fd ["self","tree"] (spWI K a n):=by
 obtain ⟨fdA,F_C,b_C⟩:=FF.F_Condition_init
 have G_C:Qw P w K mg base CX0 1 a.f_Condition_init fdA ["self","tree"] (Qe7 K):=Qf2 F_C T
 refine F.ok Xo (fun vs H Q E h=>?_) (fun cdv A outer st H vs Q E hr h=>?_)
 ·obtain ⟨x,dx,C,p,s,q,u,rfl,_⟩:=h;rfl
 ·obtain ⟨x,dx,C,p,s,q,u,rfl,c,n1,n2,ex,ep,hq,hd,k⟩:=h
  have hr_co:QG (3*n+3) _:=hr
  have hr_C:QG 1 _:=hr_co.mono (by omega)
  refine ⟨_,(Qb (Q9 (Qba rfl T.mc_Condition T.cf_Condition_init G_C hr_C b_C (pac (pv 0) (pac (pv 1) Qf))))
   (Qd (Jt (pv 0) (Qx G_co hr_co rfl T.m_condition_of F_co.kp b_co .nil Qy (pac (Qn Qs (pv 1) Qa (fun _ _=>rfl)) Qf)) rfl))),?_⟩
  refine ⟨_,rfl,_,rfl,x,dx,C,_,rfl,c,n1,ex,?_⟩
  have kp1:∀b o,b≠x→H b=some o→(upd H x (.ins C dx [("shape",.ref p)])) b=some o:=fun b o z e=>by rw [Qk z];exact e
  have kn1:∀b o,H b=some o→Qbw o=true→(upd H x (.ins C dx [("shape",.ref p)])) b=some o:=fun b o e z=>kp1 b o (fun y=>by rw [y,ex] at e;cases e;cases z) e
  have ex1:(upd H x (.ins C dx [("shape",.ref p)])) x=some (.ins C dx [("shape",.ref p)]):=Qh
  generalize upd H x (.ins C dx [("shape",.ref p)])=H1 at kp1 kn1 ex1 ⊢
  refine ⟨_,rfl,p,_,_,_,rfl,rfl,SqT.of (kn1 _ _ ep rfl),rfl,q,u,rfl,hq.nin kn1,hd,fun y H2 s2 cn=>?_⟩
  have ex2:=s2 _ _ ex1
  refine ⟨_,rfl,x,_,dx,_,rfl,ex2,c,n2,(by show 1<1000;decide),?_⟩
  refine k y _ (fun b o z e=>by rw [Qk z];exact s2 _ _ (kp1 b o z e)) Qh ?_
  refine (cn.fwd (x:=x) (H2:=upd H2 x _) (fun b o z e=>by rw [Qk z];exact e) (fun o z=>by rw [ex2] at z;cases z;rfl) (by rw [ex1];exact fun z=>nomatch z)).back fun b e=>?_
  cases z:H b with
  | none=>rfl
  | some o =>
    have bx:b≠x:=fun y=>by rw [y,ex1] at e;cases e
    rw [kp1 b o bx z] at e;cases e
theorem ok_ji {fd fdc:FuncData} {n:Nat} (F:Fun K "__init__" "Joined.__init__" JQ a.f_Joined_init fd) (T:Txt K mg a) (FF:Z1 K a) (F_co:Fun K "condition_of" "condition_of" ZD a.f_condition_of fdc) (b_co:Qt K fdc ["tree"] []) (G_co:Qw P w K mg base CX0 (3*n+3) a.f_condition_of fdc ["tree"] (Qaa a n)):Qw P w K mg base CX0 (3*n+4) a.f_Joined_init fd ["self","tree"] (spJI K a n):=by
 obtain ⟨fdA,F_C,b_C⟩:=FF.F_Condition_init
 have G_C:Qw P w K mg base CX0 1 a.f_Condition_init fdA ["self","tree"] (Qe7 K):=Qf2 F_C T
 refine F.ok X4 (fun vs H Q E h=>?_) (fun cdv A outer st H vs Q E hr h=>?_)
 ·obtain ⟨x,dx,C,p,s,q,u,r,v,rfl,_⟩:=h;rfl
 ·obtain ⟨x,dx,C,p,s,q,u,r,v,rfl,c,n1,n2,n3,ex,ep,hq,hr2,hd,hd2,k⟩:=h
  have hr_co:QG (3*n+3) _:=hr
  have hr_C:QG 1 _:=hr_co.mono (by omega)
  refine ⟨_,(Qb (Q9 (Qba rfl T.mc_Condition T.cf_Condition_init G_C hr_C b_C (pac (pv 0) (pac (pv 1) Qf))))
   (Qb (Jt (pv 0) (Qx G_co hr_co rfl T.m_condition_of F_co.kp b_co .nil Qy (pac (Qn Qs (pv 1) Qa (fun _ _=>rfl)) Qf)) rfl)
   (Qd (Jt (pv 0) (Qx G_co hr_co rfl T.m_condition_of F_co.kp b_co .nil Qy (pac (Qn Qs (pv 1) Qa (fun _ _=>rfl)) Qf)) rfl)))),?_⟩
  refine ⟨_,rfl,_,rfl,x,dx,C,_,rfl,c,n1,ex,?_⟩
  have kp1:∀b o,b≠x→H b=some o→(upd H x (.ins C dx [("shape",.ref p)])) b=some o:=fun b o z e=>by rw [Qk z];exact e
  have kn1:∀b o,H b=some o→Qbw o=true→(upd H x (.ins C dx [("shape",.ref p)])) b=some o:=fun b o e z=>kp1 b o (fun y=>by rw [y,ex] at e;cases e;cases z) e
  have ex1:(upd H x (.ins C dx [("shape",.ref p)])) x=some (.ins C dx [("shape",.ref p)]):=Qh
  generalize upd H x (.ins C dx [("shape",.ref p)])=H1 at kp1 kn1 ex1 ⊢
  have fr1:∀b,H1 b=none→H b=none:=fun b e=>by
   cases z:H b with
   | none=>rfl
   | some o =>
     have bx:b≠x:=fun y=>by rw [y,ex1] at e;cases e
     rw [kp1 b o bx z] at e;cases e
  refine ⟨_,rfl,p,_,_,_,rfl,rfl,SqT.of (kn1 _ _ ep rfl),rfl,q,u,rfl,hq.nin kn1,hd,fun y H2 s2 cn=>?_⟩
  have ex2:=s2 _ _ ex1
  refine ⟨_,rfl,x,_,dx,_,rfl,ex2,c,n2,(by show 1<1000;decide),?_⟩
  have kp3:∀b o,b≠x→H2 b=some o→(upd H2 x (.ins C dx (YW "one" (.ref y) [("shape",.ref p)]))) b=some o:=fun b o z e=>by rw [Qk z];exact e
  have kn3:∀b o,H2 b=some o→Qbw o=true→(upd H2 x (.ins C dx (YW "one" (.ref y) [("shape",.ref p)]))) b=some o:=fun b o e z=>kp3 b o (fun y=>by rw [y,ex2] at e;cases e;cases z) e
  have ex3:(upd H2 x (.ins C dx (YW "one" (.ref y) [("shape",.ref p)]))) x=some (.ins C dx [("shape",.ref p),("one",.ref y)]):=Qh
  generalize upd H2 x (.ins C dx (YW "one" (.ref y) [("shape",.ref p)]))=H3 at kp3 kn3 ex3 ⊢
  have cn3:UK a H1 H3 y u:=cn.fwd (x:=x) kp3 (fun o z=>by rw [ex2] at z;cases z;rfl) (by rw [ex1];exact fun z=>nomatch z)
  have kn13:∀b o,H b=some o→Qbw o=true→H3 b=some o:=fun b o e z=>kn3 b o (s2 _ _ (kn1 b o e z)) z
  refine ⟨_,rfl,p,_,_,_,rfl,rfl,SqT.of (kn13 _ _ ep rfl),rfl,r,v,rfl,hr2.nin kn13,hd2,fun y2 H4 s4 cn4=>?_⟩
  have ex4:=s4 _ _ ex3
  refine ⟨_,rfl,x,_,dx,_,rfl,ex4,c,n3,(by show 2<1000;decide),?_⟩
  refine k y y2 _ (fun b o z e=>by rw [Qk z];exact s4 _ _ (kp3 b o z (s2 _ _ (kp1 b o z e)))) Qh ?_ ?_
  ·refine UK.back (H1:=H1) ?_ fr1
   have c4:UK a H1 H4 y u:=fun H'' kk=>cn3 H'' fun c o e z=>kk c o (s4 _ _ e) z
   exact c4.fwd (x:=x) (fun b o z e=>by rw [Qk z];exact e) (fun o z=>by rw [ex4] at z;cases z;rfl) (by rw [ex1];exact fun z=>nomatch z)
  ·refine UK.back (H1:=H3) (cn4.fwd (x:=x) (fun b o z e=>by rw [Qk z];exact e) (fun o z=>by rw [ex4] at z;cases z;rfl) (by rw [ex3];exact fun z=>nomatch z)) fun b e=>?_
   have bx:b≠x:=fun y=>by rw [y,ex3] at e;cases e
   cases z:H b with
   | none=>rfl
   | some o=>rw [kp3 b o bx (s2 _ _ (kp1 b o bx z))] at e;cases e
theorem QhW {fd:FuncData} (F:Fun K "condition_of" "condition_of" ZD a.f_condition_of fd) (b_co:Qt K fd ["tree"] []) (T:Txt K mg a) (FF:Z1 K a):∀n,Qw P w K mg base CX0 (3*n+3) a.f_condition_of fd ["tree"] (Qaa a n)
 | 0=>by
   refine F.ok Yq (fun vs H Q E h=>?_) (fun cdv A outer st H vs Q E hr h=>?_)
   ·obtain ⟨p,t,rfl,_⟩:=h;rfl
   ·obtain ⟨p,t,_,_,h,_⟩:=h;exact absurd h (Nat.not_lt_zero _)
 | n+1=>by
   have G:=QhW F b_co T FF n
   obtain ⟨fdA,F_C,b_C⟩:=FF.F_Condition_init
   have G_C:Qw P w K mg base CX0 1 a.f_Condition_init fdA ["self","tree"] (Qe7 K):=Qf2 F_C T
   obtain ⟨fdB,F_W,b_W⟩:=FF.F_Wrapped_init
   have G_W:Qw P w K mg base CX0 (3*n+4) a.f_Wrapped_init fdB ["self","tree"] (spWI K a n):=ok_wi F_W T FF F b_co G
   obtain ⟨fdJ,F_J,b_J⟩:=FF.F_Joined_init
   have G_J:Qw P w K mg base CX0 (3*n+4) a.f_Joined_init fdJ ["self","tree"] (spJI K a n):=ok_ji F_J T FF F b_co G
   refine F.ok Yq (fun vs H Q E h=>?_) (fun cdv A outer st H vs Q E hr h=>?_)
   ·obtain ⟨p,t,rfl,_⟩:=h;rfl
   obtain ⟨p,t,rfl,tt,hd,k⟩:=h
   have hr_W:QG (3*n+4+1) _:=hr
   have hr_J:=hr_W
   have hr_C:QG (1+1) _:=hr_W.mono (by omega)
   refine ⟨_,(Qb (Qv (i:=1) Yq.nd rfl (Or.inl rfl) (Qn Qs (pv 0) Qa (fun _ _=>rfl)))
    (Qb (QK (Qr QZ (pv 1) Qi (Qz _)) (Qd (Qo (ZA T.k_Always G_C hr_C rfl T.mc_Always b_C .nil Qy (pac (pv 0) Qf)))) QB)
    (Qb (QK (Qr QZ (pv 1) Qi (Qz _)) (Qd (Qo (ZA T.k_HasWord G_C hr_C rfl T.mc_HasWord b_C .nil Qy (pac (pv 0) Qf)))) QB)
    (Qb (QK (Qr QZ (pv 1) Qi (Qz _)) (Qd (Qo (ZA T.k_HasTitleWord G_C hr_C rfl T.mc_HasTitleWord b_C .nil Qy (pac (pv 0) Qf)))) QB)
    (Qb (QK (Qr QZ (pv 1) Qi (Qz _)) (Qd (Qo (ZA T.k_IsFrom G_C hr_C rfl T.mc_IsFrom b_C .nil Qy (pac (pv 0) Qf)))) QB)
    (Qb (QK (Qr QZ (pv 1) Qi (Qz _)) (Qd (Qo (ZA T.k_IsOfDays G_C hr_C rfl T.mc_IsOfDays b_C .nil Qy (pac (pv 0) Qf)))) QB)
    (Qb (QK (Qr QZ (pv 1) Qi (Qz _)) (Qd (Qo (ZA T.k_IsIn G_C hr_C rfl T.mc_IsIn b_C .nil Qy (pac (pv 0) Qf)))) QB)
    (Qb (QK (Qr QZ (pv 1) Qi (Qz _)) (Qd (Qo (ZA T.k_IsMarked G_C hr_C rfl T.mc_IsMarked b_C .nil Qy (pac (pv 0) Qf)))) QB)
    (Qb (QK (Qr QZ (pv 1) Qi (Qz _)) (Qd (Qo (ZA T.k_DoesAnswer G_C hr_C rfl T.mc_DoesAnswer b_C .nil Qy (pac (pv 0) Qf)))) QB)
    (Qb (QK (Qr QZ (pv 1) Qi (Qz _)) (Qd (Qo (ZA T.k_Not G_W hr_W rfl T.mc_Not b_W .nil Qy (pac (pv 0) Qf)))) QB)
    (Qb (QK (Qr QZ (pv 1) Qi (Qz _)) (Qd (Qo (ZA T.k_Both G_J hr_J rfl T.mc_Both b_J .nil Qy (pac (pv 0) Qf)))) QB)
    (Qb (QK (Qr QZ (pv 1) Qi (Qz _)) (Qd (Qo (ZA T.k_Either G_J hr_J rfl T.mc_Either b_J .nil Qy (pac (pv 0) Qf)))) QB)
    (Qb (QK (Qr QZ (pv 1) Qi (Qz _)) (Qd (Qo (ZA T.k_InThread G_W hr_W rfl T.mc_InThread b_W .nil Qy (pac (pv 0) Qf)))) QB)
    Gs))))))))))))),?_⟩
   have tt':=tt
   cases tt' with
   | any e =>
     refine ⟨_,rfl,p,_,_,_,rfl,rfl,SqT.of e,rfl,?_⟩
     refine ⟨_,rfl,rfl,_,rfl,JT ?_⟩
     exact ⟨_,rfl,Ym (a:=a) (t:=.any) T.c_Always T.n_Always_shape rfl tt k⟩
   | word e hw =>
     refine ⟨_,rfl,p,_,_,_,rfl,rfl,SqT.of e,rfl,?_⟩
     refine ⟨_,rfl,rfl,_,rfl,skS (by decide +kernel) ?_⟩
     refine ⟨_,rfl,rfl,_,rfl,JT ?_⟩
     exact ⟨_,rfl,Ym (a:=a) (t:=.word _) T.c_HasWord T.n_HasWord_shape rfl tt k⟩
   | title e hw =>
     refine ⟨_,rfl,p,_,_,_,rfl,rfl,SqT.of e,rfl,?_⟩
     refine ⟨_,rfl,rfl,_,rfl,skS (by decide +kernel) ?_⟩
     refine ⟨_,rfl,rfl,_,rfl,skS (by decide +kernel) ?_⟩
     refine ⟨_,rfl,rfl,_,rfl,JT ?_⟩
     exact ⟨_,rfl,Ym (a:=a) (t:=.title _) T.c_HasTitleWord T.n_HasTitleWord_shape rfl tt k⟩
   | frm e hw =>
     refine ⟨_,rfl,p,_,_,_,rfl,rfl,SqT.of e,rfl,?_⟩
     refine ⟨_,rfl,rfl,_,rfl,skS (by decide +kernel) ?_⟩
     refine ⟨_,rfl,rfl,_,rfl,skS (by decide +kernel) ?_⟩
     refine ⟨_,rfl,rfl,_,rfl,skS (by decide +kernel) ?_⟩
     refine ⟨_,rfl,rfl,_,rfl,JT ?_⟩
     exact ⟨_,rfl,Ym (a:=a) (t:=.frm _) T.c_IsFrom T.n_IsFrom_shape rfl tt k⟩
   | days e hb =>
     refine ⟨_,rfl,p,_,_,_,rfl,rfl,SqT.of e,rfl,?_⟩
     refine ⟨_,rfl,rfl,_,rfl,skS (by decide +kernel) ?_⟩
     refine ⟨_,rfl,rfl,_,rfl,skS (by decide +kernel) ?_⟩
     refine ⟨_,rfl,rfl,_,rfl,skS (by decide +kernel) ?_⟩
     refine ⟨_,rfl,rfl,_,rfl,skS (by decide +kernel) ?_⟩
     refine ⟨_,rfl,rfl,_,rfl,JT ?_⟩
     exact ⟨_,rfl,Ym (a:=a) (t:=.days _ _) T.c_IsOfDays T.n_IsOfDays_shape rfl tt k⟩
   | inn e hw =>
     refine ⟨_,rfl,p,_,_,_,rfl,rfl,SqT.of e,rfl,?_⟩
     refine ⟨_,rfl,rfl,_,rfl,skS (by decide +kernel) ?_⟩
     refine ⟨_,rfl,rfl,_,rfl,skS (by decide +kernel) ?_⟩
     refine ⟨_,rfl,rfl,_,rfl,skS (by decide +kernel) ?_⟩
     refine ⟨_,rfl,rfl,_,rfl,skS (by decide +kernel) ?_⟩
     refine ⟨_,rfl,rfl,_,rfl,skS (by decide +kernel) ?_⟩
     refine ⟨_,rfl,rfl,_,rfl,JT ?_⟩
     exact ⟨_,rfl,Ym (a:=a) (t:=.inn _) T.c_IsIn T.n_IsIn_shape rfl tt k⟩
   | mrk e hw =>
     refine ⟨_,rfl,p,_,_,_,rfl,rfl,SqT.of e,rfl,?_⟩
     refine ⟨_,rfl,rfl,_,rfl,skS (by decide +kernel) ?_⟩
     refine ⟨_,rfl,rfl,_,rfl,skS (by decide +kernel) ?_⟩
     refine ⟨_,rfl,rfl,_,rfl,skS (by decide +kernel) ?_⟩
     refine ⟨_,rfl,rfl,_,rfl,skS (by decide +kernel) ?_⟩
     refine ⟨_,rfl,rfl,_,rfl,skS (by decide +kernel) ?_⟩
     refine ⟨_,rfl,rfl,_,rfl,skS (by decide +kernel) ?_⟩
     refine ⟨_,rfl,rfl,_,rfl,JT ?_⟩
     exact ⟨_,rfl,Ym (a:=a) (t:=.mrk _) T.c_IsMarked T.n_IsMarked_shape rfl tt k⟩
   | ans e =>
     refine ⟨_,rfl,p,_,_,_,rfl,rfl,SqT.of e,rfl,?_⟩
     refine ⟨_,rfl,rfl,_,rfl,skS (by decide +kernel) ?_⟩
     refine ⟨_,rfl,rfl,_,rfl,skS (by decide +kernel) ?_⟩
     refine ⟨_,rfl,rfl,_,rfl,skS (by decide +kernel) ?_⟩
     refine ⟨_,rfl,rfl,_,rfl,skS (by decide +kernel) ?_⟩
     refine ⟨_,rfl,rfl,_,rfl,skS (by decide +kernel) ?_⟩
     refine ⟨_,rfl,rfl,_,rfl,skS (by decide +kernel) ?_⟩
     refine ⟨_,rfl,rfl,_,rfl,skS (by decide +kernel) ?_⟩
     refine ⟨_,rfl,rfl,_,rfl,JT ?_⟩
     exact ⟨_,rfl,Ym (a:=a) (t:=.ans) T.c_DoesAnswer T.n_DoesAnswer_shape rfl tt k⟩
   | nt e hq =>
     refine ⟨_,rfl,p,_,_,_,rfl,rfl,SqT.of e,rfl,?_⟩
     refine ⟨_,rfl,rfl,_,rfl,skS (by decide +kernel) ?_⟩
     refine ⟨_,rfl,rfl,_,rfl,skS (by decide +kernel) ?_⟩
     refine ⟨_,rfl,rfl,_,rfl,skS (by decide +kernel) ?_⟩
     refine ⟨_,rfl,rfl,_,rfl,skS (by decide +kernel) ?_⟩
     refine ⟨_,rfl,rfl,_,rfl,skS (by decide +kernel) ?_⟩
     refine ⟨_,rfl,rfl,_,rfl,skS (by decide +kernel) ?_⟩
     refine ⟨_,rfl,rfl,_,rfl,skS (by decide +kernel) ?_⟩
     refine ⟨_,rfl,rfl,_,rfl,skS (by decide +kernel) ?_⟩
     refine ⟨_,rfl,rfl,_,rfl,JT ?_⟩
     exact ⟨_,rfl,Qbh (a:=a) (n:=n) T.c_Not T.n_Not_shape T.n_Not_inner tt e hq (by simp only [Tr.dp] at hd;omega) k fun x dx p' y H' h1 h2 h3=>.nt h1 h2 h3⟩
   | bth e hq hr2 =>
     refine ⟨_,rfl,p,_,_,_,rfl,rfl,SqT.of e,rfl,?_⟩
     refine ⟨_,rfl,rfl,_,rfl,skS (by decide +kernel) ?_⟩
     refine ⟨_,rfl,rfl,_,rfl,skS (by decide +kernel) ?_⟩
     refine ⟨_,rfl,rfl,_,rfl,skS (by decide +kernel) ?_⟩
     refine ⟨_,rfl,rfl,_,rfl,skS (by decide +kernel) ?_⟩
     refine ⟨_,rfl,rfl,_,rfl,skS (by decide +kernel) ?_⟩
     refine ⟨_,rfl,rfl,_,rfl,skS (by decide +kernel) ?_⟩
     refine ⟨_,rfl,rfl,_,rfl,skS (by decide +kernel) ?_⟩
     refine ⟨_,rfl,rfl,_,rfl,skS (by decide +kernel) ?_⟩
     refine ⟨_,rfl,rfl,_,rfl,skS (by decide +kernel) ?_⟩
     refine ⟨_,rfl,rfl,_,rfl,JT ?_⟩
     exact ⟨_,rfl,Qbi (a:=a) (n:=n) T.c_Both T.n_Both_shape T.n_Both_one T.n_Both_other tt e hq hr2 (by simp only [Tr.dp] at hd;omega) (by simp only [Tr.dp] at hd;omega) k fun x dx p' y z H' h1 h2 h3 h4=>.bth h1 h2 h3 h4⟩
   | eth e hq hr2 =>
     refine ⟨_,rfl,p,_,_,_,rfl,rfl,SqT.of e,rfl,?_⟩
     refine ⟨_,rfl,rfl,_,rfl,skS (by decide +kernel) ?_⟩
     refine ⟨_,rfl,rfl,_,rfl,skS (by decide +kernel) ?_⟩
     refine ⟨_,rfl,rfl,_,rfl,skS (by decide +kernel) ?_⟩
     refine ⟨_,rfl,rfl,_,rfl,skS (by decide +kernel) ?_⟩
     refine ⟨_,rfl,rfl,_,rfl,skS (by decide +kernel) ?_⟩
     refine ⟨_,rfl,rfl,_,rfl,skS (by decide +kernel) ?_⟩
     refine ⟨_,rfl,rfl,_,rfl,skS (by decide +kernel) ?_⟩
     refine ⟨_,rfl,rfl,_,rfl,skS (by decide +kernel) ?_⟩
     refine ⟨_,rfl,rfl,_,rfl,skS (by decide +kernel) ?_⟩
     refine ⟨_,rfl,rfl,_,rfl,skS (by decide +kernel) ?_⟩
     refine ⟨_,rfl,rfl,_,rfl,JT ?_⟩
     exact ⟨_,rfl,Qbi (a:=a) (n:=n) T.c_Either T.n_Either_shape T.n_Either_one T.n_Either_other tt e hq hr2 (by simp only [Tr.dp] at hd;omega) (by simp only [Tr.dp] at hd;omega) k fun x dx p' y z H' h1 h2 h3 h4=>.eth h1 h2 h3 h4⟩
   | thr e hq =>
     refine ⟨_,rfl,p,_,_,_,rfl,rfl,SqT.of e,rfl,?_⟩
     refine ⟨_,rfl,rfl,_,rfl,skS (by decide +kernel) ?_⟩
     refine ⟨_,rfl,rfl,_,rfl,skS (by decide +kernel) ?_⟩
     refine ⟨_,rfl,rfl,_,rfl,skS (by decide +kernel) ?_⟩
     refine ⟨_,rfl,rfl,_,rfl,skS (by decide +kernel) ?_⟩
     refine ⟨_,rfl,rfl,_,rfl,skS (by decide +kernel) ?_⟩
     refine ⟨_,rfl,rfl,_,rfl,skS (by decide +kernel) ?_⟩
     refine ⟨_,rfl,rfl,_,rfl,skS (by decide +kernel) ?_⟩
     refine ⟨_,rfl,rfl,_,rfl,skS (by decide +kernel) ?_⟩
     refine ⟨_,rfl,rfl,_,rfl,skS (by decide +kernel) ?_⟩
     refine ⟨_,rfl,rfl,_,rfl,skS (by decide +kernel) ?_⟩
     refine ⟨_,rfl,rfl,_,rfl,skS (by decide +kernel) ?_⟩
     refine ⟨_,rfl,rfl,_,rfl,JT ?_⟩
     exact ⟨_,rfl,Qbh (a:=a) (n:=n) T.c_InThread T.n_InThread_shape T.n_InThread_inner tt e hq (by simp only [Tr.dp] at hd;omega) k fun x dx p' y H' h1 h2 h3=>.thr h1 h2 h3⟩
end
inductive Qe5 (a:Adr) (t:Tr) (vs:List V) (H:Hp) (Q:VK):Prop
 | mk:∀x c l ys cd cs,vs=[.ref x,.ref c,.ref l]→QJ a H x t→Yt a H c cd→ZC cd→H l=some (.lst ys)→Zl a H ys cs→(∀z∈cs,ZC z)→cs.length≤100→(∀H',KL a H H'→Q (.bl (Z9 t cd cs)) H')→Qe5 a t vs H Q
def WI (a:Adr) (t:Tr):Sp:=fun vs H Q _=>Qe5 a t vs H Q
inductive QeU (a:Adr) (t:Tr) (vs:List V) (H:Hp) (Q:VK):Prop
 | mk:∀x l ys cs,vs=[.ref x,.ref l]→QJ a H x t→H l=some (.lst ys)→Zl a H ys cs→(∀z∈cs,ZC z)→cs.length≤200→(∀H' m,KL a H H'→H m=none→H' m=some (.lst ((trs t cs).map V.bl))→Q (.ref m) H')→QeU a t vs H Q
def QdK (a:Adr) (t:Tr):Sp:=fun vs H Q _=>QeU a t vs H Q
theorem Qho {T xs:List Str} {w:Str}:(Z4 (kn T xs) (Sum.inr w)).isSome=decide (w∈xs):=by
 rw [Kz]
 by_cases h:w∈xs
 ·rw [if_pos (Kw h),decide_eq_true h];rfl
 ·rw [if_neg fun z=>h (Qbb z),decide_eq_false h];rfl
theorem QiE {T xs:List Str} {w:Str} (hT:∀u∈T,u∈xs):(Z4 (kn T xs) (Sum.inr w)).getD (V.bl false)=.bl (decide (w∈T)):=by
 rw [Kz]
 by_cases h:w∈xs
 ·rw [if_pos (Kw h)];rfl
 ·rw [if_neg fun z=>h (Qbb z),decide_eq_false fun z=>h (hT _ z)];rfl
section
variable {P : Program} {w : World} {K : PySem.W.Frag} {mg : Str → Option Value} {base : Heap} {a : Adr}
theorem Qf0 {fd:FuncData} (F:Fun K "holds" "Condition.holds" ZL a.f_Condition_holds fd):Qw P w K mg base CX0 3 a.f_Condition_holds fd ["self","card","others"] (WI a .any):=by
 refine F.ok VN (fun vs H Q E h=>?_) (fun cdv A outer s H vs Q E hr h=>?_)
 ·obtain ⟨x,c,l,ys,cd,cs,rfl,_⟩:=h;rfl
 ·obtain ⟨x,c,l,ys,cd,cs,rfl,hx,hc,gd,hl,hcs,gds,hn,k⟩:=h
  exact ⟨_,(Qd (Qo Yu)),k H (KL.refl a H)⟩
theorem QdU {u:Str} {fd:FuncData} (F:Fun K "holds" "HasWord.holds" Jd a.f_HasWord_holds fd) (T:Txt K mg a) (FF:Z1 K a):Qw P w K mg base CX0 3 a.f_HasWord_holds fd ["self","card","others"] (WI a (.word u)):=by
 obtain ⟨fdA,F_Letter_known,b_Letter_known⟩:=FF.F_Letter_known
 have G_Letter_known:Qw P w K mg base CX0 2 a.f_Letter_known fdA ["self"] (G8 a):=Qbd F_Letter_known T FF
 refine F.ok WL (fun vs H Q E h=>?_) (fun cdv A outer s H vs Q E hr h=>?_)
 ·obtain ⟨x,c,l,ys,cd,cs,rfl,_⟩:=h;rfl
 ·obtain ⟨x,c,l,ys,cd,cs,rfl,hx,hc,gd,hl,hcs,gds,hn,k⟩:=h
  have hr_Letter_known:QG 2 _:=hr
  have hu:=QbJ hr
  obtain ⟨g,⟨dc,y,ec,hy⟩,eg⟩:=hc
  obtain ⟨dy,f,ey⟩:=hy.at
  cases hx with
  | lf _ ex tt =>
    cases tt with
    | word ep hw =>
      refine ⟨_,(Qd (Qo (Qiu (Qiv hu (Qn Qs (QC (pv 0) rfl) Qa (fun _ _=>rfl)) (YZ (QC (pv 1) rfl) T.c_Letter T.M_Letter_known G_Letter_known hr_Letter_known b_Letter_known .nil Qy))))),?_⟩
      refine ⟨_,rfl,x,_,_,_,_,rfl,ex,T.c_HasWord,T.n_HasWord_shape,rfl,_,_,_,_,rfl,rfl,SqT.of ep,rfl,?_⟩
      refine ⟨_,rfl,c,_,_,_,_,rfl,ec,T.c_Card,T.n_Card_letter,rfl,y,dy,_,rfl,ey,rfl,?_⟩
      refine ⟨y,_,_,_,_,_,rfl,hy,gd.g,fun D H' sx hk=>?_⟩
      refine ⟨D,_,rfl,.inl ⟨_,Sum.inr u,.inl hk.2,rfl,rfl⟩,?_⟩
      rw [Qho]
      exact k H' (KL.known hy sx hk)
theorem Qcv {u:Str} {fd:FuncData} (F:Fun K "holds" "HasTitleWord.holds" Zh a.f_HasTitleWord_holds fd) (T:Txt K mg a) (FF:Z1 K a):Qw P w K mg base CX0 3 a.f_HasTitleWord_holds fd ["self","card","others"] (WI a (.title u)):=by
 obtain ⟨fdA,F_Letter_known,b_Letter_known⟩:=FF.F_Letter_known
 have G_Letter_known:Qw P w K mg base CX0 2 a.f_Letter_known fdA ["self"] (G8 a):=Qbd F_Letter_known T FF
 refine F.ok UO (fun vs H Q E h=>?_) (fun cdv A outer s H vs Q E hr h=>?_)
 ·obtain ⟨x,c,l,ys,cd,cs,rfl,_⟩:=h;rfl
 ·obtain ⟨x,c,l,ys,cd,cs,rfl,hx,hc,gd,hl,hcs,gds,hn,k⟩:=h
  have hr_Letter_known:QG 2 _:=hr
  have hu:=QbJ hr
  obtain ⟨g,⟨dc,y,ec,hy⟩,eg⟩:=hc
  obtain ⟨dy,f,ey⟩:=hy.at
  cases hx with
  | lf _ ex tt =>
    cases tt with
    | title ep hw =>
      refine ⟨_,(Qd (Qo (QfF hu (YZ (QC (pv 1) rfl) T.c_Letter T.M_Letter_known G_Letter_known hr_Letter_known b_Letter_known .nil Qy) (Qn Qs (QC (pv 0) rfl) Qa (fun _ _=>rfl)) Yu ⟨rfl,rfl,rfl,rfl⟩))),?_⟩
      refine ⟨_,rfl,c,_,_,_,_,rfl,ec,T.c_Card,T.n_Card_letter,rfl,y,dy,_,rfl,ey,rfl,?_⟩
      refine ⟨y,_,_,_,_,_,rfl,hy,gd.g,fun D H' sx hk=>?_⟩
      have kl:=KL.known hy sx hk
      refine ⟨D,rfl,.inl ⟨_,.inl hk.2⟩,_,rfl,x,_,_,_,_,rfl,kl.inst ex rfl,T.c_HasTitleWord,T.n_HasTitleWord_shape,rfl,_,_,_,_,rfl,rfl,SqT.of (kl.keep ep rfl),rfl,?_⟩
      refine ⟨_,.inl ⟨_,Sum.inr u,.inl hk.2,rfl,rfl⟩,?_⟩
      rw [QiE fun z hz=>List.mem_append_left _ hz]
      exact k H' kl
theorem QfX {u:Str} {fd:FuncData} (F:Fun K "holds" "IsFrom.holds" Jx a.f_IsFrom_holds fd) (T:Txt K mg a):Qw P w K mg base CX0 3 a.f_IsFrom_holds fd ["self","card","others"] (WI a (.frm u)):=by
 refine F.ok Xq (fun vs H Q E h=>?_) (fun cdv A outer s H vs Q E hr h=>?_)
 ·obtain ⟨x,c,l,ys,cd,cs,rfl,_⟩:=h;rfl
 ·obtain ⟨x,c,l,ys,cd,cs,rfl,hx,hc,gd,hl,hcs,gds,hn,k⟩:=h
  obtain ⟨g,⟨dc,y,ec,hy⟩,eg⟩:=hc
  obtain ⟨dy,f,ey⟩:=hy.at
  cases hx with
  | lf _ ex tt =>
    cases tt with
    | frm ep hw =>
      refine ⟨_,(Qd (Qo (JC QZ (QC (QC (pv 1) rfl) rfl) (Qn Qs (QC (pv 0) rfl) Qa (fun _ _=>rfl)) (Qz _)))),?_⟩
      refine ⟨_,rfl,c,_,_,_,_,rfl,ec,T.c_Card,T.n_Card_letter,rfl,y,_,dy,_,_,rfl,ey,T.c_Letter,T.n_Letter_sender,rfl,_,rfl,x,_,_,_,_,rfl,ex,T.c_IsFrom,T.n_IsFrom_shape,rfl,_,_,_,_,rfl,rfl,SqT.of ep,rfl,rfl,?_⟩
      rw [Qcc]
      exact k H (KL.refl a H)
theorem QfW {u:Str} {fd:FuncData} (F:Fun K "holds" "IsIn.holds" Yk a.f_IsIn_holds fd) (T:Txt K mg a):Qw P w K mg base CX0 3 a.f_IsIn_holds fd ["self","card","others"] (WI a (.inn u)):=by
 refine F.ok K1 (fun vs H Q E h=>?_) (fun cdv A outer s H vs Q E hr h=>?_)
 ·obtain ⟨x,c,l,ys,cd,cs,rfl,_⟩:=h;rfl
 ·obtain ⟨x,c,l,ys,cd,cs,rfl,hx,hc,gd,hl,hcs,gds,hn,k⟩:=h
  obtain ⟨g,⟨dc,y,ec,hy⟩,eg⟩:=hc
  cases hx with
  | lf _ ex tt =>
    cases tt with
    | inn ep hw =>
      refine ⟨_,(Qd (Qo (JC QZ (QC (pv 1) rfl) (Qn Qs (QC (pv 0) rfl) Qa (fun _ _=>rfl)) (Qz _)))),?_⟩
      refine ⟨_,rfl,c,_,_,_,_,rfl,ec,T.c_Card,T.n_Card_box,rfl,_,rfl,x,_,_,_,_,rfl,ex,T.c_IsIn,T.n_IsIn_shape,rfl,_,_,_,_,rfl,rfl,SqT.of ep,rfl,rfl,?_⟩
      rw [Qcc]
      exact k H (KL.refl a H)
theorem QfV {u:Str} {fd:FuncData} (F:Fun K "holds" "IsMarked.holds" ZV a.f_IsMarked_holds fd) (T:Txt K mg a):Qw P w K mg base CX0 3 a.f_IsMarked_holds fd ["self","card","others"] (WI a (.mrk u)):=by
 refine F.ok V9 (fun vs H Q E h=>?_) (fun cdv A outer s H vs Q E hr h=>?_)
 ·obtain ⟨x,c,l,ys,cd,cs,rfl,_⟩:=h;rfl
 ·obtain ⟨x,c,l,ys,cd,cs,rfl,hx,hc,gd,hl,hcs,gds,hn,k⟩:=h
  obtain ⟨g,⟨dc,y,ec,hy⟩,eg⟩:=hc
  cases hx with
  | lf _ ex tt =>
    cases tt with
    | mrk ep hw =>
      refine ⟨_,(Qd (Qo (JC Gv (Qn Qs (QC (pv 0) rfl) Qa (fun _ _=>rfl)) (QC (pv 1) rfl) (by with_unfolding_all rfl)))),?_⟩
      refine ⟨_,rfl,x,_,_,_,_,rfl,ex,T.c_IsMarked,T.n_IsMarked_shape,rfl,_,_,_,_,rfl,rfl,SqT.of ep,rfl,_,rfl,c,_,_,_,_,rfl,ec,T.c_Card,T.n_Card_signs,rfl,g,_,rfl,.inl (SqL.of eg),rfl,Ye _,?_⟩
      rw [if_neg (by decide),Y3]
      exact k H (KL.refl a H)
theorem Qf1 {fd:FuncData} (F:Fun K "holds" "DoesAnswer.holds" Zw a.f_DoesAnswer_holds fd) (T:Txt K mg a):Qw P w K mg base CX0 3 a.f_DoesAnswer_holds fd ["self","card","others"] (WI a .ans):=by
 refine F.ok Vw (fun vs H Q E h=>?_) (fun cdv A outer s H vs Q E hr h=>?_)
 ·obtain ⟨x,c,l,ys,cd,cs,rfl,_⟩:=h;rfl
 ·obtain ⟨x,c,l,ys,cd,cs,rfl,hx,hc,gd,hl,hcs,gds,hn,k⟩:=h
  obtain ⟨g,⟨dc,y,ec,hy⟩,eg⟩:=hc
  obtain ⟨dy,f,ey⟩:=hy.at
  refine ⟨_,(Qd (Qo (JC Gu (QC (QC (pv 1) rfl) rfl) Qi (Qz _)))),?_⟩
  refine ⟨_,rfl,c,_,_,_,_,rfl,ec,T.c_Card,T.n_Card_letter,rfl,y,_,dy,_,_,rfl,ey,T.c_Letter,T.n_Letter_answers,rfl,rfl,?_⟩
  rw [XQ]
  exact k H (KL.refl a H)
theorem QdV {lo hi:Int} {fd:FuncData} (F:Fun K "holds" "IsOfDays.holds" ZU a.f_IsOfDays_holds fd) (T:Txt K mg a):Qw P w K mg base CX0 3 a.f_IsOfDays_holds fd ["self","card","others"] (WI a (.days lo hi)):=by
 refine F.ok V8 (fun vs H Q E h=>?_) (fun cdv A outer s H vs Q E hr h=>?_)
 ·obtain ⟨x,c,l,ys,cd,cs,rfl,_⟩:=h;rfl
 ·obtain ⟨x,c,l,ys,cd,cs,rfl,hx,hc,gd,hl,hcs,gds,hn,k⟩:=h
  obtain ⟨g,⟨dc,y,ec,hy⟩,eg⟩:=hc
  obtain ⟨dy,f,ey⟩:=hy.at
  cases hx with
  | lf _ ex tt =>
    cases tt with
    | days ep hb =>
      refine ⟨_,(Qd (Qo (Ke Wh Wh (Qn Qs (QC (pv 0) rfl) Qa (fun _ _=>rfl)) (QC (QC (pv 1) rfl) rfl) (Qn Qs (QC (pv 0) rfl) Qa (fun _ _=>rfl))))),?_⟩
      have kk:=k H (KL.refl a H)
      refine ⟨_,rfl,x,_,_,_,_,rfl,ex,T.c_IsOfDays,T.n_IsOfDays_shape,rfl,_,_,_,_,rfl,rfl,SqT.of ep,rfl,_,rfl,c,_,_,_,_,rfl,ec,T.c_Card,T.n_Card_letter,rfl,y,_,dy,_,_,rfl,ey,T.c_Letter,T.n_Letter_day,rfl,_,_,rfl,rfl,_,rfl,?_⟩
      by_cases h1:lo≤cd.d
      ·rw [decide_eq_true h1]
       refine Zc ⟨_,rfl,x,_,_,_,_,rfl,ex,T.c_IsOfDays,T.n_IsOfDays_shape,rfl,_,_,_,_,rfl,rfl,SqT.of ep,rfl,_,_,rfl,rfl,?_⟩
       have e:Z9 (.days lo hi) cd cs=decide (cd.d≤hi):=by show (decide (lo≤cd.d) && decide (cd.d≤hi))=_;rw [decide_eq_true h1,Bool.true_and]
       rw [e] at kk
       exact kk
      ·rw [decide_eq_false h1]
       refine QU ?_
       have e:Z9 (.days lo hi) cd cs=false:=by show (decide (lo≤cd.d) && decide (cd.d≤hi))=_;rw [decide_eq_false h1,Bool.false_and]
       rw [e] at kk
       exact kk
end
theorem QaC {K:PySem.W.Frag} {a:Adr} {l:Addr} {xs zs:List V} {fr:List (Nat×Str)} {te:TE} {σ:St} {H1:Hp} {Q:VK} (hz:xs.length≤sizeLine) (hl:zs.length=xs.length) (hS:H1 l=some (.lst xs))
 (hte:∀(i:Nat) (x z:V) (H3:Hp) (Q':VK),xs[i]?=some x→zs[i]?=some z→KL a H1 H3→(∀H4,KL a H3 H4→Q' z H4)→te (some x :: frV σ fr) H3 Q')
 (hQ:∀D H2,H1 D=none→KL a H1 H2→H2 D=some (.lst zs)→Q (.ref D) H2) :
 Jg (Itl K l) fr W7 te σ H1 Q:=by
 intro D hD
 refine ⟨fun i m ys H2=>m=xs.length - i∧i≤xs.length∧ys=zs.take i∧KL a H1 H2∧H2 D=some (.lst ys),⟨xs.length,by simp,Nat.zero_le _,by simp,KL.of (Qm.upd_new hD),Qh⟩,?_⟩
 rintro i m ys H2 ⟨rfl,hi,rfl,s2,d2⟩
 refine ⟨d2,?_⟩
 have hS2:SqL K H2 l xs:=SqL.of (s2.keep hS rfl)
 by_cases hlt:i<xs.length
 ·refine .inr ⟨⟨xs,xs[i],hS2,List.getElem?_eq_getElem hlt⟩,?_⟩
  rintro v H3 ⟨rfl,hv⟩
  refine UT (Zc ?_)
  have ez:zs[i]?=some zs[i]:=List.getElem?_eq_getElem (by omega)
  refine hte i v zs[i] H3 _ (by rw [hv xs hS2]) ez s2 fun H4 k4=>?_
  have d4:=k4.keep d2 rfl
  refine ⟨d4,by rw [List.length_take];omega,xs.length - (i+1),by omega,rfl,hlt,by rw [List.take_add_one,ez];rfl,(s2.trans k4).upd_of hD (fun kv z=>by rw [d4] at z;cases z),Qh⟩
 ·have e:i=xs.length:=by omega
  subst e
  refine .inl ⟨⟨xs,hS2,Nat.le_refl _⟩,hQ D H2 hD s2 ?_⟩
  rw [d2,List.take_of_length_le (by omega)]
theorem QJ.obj {a:Adr} {H:Hp} {x:Addr} {t:Tr} (h:QJ a H x t):∃dx fs,H x=some (.ins (Yw a t) dx fs)∧fs.lookup ("holds":Str)=none∧fs.lookup ("truths":Str)=none∧fs.lookup ("tree":Str)=none∧∃p,fs.lookup ("shape":Str)=some (.ref p)∧TAt H p t:=by
 cases h with
 | lf l e t=>exact ⟨_,_,e,rfl,rfl,rfl,_,rfl,t⟩
 | nt e t _=>exact ⟨_,_,e,rfl,rfl,rfl,_,rfl,t⟩
 | thr e t _=>exact ⟨_,_,e,rfl,rfl,rfl,_,rfl,t⟩
 | bth e t _ _=>exact ⟨_,_,e,rfl,rfl,rfl,_,rfl,t⟩
 | eth e t _ _=>exact ⟨_,_,e,rfl,rfl,rfl,_,rfl,t⟩
theorem Qeh {t:Tr} {c:CD} {os:List CD} (h:W3 t=true):Z9 t c os=QbF c t:=by cases t <;> first | rfl | cases h
theorem QeB {t:Tr} {cs:List CD} (h:W3 t=true):trs t cs=cs.map fun c=>QbF c t:=by cases t <;> first | rfl | cases h
section
variable {P : Program} {w : World} {K : PySem.W.Frag} {mg : Str → Option Value} {base : Heap} {a : Adr}
theorem Txt.cls {K:PySem.W.Frag} {mg:Str→Option Value} {a:Adr} (T:Txt K mg a):∀t:Tr,Cls K (Yw a t)
 | .any=>T.c_Always
 | .ans=>T.c_DoesAnswer
 | .word _=>T.c_HasWord
 | .title _=>T.c_HasTitleWord
 | .frm _=>T.c_IsFrom
 | .days _ _=>T.c_IsOfDays
 | .inn _=>T.c_IsIn
 | .mrk _=>T.c_IsMarked
 | .nt _=>T.c_Not
 | .thr _=>T.c_InThread
 | .bth _ _=>T.c_Both
 | .eth _ _=>T.c_Either
theorem Txt.noshape {K:PySem.W.Frag} {mg:Str→Option Value} {a:Adr} (T:Txt K mg a):∀t:Tr,QD K (Yw a t) "shape"
 | .any=>T.n_Always_shape
 | .ans=>T.n_DoesAnswer_shape
 | .word _=>T.n_HasWord_shape
 | .title _=>T.n_HasTitleWord_shape
 | .frm _=>T.n_IsFrom_shape
 | .days _ _=>T.n_IsOfDays_shape
 | .inn _=>T.n_IsIn_shape
 | .mrk _=>T.n_IsMarked_shape
 | .nt _=>T.n_Not_shape
 | .thr _=>T.n_InThread_shape
 | .bth _ _=>T.n_Both_shape
 | .eth _ _=>T.n_Either_shape
variable (P w K mg base a)
def HOk (k:Nat) (t:Tr):Prop:=∃f fd,QN K (Yw a t) "holds" f∧Qt K fd ["self","card","others"] []∧Qw P w K mg base CX0 k f fd ["self","card","others"] (WI a t)
def TOk (k:Nat) (t:Tr):Prop:=∃f fd,QN K (Yw a t) "truths" f∧Qt K fd ["self","cards"] []∧Qw P w K mg base CX0 k f fd ["self","cards"] (QdK a t)
variable {P w K mg base a}
theorem QdS {t:Tr} {k:Nat} {fd:FuncData} (lf:W3 t=true) (F:Fun K "truths" "Condition.truths" Ze a.f_Condition_truths fd) (T:Txt K mg a) (G:HOk P w K mg base a k t):Qw P w K mg base CX0 (k+1) a.f_Condition_truths fd ["self","cards"] (QdK a t):=by
 obtain ⟨f,fdh,M,b,G⟩:=G
 refine F.ok Vx (fun vs H Q E h=>?_) (fun cdv A outer s H vs Q E hr h=>?_)
 ·obtain ⟨x,l,ys,cs,rfl,_⟩:=h;rfl
 ·obtain ⟨x,l,ys,cs,rfl,hx,hl,hcs,gds,hn,kk⟩:=h
  have hrk:QG k _:=hr
  refine ⟨_,(Qd (Qo (Ub (sc:=Qe Ze) (N:=Y1) (fr:=[(0,"self")]) ⟨rfl,rfl,by decide +kernel,by decide +kernel,by decide +kernel,by decide +kernel,by decide +kernel⟩ rfl rfl rfl (Zx (pv 1)) (fun _ _ _ _=>JS) (fun _ _ _ _=>(Zz (pv 1) (pac (pv 0) (pac (Q0 Qq) Qf))))))),?_⟩
  refine ⟨_,rfl,l,rfl,⟨_,SqL.of hl⟩,QaC (a:=a) (zs:=(trs t cs).map V.bl) (Nat.le_of_lt (Qj (by rw [hcs.len];omega))) (by rw [List.length_map,Zd,hcs.len]) hl ?_ ?_⟩
  ·intro i y z H3 Q' hi hz k3 q
   obtain ⟨c,cd,rfl,hcd,hc⟩:=hcs.at i y hi
   rw [List.getElem?_map,QeB lf,List.getElem?_map,hcd] at hz
   cases hz
   have gd:=gds _ (List.mem_of_getElem? hcd)
   have hx3:=hx.kl k3
   obtain ⟨dx,fs,ex,l1,l2,l3,_⟩:=hx3.obj
   refine ⟨_,rfl,x,dx,fs,_,f,fdh,_,_,k,rfl,ex,T.cls t,M,G,hrk,b,l1,_,rfl,(by show 0≤sizeLine;decide),fun p H4 hp s4 e4=>?_⟩
   refine ⟨x,c,p,[],cd,[],rfl,hx3.mono s4,(hc.kl k3).kl (KL.of s4),gd,e4,.nil,(fun z hz=>nomatch hz),Nat.zero_le _,fun H5 k5=>?_⟩
   rw [Qeh lf]
   exact q H5 ((KL.of s4).trans k5)
  ·intro D H2 nD k2 e2
   exact kk H2 D k2 nD e2
theorem Qhk {u:Tr} {k:Nat} {fd:FuncData} (F:Fun K "holds" "Not.holds" YU a.f_Not_holds fd) (T:Txt K mg a) (G:HOk P w K mg base a k u):Qw P w K mg base CX0 (k+1) a.f_Not_holds fd ["self","card","others"] (WI a (.nt u)):=by
 obtain ⟨f,fdh,M,b,G⟩:=G
 refine F.ok Qaf (fun vs H Q E h=>?_) (fun cdv A outer s H vs Q E hr h=>?_)
 ·obtain ⟨x,c,l,ys,cd,cs,rfl,_⟩:=h;rfl
 ·obtain ⟨x,c,l,ys,cd,cs,rfl,hx,hc,gd,hl,hcs,gds,hn,kk⟩:=h
  have hrk:QG k _:=hr
  cases hx with
  | lf z _ _=>cases z
  | nt ex tt hy =>
    obtain ⟨dy,fs,ey,l1,l2,l3,_⟩:=hy.obj
    refine ⟨_,(Qd (Qo (Qam (Zz (QC (pv 0) rfl) (pac (pv 1) (pac (pv 2) Qf)))))),?_⟩
    refine ⟨_,rfl,x,_,_,_,_,rfl,ex,T.c_Not,T.n_Not_inner,rfl,_,dy,fs,_,f,fdh,_,_,k,rfl,ey,T.cls u,M,G,hrk,b,l1,_,rfl,_,rfl,?_⟩
    exact ⟨_,c,l,ys,cd,cs,rfl,hy,hc,gd,hl,hcs,gds,hn,fun H' k'=>⟨_,rfl,kk H' k'⟩⟩
theorem Qhg {u:Tr} {k:Nat} {fd:FuncData} (F:Fun K "truths" "Not.truths" JI a.f_Not_truths fd) (T:Txt K mg a) (G:TOk P w K mg base a k u):Qw P w K mg base CX0 (k+1) a.f_Not_truths fd ["self","cards"] (QdK a (.nt u)):=by
 obtain ⟨f,fdh,M,b,G⟩:=G
 refine F.ok K0 (fun vs H Q E h=>?_) (fun cdv A outer s H vs Q E hr h=>?_)
 ·obtain ⟨x,l,ys,cs,rfl,_⟩:=h;rfl
 ·obtain ⟨x,l,ys,cs,rfl,hx,hl,hcs,gds,hn,kk⟩:=h
  have hrk:QG k _:=hr
  cases hx with
  | lf z _ _=>cases z
  | nt ex tt hy =>
    obtain ⟨dy,fs,ey,l1,l2,l3,_⟩:=hy.obj
    refine ⟨_,(Qd (Qo (Ub (sc:=Qe JI) (N:=Wn) (fr:=[]) ⟨rfl,rfl,by decide +kernel,by decide +kernel,by decide +kernel,by decide +kernel,by decide +kernel⟩ rfl rfl rfl (Zx (Zz (QC (pv 0) rfl) (pac (pv 1) Qf))) (fun _ _ _ _=>JS) (fun _ _ _ _=>(Qam (pv 0)))))),?_⟩
    refine ⟨_,rfl,x,_,_,_,_,rfl,ex,T.c_Not,T.n_Not_inner,rfl,_,dy,fs,_,f,fdh,_,_,k,rfl,ey,T.cls u,M,G,hrk,b,l2,_,rfl,?_⟩
    refine ⟨_,l,ys,cs,rfl,hy,hl,hcs,gds,hn,fun H' m k' nm em=>?_⟩
    have hlen:=Zd u cs
    refine ⟨m,rfl,⟨_,SqL.of em⟩,QaC (a:=a) (zs:=(trs (.nt u) cs).map V.bl) (Nat.le_of_lt (Qj (by rw [List.length_map];omega))) (by rw [List.length_map,List.length_map,Zd,Zd]) em ?_ fun D H2 nD k2 e2=>kk H2 D (k'.trans k2) (k'.free nD) e2⟩
    intro i y z H3 Q' hi hz k3 q
    rw [List.getElem?_map,show trs (.nt u) cs=(trs u cs).map (!·) from rfl,List.getElem?_map] at hz
    rw [List.getElem?_map] at hi
    cases hb:(trs u cs)[i]? with
    | none=>rw [hb] at hi;cases hi
    | some bb =>
      rw [hb] at hi hz
      cases hi
      cases hz
      exact ⟨_,rfl,_,rfl,q H3 (KL.refl a H3)⟩
theorem QfU {u:Tr} {k:Nat} {fd:FuncData} (F:Fun K "holds" "InThread.holds" ZW a.f_InThread_holds fd) (T:Txt K mg a) (G:TOk P w K mg base a k u):Qw P w K mg base CX0 (k+1) a.f_InThread_holds fd ["self","card","others"] (WI a (.thr u)):=by
 obtain ⟨f,fdh,M,b,G⟩:=G
 refine F.ok Wa (fun vs H Q E h=>?_) (fun cdv A outer s H vs Q E hr h=>?_)
 ·obtain ⟨x,c,l,ys,cd,cs,rfl,_⟩:=h;rfl
 ·obtain ⟨x,c,l,ys,cd,cs,rfl,hx,hc,gd,hl,hcs,gds,hn,kk⟩:=h
  have hrk:QG k _:=hr
  cases hx with
  | lf z _ _=>cases z
  | thr ex tt hy =>
    obtain ⟨dy,fs,ey,l1,l2,l3,_⟩:=hy.obj
    refine ⟨_,(Qd (Qo (QO (QgC rfl) rfl T.b_any PyProof.Rows.boot_any (pac (Q7 Zs (Zz (QC (pv 0) rfl) (pac (Ql YA (Q0 (Qc (pv 1) Qq)) (pv 2)) Qf)) (Q6 Qa) Z7) Qf)))),?_⟩
    refine ⟨_,rfl,x,_,_,_,_,rfl,ex,T.c_InThread,T.n_InThread_inner,rfl,_,dy,fs,_,f,fdh,_,_,k,rfl,ey,T.cls u,M,G,hrk,b,l2,_,rfl,(by show 1≤sizeLine;decide),fun p1 H1 n1 s1 e1=>?_⟩
    have hl1:=s1 _ _ hl
    have hlen:=hcs.len
    refine ⟨_,rfl,p1,l,_,_,rfl,rfl,e1,hl1,Nat.le_of_lt (Qj (by rw [List.length_singleton];omega)),fun p2 H2 n2 s2 e2=>?_⟩
    have s12:=s1.trans s2
    refine ⟨_,p2,_,cd :: cs,rfl,hy.mono s12,e2,.cons (hc.kl (KL.of s12)) (hcs.kl (KL.of s12)),(fun z hz=>by rcases List.mem_cons.mp hz with rfl | hz;exact gd;exact gds z hz),by rw [List.length_cons];omega,fun H' m k' nm em=>?_⟩
    refine ⟨_,rfl,m,_,rfl,SqL.of em,fun p3 H3 n3 s3 e3=>?_⟩
    rw [Wu V.bl _ 1 (by decide)] at e3
    exact ⟨p3,_,rfl,SqL.of e3,kk H3 (((KL.of s12).trans k').trans (KL.of s3))⟩
theorem QfO {u:Tr} {k:Nat} {fd:FuncData} (F:Fun K "truths" "InThread.truths" Zo a.f_InThread_truths fd) (T:Txt K mg a) (G:TOk P w K mg base a k u):Qw P w K mg base CX0 (k+1) a.f_InThread_truths fd ["self","cards"] (QdK a (.thr u)):=by
 obtain ⟨f,fdh,M,b,G⟩:=G
 refine F.ok JE (fun vs H Q E h=>?_) (fun cdv A outer s H vs Q E hr h=>?_)
 ·obtain ⟨x,l,ys,cs,rfl,_⟩:=h;rfl
 ·obtain ⟨x,l,ys,cs,rfl,hx,hl,hcs,gds,hn,kk⟩:=h
  have hrk:QG k _:=hr
  cases hx with
  | lf z _ _=>cases z
  | thr ex tt hy =>
    obtain ⟨dy,fs,ey,l1,l2,l3,_⟩:=hy.obj
    refine ⟨_,(Qb (Qv (i:=2) JE.nd rfl (Or.inl rfl) (Zz (QC (pv 0) rfl) (pac (pv 1) Qf)))
     (Qb (Qv (i:=3) JE.nd rfl (Or.inr rfl) (Z8 PySem.F.plainAttrs_list PySem.F.slot_list_count PySem.F.type_list_count Qd4 (pv 2) (pac Yu Qf)))
     (Qd (Qo (Ub (sc:=Qe Zo) (N:=Uc) (fr:=[(3,"holding")]) ⟨rfl,rfl,by decide +kernel,by decide +kernel,by decide +kernel,by decide +kernel,by decide +kernel⟩ rfl rfl rfl (Zx (pv 2)) (fun _ _ _ _=>JS) (fun _ _ _ _=>(JC Ki (pv 1) (Kd (Js (pv 0)) Qa Qa) (Qz _)))))))),?_⟩
    refine ⟨_,rfl,x,_,_,_,_,rfl,ex,T.c_InThread,T.n_InThread_inner,rfl,_,dy,fs,_,f,fdh,_,_,k,rfl,ey,T.cls u,M,G,hrk,b,l2,_,rfl,?_⟩
    refine ⟨_,l,ys,cs,rfl,hy,hl,hcs,gds,hn,fun H' m k' nm em=>?_⟩
    have hlen:=Zd u cs
    refine ⟨_,rfl,.inl ⟨rfl,_,SqL.of em⟩,m,_,_,rfl,rfl,em,?_⟩
    refine ⟨_,rfl,m,rfl,⟨_,SqL.of em⟩,QaC (a:=a) (zs:=(trs (.thr u) cs).map V.bl) (Nat.le_of_lt (Qj (by rw [List.length_map];omega))) (by rw [List.length_map,List.length_map,Zd,Zd]) em ?_ fun D H2 nD k2 e2=>kk H2 D (k'.trans k2) (k'.free nD) e2⟩
    intro i y z H3 Q' hi hz k3 q
    rw [List.getElem?_map,show trs (.thr u) cs=(trs u cs).map (fun b=>decide (((trs u cs).count true:Int) > if b then 1 else 0)) from rfl,List.getElem?_map] at hz
    rw [List.getElem?_map] at hi
    cases hb:(trs u cs)[i]? with
    | none=>rw [hb] at hi;cases hi
    | some bb =>
      rw [hb] at hi hz
      cases hi
      cases hz
      refine ⟨_,rfl,_,rfl,_,rfl,?_⟩
      cases bb
      ·exact QU ⟨_,_,rfl,rfl,q H3 (KL.refl a H3)⟩
      ·exact Zc ⟨_,_,rfl,rfl,q H3 (KL.refl a H3)⟩
end
section
variable {P : Program} {w : World} {K : PySem.W.Frag} {mg : Str → Option Value} {base : Heap} {a : Adr}
theorem QfZ {u v:Tr} {k:Nat} {fd:FuncData} (F:Fun K "holds" "Both.holds" Yl a.f_Both_holds fd) (T:Txt K mg a) (G:HOk P w K mg base a k u) (G2:HOk P w K mg base a k v):Qw P w K mg base CX0 (k+1) a.f_Both_holds fd ["self","card","others"] (WI a (.bth u v)):=by
 obtain ⟨f,fdh,M,b,G⟩:=G
 obtain ⟨f2,fdh2,M2,b2,G2⟩:=G2
 refine F.ok K2 (fun vs H Q E h=>?_) (fun cdv A outer s H vs Q E hr h=>?_)
 ·obtain ⟨x,c,l,ys,cd,cs,rfl,_⟩:=h;rfl
 ·obtain ⟨x,c,l,ys,cd,cs,rfl,hx,hc,gd,hl,hcs,gds,hn,kk⟩:=h
  have hrk:QG k _:=hr
  cases hx with
  | lf z _ _=>cases z
  | bth ex tt hy hz =>
    obtain ⟨dy,fs,ey,l1,l2,l3,_⟩:=hy.obj
    refine ⟨_,(Qd (Qo (U9 (Zz (QC (pv 0) rfl) (pac (pv 1) (pac (pv 2) Qf))) (YY (Zz (QC (pv 0) rfl) (pac (pv 1) (pac (pv 2) Qf))))))),?_⟩
    refine ⟨_,rfl,x,_,_,_,_,rfl,ex,T.c_Both,T.n_Both_one,rfl,_,dy,fs,_,f,fdh,_,_,k,rfl,ey,T.cls u,M,G,hrk,b,l1,_,rfl,_,rfl,?_⟩
    refine ⟨_,c,l,ys,cd,cs,rfl,hy,hc,gd,hl,hcs,gds,hn,fun H1 k1=>⟨_,rfl,?_⟩⟩
    cases e:Z9 u cd cs
    ·refine QU ?_
     have q:=kk H1 k1
     rw [show Z9 (.bth u v) cd cs=(Z9 u cd cs && Z9 v cd cs) from rfl,e,Bool.false_and] at q
     exact q
    ·have hz1:=hz.kl k1
     obtain ⟨dz,gs,ez,m1,m2,m3,_⟩:=hz1.obj
     refine Zc ⟨_,rfl,x,_,_,_,_,rfl,k1.inst ex rfl,T.c_Both,T.n_Both_other,rfl,_,dz,gs,_,f2,fdh2,_,_,k,rfl,ez,T.cls v,M2,G2,hrk,b2,m1,_,rfl,_,rfl,?_⟩
     refine ⟨_,c,l,ys,cd,cs,rfl,hz1,hc.kl k1,gd,k1.keep hl rfl,hcs.kl k1,gds,hn,fun H2 k2=>?_⟩
     have q:=kk H2 (k1.trans k2)
     rw [show Z9 (.bth u v) cd cs=(Z9 u cd cs && Z9 v cd cs) from rfl,e,Bool.true_and] at q
     exact q
theorem QfQ {u v:Tr} {k:Nat} {fd:FuncData} (F:Fun K "truths" "Both.truths" Jl a.f_Both_truths fd) (T:Txt K mg a) (G:TOk P w K mg base a k u) (G2:TOk P w K mg base a k v):Qw P w K mg base CX0 (k+1) a.f_Both_truths fd ["self","cards"] (QdK a (.bth u v)):=by
 obtain ⟨f,fdh,M,b,G⟩:=G
 obtain ⟨f2,fdh2,M2,b2,G2⟩:=G2
 refine F.ok X5 (fun vs H Q E h=>?_) (fun cdv A outer s H vs Q E hr h=>?_)
 ·obtain ⟨x,l,ys,cs,rfl,_⟩:=h;rfl
 ·obtain ⟨x,l,ys,cs,rfl,hx,hl,hcs,gds,hn,kk⟩:=h
  have hrk:QG k _:=hr
  cases hx with
  | lf z _ _=>cases z
  | bth ex tt hy hz =>
    obtain ⟨dy,fs,ey,l1,l2,l3,_⟩:=hy.obj
    refine ⟨_,(Qd (Qo (U8 (sc:=Qe Jl) (N:=VH) (fr:=[]) ⟨rfl,rfl,rfl,by decide +kernel,by decide +kernel,by decide +kernel,by decide +kernel,by decide +kernel⟩ rfl rfl rfl (QfA rfl T.b_zip (pac (Zz (QC (pv 0) rfl) (pac (pv 1) Qf)) (pac (Zz (QC (pv 0) rfl) (pac (pv 1) Qf)) Qf))) (fun _ _ _ _=>(U9 (pv 0) (YY (pv 1))))))),?_⟩
    refine ⟨_,rfl,x,_,_,_,_,rfl,ex,T.c_Both,T.n_Both_one,rfl,_,dy,fs,_,f,fdh,_,_,k,rfl,ey,T.cls u,M,G,hrk,b,l2,_,rfl,?_⟩
    refine ⟨_,l,ys,cs,rfl,hy,hl,hcs,gds,hn,fun H1 m1 k1 nm1 em1=>?_⟩
    have hz1:=hz.kl k1
    obtain ⟨dz,gs,ez,q1,q2,q3,_⟩:=hz1.obj
    refine ⟨_,rfl,x,_,_,_,_,rfl,k1.inst ex rfl,T.c_Both,T.n_Both_other,rfl,_,dz,gs,_,f2,fdh2,_,_,k,rfl,ez,T.cls v,M2,G2,hrk,b2,q2,_,rfl,?_⟩
    refine ⟨_,l,ys,cs,rfl,hz1,k1.keep hl rfl,hcs.kl k1,gds,hn,fun H2 m2 k2 nm2 em2=>?_⟩
    have em1':=k2.keep em1 rfl
    refine ⟨m1,m2,_,_,rfl,em1',em2,QbO (xs:=trs u cs) (ys:=trs v cs) V.bl V.bl (fun x y=>.bl (x && y)) (Nat.le_of_lt (Qj (by rw [Zd];omega))) (by rw [Zd,Zd]) (SqL.of em1') (SqL.of em2) ?_ fun D H3 nD s3 e3=>kk H3 D ((k1.trans k2).trans (KL.of s3)) ((k1.trans k2).free nD) ?_⟩
    ·intro b1 b2 H3 Q' q
     refine ⟨_,rfl,_,rfl,?_⟩
     cases b1
     ·exact QU q
     ·exact Zc ⟨_,rfl,q⟩
    ·rw [e3,show trs (.bth u v) cs=List.zipWith (·&& ·) (trs u cs) (trs v cs) from rfl,List.map_zipWith]
theorem QfY {u v:Tr} {k:Nat} {fd:FuncData} (F:Fun K "holds" "Either.holds" Jy a.f_Either_holds fd) (T:Txt K mg a) (G:HOk P w K mg base a k u) (G2:HOk P w K mg base a k v):Qw P w K mg base CX0 (k+1) a.f_Either_holds fd ["self","card","others"] (WI a (.eth u v)):=by
 obtain ⟨f,fdh,M,b,G⟩:=G
 obtain ⟨f2,fdh2,M2,b2,G2⟩:=G2
 refine F.ok Xr (fun vs H Q E h=>?_) (fun cdv A outer s H vs Q E hr h=>?_)
 ·obtain ⟨x,c,l,ys,cd,cs,rfl,_⟩:=h;rfl
 ·obtain ⟨x,c,l,ys,cd,cs,rfl,hx,hc,gd,hl,hcs,gds,hn,kk⟩:=h
  have hrk:QG k _:=hr
  cases hx with
  | lf z _ _=>cases z
  | eth ex tt hy hz =>
    obtain ⟨dy,fs,ey,l1,l2,l3,_⟩:=hy.obj
    refine ⟨_,(Qd (Qo (Qde (Zz (QC (pv 0) rfl) (pac (pv 1) (pac (pv 2) Qf))) (YY (Zz (QC (pv 0) rfl) (pac (pv 1) (pac (pv 2) Qf))))))),?_⟩
    refine ⟨_,rfl,x,_,_,_,_,rfl,ex,T.c_Either,T.n_Either_one,rfl,_,dy,fs,_,f,fdh,_,_,k,rfl,ey,T.cls u,M,G,hrk,b,l1,_,rfl,_,rfl,?_⟩
    refine ⟨_,c,l,ys,cd,cs,rfl,hy,hc,gd,hl,hcs,gds,hn,fun H1 k1=>⟨_,rfl,?_⟩⟩
    cases e:Z9 u cd cs
    ·have hz1:=hz.kl k1
     obtain ⟨dz,gs,ez,m1,m2,m3,_⟩:=hz1.obj
     refine QU ⟨_,rfl,x,_,_,_,_,rfl,k1.inst ex rfl,T.c_Either,T.n_Either_other,rfl,_,dz,gs,_,f2,fdh2,_,_,k,rfl,ez,T.cls v,M2,G2,hrk,b2,m1,_,rfl,_,rfl,?_⟩
     refine ⟨_,c,l,ys,cd,cs,rfl,hz1,hc.kl k1,gd,k1.keep hl rfl,hcs.kl k1,gds,hn,fun H2 k2=>?_⟩
     have q:=kk H2 (k1.trans k2)
     rw [show Z9 (.eth u v) cd cs=(Z9 u cd cs || Z9 v cd cs) from rfl,e,Bool.false_or] at q
     exact q
    ·refine Zc ?_
     have q:=kk H1 k1
     rw [show Z9 (.eth u v) cd cs=(Z9 u cd cs || Z9 v cd cs) from rfl,e,Bool.true_or] at q
     exact q
theorem QfP {u v:Tr} {k:Nat} {fd:FuncData} (F:Fun K "truths" "Either.truths" ZK a.f_Either_truths fd) (T:Txt K mg a) (G:TOk P w K mg base a k u) (G2:TOk P w K mg base a k v):Qw P w K mg base CX0 (k+1) a.f_Either_truths fd ["self","cards"] (QdK a (.eth u v)):=by
 obtain ⟨f,fdh,M,b,G⟩:=G
 obtain ⟨f2,fdh2,M2,b2,G2⟩:=G2
 refine F.ok WM (fun vs H Q E h=>?_) (fun cdv A outer s H vs Q E hr h=>?_)
 ·obtain ⟨x,l,ys,cs,rfl,_⟩:=h;rfl
 ·obtain ⟨x,l,ys,cs,rfl,hx,hl,hcs,gds,hn,kk⟩:=h
  have hrk:QG k _:=hr
  cases hx with
  | lf z _ _=>cases z
  | eth ex tt hy hz =>
    obtain ⟨dy,fs,ey,l1,l2,l3,_⟩:=hy.obj
    refine ⟨_,(Qd (Qo (U8 (sc:=Qe ZK) (N:=UN) (fr:=[]) ⟨rfl,rfl,rfl,by decide +kernel,by decide +kernel,by decide +kernel,by decide +kernel,by decide +kernel⟩ rfl rfl rfl (QfA rfl T.b_zip (pac (Zz (QC (pv 0) rfl) (pac (pv 1) Qf)) (pac (Zz (QC (pv 0) rfl) (pac (pv 1) Qf)) Qf))) (fun _ _ _ _=>(Qde (pv 0) (YY (pv 1))))))),?_⟩
    refine ⟨_,rfl,x,_,_,_,_,rfl,ex,T.c_Either,T.n_Either_one,rfl,_,dy,fs,_,f,fdh,_,_,k,rfl,ey,T.cls u,M,G,hrk,b,l2,_,rfl,?_⟩
    refine ⟨_,l,ys,cs,rfl,hy,hl,hcs,gds,hn,fun H1 m1 k1 nm1 em1=>?_⟩
    have hz1:=hz.kl k1
    obtain ⟨dz,gs,ez,q1,q2,q3,_⟩:=hz1.obj
    refine ⟨_,rfl,x,_,_,_,_,rfl,k1.inst ex rfl,T.c_Either,T.n_Either_other,rfl,_,dz,gs,_,f2,fdh2,_,_,k,rfl,ez,T.cls v,M2,G2,hrk,b2,q2,_,rfl,?_⟩
    refine ⟨_,l,ys,cs,rfl,hz1,k1.keep hl rfl,hcs.kl k1,gds,hn,fun H2 m2 k2 nm2 em2=>?_⟩
    have em1':=k2.keep em1 rfl
    refine ⟨m1,m2,_,_,rfl,em1',em2,QbO (xs:=trs u cs) (ys:=trs v cs) V.bl V.bl (fun x y=>.bl (x || y)) (Nat.le_of_lt (Qj (by rw [Zd];omega))) (by rw [Zd,Zd]) (SqL.of em1') (SqL.of em2) ?_ fun D H3 nD s3 e3=>kk H3 D ((k1.trans k2).trans (KL.of s3)) ((k1.trans k2).free nD) ?_⟩
    ·intro b1 b2 H3 Q' q
     refine ⟨_,rfl,_,rfl,?_⟩
     cases b1
     ·exact QU ⟨_,rfl,q⟩
     ·exact Zc q
    ·rw [e3,show trs (.eth u v) cs=List.zipWith (·|| ·) (trs u cs) (trs v cs) from rfl,List.map_zipWith]
inductive QaR (a:Adr) (vs:List V) (H:Hp) (Q:VK):Prop
 | mk:∀x t,vs=[.ref x]→QJ a H x t→(∀p,TAt H p t→Q (.ref p) H)→QaR a vs H Q
def QeT (a:Adr):Sp:=fun vs H Q _=>QaR a vs H Q
theorem Qhf {fd:FuncData} (F:Fun K "tree" "Condition.tree" ZY a.f_Condition_tree fd) (T:Txt K mg a):Qw P w K mg base CX0 1 a.f_Condition_tree fd ["self"] (QeT a):=by
 refine F.ok Wc (fun vs H Q E h=>?_) (fun cdv A outer s H vs Q E hr h=>?_)
 ·obtain ⟨x,t,rfl,_⟩:=h;rfl
 ·obtain ⟨x,t,rfl,hx,k⟩:=h
  obtain ⟨dx,fs,ex,l1,l2,l3,p,lp,ht⟩:=hx.obj
  exact ⟨_,(Qd (Qo (QC (pv 0) rfl))),⟨_,rfl,x,_,dx,fs,_,rfl,ex,T.cls t,T.noshape t,lp,k p ht⟩⟩
theorem HOk.up {j k:Nat} {t:Tr} (h:HOk P w K mg base a j t) (l:j≤k):HOk P w K mg base a k t:=let ⟨f,fd,m,b,g⟩:=h;⟨f,fd,m,b,g.mono l⟩
theorem TOk.up {j k:Nat} {t:Tr} (h:TOk P w K mg base a j t) (l:j≤k):TOk P w K mg base a k t:=let ⟨f,fd,m,b,g⟩:=h;⟨f,fd,m,b,g.mono l⟩
theorem ask (T:Txt K mg a) (FF:Z1 K a):∀t:Tr,HOk P w K mg base a (t.dp+4) t∧TOk P w K mg base a (t.dp+4) t:=by
 obtain ⟨fc,Fc,bc⟩:=FF.F_Condition_truths
 have leaf:∀t,W3 t=true→QN K (Yw a t) "truths" a.f_Condition_truths→HOk P w K mg base a 3 t→HOk P w K mg base a (t.dp+4) t∧TOk P w K mg base a (t.dp+4) t:=fun t l m h=>⟨h.up (by omega),⟨_,fc,m,bc,(QdS l Fc T h).mono (by omega)⟩⟩
 intro t
 induction t with
 | any =>
   obtain ⟨fd,F,b⟩:=FF.F_Condition_holds
   exact leaf _ rfl T.M_Always_truths ⟨_,fd,T.M_Always_holds,b,Qf0 F⟩
 | ans =>
   obtain ⟨fd,F,b⟩:=FF.F_DoesAnswer_holds
   exact leaf _ rfl T.M_DoesAnswer_truths ⟨_,fd,T.M_DoesAnswer_holds,b,Qf1 F T⟩
 | word u =>
   obtain ⟨fd,F,b⟩:=FF.F_HasWord_holds
   exact leaf _ rfl T.M_HasWord_truths ⟨_,fd,T.M_HasWord_holds,b,QdU F T FF⟩
 | title u =>
   obtain ⟨fd,F,b⟩:=FF.F_HasTitleWord_holds
   exact leaf _ rfl T.M_HasTitleWord_truths ⟨_,fd,T.M_HasTitleWord_holds,b,Qcv F T FF⟩
 | frm u =>
   obtain ⟨fd,F,b⟩:=FF.F_IsFrom_holds
   exact leaf _ rfl T.M_IsFrom_truths ⟨_,fd,T.M_IsFrom_holds,b,QfX F T⟩
 | days l h =>
   obtain ⟨fd,F,b⟩:=FF.F_IsOfDays_holds
   exact leaf _ rfl T.M_IsOfDays_truths ⟨_,fd,T.M_IsOfDays_holds,b,QdV F T⟩
 | inn u =>
   obtain ⟨fd,F,b⟩:=FF.F_IsIn_holds
   exact leaf _ rfl T.M_IsIn_truths ⟨_,fd,T.M_IsIn_holds,b,QfW F T⟩
 | mrk u =>
   obtain ⟨fd,F,b⟩:=FF.F_IsMarked_holds
   exact leaf _ rfl T.M_IsMarked_truths ⟨_,fd,T.M_IsMarked_holds,b,QfV F T⟩
 | nt u ih =>
   obtain ⟨fd,F,b⟩:=FF.F_Not_holds
   obtain ⟨fd2,F2,b2⟩:=FF.F_Not_truths
   exact ⟨⟨_,fd,T.M_Not_holds,b,(Qhk F T ih.1).mono (by show u.dp+4+1≤u.dp+1+4;omega)⟩,⟨_,fd2,T.M_Not_truths,b2,(Qhg F2 T ih.2).mono (by show u.dp+4+1≤u.dp+1+4;omega)⟩⟩
 | thr u ih =>
   obtain ⟨fd,F,b⟩:=FF.F_InThread_holds
   obtain ⟨fd2,F2,b2⟩:=FF.F_InThread_truths
   exact ⟨⟨_,fd,T.M_InThread_holds,b,(QfU F T ih.2).mono (by show u.dp+4+1≤u.dp+1+4;omega)⟩,⟨_,fd2,T.M_InThread_truths,b2,(QfO F2 T ih.2).mono (by show u.dp+4+1≤u.dp+1+4;omega)⟩⟩
 | bth u v i1 i2 =>
   obtain ⟨fd,F,b⟩:=FF.F_Both_holds
   obtain ⟨fd2,F2,b2⟩:=FF.F_Both_truths
   have le:max u.dp v.dp+4+1≤(Tr.bth u v).dp+4:=by show max u.dp v.dp+4+1≤max u.dp v.dp+1+4;omega
   exact ⟨⟨_,fd,T.M_Both_holds,b,(QfZ F T (i1.1.up (by omega)) (i2.1.up (by omega))).mono le⟩,⟨_,fd2,T.M_Both_truths,b2,(QfQ F2 T (i1.2.up (by omega)) (i2.2.up (by omega))).mono le⟩⟩
 | eth u v i1 i2 =>
   obtain ⟨fd,F,b⟩:=FF.F_Either_holds
   obtain ⟨fd2,F2,b2⟩:=FF.F_Either_truths
   have le:max u.dp v.dp+4+1≤(Tr.eth u v).dp+4:=by show max u.dp v.dp+4+1≤max u.dp v.dp+1+4;omega
   exact ⟨⟨_,fd,T.M_Either_holds,b,(QfY F T (i1.1.up (by omega)) (i2.1.up (by omega))).mono le⟩,⟨_,fd2,T.M_Either_truths,b2,(QfP F2 T (i1.2.up (by omega)) (i2.2.up (by omega))).mono le⟩⟩
end
def Y8 (H:Hp) (u:Addr) (c:CD):Prop:=∃q m,H u=some (.tup [.ref q,.str c.fo,.ref m])∧H q=some (.tup [.str c.s,.str c.t,.str c.b,.int c.d,.str c.an])∧H m=some (.lst (c.ms.map V.str))
theorem Y8.kl {a:Adr} {H H':Hp} {u:Addr} {c:CD} (h:Y8 H u c) (k:KL a H H'):Y8 H' u c:=let ⟨q,m,e1,e2,e3⟩:=h;⟨q,m,k.keep e1 rfl,k.keep e2 rfl,k.keep e3 rfl⟩
theorem Y8.mono {H H':Hp} {u:Addr} {c:CD} (h:Y8 H u c) (k:Qm H H'):Y8 H' u c:=let ⟨q,m,e1,e2,e3⟩:=h;⟨q,m,k _ _ e1,k _ _ e2,k _ _ e3⟩
inductive Qc3 (a:Adr) (vs:List V) (H:Hp) (Q:VK):Prop
 | mk:∀q s t b d an,vs=[.ref q]→H q=some (.tup [.str s,.str t,.str b,.int d,.str an])→KS s t b d an→(∀x H',H x=none→Qm H H'→ZN a H' x s t b d an→Q (.ref x) H')→Qc3 a vs H Q
def QhP (a:Adr):Sp:=fun vs H Q _=>Qc3 a vs H Q
inductive QaU (vs:List V) (H:Hp) (Q:VK):Prop
 | mk:∀(sh c:Int),vs=[.int sh,.int c]→0≤sh→sh<2147483629→0≤c→(∀t p H',H p=none→Qm H H'→TAt H' p t→t.dp=0→Q (.ref p) H')→QaU vs H Q
def Qe1:Sp:=fun vs H Q _=>QaU vs H Q
theorem KN {X:Cx}:JA X (.type "list") (fun xs H Q=>∃p ys,xs=[.ref p]∧(SqL X.K H p ys∨SqT X.K H p ys)∧Yx (.lst ys) H Q):=by
 intro pins s σ H xs us Q I r h
 obtain ⟨p,ys,e,hq,q⟩:=h
 exact Ww pins s σ H xs us Q I r ⟨p,ys,e,hq,fun l hl=>Yx.put q hl⟩
theorem aln1:∀c:Nat,c<128→PySem.Txt.isalnum ⟨#[c]⟩=Qff c:=by decide +kernel
theorem Qht (x:Str):(!decide (x=("":Str)))=Vi x:=by
 unfold Vi
 rw [KH]
 by_cases h:x=Str.empty
 ·rw [decide_eq_true h,h];rfl
 ·rw [decide_eq_false h]
  have e:(x == Str.empty)=false:=by rw [beq_eq_false_iff_ne];exact h
  rw [e]
section
variable {P : Program} {w : World} {K : PySem.W.Frag} {mg : Str → Option Value} {base : Heap} {a : Adr}
theorem QdT {fd:FuncData} (F:Fun K "_law_letter" "_law_letter" Uo a.f_l_letter fd) (T:Txt K mg a) (FF:Z1 K a):Qw P w K mg base CX0 7 a.f_l_letter fd ["_law_parts"] (QhP a):=by
 obtain ⟨fdA,F_init,b_Letter_init,_⟩:=FF.F_Letter_init
 have G_Letter_init:Qw P w K mg base CX0 5 a.f_Letter_init fdA ["self","sender","title","body","day","answers"] (G9 a):=Qdl F_init T FF
 refine F.ok Qa0 (fun vs H Q E h=>?_) (fun cdv A outer st H vs Q E hr h=>?_)
 ·obtain ⟨q,s,t,b,d,an,rfl,_⟩:=h;rfl
 ·obtain ⟨q,s,t,b,d,an,rfl,e,g,k⟩:=h
  have hr_Letter_mk:QG 6 _:=hr
  refine ⟨_,(Qd (Qo (ZA T.k_Letter G_Letter_init hr_Letter_mk rfl T.mc_Letter b_Letter_init .nil Qy (pac (Qn Qs (pv 0) Qa (fun _ _=>rfl)) (pac (Qn Qs (pv 0) Qa (fun _ _=>rfl)) (pac (Qn Qs (pv 0) Qa (fun _ _=>rfl)) (pac (Qn Qs (pv 0) Qa (fun _ _=>rfl)) (pac (Qn Qs (pv 0) Qa (fun _ _=>rfl)) Qf)))))))),?_⟩
  exact ⟨_,rfl,q,_,_,_,rfl,rfl,SqT.of e,rfl,_,rfl,q,_,_,_,rfl,rfl,SqT.of e,rfl,_,rfl,q,_,_,_,rfl,rfl,SqT.of e,rfl,_,rfl,q,_,_,_,rfl,rfl,SqT.of e,rfl,_,rfl,q,_,_,_,rfl,rfl,SqT.of e,rfl,fun y dy ny nd ne=>Kl ny nd ne g fun H1 s1 hy=>⟨rfl,k y H1 ny s1 hy⟩⟩
theorem Qhh {fd:FuncData} (F:Fun K "_law_runs" "_law_runs" V4 a.f_l_runs fd) (T:Txt K mg a):Qw P w K mg base CX0 1 a.f_l_runs fd ["_law_text_here"] XC:=by
 refine F.ok YD (fun vs H Q E h=>?_) (fun cdv A outer st H vs Q E hr h=>?_)
 ·obtain ⟨x,rfl,_⟩:=h;rfl
 ·obtain ⟨x,rfl,hA,hx,k⟩:=h
  refine ⟨_,(Qb (Qv (i:=1) YD.nd rfl (Or.inl rfl) (Q0 Qq))
   (Qb (Qv (i:=2) YD.nd rfl (Or.inl rfl) Qi)
   (Qb (Z5 PassesOwn.never rfl (Qcp (Ql QH (pv 0) Qi)) (QR (i:=3) YD.nd rfl (Or.inl rfl)) (Qd (QK (Js (Kf PySem.F.plainAttrs_str PySem.F.slot_str_isalnum PySem.F.type_str_isalnum Qcy (pv 3))) (Qd (Qv (i:=2) YD.nd rfl (Or.inl rfl) (Ql QH (pv 2) (Kf PySem.F.plainAttrs_str PySem.F.slot_str_lower PySem.F.type_str_lower Qbx (pv 3))))) (Qd (QK (Qr Gu (pv 2) Qi (Qz _)) (Qb (Q9 (Z8 PySem.F.plainAttrs_list PySem.F.slot_list_append PySem.F.type_list_append Q3 (pv 1) (pac (pv 2) Qf)))
   (Qd (Qv (i:=2) YD.nd rfl (Or.inl rfl) Qi))) QB)))))
   (Qd (Qo (pv 1)))))),?_⟩
  refine ⟨(by show 0≤sizeLine;decide),fun D H1 nD s1 e1=>?_⟩
  have hlx:=Y2 x
  have el:(x++(" ":Str)).cps.toList=x.cps.toList++[32]:=by
   show (x.cps++(" ":Str).cps).toList=_
   rw [Array.toList_append]
   rfl
  have hAx:∀c∈(x++(" ":Str)).cps.toList,c<128:=fun c hc=>by
   rw [el] at hc
   rcases List.mem_append.mp hc with hc | hc
   ·exact hA c hc
   ·rw [List.mem_singleton.mp hc];decide
  have hln:(x++(" ":Str)).cps.toList.length=x.length+1:=by rw [el,List.length_append,List.length_singleton,hlx]
  refine ⟨_,rfl,_,_,rfl,rfl,Nat.le_of_lt (Qj (by show x.length+1≤1000;omega)),x++(" ":Str),rfl,?_⟩
  refine Qhw (x:=x++(" ":Str)) (fun i σ H2=>∃(o:Option V),σ=[some (.str x),some (.ref D),some (.str (wsc ((x++(" ":Str)).cps.toList.take i)).2),o]∧Qm H H2∧H2 D=some (.lst (((wsc ((x++(" ":Str)).cps.toList.take i)).1.filter Vi).map V.str)))
   ⟨none,by rw [List.take_zero];show _=[_,_,some (V.str Str.empty),_];rw [←KH];rfl,s1,by rw [List.take_zero];exact e1⟩ ?_ ?_
  ·rintro i c σ H2 hc ⟨o,rfl,s2,hD2⟩
   have hcl:(x++(" ":Str)).cps.toList[i]?=some c:=by simpa using hc
   have hil:i<(x++(" ":Str)).cps.toList.length:=(List.getElem?_eq_some_iff.mp hcl).1
   have hw:=QcN ((x++(" ":Str)).cps.toList.take i)
   rw [List.length_take] at hw
   have ew:=Qev hcl
   have hc128:=hAx c (List.mem_of_getElem? hcl)
   generalize wsc ((x++(" ":Str)).cps.toList.take i)=stt at hD2 hw ew
   obtain ⟨w1,wr⟩:=stt
   dsimp only at hD2 hw ⊢
   have hf:=List.length_filter_le Vi w1
   refine ⟨_,rfl,rfl,_,rfl,rfl,_,rfl,?_⟩
   rw [aln1 c hc128]
   cases hrun:Qff c
   ·refine QU ⟨_,rfl,rfl,_,rfl,?_⟩
    rw [XQ,Qht]
    have ew':wsc ((x++(" ":Str)).cps.toList.take (i+1))=(w1++[wr],Str.empty):=by rw [ew];unfold wst;rw [if_neg (by rw [hrun];decide)]
    cases hfu:Vi wr
    ·refine QU ⟨some (.str ⟨#[c]⟩),?_,s2,?_⟩
     ·rw [ew']
      have e0:wr=Str.empty:=by
       unfold Vi at hfu
       simpa using hfu
      rw [e0];rfl
     ·rw [ew',hD2]
      dsimp only
      rw [List.filter_append,List.filter_cons_of_neg (by rw [hfu];decide),List.filter_nil,List.append_nil]
    ·refine Zc ⟨_,rfl,.inl ⟨rfl,_,SqL.of hD2⟩,_,rfl,D,_,_,rfl,rfl,hD2,(by rw [List.length_map];exact Qj (by omega)),some (.str ⟨#[c]⟩),?_,s2.upd_of nD,?_⟩
     ·rw [ew',←KH];rfl
     ·rw [Qh,ew']
      dsimp only
      rw [List.filter_append,List.filter_cons_of_pos hfu,List.filter_nil,List.map_append]
      rfl
   ·have ew':wsc ((x++(" ":Str)).cps.toList.take (i+1))=(w1,wr++⟨#[PyProof.Rows.lo1 c]⟩):=by rw [ew];unfold wst;rw [if_pos hrun]
    have em:(⟨(⟨#[c]⟩:Str).cps.map PyProof.Rows.lo1⟩:Str)=⟨#[PyProof.Rows.lo1 c]⟩:=by simp
    refine Zc ⟨_,rfl,_,rfl,rfl,_,rfl,rfl,(fun z hz=>?_),(by show 1≤1000000;decide),_,_,rfl,rfl,Nat.le_of_lt (Qj ?_),?_⟩
    ·have:z=c:=by simpa using hz
     rw [this];exact hc128
    ·rw [em]
     show wr.length+1≤1000
     omega
    ·exact ⟨_,by rw [ew',em];rfl,s2,by rw [ew'];exact hD2⟩
  ·rintro σ H2 ⟨o,rfl,s2,hD2⟩
   refine ⟨_,rfl,k D H2 nD s2 ?_⟩
   have e9:(x++(" ":Str)).cps.toList.take (x++(" ":Str)).cps.size=x.cps.toList++[32]:=by rw [←el];exact List.take_of_length_le (by simp)
   rw [e9] at hD2
   have e10:wsc (x.cps.toList++[32])=((wsc x.cps.toList).1++[(wsc x.cps.toList).2],Str.empty):=by
    unfold wsc
    rw [List.foldl_append]
    show wst _ 32=_
    unfold wst
    rw [if_neg (by decide +kernel)]
   rw [e10] at hD2
   exact hD2
end
theorem TAt.tups {H H':Hp} {p:Addr} {t:Tr} (h:TAt H p t) (k:∀c xs,H c=some (.tup xs)→H' c=some (.tup xs)):TAt H' p t:=by
 induction h with
 | any e=>exact .any (k _ _ e)
 | ans e=>exact .ans (k _ _ e)
 | word e w=>exact .word (k _ _ e) w
 | title e w=>exact .title (k _ _ e) w
 | frm e w=>exact .frm (k _ _ e) w
 | days e b=>exact .days (k _ _ e) b
 | inn e w=>exact .inn (k _ _ e) w
 | mrk e w=>exact .mrk (k _ _ e) w
 | nt e _ ih=>exact .nt (k _ _ e) ih
 | thr e _ ih=>exact .thr (k _ _ e) ih
 | bth e _ _ i1 i2=>exact .bth (k _ _ e) i1 i2
 | eth e _ _ i1 i2=>exact .eth (k _ _ e) i1 i2
theorem TAt.shape {H:Hp} {p:Addr} {t:Tr} (h:TAt H p t):∃s rest,H p=some (.tup (V.str s :: rest))∧rest.length≤2∧∀v∈rest,(∃z,v=.str z)∨(∃i,v=.int i)∨∃q u,v=.ref q∧TAt H q u∧u.dp<t.dp:=by
 cases h with
 | any e=>exact ⟨_,_,e,by simp,fun v hv=>nomatch hv⟩
 | ans e=>exact ⟨_,_,e,by simp,fun v hv=>nomatch hv⟩
 | word e w=>exact ⟨_,_,e,by simp,fun v hv=>.inl ⟨_,List.mem_singleton.mp hv⟩⟩
 | title e w=>exact ⟨_,_,e,by simp,fun v hv=>.inl ⟨_,List.mem_singleton.mp hv⟩⟩
 | frm e w=>exact ⟨_,_,e,by simp,fun v hv=>.inl ⟨_,List.mem_singleton.mp hv⟩⟩
 | days e _ =>
   refine ⟨_,_,e,by simp,fun v hv=>.inr (.inl ?_)⟩
   simp only [List.mem_cons,List.not_mem_nil,or_false] at hv
   rcases hv with rfl | rfl <;> exact ⟨_,rfl⟩
 | inn e w=>exact ⟨_,_,e,by simp,fun v hv=>.inl ⟨_,List.mem_singleton.mp hv⟩⟩
 | mrk e w=>exact ⟨_,_,e,by simp,fun v hv=>.inl ⟨_,List.mem_singleton.mp hv⟩⟩
 | nt e h=>exact ⟨_,_,e,by simp,fun v hv=>.inr (.inr ⟨_,_,List.mem_singleton.mp hv,h,Nat.lt_succ_self _⟩)⟩
 | thr e h=>exact ⟨_,_,e,by simp,fun v hv=>.inr (.inr ⟨_,_,List.mem_singleton.mp hv,h,Nat.lt_succ_self _⟩)⟩
 | bth e h1 h2 =>
   refine ⟨_,_,e,by simp,fun v hv=>.inr (.inr ?_)⟩
   simp only [List.mem_cons,List.not_mem_nil,or_false] at hv
   rcases hv with rfl | rfl
   ·exact ⟨_,_,rfl,h1,by show _<max _ _+1;omega⟩
   ·exact ⟨_,_,rfl,h2,by show _<max _ _+1;omega⟩
 | eth e h1 h2 =>
   refine ⟨_,_,e,by simp,fun v hv=>.inr (.inr ?_)⟩
   simp only [List.mem_cons,List.not_mem_nil,or_false] at hv
   rcases hv with rfl | rfl
   ·exact ⟨_,_,rfl,h1,by show _<max _ _+1;omega⟩
   ·exact ⟨_,_,rfl,h2,by show _<max _ _+1;omega⟩
theorem kitST {K:PySem.W.Frag}:PySem.W.kitOne K (.type "str") (.type "tuple")=some false:=by kernel_rfl
theorem kitIT {K:PySem.W.Frag}:PySem.W.kitOne K (.type "int") (.type "tuple")=some false:=by kernel_rfl
inductive QcW (n:Nat) (vs:List V) (H:Hp) (Q:VK):Prop
 | mk:∀p t,vs=[.ref p]→TAt H p t→t.dp<n→(∀(z:Int) H',Qm H H'→Q (.int z) H')→QcW n vs H Q
def QhL (n:Nat):Sp:=fun vs H Q _=>QcW n vs H Q
theorem Qd6:∀v∈([.str "word",.str "title",.str "from",.str "in",.str "marked",.str "word",.str "marked"]:List V),∃(s:Str) (f:Str→Tr),v=.str s∧(∀u,(f u).dp=0)∧∀(H:Hp) p u,H p=some (.tup [.str s,.str u])→Q4 u→TAt H p (f u):=by
 intro v hv
 simp only [List.mem_cons,List.not_mem_nil,or_false] at hv
 rcases hv with rfl | rfl | rfl | rfl | rfl | rfl | rfl
 ·exact ⟨_,.word,rfl,fun _=>rfl,fun H p u e w=>.word e w⟩
 ·exact ⟨_,.title,rfl,fun _=>rfl,fun H p u e w=>.title e w⟩
 ·exact ⟨_,.frm,rfl,fun _=>rfl,fun H p u e w=>.frm e w⟩
 ·exact ⟨_,.inn,rfl,fun _=>rfl,fun H p u e w=>.inn e w⟩
 ·exact ⟨_,.mrk,rfl,fun _=>rfl,fun H p u e w=>.mrk e w⟩
 ·exact ⟨_,.word,rfl,fun _=>rfl,fun H p u e w=>.word e w⟩
 ·exact ⟨_,.mrk,rfl,fun _=>rfl,fun H p u e w=>.mrk e w⟩
theorem QaD {xs:List Int} {i:Int} (h0:0≤i) (h1:i<(xs.length:Int)):∃z∈xs,atI (xs.map V.int) i=some (.int z):=by
 obtain ⟨v,hv,hm,_⟩:=ZB (xs:=xs.map V.int) (i:=i) h0 (by rw [List.length_map];exact h1)
 obtain ⟨z,hz,rfl⟩:=List.mem_map.mp hm
 exact ⟨z,hz,hv⟩
section
variable {P : Program} {w : World} {K : PySem.W.Frag} {mg : Str → Option Value} {base : Heap} {a : Adr}
theorem Qhj {fd:FuncData} (F:Fun K "_law_leaf_by" "_law_leaf_by" YL a.f_l_leaf_by fd) (T:Txt K mg a) (FF:Z1 K a):Qw P w K mg base CX0 2 a.f_l_leaf_by fd ["_law_shape","_law_cell"] Qe1:=by
 obtain ⟨fdW,F_l_word_by,b_l_word_by⟩:=FF.F_l_word_by
 have G_l_word_by:Qw P w K mg base CX0 1 a.f_l_word_by fdW ["_law_shape","_law_k"] Ul:=Ut F_l_word_by T
 refine F.ok Yy (fun vs H Q E h=>?_) (fun cdv A outer st H vs Q E hr h=>?_)
 ·obtain ⟨sh,c,rfl,_⟩:=h;rfl
 ·obtain ⟨sh,c,rfl,hs0,hs1,hc,k⟩:=h
  have hr_l_word_by:QG 1 _:=hr
  refine ⟨_,(Qb (Qv (i:=2) Yy.nd rfl (Or.inl rfl) (Qx G_l_word_by hr_l_word_by rfl T.m_l_word_by F_l_word_by.kp b_l_word_by .nil Qy (pac (pv 0) (pac (Ql QP (Ql QT (pv 1) Qa) Qa) Qf))))
   (Qb (Qv (i:=3) Yy.nd rfl (Or.inl rfl) (Ql QP (pv 1) Qa))
   (Qb (QK (Qr QZ (pv 3) Qa (Qz _)) (Qd (Qo (QV (Qc Qi Qq)))) QB)
   (Qb (QK (Qr QZ (pv 3) Qa (Qz _)) (Qd (Qo (QV (Qc Qi Qq)))) QB)
   (Qb (QK (Qr Qdj (pv 3) Qa (Qz _)) (Qb (Qv (i:=4) Yy.nd rfl (Or.inl rfl) (Qn QA (Q0 (Qc Qa (Qc (Ql QP (Ql QT (pv 1) Qa) Qa) (Qc (Ql QP (Ql QT (pv 1) Qa) Qa) Qq)))) (Ql QP (Ql QT (pv 1) Qa) Qa) (fun _ _=>rfl)))
   (Qd (Qo (QV (Qc Qi (Qc (pv 4) (Qc (Qn QA (Q0 (Qc (pv 4) (Qc Qa (Qc (Ql QP (Ql QT (pv 1) Qa) Qa) (Qc (Ql QP (Ql QT (pv 1) Qa) Qa) Qq))))) (Ql QP (Ql QT (pv 1) Qa) Qa) (fun _ _=>rfl)) Qq))))))) QB)
   (Qd (Qo (QV (Qc (Qn QA (Q0 (Qc Qi (Qc Qi (Qc Qi (Qc Qi (Qc Qi (Qc Qi (Qc Qi Qq)))))))) (Ql Qcs (pv 3) Qa) (fun _ _=>rfl)) (Qc (pv 2) Qq)))))))))),?_⟩
  have m0:0≤c / 11 % 5:=Int.emod_nonneg _ (by decide)
  have m1:c / 11 % 5<5:=Int.emod_lt_of_pos _ (by decide)
  have n0:0≤c % 11:=Int.emod_nonneg _ (by decide)
  have n1:c % 11<11:=Int.emod_lt_of_pos _ (by decide)
  refine ⟨_,rfl,_,rfl,_,_,rfl,rfl,⟨by decide,by decide⟩,_,_,rfl,rfl,(by show (0:Int)<5;decide),sh,c / 11 % 5,rfl,hs0,by omega,m0,by omega,fun H1 s1=>?_⟩
  have hwd:Q4 (ZO sh (c / 11 % 5)):=JY m0 (by omega)
  generalize ZO sh (c / 11 % 5)=wd at hwd
  refine ⟨_,rfl,_,_,rfl,rfl,(by show (0:Int)<11;decide),?_⟩
  refine ⟨_,rfl,rfl,_,rfl,?_⟩
  rw [KD]
  by_cases h0:c % 11=0
  ·rw [decide_eq_true h0]
   exact Zc ⟨(by show 1≤sizeLine;decide),fun p H2 np s2 e2=>k .any p H2 (s1.free np) (s1.trans s2) (.any e2) rfl⟩
  rw [decide_eq_false h0]
  refine QU ⟨_,rfl,rfl,_,rfl,?_⟩
  rw [KD]
  by_cases h1:c % 11=1
  ·rw [decide_eq_true h1]
   exact Zc ⟨(by show 1≤sizeLine;decide),fun p H2 np s2 e2=>k .ans p H2 (s1.free np) (s1.trans s2) (.ans e2) rfl⟩
  rw [decide_eq_false h1]
  refine QU ⟨_,rfl,_,_,rfl,rfl,_,rfl,?_⟩
  by_cases h2:c % 11<4
  ·rw [decide_eq_true h2]
   have fm:∀n:Int,True:=fun _=>trivial
   refine Zc ⟨_,rfl,_,_,rfl,rfl,⟨by decide,by decide⟩,_,_,rfl,rfl,(by show (0:Int)<10000;decide),_,rfl,_,_,rfl,rfl,⟨by decide,by decide⟩,_,_,rfl,rfl,(by show (0:Int)<9;decide),(by show 3≤sizeLine;decide),fun l H2 nl s2 e2=>?_⟩
   obtain ⟨lo,mlo,hlo⟩:=QaD (xs:=[0,c / 55 % 10000,c / 55 % 9]) (i:=c / 3 % 3) (Int.emod_nonneg _ (by decide)) (Int.emod_lt_of_pos _ (by decide))
   refine ⟨_,rfl,_,_,rfl,rfl,⟨by decide,by decide⟩,_,_,rfl,rfl,(by show (0:Int)<3;decide),l,_,_,_,rfl,rfl,SqL.of e2,hlo,?_⟩
   refine ⟨_,rfl,_,rfl,_,rfl,_,_,rfl,rfl,⟨by decide,by decide⟩,_,_,rfl,rfl,(by show (0:Int)<10000;decide),_,rfl,_,_,rfl,rfl,⟨by decide,by decide⟩,_,_,rfl,rfl,(by show (0:Int)<9;decide),(by show 4≤sizeLine;decide),fun l2 H3 nl2 s3 e3=>?_⟩
   obtain ⟨hi,mhi,hhi⟩:=QaD (xs:=[lo,9999,c / 77 % 10000,c / 77 % 9]) (i:=c / 5 % 4) (Int.emod_nonneg _ (by decide)) (Int.emod_lt_of_pos _ (by decide))
   refine ⟨_,rfl,_,_,rfl,rfl,⟨by decide,by decide⟩,_,_,rfl,rfl,(by show (0:Int)<4;decide),l2,_,_,_,rfl,rfl,SqL.of e3,hhi,(by show 3≤sizeLine;decide),fun p H4 np s4 e4=>?_⟩
   have r1:0≤c / 55 % 10000∧c / 55 % 10000<10000:=⟨Int.emod_nonneg _ (by decide),Int.emod_lt_of_pos _ (by decide)⟩
   have r2:0≤c / 55 % 9∧c / 55 % 9<9:=⟨Int.emod_nonneg _ (by decide),Int.emod_lt_of_pos _ (by decide)⟩
   have r3:0≤c / 77 % 10000∧c / 77 % 10000<10000:=⟨Int.emod_nonneg _ (by decide),Int.emod_lt_of_pos _ (by decide)⟩
   have r4:0≤c / 77 % 9∧c / 77 % 9<9:=⟨Int.emod_nonneg _ (by decide),Int.emod_lt_of_pos _ (by decide)⟩
   have blo:0≤lo∧lo≤9999:=by
    simp only [List.mem_cons,List.not_mem_nil,or_false] at mlo
    rcases mlo with rfl | rfl | rfl <;> omega
   have bhi:0≤hi∧hi≤9999:=by
    simp only [List.mem_cons,List.not_mem_nil,or_false] at mhi
    rcases mhi with rfl | rfl | rfl | rfl <;> omega
   exact k (.days lo hi) p H4 (s1.free (s2.free (s3.free np))) (((s1.trans s2).trans s3).trans s4) (.days e4 ⟨blo.1,blo.2,bhi.1,bhi.2⟩) rfl
  ·rw [decide_eq_false h2]
   refine QU ⟨(by show 7≤sizeLine;decide),fun l H2 nl s2 e2=>?_⟩
   obtain ⟨v,hv,hvm,_⟩:=ZB (xs:=[V.str "word",V.str "title",V.str "from",V.str "in",V.str "marked",V.str "word",V.str "marked"]) (i:=c % 11 - 4) (by omega) (by show c % 11 - 4<7;omega)
   obtain ⟨nm,f,rfl,fd0,ft⟩:=Qd6 v hvm
   refine ⟨_,rfl,_,_,rfl,rfl,l,_,_,_,rfl,rfl,SqL.of e2,hv,_,rfl,(by show 2≤sizeLine;decide),fun p H3 np s3 e3=>?_⟩
   exact k (f wd) p H3 (s1.free (s2.free np)) ((s1.trans s2).trans s3) (ft H3 p wd e3 hwd) (fd0 wd)
end
section
variable {P : Program} {w : World} {K : PySem.W.Frag} {mg : Str → Option Value} {base : Heap} {a : Adr}
theorem QfN {fd:FuncData} (F:Fun K "_law_threads" "_law_threads" YJ a.f_l_threads fd) (b_l_threads:Qt K fd ["_law_tree"] []) (T:Txt K mg a):∀n,Qw P w K mg base CX0 (n+1) a.f_l_threads fd ["_law_tree"] (QhL n)
 | 0=>by
   refine F.ok JM (fun vs H Q E h=>?_) (fun cdv A outer st H vs Q E hr h=>?_)
   ·obtain ⟨p,t,rfl,_⟩:=h;rfl
   ·obtain ⟨p,t,_,_,h,_⟩:=h;exact absurd h (Nat.not_lt_zero _)
 | n+1=>by
   have G_l_threads:=QfN F b_l_threads T n
   refine F.ok JM (fun vs H Q E h=>?_) (fun cdv A outer st H vs Q E hr h=>?_)
   ·obtain ⟨p,t,rfl,_⟩:=h;rfl
   obtain ⟨p,t,rfl,tt,hd,k⟩:=h
   have hr_l_threads:QG (n+1) _:=hr
   refine ⟨_,(Qb (Qv (i:=1) JM.nd rfl (Or.inl rfl) Qa)
    (Qb (Z5 PassesOwn.never rfl (Kc (Q7 QgZ (pv 0) (Q6 Qa) Z7)) (QR (i:=2) JM.nd rfl (Or.inl rfl)) (Qd (QK (Js (QO Zn rfl T.b_isinstance PyProof.Rows.boot_isinstance (pac (pv 2) (pac (Yi (v:=.ty "tuple") rfl T.b_tuple PyProof.Rows.boot_tuple rfl) Qf)))) (Qd (Qv (i:=1) JM.nd rfl (Or.inl rfl) (QO (Qeq rfl) rfl T.b_max PyProof.Rows.boot_max (pac (pv 1) (pac (Qx G_l_threads hr_l_threads rfl T.m_l_threads F.kp b_l_threads .nil Qy (pac (pv 2) Qf)) Qf))))) QB)))
    (Qd (Qo (Ql ZE (pv 1) (Z3 Qer rfl T.b_int PyProof.Rows.boot_int (pac (JC QZ (Qn Qs (pv 0) Qa (fun _ _=>rfl)) Qi (Qz _)) Qf))))))),?_⟩
   obtain ⟨s,rest,e,hl,hm⟩:=tt.shape
   have ec:Yo (V.str s :: rest) (some 1) none=rest:=by
    have:=Wu (fun v:V=>v) (V.str s :: rest) 1 (by decide)
    simpa using this
   refine ⟨_,rfl,_,rfl,p,_,rfl,e,fun q H1 s1 e1=>?_⟩
   rw [ec] at e1
   refine ⟨q,rfl,⟨_,SqT.of e1⟩,QaA (K:=K) (a:=q) (xs:=rest) (fun i σ H2=>∃(z:Int) (o:Option V),σ=[some (.ref p),some (.int z),o]∧Qm H H2∧H2 q=some (.tup rest)) ⟨0,none,rfl,s1,e1⟩ (fun i σ H2 _ ⟨_,_,_,_,h⟩=>SqT.of h) ?_ ?_⟩
   ·rintro i v σ H2 hi ⟨z,o,rfl,s2,e2⟩
    rcases hm v (List.mem_of_getElem? hi) with ⟨y,rfl⟩ | ⟨y,rfl⟩ | ⟨r,u,rfl,hu,hud⟩
    ·exact ⟨_,rfl,_,_,_,_,_,rfl,rfl,Yp.str _,kitST,_,rfl,QU ⟨z,_,rfl,s2,e2⟩⟩
    ·exact ⟨_,rfl,_,_,_,_,_,rfl,rfl,Yp.int _,kitIT,_,rfl,QU ⟨z,_,rfl,s2,e2⟩⟩
    ·have hu2:=hu.mono s2
     obtain ⟨s',rest',er,_,_⟩:=hu2.shape
     refine ⟨_,rfl,_,_,_,_,_,rfl,rfl,Yp.tup er,QhY,_,rfl,Zc ⟨_,rfl,_,rfl,r,u,rfl,hu2,by omega,fun z2 H3 s3=>?_⟩⟩
     exact ⟨_,_,rfl,_,_,rfl,s2.trans s3,s3 _ _ e2⟩
   ·rintro σ H2 ⟨z,o,rfl,s2,e2⟩
    refine ⟨_,rfl,_,rfl,p,_,_,V.str s,rfl,rfl,SqT.of (s2 _ _ e),Wy (j:=0) rfl,rfl,.inr ⟨_,rfl,_,_,rfl,rfl,k _ H2 s2⟩⟩
end
structure PL (H0 H:Hp) (D:Addr) (ps:List (Addr×Tr)) (n:Nat):Prop where
 s:Qm H0 H
 nD:H0 D=none
 e:H D=some (.lst (ps.map fun x=>V.ref x.1))
 t:∀x∈ps,TAt H x.1 x.2∧x.2.dp+ps.length≤n
theorem PL.app {H0 H H':Hp} {D q:Addr} {t:Tr} {ps:List (Addr×Tr)} {n:Nat} (h:PL H0 H D ps n) (s:Qm H H') (ht:TAt H' q t) (hd:t.dp=0) (hn:ps.length≤n):PL H0 (upd H' D (.lst ((ps.map fun x=>V.ref x.1)++[.ref q]))) D (ps++[(q,t)]) (n+1):=by
 have hD:=s _ _ h.e
 have kt:∀c xs,H' c=some (.tup xs)→(upd H' D (.lst ((ps.map fun x=>V.ref x.1)++[.ref q]))) c=some (.tup xs):=fun c xs e=>by rw [Qk (Zq e hD (fun z=>nomatch z))];exact e
 refine ⟨(h.s.trans s).upd_of h.nD,h.nD,by rw [Qh,List.map_append];rfl,fun x hx=>?_⟩
 rw [List.length_append,List.length_singleton]
 rcases List.mem_append.mp hx with hx | hx
 ·exact ⟨((h.t x hx).1.mono s).tups kt,by have:=(h.t x hx).2;omega⟩
 ·rw [List.mem_singleton.mp hx]
  exact ⟨ht.tups kt,by dsimp only;omega⟩
theorem PL.repl {H0 H H':Hp} {D D' p:Addr} {t:Tr} {ps l:List (Addr×Tr)} {n n':Nat} (h:PL H0 H D (ps++l) n) (s:Qm H H') (nD:H D'=none) (e:H' D'=some (.lst ((ps.map fun x=>V.ref x.1)++[.ref p]))) (ht:TAt H' p t) (hl:1≤l.length) (hd:t.dp+ps.length+1≤n') (hn:n≤n'):PL H0 H' D' (ps++[(p,t)]) n':=by
 refine ⟨h.s.trans s,h.s.free nD,by rw [e,List.map_append];rfl,fun x hx=>?_⟩
 rw [List.length_append,List.length_singleton]
 rcases List.mem_append.mp hx with hx | hx
 ·have q:=h.t x (List.mem_append_left _ hx)
  rw [List.length_append] at q
  exact ⟨q.1.mono s,by have:=q.2;omega⟩
 ·rw [List.mem_singleton.mp hx]
  exact ⟨ht,by dsimp only;omega⟩
theorem Ua {α:Type} {l:List α} (h:0<l.length):∃l0 x,l=l0++[x]:=⟨l.dropLast,l.getLast (by intro z;rw [z] at h;cases h),(List.dropLast_concat_getLast _).symm⟩
theorem QiJ {cs:List Int} {i:Nat} {x:V} (h:(cs.map V.int)[i]?=some x):∃c,x=.int c∧cs[i]?=some c:=by
 rw [List.getElem?_map] at h
 cases e:cs[i]? with
 | none=>rw [e] at h;cases h
 | some c=>rw [e] at h;cases h;exact ⟨c,rfl,rfl⟩
def lenAt (H:Hp):Option V→Nat
 | some (.ref D)=>(match H D with | some (.lst xs)=>xs.length | _=>0)
 | _=>0
theorem GR {α:Type} (f:α→V) (xs:List α) (x y:α):Yo ((xs++[x,y]).map f) none (some (-2))=xs.map f:=by
 have h1:(-2:Int)<0:=by decide
 simp only [Yo,HT.sIx,if_pos h1,List.drop_zero,List.length_map,List.length_append,List.length_cons,List.length_nil,Nat.sub_zero,←List.map_take]
 congr 1
 have e:(-2+((xs.length+(0+1+1):Nat):Int)).toNat=xs.length:=by omega
 rw [e,List.take_left]
theorem GZ {α:Type} (xs:List α) (u v:α):atI (xs++[u,v]) (-2)=some u:=by
 have hl:(xs++[u,v]).length=xs.length+2:=by simp
 have e:ixN (xs++[u,v]).length (-2)=some xs.length:=by
  unfold ixN
  rw [hl,if_neg (by decide),if_pos (by omega)]
  congr 1
  omega
 unfold atI
 rw [e]
 show (xs++[u,v])[xs.length]?=some u
 simp
theorem G0 {α:Type} (xs:List α) (u v:α):atI (xs++[u,v]) (-1)=some v:=by
 have:=Wz (xs++[u]) v
 rwa [List.append_assoc] at this
theorem GJ:∀v∈([.str "both",.str "either"]:List V),∃(s:Str) (f:Tr→Tr→Tr),v=.str s∧(∀u v,(f u v).dp=max u.dp v.dp+1)∧∀(H:Hp) p q r u v,H p=some (.tup [.str s,.ref q,.ref r])→TAt H q u→TAt H r v→TAt H p (f u v):=by
 intro v hv
 simp only [List.mem_cons,List.not_mem_nil,or_false] at hv
 rcases hv with rfl | rfl
 ·exact ⟨_,.bth,rfl,fun _ _=>rfl,fun H p q r u v e h1 h2=>.bth e h1 h2⟩
 ·exact ⟨_,.eth,rfl,fun _ _=>rfl,fun H p q r u v e h1 h2=>.eth e h1 h2⟩
inductive QeV (vs:List V) (H:Hp) (Q:VK):Prop
 | mk:∀(sh:Int) (p:Addr) (cs:List Int),vs=[.int sh,.ref p]→0≤sh→sh<2147483629→H p=some (.lst (cs.map V.int))→(∀c∈cs,0≤c)→1≤cs.length→cs.length≤8→(∀t q H',Qm H H'→TAt H' q t→t.dp<8→Q (.ref q) H')→QeV vs H Q
def spTB:Sp:=fun vs H Q _=>QeV vs H Q
section
variable {P : Program} {w : World} {K : PySem.W.Frag} {mg : Str → Option Value} {base : Heap} {a : Adr}
theorem ok_tb {fd:FuncData} (F:Fun K "_law_tree_by" "_law_tree_by" YI a.f_l_tree_by fd) (T:Txt K mg a) (FF:Z1 K a):Qw P w K mg base CX0 11 a.f_l_tree_by fd ["_law_shape","_law_cells"] spTB:=by
 obtain ⟨fdL,F_l_leaf_by,b_l_leaf_by⟩:=FF.F_l_leaf_by
 have G_l_leaf_by:Qw P w K mg base CX0 2 a.f_l_leaf_by fdL ["_law_shape","_law_cell"] Qe1:=Qhj F_l_leaf_by T FF
 obtain ⟨fdT,F_l_threads,b_l_threads⟩:=FF.F_l_threads
 have G_l_threads:Qw P w K mg base CX0 10 a.f_l_threads fdT ["_law_tree"] (QhL 9):=QfN F_l_threads b_l_threads T 9
 refine F.ok Zu (fun vs H Q E h=>?_) (fun cdv A outer st H vs Q E hr h=>?_)
 ·obtain ⟨sh,p,cs,rfl,_⟩:=h;rfl
 ·obtain ⟨sh,p,cs,rfl,hs0,hs1,hp,hcs,hl1,hl8,k⟩:=h
  have hr_l_threads:QG 10 _:=hr
  have hr_l_leaf_by:QG 2 _:=hr_l_threads.mono (by decide)
  refine ⟨_,(Qb (Qv (i:=2) Zu.nd rfl (Or.inl rfl) (Q0 Qq))
   (Qb (Z5 PassesOwn.never rfl (Zx (pv 1)) (QR (i:=3) Zu.nd rfl (Or.inl rfl)) (Qb (Qv (i:=4) Zu.nd rfl (Or.inl rfl) (Ql QP (pv 3) Qa))
   (Qd (QK (PW.pt (Ka (Qr Qdj (pv 4) Qa (Qz _)) (XG (Qr Ki (QO Zk rfl T.b_len PySem.boot_len (pac (pv 2) Qf)) Qa (Qz _))))) (Qd (Qv (i:=2) Zu.nd rfl (Or.inl rfl) (Ql YA (Q7 Zs (pv 2) Z7 (Q6 (U7 YF Qa))) (Q0 (Qc (QV (Qc Qi (Qc (Qn QA (pv 2) (U7 YF Qa) (fun _ _=>rfl)) Qq))) Qq))))) (Qd (QK (PW.pt (Ka (Qr QZ (pv 4) Qa (Qz _)) (Ka (Qr Ki (QO Zk rfl T.b_len PySem.boot_len (pac (pv 2) Qf)) Qa (Qz _)) (XG (Qr Qdj (Qx G_l_threads hr_l_threads rfl T.m_l_threads F_l_threads.kp b_l_threads .nil Qy (pac (Qn QA (pv 2) (U7 YF Qa) (fun _ _=>rfl)) Qf)) Qa (Qz _)))))) (Qd (Qv (i:=2) Zu.nd rfl (Or.inl rfl) (Ql YA (Q7 Zs (pv 2) Z7 (Q6 (U7 YF Qa))) (Q0 (Qc (QV (Qc Qi (Qc (Qn QA (pv 2) (U7 YF Qa) (fun _ _=>rfl)) Qq))) Qq))))) (Qd (QK (PW.pt (Ka (Qr Ki (pv 4) Qa (Qz _)) (XG (Qr Ki (QO Zk rfl T.b_len PySem.boot_len (pac (pv 2) Qf)) Qa (Qz _))))) (Qd (Qv (i:=2) Zu.nd rfl (Or.inl rfl) (Ql YA (Q7 Zs (pv 2) Z7 (Q6 (U7 YF Qa))) (Q0 (Qc (QV (Qc (Qn QA (Q0 (Qc Qi (Qc Qi Qq))) (Ql QP (pv 4) Qa) (fun _ _=>rfl)) (Qc (Qn QA (pv 2) (U7 YF Qa) (fun _ _=>rfl)) (Qc (Qn QA (pv 2) (U7 YF Qa) (fun _ _=>rfl)) Qq)))) Qq))))) (Qd (Q9 (Z8 PySem.F.plainAttrs_list PySem.F.slot_list_append PySem.F.type_list_append Q3 (pv 2) (pac (Qx G_l_leaf_by hr_l_leaf_by rfl T.m_l_leaf_by F_l_leaf_by.kp b_l_leaf_by .nil Qy (pac (pv 0) (pac (Ql QT (pv 3) Qa) Qf))) Qf))))))))))))
   (Qb (Qfy PassesOwn.never (Qr Ki (QO Zk rfl T.b_len PySem.boot_len (pac (pv 2) Qf)) Qa (Qz _)) (Qd (Qv (i:=2) Zu.nd rfl (Or.inl rfl) (Ql YA (Q7 Zs (pv 2) Z7 (Q6 (U7 YF Qa))) (Q0 (Qc (QV (Qc (Qn QA (Q0 (Qc Qi (Qc Qi Qq))) (Ql QP (Ql QT (Qn QA (pv 1) Qa (fun _ _=>rfl)) Qa) Qa) (fun _ _=>rfl)) (Qc (Qn QA (pv 2) (U7 YF Qa) (fun _ _=>rfl)) (Qc (Qn QA (pv 2) (U7 YF Qa) (fun _ _=>rfl)) Qq)))) Qq))))))
   (Qd (Qo (Qn QA (pv 2) Qa (fun _ _=>rfl))))))),?_⟩
  refine ⟨(by show 0≤sizeLine;decide),fun D0 H1 nD0 s1 e1=>?_⟩
  refine ⟨_,rfl,p,rfl,⟨_,SqL.of (s1 _ _ hp)⟩,Uw (K:=K) (a:=p) (xs:=cs.map V.int) (fun i σ H2=>∃(D:Addr) (ps:List (Addr×Tr)) (o3 o4:Option V),σ=[some (.int sh),some (.ref p),some (.ref D),o3,o4]∧PL H H2 D ps i∧(1≤i→0<ps.length)∧ps.length≤i)
   ⟨D0,[],none,none,rfl,⟨s1,nD0,e1,fun x hx=>nomatch hx⟩,(fun z=>absurd z (by decide)),Nat.le_refl _⟩ (fun i σ H2 _ ⟨_,_,_,_,_,h,_⟩=>SqL.of (h.s _ _ hp)) ?_ ?_⟩
  ·rintro i x σ H2 hi ⟨D,ps,o3,o4,rfl,pl,hne,hle⟩
   obtain ⟨c,rfl,hci⟩:=QiJ hi
   have hi8:i<cs.length:=(List.getElem?_eq_some_iff.mp hci).1
   have hc0:=hcs c (List.mem_of_getElem? hci)
   have hc9:0≤c / 9:=Int.ediv_nonneg hc0 (by decide)
   have n0:0≤c % 9:=Int.emod_nonneg _ (by decide)
   have n1:c % 9<9:=Int.emod_lt_of_pos _ (by decide)
   have hD:=pl.e
   have hll:((ps.map fun x=>V.ref x.1).length:Int)=(ps.length:Int):=by rw [List.length_map]
   refine ⟨_,rfl,_,_,rfl,rfl,(by show (0:Int)<9;decide),?_⟩
   by_cases k2:c % 9<2
   ·by_cases hlen:0<ps.length
    ·refine ⟨_,rfl,_,_,rfl,rfl,_,rfl,?_⟩
     rw [decide_eq_true (k2)]
     refine Zc ⟨_,rfl,D,_,rfl,.inl (SqL.of hD),_,_,rfl,rfl,_,rfl,?_⟩
     rw [decide_eq_true (by rw [hll];omega)]
     refine Zc ?_
     obtain ⟨ps0,⟨q,t⟩,rfl⟩:=Ua (l:=ps) (by omega)
     have ht:=pl.t (q,t) (by simp)
     rw [List.length_append,List.length_singleton] at ht hle
     dsimp only at ht
     refine ⟨_,rfl,_,rfl,_,rfl,D,_,rfl,SqL.of hD,fun l1 H3 n1 s3 e3=>?_⟩
     rw [QbM] at e3
     refine ⟨_,rfl,_,rfl,D,_,_,V.ref q,rfl,rfl,SqL.of (s3 _ _ hD),(by rw [List.map_append];exact Wz _ _),(by show 2≤sizeLine;decide),fun p1 H4 np s4 e4=>⟨(by show 1≤sizeLine;decide),fun l2 H5 n5 s5 e5=>?_⟩⟩
     refine ⟨l1,l2,_,_,rfl,rfl,s5 _ _ (s4 _ _ e3),e5,Nat.le_of_lt (Qj (by rw [List.length_map,List.length_singleton];omega)),fun D2 H6 n6 s6 e6=>?_⟩
     have s36:Qm H2 H6:=((s3.trans s4).trans s5).trans s6
     exact ⟨D2,ps0++[(p1,.nt t)],_,_,rfl,pl.repl (l:=[(q,t)]) ( s36) (s3.free (s4.free (s5.free n6))) e6 (.nt (s6 _ _ (s5 _ _ e4)) (ht.1.mono ( s36))) (Nat.le_refl _) (by show t.dp+1+ps0.length+1≤i+1;omega) (Nat.le_succ _),(fun _=>by rw [List.length_append,List.length_singleton];omega),by rw [List.length_append,List.length_singleton];omega⟩
    ·refine ⟨_,rfl,_,_,rfl,rfl,_,rfl,?_⟩
     rw [decide_eq_true (k2)]
     refine Zc ⟨_,rfl,D,_,rfl,.inl (SqL.of hD),_,_,rfl,rfl,_,rfl,?_⟩
     rw [decide_eq_false (by rw [hll];omega)]
     refine QU ⟨_,rfl,rfl,_,rfl,?_⟩
     rw [KD,decide_eq_false (by omega)]
     refine QU (QU ⟨_,rfl,_,_,rfl,rfl,_,rfl,?_⟩)
     rw [decide_eq_false (by omega)]
     refine QU (QU ?_)
     refine ⟨_,rfl,.inl ⟨rfl,_,SqL.of hD⟩,_,rfl,_,rfl,_,_,rfl,rfl,⟨by decide,by decide⟩,sh,c / 9,rfl,hs0,hs1,hc9,fun t q H4 nq s4 ht hd0=>?_⟩
     exact ⟨D,_,_,rfl,rfl,s4 _ _ hD,(by rw [List.length_map];exact Qj (by omega)),D,ps++[(q,t)],_,_,rfl,pl.app (s4) ht hd0 hle,(fun _=>by rw [List.length_append,List.length_singleton];omega),by rw [List.length_append,List.length_singleton];omega⟩
   ·refine ⟨_,rfl,_,_,rfl,rfl,_,rfl,?_⟩
    rw [decide_eq_false (k2)]
    refine QU (QU ⟨_,rfl,rfl,_,rfl,?_⟩)
    rw [KD]
    by_cases k3:c % 9=2
    ·rw [decide_eq_true k3]
     by_cases hlen:0<ps.length
     ·refine Zc ⟨_,rfl,D,_,rfl,.inl (SqL.of hD),_,_,rfl,rfl,_,rfl,?_⟩
      rw [decide_eq_true (by rw [hll];omega)]
      have hlast:∃q t ps0,ps=ps0++[(q,t)]:=by
       obtain ⟨ps0,⟨q,t⟩,e⟩:=Ua hlen
       exact ⟨q,t,ps0,e⟩
      obtain ⟨q9,t9,ps9,e9⟩:=hlast
      have ht9:=pl.t (q9,t9) (by rw [e9];simp)
      refine Zc ⟨_,rfl,_,rfl,D,_,_,V.ref q9,rfl,rfl,SqL.of hD,(by rw [e9,List.map_append];exact Wz _ _),q9,t9,rfl,ht9.1,(by have:=ht9.2;dsimp only at this;omega),fun z H2b s2b=>?_⟩
      have hDb:=s2b _ _ hD
      refine ⟨_,_,rfl,rfl,_,rfl,?_⟩
      by_cases hz:z<2
      ·rw [decide_eq_true (hz)]
       refine Zc ?_
       obtain ⟨ps0,⟨q,t⟩,rfl⟩:=Ua (l:=ps) (by omega)
       have ht:=pl.t (q,t) (by simp)
       rw [List.length_append,List.length_singleton] at ht hle
       dsimp only at ht
       refine ⟨_,rfl,_,rfl,_,rfl,D,_,rfl,SqL.of hDb,fun l1 H3 n1 s3 e3=>?_⟩
       rw [QbM] at e3
       refine ⟨_,rfl,_,rfl,D,_,_,V.ref q,rfl,rfl,SqL.of (s3 _ _ hDb),(by rw [List.map_append];exact Wz _ _),(by show 2≤sizeLine;decide),fun p1 H4 np s4 e4=>⟨(by show 1≤sizeLine;decide),fun l2 H5 n5 s5 e5=>?_⟩⟩
       refine ⟨l1,l2,_,_,rfl,rfl,s5 _ _ (s4 _ _ e3),e5,Nat.le_of_lt (Qj (by rw [List.length_map,List.length_singleton];omega)),fun D2 H6 n6 s6 e6=>?_⟩
       have s36:Qm H2b H6:=((s3.trans s4).trans s5).trans s6
       exact ⟨D2,ps0++[(p1,.thr t)],_,_,rfl,pl.repl (l:=[(q,t)]) (s2b.trans s36) (s2b.free (s3.free (s4.free (s5.free n6)))) e6 (.thr (s6 _ _ (s5 _ _ e4)) (ht.1.mono (s2b.trans s36))) (Nat.le_refl _) (by show t.dp+1+ps0.length+1≤i+1;omega) (Nat.le_succ _),(fun _=>by rw [List.length_append,List.length_singleton];omega),by rw [List.length_append,List.length_singleton];omega⟩
      ·rw [decide_eq_false (hz)]
       refine QU ⟨_,rfl,_,_,rfl,rfl,_,rfl,?_⟩
       rw [decide_eq_false (by omega)]
       refine QU (QU ?_)
       refine ⟨_,rfl,.inl ⟨rfl,_,SqL.of hDb⟩,_,rfl,_,rfl,_,_,rfl,rfl,⟨by decide,by decide⟩,sh,c / 9,rfl,hs0,hs1,hc9,fun t q H4 nq s4 ht hd0=>?_⟩
       exact ⟨D,_,_,rfl,rfl,s4 _ _ hDb,(by rw [List.length_map];exact Qj (by omega)),D,ps++[(q,t)],_,_,rfl,pl.app (s2b.trans s4) ht hd0 hle,(fun _=>by rw [List.length_append,List.length_singleton];omega),by rw [List.length_append,List.length_singleton];omega⟩
     ·refine Zc ⟨_,rfl,D,_,rfl,.inl (SqL.of hD),_,_,rfl,rfl,_,rfl,?_⟩
      rw [decide_eq_false (by rw [hll];omega)]
      refine QU (QU ⟨_,rfl,_,_,rfl,rfl,_,rfl,?_⟩)
      rw [decide_eq_false (by omega)]
      refine QU (QU ?_)
      refine ⟨_,rfl,.inl ⟨rfl,_,SqL.of hD⟩,_,rfl,_,rfl,_,_,rfl,rfl,⟨by decide,by decide⟩,sh,c / 9,rfl,hs0,hs1,hc9,fun t q H4 nq s4 ht hd0=>?_⟩
      exact ⟨D,_,_,rfl,rfl,s4 _ _ hD,(by rw [List.length_map];exact Qj (by omega)),D,ps++[(q,t)],_,_,rfl,pl.app (s4) ht hd0 hle,(fun _=>by rw [List.length_append,List.length_singleton];omega),by rw [List.length_append,List.length_singleton];omega⟩
    ·rw [decide_eq_false k3]
     refine QU (QU ⟨_,rfl,_,_,rfl,rfl,_,rfl,?_⟩)
     by_cases k5:4<c % 9
     ·rw [decide_eq_true (k5)]
      by_cases hlen:1<ps.length
      ·refine Zc ⟨_,rfl,D,_,rfl,.inl (SqL.of hD),_,_,rfl,rfl,_,rfl,?_⟩
       rw [decide_eq_true (by rw [hll];omega)]
       refine Zc ?_
       obtain ⟨ps1,⟨r,v⟩,rfl⟩:=Ua (l:=ps) (by omega)
       rw [List.length_append,List.length_singleton] at hlen hle
       obtain ⟨ps0,⟨q,u⟩,rfl⟩:=Ua (l:=ps1) (by omega)
       rw [List.append_assoc] at pl hD
       have hu:=pl.t (q,u) (by simp)
       have hv:=pl.t (r,v) (by simp)
       have hln:(ps0++([(q,u)]++[(r,v)])).length=ps0.length+2:=by simp
       rw [hln] at hu hv
       dsimp only at hu hv
       rw [List.length_append,List.length_singleton] at hle
       refine ⟨_,rfl,_,rfl,_,rfl,D,_,rfl,SqL.of hD,fun l1 H3 nl1 s3 e3=>?_⟩
       rw [show ps0++([(q,u)]++[(r,v)])=ps0++[(q,u),(r,v)] from rfl,GR] at e3
       refine ⟨(by show 2≤sizeLine;decide),fun lb H3b nlb s3b e3b=>?_⟩
       obtain ⟨vv,hvv,hvm,_⟩:=ZB (xs:=[V.str "both",V.str "either"]) (i:=(c % 9) % 2) (Int.emod_nonneg _ (by decide)) (Int.emod_lt_of_pos _ (by decide))
       obtain ⟨nm,f,rfl,fdp,ft⟩:=GJ vv hvm
       have s33:=s3.trans s3b
       refine ⟨_,rfl,_,_,rfl,rfl,(by show (0:Int)<2;decide),lb,_,_,_,rfl,rfl,SqL.of e3b,hvv,?_⟩
       refine ⟨_,rfl,_,rfl,D,_,_,V.ref q,rfl,rfl,SqL.of (s33 _ _ hD),(by rw [List.map_append];exact GZ _ _ _),_,rfl,_,rfl,D,_,_,V.ref r,rfl,rfl,SqL.of (s33 _ _ hD),(by rw [List.map_append];exact G0 _ _ _),(by show 3≤sizeLine;decide),fun p1 H4 np s4 e4=>⟨(by show 1≤sizeLine;decide),fun l2 H5 n5 s5 e5=>?_⟩⟩
       refine ⟨l1,l2,_,_,rfl,rfl,s5 _ _ (s4 _ _ (s3b _ _ e3)),e5,Nat.le_of_lt (Qj (by rw [List.length_map,List.length_singleton];omega)),fun D2 H6 n6 s6 e6=>?_⟩
       have s36:Qm H2 H6:=((s33.trans s4).trans s5).trans s6
       have pl2:=pl.repl (l:=[(q,u),(r,v)]) (n':=i+1) s36 (s33.free (s4.free (s5.free n6))) e6 (ft _ p1 q r u v (s6 _ _ (s5 _ _ e4)) (hu.1.mono s36) (hv.1.mono s36)) (by show 1≤2;decide) (by rw [fdp];omega) (by omega)
       exact ⟨D2,ps0++[(p1,f u v)],_,_,rfl,pl2,(fun _=>by rw [List.length_append,List.length_singleton];omega),by rw [List.length_append,List.length_singleton];omega⟩
      ·refine Zc ⟨_,rfl,D,_,rfl,.inl (SqL.of hD),_,_,rfl,rfl,_,rfl,?_⟩
       rw [decide_eq_false (by rw [hll];omega)]
       refine QU ?_
       refine ⟨_,rfl,.inl ⟨rfl,_,SqL.of hD⟩,_,rfl,_,rfl,_,_,rfl,rfl,⟨by decide,by decide⟩,sh,c / 9,rfl,hs0,hs1,hc9,fun t q H4 nq s4 ht hd0=>?_⟩
       exact ⟨D,_,_,rfl,rfl,s4 _ _ hD,(by rw [List.length_map];exact Qj (by omega)),D,ps++[(q,t)],_,_,rfl,pl.app (s4) ht hd0 hle,(fun _=>by rw [List.length_append,List.length_singleton];omega),by rw [List.length_append,List.length_singleton];omega⟩
     ·rw [decide_eq_false (k5)]
      refine QU (QU ?_)
      refine ⟨_,rfl,.inl ⟨rfl,_,SqL.of hD⟩,_,rfl,_,rfl,_,_,rfl,rfl,⟨by decide,by decide⟩,sh,c / 9,rfl,hs0,hs1,hc9,fun t q H4 nq s4 ht hd0=>?_⟩
      exact ⟨D,_,_,rfl,rfl,s4 _ _ hD,(by rw [List.length_map];exact Qj (by omega)),D,ps++[(q,t)],_,_,rfl,pl.app (s4) ht hd0 hle,(fun _=>by rw [List.length_append,List.length_singleton];omega),by rw [List.length_append,List.length_singleton];omega⟩
  ·rintro σ H2 ⟨D,ps,o3,o4,rfl,pl,hne,hle⟩
   rw [List.length_map] at hne hle pl
   have hn1:=hne hl1
   obtain ⟨z0,_,ez0⟩:=QaD (xs:=cs) (i:=0) (Int.le_refl _) (by omega)
   refine Qew (fun σ H3=>∃(D:Addr) (ps:List (Addr×Tr)),σ=[some (.int sh),some (.ref p),some (.ref D),o3,o4]∧PL H H3 D ps cs.length∧0<ps.length∧ps.length≤cs.length) (fun σ H3=>lenAt H3 (σ.getD 2 none)) ⟨D,ps,rfl,pl,hn1,hle⟩ ?_ ?_
   ·rintro σ H2 ⟨D,ps,rfl,pl,hn1,hle⟩
    have hD:=pl.e
    have hll:((ps.map fun x=>V.ref x.1).length:Int)=(ps.length:Int):=by rw [List.length_map]
    refine ⟨_,rfl,D,_,rfl,.inl (SqL.of hD),_,_,rfl,rfl,_,rfl,?_⟩
    by_cases hlen:1<ps.length
    ·rw [decide_eq_true (by rw [hll];omega)]
     refine Zc ?_
     obtain ⟨ps1,⟨r,v⟩,rfl⟩:=Ua (l:=ps) (by omega)
     rw [List.length_append,List.length_singleton] at hlen hle
     obtain ⟨ps0,⟨q,u⟩,rfl⟩:=Ua (l:=ps1) (by omega)
     rw [List.append_assoc] at pl hD
     have hu:=pl.t (q,u) (by simp)
     have hv:=pl.t (r,v) (by simp)
     have hln:(ps0++([(q,u)]++[(r,v)])).length=ps0.length+2:=by simp
     rw [hln] at hu hv
     dsimp only at hu hv
     rw [List.length_append,List.length_singleton] at hle
     refine ⟨_,rfl,_,rfl,_,rfl,D,_,rfl,SqL.of hD,fun l1 H3 nl1 s3 e3=>?_⟩
     rw [show ps0++([(q,u)]++[(r,v)])=ps0++[(q,u),(r,v)] from rfl,GR] at e3
     refine ⟨(by show 2≤sizeLine;decide),fun lb H3b nlb s3b e3b=>?_⟩
     obtain ⟨vv,hvv,hvm,_⟩:=ZB (xs:=[V.str "both",V.str "either"]) (i:=(z0 / 9) % 2) (Int.emod_nonneg _ (by decide)) (Int.emod_lt_of_pos _ (by decide))
     obtain ⟨nm,f,rfl,fdp,ft⟩:=GJ vv hvm
     have s33:=s3.trans s3b
     refine ⟨_,rfl,p,_,_,_,rfl,rfl,SqL.of ((pl.s.trans s33) _ _ hp),ez0,_,_,rfl,rfl,⟨by decide,by decide⟩,_,_,rfl,rfl,(by show (0:Int)<2;decide),lb,_,_,_,rfl,rfl,SqL.of e3b,hvv,?_⟩
     refine ⟨_,rfl,_,rfl,D,_,_,V.ref q,rfl,rfl,SqL.of (s33 _ _ hD),(by rw [List.map_append];exact GZ _ _ _),_,rfl,_,rfl,D,_,_,V.ref r,rfl,rfl,SqL.of (s33 _ _ hD),(by rw [List.map_append];exact G0 _ _ _),(by show 3≤sizeLine;decide),fun p1 H4 np s4 e4=>⟨(by show 1≤sizeLine;decide),fun l2 H5 n5 s5 e5=>?_⟩⟩
     refine ⟨l1,l2,_,_,rfl,rfl,s5 _ _ (s4 _ _ (s3b _ _ e3)),e5,Nat.le_of_lt (Qj (by rw [List.length_map,List.length_singleton];omega)),fun D2 H6 n6 s6 e6=>?_⟩
     have s36:Qm H2 H6:=((s33.trans s4).trans s5).trans s6
     have pl2:=pl.repl (l:=[(q,u),(r,v)]) (n':=cs.length) s36 (s33.free (s4.free (s5.free n6))) e6 (ft _ p1 q r u v (s6 _ _ (s5 _ _ e4)) (hu.1.mono s36) (hv.1.mono s36)) (by show 1≤2;decide) (by rw [fdp];omega) (by omega)
     refine ⟨⟨D2,ps0++[(p1,f u v)],rfl,pl2,by rw [List.length_append,List.length_singleton];omega,by rw [List.length_append,List.length_singleton];omega⟩,?_⟩
     show (match H6 D2 with | some (.lst xs)=>xs.length | _=>0)<(match H2 D with | some (.lst xs)=>xs.length | _=>0)
     rw [e6,hD]
     simp
    ·rw [decide_eq_false (by rw [hll];omega)]
     refine QU ?_
     obtain ⟨ps0,⟨q,t⟩,rfl⟩:=Ua (l:=ps) hn1
     have e0:ps0=[]:=by
      rw [List.length_append,List.length_singleton] at hlen
      exact List.length_eq_zero_iff.mp (by omega)
     subst e0
     have ht:=pl.t (q,t) (by simp)
     exact ⟨_,rfl,D,_,_,V.ref q,rfl,rfl,SqL.of hD,rfl,k t q H2 pl.s ht.1 (by have:=ht.2;simp at this;omega)⟩
   ·rintro σ H3 Q1 Q2 hq ⟨x,e,D1,xs,e1,e2,i1,j1,e3,e4,b1,e5,h⟩
    exact ⟨x,e,D1,xs,e1,e2,i1,j1,e3,e4,b1,e5,hq _ _ h⟩
end
def Q8:Tr→CD→List CD→Bool
 | .nt u,c,os=>!Q8 u c os
 | .bth u v,c,os=>Q8 u c os && Q8 v c os
 | .eth u v,c,os=>Q8 u c os || Q8 v c os
 | .thr u,c,os=>(List.range os.length).any fun k=>Q8 u (os.getD k c) (c :: (os.take k++os.drop (k+1)))
 | t,c,_=>QbF c t
theorem QiP {α:Type} (f:α→V) (xs:List α) (v:Int) (h:0≤v):Yo (xs.map f) none (some v)=(xs.take v.toNat).map f:=by
 have hv:¬v<0:=by omega
 simp only [Yo,HT.sIx,if_neg hv,List.length_map,List.drop_zero,Nat.sub_zero,←List.map_take]
 congr 1
 by_cases hl:v.toNat≤xs.length
 ·rw [show min v.toNat xs.length=v.toNat by omega]
 ·rw [show min v.toNat xs.length=xs.length by omega,List.take_of_length_le (Nat.le_refl _),List.take_of_length_le (by omega)]
inductive Qe4 (n:Nat) (vs:List V) (H:Hp) (Q:VK):Prop
 | mk:∀p t u l c (xs:List (Addr×CD)),vs=[.ref p,.ref u,.ref l]→TAt H p t→t.dp<n→Y8 H u c→ZC c→H l=some (.lst (xs.map fun x=>V.ref x.1))→(∀x∈xs,Y8 H x.1 x.2∧ZC x.2)→xs.length≤100→(∀H',Qm H H'→Q (.bl (Q8 t c (xs.map (·.2)))) H')→Qe4 n vs H Q
def spLH (n:Nat):Sp:=fun vs H Q _=>Qe4 n vs H Q
theorem Qdm {x y:Str}:decide (x∈[y])=decide (y=x):=by
 by_cases h:y=x
 ·rw [decide_eq_true h,decide_eq_true (List.mem_singleton.mpr h.symm)]
 ·rw [decide_eq_false h,decide_eq_false fun z=>h (List.mem_singleton.mp z).symm]
theorem QgQ {a1 a2 a3 a5 m:Addr}:Z4 (Zj (Zj (Zg [] [(Sum.inr "title",V.ref a1),(Sum.inr "from",V.ref a2),(Sum.inr "in",V.ref a3)]) (Sum.inr "word") (.ref a5)) (Sum.inr "marked") (.ref m)) (Sum.inr ("word":Str))=some (V.ref a5):=by kernel_rfl
theorem Qex {a1 a2 a3 a5 m:Addr}:Z4 (Zj (Zj (Zg [] [(Sum.inr "title",V.ref a1),(Sum.inr "from",V.ref a2),(Sum.inr "in",V.ref a3)]) (Sum.inr "word") (.ref a5)) (Sum.inr "marked") (.ref m)) (Sum.inr ("title":Str))=some (V.ref a1):=by kernel_rfl
theorem QgR {a1 a2 a3 a5 m:Addr}:Z4 (Zj (Zj (Zg [] [(Sum.inr "title",V.ref a1),(Sum.inr "from",V.ref a2),(Sum.inr "in",V.ref a3)]) (Sum.inr "word") (.ref a5)) (Sum.inr "marked") (.ref m)) (Sum.inr ("from":Str))=some (V.ref a2):=by kernel_rfl
theorem wh_in {a1 a2 a3 a5 m:Addr}:Z4 (Zj (Zj (Zg [] [(Sum.inr "title",V.ref a1),(Sum.inr "from",V.ref a2),(Sum.inr "in",V.ref a3)]) (Sum.inr "word") (.ref a5)) (Sum.inr "marked") (.ref m)) (Sum.inr ("in":Str))=some (V.ref a3):=by kernel_rfl
theorem QdE {a1 a2 a3 a5 m:Addr}:Z4 (Zj (Zj (Zg [] [(Sum.inr "title",V.ref a1),(Sum.inr "from",V.ref a2),(Sum.inr "in",V.ref a3)]) (Sum.inr "word") (.ref a5)) (Sum.inr "marked") (.ref m)) (Sum.inr ("marked":Str))=some (V.ref m):=by kernel_rfl
theorem Qia {a1 a2 a3 a5:Addr}:(Zj (Zg [] [(Sum.inr "title",V.ref a1),(Sum.inr "from",V.ref a2),(Sum.inr "in",V.ref a3)]) (Sum.inr "word") (.ref a5)).length=4:=by kernel_rfl
section
variable {P : Program} {w : World} {K : PySem.W.Frag} {mg : Str → Option Value} {base : Heap} {a : Adr}
theorem QhV {fd:FuncData} (F:Fun K "_law_holds" "_law_holds" YM a.f_l_holds fd) (b_l_holds:Qt K fd ["_law_tree","_law_card","_law_others"] []) (T:Txt K mg a) (FF:Z1 K a):∀n,Qw P w K mg base CX0 (n+1) a.f_l_holds fd ["_law_tree","_law_card","_law_others"] (spLH n)
 | 0=>by
   refine F.ok Jb (fun vs H Q E h=>?_) (fun cdv A outer st H vs Q E hr h=>?_)
   ·obtain ⟨p,t,u,l,c,xs,rfl,_⟩:=h;rfl
   ·obtain ⟨p,t,u,l,c,xs,_,_,h,_⟩:=h;exact absurd h (Nat.not_lt_zero _)
 | n+1=>by
   have G:=QhV F b_l_holds T FF n
   obtain ⟨fdR,F_l_runs,b_l_runs⟩:=FF.F_l_runs
   have G_l_runs:Qw P w K mg base CX0 1 a.f_l_runs fdR ["_law_text_here"] XC:=Qhh F_l_runs T
   refine F.ok Jb (fun vs H Q E h=>?_) (fun cdv A outer st H vs Q E hr h=>?_)
   ·obtain ⟨p,t,u,l,c,xs,rfl,_⟩:=h;rfl
   obtain ⟨p,t,u,l,c,xs,rfl,tt,hd,⟨q,m,e1,e2,e3⟩,gd,hl,hxs,hn,k⟩:=h
   have hrG:QG (n+1) _:=hr
   have hr_l_runs:QG 1 _:=hrG.mono (by omega)
   have hu:=QbJ hr
   obtain ⟨t9,h9,sp9⟩:∃t,PSs (UI CX0 P w K mg base GD "_law_holds" (Qe YM) a.f_l_holds cdv A outer st H E).nox ((QM YM).drop 9) t ∧
    ∀(nm wd:Str),H p=some (.tup [.str nm,.str wd]) →
     ((nm="word"∧∀H',Qm H H'→Q (.bl (decide (wd∈wds c.t++wds c.b))) H')∨(nm="title"∧∀H',Qm H H'→Q (.bl (decide (wd∈wds c.t))) H')∨(nm="from"∧∀H',Qm H H'→Q (.bl (decide (wd∈[c.s]))) H')∨(nm="in"∧∀H',Qm H H'→Q (.bl (decide (wd∈[c.fo]))) H')∨(nm="marked"∧∀H',Qm H H'→Q (.bl (decide (wd∈c.ms))) H')) →
     t { nx:=fun _ H'=>Q .non H',rt:=Q } [some (.ref p),some (.ref u),some (.ref l),some (.ref q),some (.str c.fo),some (.ref m),some (.str nm),none,none] H:=by
    refine ⟨_,(Qb (Qv (i:=8) Jb.nd rfl (Or.inl rfl) (Qha (Kb Qi (Qx G_l_runs hr_l_runs rfl T.m_l_runs F_l_runs.kp b_l_runs .nil Qy (pac (Qn Qs (pv 3) Qa (fun _ _=>rfl)) Qf)) (Kb Qi (Q0 (Qc (Qn Qs (pv 3) Qa (fun _ _=>rfl)) Qq)) (Kb Qi (Q0 (Qc (pv 4) Qq)) Qg8))) rfl rfl (by simp) (by decide)))
     (Qb (Wg hu (pv 8) Qi (Ql YA (Qdh hu (pv 8) Qi (fun _ _=>rfl)) (Qx G_l_runs hr_l_runs rfl T.m_l_runs F_l_runs.kp b_l_runs .nil Qy (pac (Qn Qs (pv 3) Qa (fun _ _=>rfl)) Qf))) rfl)
     (Qb (Wg hu (pv 8) Qi (pv 5) rfl)
     (Qd (Qo (JC Gv (Qn Qs (pv 0) Qa (fun _ _=>rfl)) (Qdh hu (pv 8) (pv 6) (fun _ _=>rfl)) (by with_unfolding_all rfl))))))),fun nm wd ep hk=>?_⟩
    intro D nD
    have s1:Qm H (upd H D (.dK [])):=Qm.upd_new nD
    have eD1:(upd H D (.dK [])) D=some (.dK []):=Qh
    generalize upd H D (.dK [])=H1 at s1 eD1 ⊢
    have h1:=gd.g.tl
    have h3:=gd.g.bl
    have w1:=XA c.t
    have w2:=XA c.b
    refine ⟨_,rfl,q,_,_,_,rfl,rfl,SqT.of (s1 _ _ e2),rfl,c.t,rfl,gd.g.t_,by omega,fun a1 H2 n2 s2 ea1=>?_⟩
    refine ⟨_,rfl,q,_,_,_,rfl,rfl,SqT.of (s2 _ _ (s1 _ _ e2)),rfl,(by show 1≤sizeLine;decide),fun a2 H3 n3 s3 ea2=>?_⟩
    refine ⟨_,rfl,(by show 1≤sizeLine;decide),fun a3 H4 n4 s4 ea3=>?_⟩
    have eD4:=s4 _ _ (s3 _ _ (s2 _ _ eD1))
    refine ⟨eD4,[(Sum.inr "title",.ref a1),(Sum.inr "from",.ref a2),(Sum.inr "in",.ref a3)],rfl,(by show 3≤15;decide),?_⟩
    have ea14:=s4 _ _ (s3 _ _ ea1)
    have ea24:=s4 _ _ ea2
    have s04:Qm H H4:=((s1.trans s2).trans s3).trans s4
    have sub:∀o,Qm H (upd H4 D o):=fun o=>s04.upd_of nD
    have a1D:a1≠D:=Zq ea14 eD4 (fun z=>nomatch z)
    have a2D:a2≠D:=Zq ea24 eD4 (fun z=>nomatch z)
    have a3D:a3≠D:=Zq ea3 eD4 (fun z=>nomatch z)
    have ek1:Z4 (Zg [] [(Sum.inr "title",V.ref a1),(Sum.inr "from",.ref a2),(Sum.inr "in",.ref a3)]) (Sum.inr "title")=some (V.ref a1):=by kernel_rfl
    have kl:(Zg [] [(Sum.inr "title",V.ref a1),(Sum.inr "from",V.ref a2),(Sum.inr "in",V.ref a3)]).length=3:=by kernel_rfl
    have s5:=sub (.dK (Zg [] [(Sum.inr "title",V.ref a1),(Sum.inr "from",V.ref a2),(Sum.inr "in",V.ref a3)]))
    have eD5:(upd H4 D (.dK (Zg [] [(Sum.inr "title",V.ref a1),(Sum.inr "from",V.ref a2),(Sum.inr "in",V.ref a3)]))) D=some (.dK (Zg [] [(Sum.inr "title",V.ref a1),(Sum.inr "from",V.ref a2),(Sum.inr "in",V.ref a3)])):=Qh
    have f1:(upd H4 D (.dK (Zg [] [(Sum.inr "title",V.ref a1),(Sum.inr "from",V.ref a2),(Sum.inr "in",V.ref a3)]))) a1=some (.lst ((wds c.t).map V.str)):=by rw [Qk a1D];exact ea14
    have f2:(upd H4 D (.dK (Zg [] [(Sum.inr "title",V.ref a1),(Sum.inr "from",V.ref a2),(Sum.inr "in",V.ref a3)]))) a2=some (.lst [V.str c.s]):=by rw [Qk a2D];exact ea24
    have f3:(upd H4 D (.dK (Zg [] [(Sum.inr "title",V.ref a1),(Sum.inr "from",V.ref a2),(Sum.inr "in",V.ref a3)]))) a3=some (.lst [V.str c.fo]):=by rw [Qk a3D];exact ea3
    generalize upd H4 D (.dK (Zg [] [(Sum.inr "title",V.ref a1),(Sum.inr "from",V.ref a2),(Sum.inr "in",V.ref a3)]))=H5 at s5 eD5 f1 f2 f3 ⊢
    refine ⟨_,rfl,D,V.ref a1,rfl,(by have z:=VZ.k (k:=Sum.inr "title") eD5;rw [ek1] at z;exact z),?_⟩
    refine ⟨_,rfl,q,_,_,_,rfl,rfl,SqT.of (s5 _ _ e2),rfl,c.b,rfl,gd.g.b_,by omega,fun a4 H6 n6 s6 ea4=>?_⟩
    refine ⟨a1,a4,_,_,rfl,rfl,s6 _ _ f1,ea4,Nat.le_of_lt (Qj (by rw [List.length_map,List.length_map];omega)),fun a5 H7 n7 s7 ea5=>?_⟩
    have s67:=s6.trans s7
    have eD7:=s67 _ _ eD5
    have s07:=s5.trans s67
    refine ⟨_,rfl,D,_,rfl,QaG.k (k:=Sum.inr "word") eD7 (by rw [kl];exact Qj (by decide)),?_⟩
    refine ⟨_,rfl,_,rfl,D,_,rfl,QaG.k (k:=Sum.inr "marked") Qh (by rw [Qia];exact Qj (by decide)),?_⟩
    rw [G4]
    have g:∀(x:Addr) (xs:List V),H7 x=some (.lst xs)→(upd H7 D (.dK (Zj (Zj (Zg [] [(Sum.inr "title",V.ref a1),(Sum.inr "from",V.ref a2),(Sum.inr "in",V.ref a3)]) (Sum.inr "word") (.ref a5)) (Sum.inr "marked") (.ref m)))) x=some (.lst xs):=fun x xs ex=>by rw [Qk (Zq ex eD7 (fun z=>nomatch z))];exact ex
    have eD8:(upd H7 D (.dK (Zj (Zj (Zg [] [(Sum.inr "title",V.ref a1),(Sum.inr "from",V.ref a2),(Sum.inr "in",V.ref a3)]) (Sum.inr "word") (.ref a5)) (Sum.inr "marked") (.ref m)))) D=some (.dK (Zj (Zj (Zg [] [(Sum.inr "title",V.ref a1),(Sum.inr "from",V.ref a2),(Sum.inr "in",V.ref a3)]) (Sum.inr "word") (.ref a5)) (Sum.inr "marked") (.ref m))):=Qh
    have s08:Qm H (upd H7 D (.dK (Zj (Zj (Zg [] [(Sum.inr "title",V.ref a1),(Sum.inr "from",V.ref a2),(Sum.inr "in",V.ref a3)]) (Sum.inr "word") (.ref a5)) (Sum.inr "marked") (.ref m)))):=s07.upd_of nD
    have g1:=g a1 _ (s67 _ _ f1)
    have g2:=g a2 _ (s67 _ _ f2)
    have g3:=g a3 _ (s67 _ _ f3)
    have g5:=g a5 _ ea5
    have gm:=g m _ (s07 _ _ e3)
    generalize upd H7 D (.dK (Zj (Zj (Zg [] [(Sum.inr "title",V.ref a1),(Sum.inr "from",V.ref a2),(Sum.inr "in",V.ref a3)]) (Sum.inr "word") (.ref a5)) (Sum.inr "marked") (.ref m)))=H8 at eD8 s08 g1 g2 g3 g5 gm ⊢
    rw [←List.map_append] at g5
    refine ⟨_,rfl,p,_,_,_,rfl,rfl,SqT.of (s08 _ _ ep),rfl,_,rfl,_,rfl,?_⟩
    rcases hk with ⟨rfl,hk⟩ | ⟨rfl,hk⟩ | ⟨rfl,hk⟩ | ⟨rfl,hk⟩ | ⟨rfl,hk⟩
    ·refine ⟨D,V.ref a5,rfl,(by have z:=VZ.k (k:=Sum.inr "word") eD8;rw [QgQ] at z;exact z),a5,_,rfl,.inl (SqL.of g5),rfl,Ye _,?_⟩
     rw [if_neg (by decide),Y3]
     exact hk H8 s08
    ·refine ⟨D,V.ref a1,rfl,(by have z:=VZ.k (k:=Sum.inr "title") eD8;rw [Qex] at z;exact z),a1,_,rfl,.inl (SqL.of g1),rfl,Ye _,?_⟩
     rw [if_neg (by decide),Y3]
     exact hk H8 s08
    ·refine ⟨D,V.ref a2,rfl,(by have z:=VZ.k (k:=Sum.inr "from") eD8;rw [QgR] at z;exact z),a2,([c.s].map V.str),rfl,.inl (SqL.of g2),rfl,Ye _,?_⟩
     rw [if_neg (by decide),Y3]
     exact hk H8 s08
    ·refine ⟨D,V.ref a3,rfl,(by have z:=VZ.k (k:=Sum.inr "in") eD8;rw [wh_in] at z;exact z),a3,([c.fo].map V.str),rfl,.inl (SqL.of g3),rfl,Ye _,?_⟩
     rw [if_neg (by decide),Y3]
     exact hk H8 s08
    ·refine ⟨D,V.ref m,rfl,(by have z:=VZ.k (k:=Sum.inr "marked") eD8;rw [QdE] at z;exact z),m,_,rfl,.inl (SqL.of gm),rfl,Ye _,?_⟩
     rw [if_neg (by decide),Y3]
     exact hk H8 s08
   refine ⟨_,(Qb (Qcm (pv 1) (WQ rfl (Zy (QR (i:=3) Jb.nd rfl (Or.inl rfl)) (Zy (QR (i:=4) Jb.nd rfl (Or.inl rfl)) (Zy (QR (i:=5) Jb.nd rfl (Or.inl rfl)) Vr)))))
    (Qb (Qv (i:=6) Jb.nd rfl (Or.inl rfl) (Qn Qs (pv 0) Qa (fun _ _=>rfl)))
    (Qb (QK (Qr QZ (pv 6) Qi (Qz _)) (Qd (Qo Yu)) QB)
    (Qb (QK (Qr QZ (pv 6) Qi (Qz _)) (Qd (Qo (JC Gu (Qn Qs (pv 3) Qa (fun _ _=>rfl)) Qi (Qz _)))) QB)
    (Qb (QK (Qr QZ (pv 6) Qi (Qz _)) (Qd (Qo (Ke Wh Wh (Qn Qs (pv 0) Qa (fun _ _=>rfl)) (Qn Qs (pv 3) Qa (fun _ _=>rfl)) (Qn Qs (pv 0) Qa (fun _ _=>rfl))))) QB)
    (Qb (QK (Qr QZ (pv 6) Qi (Qz _)) (Qd (Qo (Qam (Qx G hrG rfl T.m_l_holds F.kp b_l_holds .nil Qy (pac (Qn Qs (pv 0) Qa (fun _ _=>rfl)) (pac (pv 1) (pac (pv 2) Qf))))))) QB)
    (Qb (QK (Qr QZ (pv 6) Qi (Qz _)) (Qd (Qo (U9 (Qx G hrG rfl T.m_l_holds F.kp b_l_holds .nil Qy (pac (Qn Qs (pv 0) Qa (fun _ _=>rfl)) (pac (pv 1) (pac (pv 2) Qf)))) (YY (Qx G hrG rfl T.m_l_holds F.kp b_l_holds .nil Qy (pac (Qn Qs (pv 0) Qa (fun _ _=>rfl)) (pac (pv 1) (pac (pv 2) Qf)))))))) QB)
    (Qb (QK (Qr QZ (pv 6) Qi (Qz _)) (Qd (Qo (Qde (Qx G hrG rfl T.m_l_holds F.kp b_l_holds .nil Qy (pac (Qn Qs (pv 0) Qa (fun _ _=>rfl)) (pac (pv 1) (pac (pv 2) Qf)))) (YY (Qx G hrG rfl T.m_l_holds F.kp b_l_holds .nil Qy (pac (Qn Qs (pv 0) Qa (fun _ _=>rfl)) (pac (pv 1) (pac (pv 2) Qf)))))))) QB)
    (Qb (QK (Qr QZ (pv 6) Qi (Qz _)) (Qb (Z5 PassesOwn.never rfl (JJ rfl T.b_range (pac (QO Zk rfl T.b_len PySem.boot_len (pac (pv 2) Qf)) Qf)) (QR (i:=7) Jb.nd rfl (Or.inl rfl)) (Qd (QK (Js (Qx G hrG rfl T.m_l_holds F.kp b_l_holds .nil Qy (pac (Qn Qs (pv 0) Qa (fun _ _=>rfl)) (pac (Qn QA (pv 2) (pv 7) (fun _ _=>rfl)) (pac (Ql YA (Ql YA (Q0 (Qc (pv 1) Qq)) (Q7 Zs (pv 2) Z7 (Q6 (pv 7)))) (Q7 Zs (pv 2) (Q6 (Ql ZE (pv 7) Qa)) Z7)) Qf))))) (Qd (Qo Yu)) QB)))
    (Qd (Qo Yu))) QB)
    h9))))))))),?_⟩
   have tt':=tt
   cases tt' with
   | any e =>
     refine ⟨_,rfl,u,_,rfl,SqT.of e1,rfl,_,_,rfl,_,_,rfl,_,_,rfl,rfl,?_⟩
     refine ⟨_,rfl,p,_,_,_,rfl,rfl,SqT.of e,rfl,?_⟩
     refine ⟨_,rfl,rfl,_,rfl,JT ?_⟩
     exact k H (Qm.refl H)
   | ans e =>
     refine ⟨_,rfl,u,_,rfl,SqT.of e1,rfl,_,_,rfl,_,_,rfl,_,_,rfl,rfl,?_⟩
     refine ⟨_,rfl,p,_,_,_,rfl,rfl,SqT.of e,rfl,?_⟩
     refine ⟨_,rfl,rfl,_,rfl,skS (by decide +kernel) ?_⟩
     refine ⟨_,rfl,rfl,_,rfl,JT ?_⟩
     refine ⟨_,rfl,q,_,_,_,rfl,rfl,SqT.of e2,rfl,rfl,?_⟩
     rw [XQ]
     exact k H (Qm.refl H)
   | days e hb =>
     refine ⟨_,rfl,u,_,rfl,SqT.of e1,rfl,_,_,rfl,_,_,rfl,_,_,rfl,rfl,?_⟩
     refine ⟨_,rfl,p,_,_,_,rfl,rfl,SqT.of e,rfl,?_⟩
     refine ⟨_,rfl,rfl,_,rfl,skS (by decide +kernel) ?_⟩
     refine ⟨_,rfl,rfl,_,rfl,skS (by decide +kernel) ?_⟩
     refine ⟨_,rfl,rfl,_,rfl,JT ?_⟩
     rename_i lo hi
     have kk:=k H (Qm.refl H)
     refine ⟨_,rfl,p,_,_,_,rfl,rfl,SqT.of e,rfl,_,rfl,q,_,_,_,rfl,rfl,SqT.of e2,rfl,_,_,rfl,rfl,_,rfl,?_⟩
     by_cases h1:lo≤c.d
     ·rw [decide_eq_true h1]
      refine Zc ⟨_,rfl,p,_,_,_,rfl,rfl,SqT.of e,rfl,_,_,rfl,rfl,?_⟩
      rw [show Q8 (.days lo hi) c (xs.map (·.2))=(decide (lo≤c.d) && decide (c.d≤hi)) from rfl,decide_eq_true h1,Bool.true_and] at kk
      exact kk
     ·rw [decide_eq_false h1]
      refine QU ?_
      rw [show Q8 (.days lo hi) c (xs.map (·.2))=(decide (lo≤c.d) && decide (c.d≤hi)) from rfl,decide_eq_false h1,Bool.false_and] at kk
      exact kk
   | nt e h1 =>
     refine ⟨_,rfl,u,_,rfl,SqT.of e1,rfl,_,_,rfl,_,_,rfl,_,_,rfl,rfl,?_⟩
     refine ⟨_,rfl,p,_,_,_,rfl,rfl,SqT.of e,rfl,?_⟩
     refine ⟨_,rfl,rfl,_,rfl,skS (by decide +kernel) ?_⟩
     refine ⟨_,rfl,rfl,_,rfl,skS (by decide +kernel) ?_⟩
     refine ⟨_,rfl,rfl,_,rfl,skS (by decide +kernel) ?_⟩
     refine ⟨_,rfl,rfl,_,rfl,JT ?_⟩
     refine ⟨_,rfl,p,_,_,_,rfl,rfl,SqT.of e,rfl,_,rfl,_,rfl,?_⟩
     exact ⟨_,_,u,l,c,xs,rfl,h1,(by simp only [Tr.dp] at hd;omega),⟨q,m,e1,e2,e3⟩,gd,hl,hxs,hn,fun H' s'=>⟨_,rfl,k H' s'⟩⟩
   | bth e h1 h2 =>
     refine ⟨_,rfl,u,_,rfl,SqT.of e1,rfl,_,_,rfl,_,_,rfl,_,_,rfl,rfl,?_⟩
     refine ⟨_,rfl,p,_,_,_,rfl,rfl,SqT.of e,rfl,?_⟩
     refine ⟨_,rfl,rfl,_,rfl,skS (by decide +kernel) ?_⟩
     refine ⟨_,rfl,rfl,_,rfl,skS (by decide +kernel) ?_⟩
     refine ⟨_,rfl,rfl,_,rfl,skS (by decide +kernel) ?_⟩
     refine ⟨_,rfl,rfl,_,rfl,skS (by decide +kernel) ?_⟩
     refine ⟨_,rfl,rfl,_,rfl,JT ?_⟩
     rename_i a1 a2
     refine ⟨_,rfl,p,_,_,_,rfl,rfl,SqT.of e,rfl,_,rfl,_,rfl,?_⟩
     refine ⟨_,_,u,l,c,xs,rfl,h1,(by simp only [Tr.dp] at hd;omega),⟨q,m,e1,e2,e3⟩,gd,hl,hxs,hn,fun H' s'=>⟨_,rfl,?_⟩⟩
     cases eb:Q8 a1 c (xs.map (·.2))
     ·skip
      refine QU ?_
      have kk:=k H' s'
      rw [show Q8 (.bth a1 a2) c (xs.map (·.2))=(Q8 a1 c (xs.map (·.2)) && Q8 a2 c (xs.map (·.2))) from rfl,eb,Bool.false_and] at kk
      exact kk
     ·skip
      refine Zc ⟨_,rfl,p,_,_,_,rfl,rfl,SqT.of (s' _ _ e),rfl,_,rfl,_,rfl,?_⟩
      refine ⟨_,_,u,l,c,xs,rfl,h2.mono s',(by simp only [Tr.dp] at hd;omega),Y8.mono ⟨q,m,e1,e2,e3⟩ s',gd,s' _ _ hl,(fun x hx=>⟨(hxs x hx).1.mono s',(hxs x hx).2⟩),hn,fun H2 s2=>?_⟩
      have kk:=k H2 (s'.trans s2)
      rw [show Q8 (.bth a1 a2) c (xs.map (·.2))=(Q8 a1 c (xs.map (·.2)) && Q8 a2 c (xs.map (·.2))) from rfl,eb,Bool.true_and] at kk
      exact kk
   | eth e h1 h2 =>
     refine ⟨_,rfl,u,_,rfl,SqT.of e1,rfl,_,_,rfl,_,_,rfl,_,_,rfl,rfl,?_⟩
     refine ⟨_,rfl,p,_,_,_,rfl,rfl,SqT.of e,rfl,?_⟩
     refine ⟨_,rfl,rfl,_,rfl,skS (by decide +kernel) ?_⟩
     refine ⟨_,rfl,rfl,_,rfl,skS (by decide +kernel) ?_⟩
     refine ⟨_,rfl,rfl,_,rfl,skS (by decide +kernel) ?_⟩
     refine ⟨_,rfl,rfl,_,rfl,skS (by decide +kernel) ?_⟩
     refine ⟨_,rfl,rfl,_,rfl,skS (by decide +kernel) ?_⟩
     refine ⟨_,rfl,rfl,_,rfl,JT ?_⟩
     rename_i a1 a2
     refine ⟨_,rfl,p,_,_,_,rfl,rfl,SqT.of e,rfl,_,rfl,_,rfl,?_⟩
     refine ⟨_,_,u,l,c,xs,rfl,h1,(by simp only [Tr.dp] at hd;omega),⟨q,m,e1,e2,e3⟩,gd,hl,hxs,hn,fun H' s'=>⟨_,rfl,?_⟩⟩
     cases eb:Q8 a1 c (xs.map (·.2))
     ·skip
      refine QU ⟨_,rfl,p,_,_,_,rfl,rfl,SqT.of (s' _ _ e),rfl,_,rfl,_,rfl,?_⟩
      refine ⟨_,_,u,l,c,xs,rfl,h2.mono s',(by simp only [Tr.dp] at hd;omega),Y8.mono ⟨q,m,e1,e2,e3⟩ s',gd,s' _ _ hl,(fun x hx=>⟨(hxs x hx).1.mono s',(hxs x hx).2⟩),hn,fun H2 s2=>?_⟩
      have kk:=k H2 (s'.trans s2)
      rw [show Q8 (.eth a1 a2) c (xs.map (·.2))=(Q8 a1 c (xs.map (·.2)) || Q8 a2 c (xs.map (·.2))) from rfl,eb,Bool.false_or] at kk
      exact kk
     ·skip
      refine Zc ?_
      have kk:=k H' s'
      rw [show Q8 (.eth a1 a2) c (xs.map (·.2))=(Q8 a1 c (xs.map (·.2)) || Q8 a2 c (xs.map (·.2))) from rfl,eb,Bool.true_or] at kk
      exact kk
   | thr e h1 =>
     refine ⟨_,rfl,u,_,rfl,SqT.of e1,rfl,_,_,rfl,_,_,rfl,_,_,rfl,rfl,?_⟩
     refine ⟨_,rfl,p,_,_,_,rfl,rfl,SqT.of e,rfl,?_⟩
     refine ⟨_,rfl,rfl,_,rfl,skS (by decide +kernel) ?_⟩
     refine ⟨_,rfl,rfl,_,rfl,skS (by decide +kernel) ?_⟩
     refine ⟨_,rfl,rfl,_,rfl,skS (by decide +kernel) ?_⟩
     refine ⟨_,rfl,rfl,_,rfl,skS (by decide +kernel) ?_⟩
     refine ⟨_,rfl,rfl,_,rfl,skS (by decide +kernel) ?_⟩
     refine ⟨_,rfl,rfl,_,rfl,skS (by decide +kernel) ?_⟩
     refine ⟨_,rfl,rfl,_,rfl,JT ?_⟩
     rename_i q1 a1
     have hll:(xs.map fun x=>V.ref x.1).length=xs.length:=List.length_map _
     refine ⟨_,rfl,l,_,rfl,.inl (SqL.of hl),((xs.map fun x=>V.ref x.1).length:Int),rfl,by omega,by omega,Yd (n:=((xs.map fun x=>V.ref x.1).length:Int).toNat) (fun i σ H2=>∃(o7:Option V),σ=[some (.ref p),some (.ref u),some (.ref l),some (.ref q),some (.str c.fo),some (.ref m),some (.str "thread"),o7,none]∧Qm H H2∧∀j,j<i→Q8 a1 ((xs.map (·.2)).getD j c) (c :: ((xs.map (·.2)).take j++(xs.map (·.2)).drop (j+1)))=false)
      ⟨none,rfl,Qm.refl H,fun j z=>absurd z (Nat.not_lt_zero j)⟩ ?_ ?_⟩
     ·rintro i σ H2 hi ⟨o7,rfl,s2,hall⟩
      have hix:i<xs.length:=by omega
      have exi:xs[i]?=some xs[i]:=List.getElem?_eq_getElem hix
      have hxi:=hxs xs[i] (List.getElem_mem hix)
      have hl2:=s2 _ _ hl
      have eat:atI (xs.map fun x=>V.ref x.1) (0+(i:Int))=some (V.ref xs[i].1):=by
       rw [Int.zero_add];exact Wy (by rw [List.getElem?_map,exi];rfl)
      refine ⟨_,rfl,p,_,_,_,rfl,rfl,SqT.of (s2 _ _ e),rfl,_,rfl,_,rfl,l,_,_,_,rfl,rfl,SqL.of hl2,eat,?_⟩
      refine ⟨_,rfl,(by show 1≤sizeLine;decide),fun l1 H3 n3 s3 e3'=>?_⟩
      refine ⟨_,rfl,_,rfl,_,rfl,l,_,rfl,SqL.of (s3 _ _ hl2),fun l2 H4 n4 s4 e4=>?_⟩
      rw [QiP _ _ _ (by omega)] at e4
      refine ⟨l1,l2,_,_,rfl,rfl,s4 _ _ e3',e4,Nat.le_of_lt (Qj (by rw [List.length_singleton,List.length_map,List.length_take];omega)),fun l3 H5 n5 s5 e5=>?_⟩
      have s25:=(s3.trans s4).trans s5
      refine ⟨_,rfl,_,rfl,_,_,rfl,rfl,_,rfl,l,_,rfl,SqL.of (s25 _ _ hl2),fun l4 H6 n6 s6 e6=>?_⟩
      rw [Wu _ _ _ (by omega)] at e6
      refine ⟨l3,l4,_,_,rfl,rfl,s6 _ _ e5,e6,Nat.le_of_lt (Qj (by rw [List.length_append,List.length_singleton,List.length_map,List.length_map,List.length_take,List.length_drop];omega)),fun l5 H7 n7 s7 e7=>?_⟩
      have s27:=(s25.trans s6).trans s7
      have s07:=s2.trans s27
      have t1:(0+(i:Int)).toNat=i:=by omega
      have t2:(0+(i:Int)+1).toNat=i+1:=by omega
      rw [t1,t2] at e7
      refine ⟨q1,a1,xs[i].1,l5,xs[i].2,(u,c) :: (xs.take i++xs.drop (i+1)),rfl,h1.mono s07,(by simp only [Tr.dp] at hd;omega),hxi.1.mono s07,hxi.2,?_,?_,?_,fun H8 s8=>⟨_,rfl,?_⟩⟩
      ·rw [e7];simp
      ·intro x hx
       rcases List.mem_cons.mp hx with rfl | hx
       ·exact ⟨Y8.mono ⟨q,m,e1,e2,e3⟩ s07,gd⟩
       ·have hx':x∈xs:=by
         rcases List.mem_append.mp hx with hx | hx
         ·exact List.mem_of_mem_take hx
         ·exact List.mem_of_mem_drop hx
        exact ⟨(hxs x hx').1.mono s07,(hxs x hx').2⟩
      ·rw [List.length_cons,List.length_append,List.length_take,List.length_drop];omega
      have ed:((u,c) :: (xs.take i++xs.drop (i+1))).map (·.2)=c :: ((xs.map (·.2)).take i++(xs.map (·.2)).drop (i+1)):=by
       rw [List.map_cons,List.map_append,List.map_take,List.map_drop]
      have eg:(xs.map (·.2)).getD i c=xs[i].2:=by
       rw [List.getD_eq_getElem?_getD,List.getElem?_map,exi];rfl
      rw [ed,←eg]
      cases eb:Q8 a1 ((xs.map (·.2)).getD i c) (c :: ((xs.map (·.2)).take i++(xs.map (·.2)).drop (i+1)))
      ·refine QU ⟨_,rfl,s07.trans s8,fun j hj=>?_⟩
       by_cases hji:j=i
       ·rw [hji];exact eb
       ·exact hall j (by omega)
      ·refine Zc ?_
       have kk:=k H8 (s07.trans s8)
       have et:Q8 (.thr a1) c (xs.map (·.2))=true:=by
        show (List.range (xs.map (·.2)).length).any _=true
        rw [List.any_eq_true]
        exact ⟨i,List.mem_range.mpr (by rw [List.length_map];exact hix),eb⟩
       rw [et] at kk
       exact kk
     ·rintro σ H2 ⟨o7,rfl,s2,hall⟩
      have kk:=k H2 s2
      have et:Q8 (.thr a1) c (xs.map (·.2))=false:=by
       show (List.range (xs.map (·.2)).length).any _=false
       rw [List.any_eq_false]
       intro j hj
       have hj':=List.mem_range.mp hj
       rw [List.length_map] at hj'
       rw [hall j (by omega)]
       decide
      rw [et] at kk
      exact kk
   | word e hw =>
     refine ⟨_,rfl,u,_,rfl,SqT.of e1,rfl,_,_,rfl,_,_,rfl,_,_,rfl,rfl,?_⟩
     refine ⟨_,rfl,p,_,_,_,rfl,rfl,SqT.of e,rfl,?_⟩
     refine ⟨_,rfl,rfl,_,rfl,skS (by decide +kernel) ?_⟩
     refine ⟨_,rfl,rfl,_,rfl,skS (by decide +kernel) ?_⟩
     refine ⟨_,rfl,rfl,_,rfl,skS (by decide +kernel) ?_⟩
     refine ⟨_,rfl,rfl,_,rfl,skS (by decide +kernel) ?_⟩
     refine ⟨_,rfl,rfl,_,rfl,skS (by decide +kernel) ?_⟩
     refine ⟨_,rfl,rfl,_,rfl,skS (by decide +kernel) ?_⟩
     refine ⟨_,rfl,rfl,_,rfl,skS (by decide +kernel) ?_⟩
     exact sp9 "word" _ e (.inl ⟨rfl,k⟩)
   | title e hw =>
     refine ⟨_,rfl,u,_,rfl,SqT.of e1,rfl,_,_,rfl,_,_,rfl,_,_,rfl,rfl,?_⟩
     refine ⟨_,rfl,p,_,_,_,rfl,rfl,SqT.of e,rfl,?_⟩
     refine ⟨_,rfl,rfl,_,rfl,skS (by decide +kernel) ?_⟩
     refine ⟨_,rfl,rfl,_,rfl,skS (by decide +kernel) ?_⟩
     refine ⟨_,rfl,rfl,_,rfl,skS (by decide +kernel) ?_⟩
     refine ⟨_,rfl,rfl,_,rfl,skS (by decide +kernel) ?_⟩
     refine ⟨_,rfl,rfl,_,rfl,skS (by decide +kernel) ?_⟩
     refine ⟨_,rfl,rfl,_,rfl,skS (by decide +kernel) ?_⟩
     refine ⟨_,rfl,rfl,_,rfl,skS (by decide +kernel) ?_⟩
     exact sp9 "title" _ e (.inr (.inl ⟨rfl,k⟩))
   | frm e hw =>
     refine ⟨_,rfl,u,_,rfl,SqT.of e1,rfl,_,_,rfl,_,_,rfl,_,_,rfl,rfl,?_⟩
     refine ⟨_,rfl,p,_,_,_,rfl,rfl,SqT.of e,rfl,?_⟩
     refine ⟨_,rfl,rfl,_,rfl,skS (by decide +kernel) ?_⟩
     refine ⟨_,rfl,rfl,_,rfl,skS (by decide +kernel) ?_⟩
     refine ⟨_,rfl,rfl,_,rfl,skS (by decide +kernel) ?_⟩
     refine ⟨_,rfl,rfl,_,rfl,skS (by decide +kernel) ?_⟩
     refine ⟨_,rfl,rfl,_,rfl,skS (by decide +kernel) ?_⟩
     refine ⟨_,rfl,rfl,_,rfl,skS (by decide +kernel) ?_⟩
     refine ⟨_,rfl,rfl,_,rfl,skS (by decide +kernel) ?_⟩
     exact sp9 "from" _ e (.inr (.inr (.inl ⟨rfl,fun H' s'=>by rw [Qdm];exact k H' s'⟩)))
   | inn e hw =>
     refine ⟨_,rfl,u,_,rfl,SqT.of e1,rfl,_,_,rfl,_,_,rfl,_,_,rfl,rfl,?_⟩
     refine ⟨_,rfl,p,_,_,_,rfl,rfl,SqT.of e,rfl,?_⟩
     refine ⟨_,rfl,rfl,_,rfl,skS (by decide +kernel) ?_⟩
     refine ⟨_,rfl,rfl,_,rfl,skS (by decide +kernel) ?_⟩
     refine ⟨_,rfl,rfl,_,rfl,skS (by decide +kernel) ?_⟩
     refine ⟨_,rfl,rfl,_,rfl,skS (by decide +kernel) ?_⟩
     refine ⟨_,rfl,rfl,_,rfl,skS (by decide +kernel) ?_⟩
     refine ⟨_,rfl,rfl,_,rfl,skS (by decide +kernel) ?_⟩
     refine ⟨_,rfl,rfl,_,rfl,skS (by decide +kernel) ?_⟩
     exact sp9 "in" _ e (.inr (.inr (.inr (.inl ⟨rfl,fun H' s'=>by rw [Qdm];exact k H' s'⟩))))
   | mrk e hw =>
     refine ⟨_,rfl,u,_,rfl,SqT.of e1,rfl,_,_,rfl,_,_,rfl,_,_,rfl,rfl,?_⟩
     refine ⟨_,rfl,p,_,_,_,rfl,rfl,SqT.of e,rfl,?_⟩
     refine ⟨_,rfl,rfl,_,rfl,skS (by decide +kernel) ?_⟩
     refine ⟨_,rfl,rfl,_,rfl,skS (by decide +kernel) ?_⟩
     refine ⟨_,rfl,rfl,_,rfl,skS (by decide +kernel) ?_⟩
     refine ⟨_,rfl,rfl,_,rfl,skS (by decide +kernel) ?_⟩
     refine ⟨_,rfl,rfl,_,rfl,skS (by decide +kernel) ?_⟩
     refine ⟨_,rfl,rfl,_,rfl,skS (by decide +kernel) ?_⟩
     refine ⟨_,rfl,rfl,_,rfl,skS (by decide +kernel) ?_⟩
     exact sp9 "marked" _ e (.inr (.inr (.inr (.inr ⟨rfl,k⟩))))
end
def Qh7 (u:Tr):Prop:=∀c os os',List.Perm os os'→Q8 u c os=Q8 u c os'
theorem G6 {u:Tr} (h:Qh7 u) {c:CD} {os:List CD}:Q8 (.thr u) c os=true↔∃d rest,List.Perm os (d :: rest)∧Q8 u d (c :: rest)=true:=by
 show (List.range os.length).any _=true↔_
 rw [List.any_eq_true]
 constructor
 ·rintro ⟨k,hk,e⟩
  have hk':=List.mem_range.mp hk
  have ed:os.getD k c=os[k]:=by rw [List.getD_eq_getElem?_getD,List.getElem?_eq_getElem hk'];rfl
  refine ⟨os[k],os.take k++os.drop (k+1),?_,by rw [←ed];exact e⟩
  have e2:os=os.take k++os[k] :: os.drop (k+1):=by rw [←List.drop_eq_getElem_cons hk',List.take_append_drop]
  exact (List.Perm.of_eq e2).trans List.perm_middle
 ·rintro ⟨d,rest,hp,e⟩
  obtain ⟨s,t,rfl⟩:=List.append_of_mem (hp.mem_iff.mpr List.mem_cons_self)
  refine ⟨s.length,List.mem_range.mpr (by simp),?_⟩
  have hq:List.Perm (s++t) rest:=List.Perm.cons_inv (List.perm_middle.symm.trans hp)
  have e1:(s++d :: t).getD s.length c=d:=by simp [List.getD_eq_getElem?_getD]
  have e2:(s++d :: t).take s.length=s:=by simp
  have e3:(s++d :: t).drop (s.length+1)=t:=by
   rw [List.drop_append]
   simp
  rw [e1,e2,e3,h d _ _ (hq.cons c)]
  exact e
theorem U6:∀u:Tr,Qh7 u
 | .nt u=>fun c os os' h=>by show (!Q8 u c os) = !Q8 u c os';rw [U6 u c os os' h]
 | .bth u v=>fun c os os' h=>by show (Q8 u c os && Q8 v c os)=(Q8 u c os' && Q8 v c os');rw [U6 u c os os' h,U6 v c os os' h]
 | .eth u v=>fun c os os' h=>by show (Q8 u c os || Q8 v c os)=(Q8 u c os' || Q8 v c os');rw [U6 u c os os' h,U6 v c os os' h]
 | .thr u=>fun c os os' h=>by
   rw [Bool.eq_iff_iff,G6 (U6 u),G6 (U6 u)]
   exact ⟨fun ⟨d,r,p,e⟩=>⟨d,r,h.symm.trans p,e⟩,fun ⟨d,r,p,e⟩=>⟨d,r,h.trans p,e⟩⟩
 | .any=>fun _ _ _ _=>rfl
 | .ans=>fun _ _ _ _=>rfl
 | .word _=>fun _ _ _ _=>rfl
 | .title _=>fun _ _ _ _=>rfl
 | .frm _=>fun _ _ _ _=>rfl
 | .days _ _=>fun _ _ _ _=>rfl
 | .inn _=>fun _ _ _ _=>rfl
 | .mrk _=>fun _ _ _ _=>rfl
def TrI (u:Tr):Prop:=∀pre c post,(trs u (pre++c :: post))[pre.length]?=some (Q8 u c (pre++post))
theorem QhC {bs:List Bool}:bs.any id=true↔∃j:Nat,bs[j]?=some true:=by
 rw [List.any_eq_true]
 constructor
 ·rintro ⟨b,hb,e⟩
  obtain ⟨j,hj,rfl⟩:=List.mem_iff_getElem.mp hb
  exact ⟨j,by rw [List.getElem?_eq_getElem hj];exact congrArg some e⟩
 ·rintro ⟨j,e⟩
  exact ⟨true,List.mem_of_getElem? e,rfl⟩
theorem Kg {u:Tr} (h:TrI u) (pre:List CD) (c:CD) (post:List CD):(∃j:Nat,j≠pre.length∧(trs u (pre++c :: post))[j]?=some true)↔Q8 (.thr u) c (pre++post)=true:=by
 rw [G6 (U6 u)]
 have cancel:∀(s t:List CD) (d:CD) (rest:List CD),s++d :: t=pre++c :: post→List.Perm (pre++post) (d :: rest)→List.Perm (s++t) (c :: rest):=fun s t d rest e hp=>by
  have p1:List.Perm (d :: (s++t)) (c :: (pre++post)):=(List.perm_middle.symm.trans (List.Perm.of_eq e)).trans List.perm_middle
  exact List.Perm.cons_inv ((p1.trans (hp.cons c)).trans (List.Perm.swap d c rest))
 constructor
 ·rintro ⟨j,hj,e⟩
  have hl:j<(trs u (pre++c :: post)).length:=(List.getElem?_eq_some_iff.mp e).1
  rw [Zd] at hl
  have ecs:pre++c :: post=(pre++c :: post).take j++(pre++c :: post)[j] :: (pre++c :: post).drop (j+1):=by rw [←List.drop_eq_getElem_cons hl,List.take_append_drop]
  have hlen:((pre++c :: post).take j).length=j:=by rw [List.length_take];omega
  have hj2:=h ((pre++c :: post).take j) (pre++c :: post)[j] ((pre++c :: post).drop (j+1))
  rw [←ecs,hlen,e] at hj2
  have hm:(pre++c :: post)[j]∈pre++post:=by
   by_cases hlt:j<pre.length
   ·rw [List.getElem_append_left hlt]
    exact List.mem_append_left _ (List.getElem_mem hlt)
   ·have e4:(pre++c :: post)[j]?=post[j - pre.length - 1]?:=by
     obtain ⟨i,hi⟩:∃i,j - pre.length=i+1:=⟨j - pre.length - 1,by omega⟩
     rw [List.getElem?_append_right (by omega),hi,List.getElem?_cons_succ,Nat.add_sub_cancel]
    rw [List.getElem?_eq_getElem hl] at e4
    exact List.mem_append_right _ (List.mem_of_getElem? e4.symm)
  obtain ⟨s,t,es⟩:=List.append_of_mem hm
  have hp:List.Perm (pre++post) ((pre++c :: post)[j] :: (s++t)):=(List.Perm.of_eq es).trans List.perm_middle
  refine ⟨_,s++t,hp,?_⟩
  rw [←U6 u _ _ _ (cancel _ _ _ _ ecs.symm hp)]
  exact (Option.some.inj hj2).symm
 ·rintro ⟨d,rest,hp,e⟩
  rcases List.mem_append.mp (hp.mem_iff.mpr List.mem_cons_self) with hm | hm
  ·obtain ⟨s,t,rfl⟩:=List.append_of_mem hm
   have ecs:s++d :: (t++c :: post)=(s++d :: t)++c :: post:=by simp
   refine ⟨s.length,by simp,?_⟩
   rw [←ecs,h s d (t++c :: post),U6 u _ _ _ (cancel _ _ _ _ ecs hp),e]
  ·obtain ⟨s,t,rfl⟩:=List.append_of_mem hm
   have ecs:(pre++c :: s)++d :: t=pre++c :: (s++d :: t):=by simp
   refine ⟨(pre++c :: s).length,by simp,?_⟩
   rw [←ecs,h (pre++c :: s) d t,U6 u _ _ _ (cancel _ _ _ _ ecs hp),e]
theorem Qhz {bs:List Bool} {n:Nat} {b:Bool} (hn:bs[n]?=some b):decide ((bs.count true:Int) > if b then 1 else 0)=true↔∃j:Nat,j≠n∧bs[j]?=some true:=by
 rw [decide_eq_true_iff]
 have hl:n<bs.length:=(List.getElem?_eq_some_iff.mp hn).1
 have eb:bs[n]=b:=(List.getElem?_eq_some_iff.mp hn).2
 have e:bs=bs.take n++b :: bs.drop (n+1):=by rw [←eb,←List.drop_eq_getElem_cons hl,List.take_append_drop]
 have ec:bs.count true=(bs.take n).count true+(bs.drop (n+1)).count true+if b then 1 else 0:=by
  conv=>lhs;rw [e]
  rw [List.count_append,List.count_cons]
  cases b <;> simp <;> omega
 have e1:((bs.count true:Int) > if b then 1 else 0)↔0<(bs.take n).count true+(bs.drop (n+1)).count true:=by
  rw [ec]
  cases b <;> simp <;> omega
 rw [e1]
 constructor
 ·intro h
  by_cases h1:0<(bs.take n).count true
  ·obtain ⟨j,hj,e⟩:=List.mem_iff_getElem.mp (List.count_pos_iff.mp h1)
   rw [List.length_take] at hj
   refine ⟨j,by omega,?_⟩
   rw [List.getElem_take] at e
   rw [List.getElem?_eq_getElem (by omega),e]
  ·obtain ⟨j,hj,e⟩:=List.mem_iff_getElem.mp (List.count_pos_iff.mp (show 0<(bs.drop (n+1)).count true by omega))
   rw [List.length_drop] at hj
   refine ⟨n+1+j,by omega,?_⟩
   rw [List.getElem_drop] at e
   rw [List.getElem?_eq_getElem (by omega),e]
 ·rintro ⟨j,hj,e⟩
  by_cases hlt:j<n
  ·have:0<(bs.take n).count true:=List.count_pos_iff.mpr (List.mem_of_getElem? (i:=j) (by rw [List.getElem?_take_of_lt hlt];exact e))
   omega
  ·have:0<(bs.drop (n+1)).count true:=List.count_pos_iff.mpr (List.mem_of_getElem? (i:=j - (n+1)) (by rw [List.getElem?_drop,show n+1+(j - (n+1))=j by omega];exact e))
   omega
theorem Vf {f:CD→Bool} (pre:List CD) (c:CD) (post:List CD):((pre++c :: post).map f)[pre.length]?=some (f c):=by simp
theorem trI:∀u:Tr,TrI u
 | .nt u=>fun pre c post=>by
   show ((trs u (pre++c :: post)).map (!·))[pre.length]?=some (!Q8 u c (pre++post))
   rw [List.getElem?_map,trI u];rfl
 | .bth u v=>fun pre c post=>by
   show (List.zipWith (·&& ·) (trs u (pre++c :: post)) (trs v (pre++c :: post)))[pre.length]?=some (Q8 u c (pre++post) && Q8 v c (pre++post))
   rw [List.getElem?_zipWith,trI u,trI v]
 | .eth u v=>fun pre c post=>by
   show (List.zipWith (·|| ·) (trs u (pre++c :: post)) (trs v (pre++c :: post)))[pre.length]?=some (Q8 u c (pre++post) || Q8 v c (pre++post))
   rw [List.getElem?_zipWith,trI u,trI v]
 | .thr u=>fun pre c post=>by
   show ((trs u (pre++c :: post)).map fun b=>decide (((trs u (pre++c :: post)).count true:Int) > if b then 1 else 0))[pre.length]?=some (Q8 (.thr u) c (pre++post))
   rw [List.getElem?_map,trI u]
   refine congrArg some ?_
   rw [Bool.eq_iff_iff,←Kg (trI u)]
   exact Qhz (trI u pre c post)
 | .any=>Vf
 | .ans=>Vf
 | .word _=>Vf
 | .title _=>Vf
 | .frm _=>Vf
 | .days _ _=>Vf
 | .inn _=>Vf
 | .mrk _=>Vf
theorem Uv:∀(t:Tr) (c:CD) (os:List CD),Z9 t c os=Q8 t c os
 | .nt u,c,os=>by show (!Z9 u c os) = !Q8 u c os;rw [Uv u]
 | .bth u v,c,os=>by show (Z9 u c os && Z9 v c os)=(Q8 u c os && Q8 v c os);rw [Uv u,Uv v]
 | .eth u v,c,os=>by show (Z9 u c os || Z9 v c os)=(Q8 u c os || Q8 v c os);rw [Uv u,Uv v]
 | .thr u,c,os=>by
   show ((trs u (c :: os)).drop 1).any id=_
   have h:=Kg (trI u) [] c os
   rw [List.nil_append,List.nil_append] at h
   rw [Bool.eq_iff_iff,←h,QhC]
   constructor
   ·rintro ⟨j,e⟩
    rw [List.getElem?_drop] at e
    exact ⟨1+j,by show 1+j≠0;omega,e⟩
   ·rintro ⟨j,hj,e⟩
    have hj':j≠0:=hj
    exact ⟨j - 1,by rw [List.getElem?_drop,show 1+(j - 1)=j by omega];exact e⟩
 | .any,_,_=>rfl
 | .ans,_,_=>rfl
 | .word _,_,_=>rfl
 | .title _,_,_=>rfl
 | .frm _,_,_=>rfl
 | .days _ _,_,_=>rfl
 | .inn _,_,_=>rfl
 | .mrk _,_,_=>rfl
mutual
theorem RD.mono {K:PySem.W.Frag} {H H':Hp} (s:Qm H H'):∀{x:V} {d:PyData},RD K H x d→RD K H' x d
 | _,_,.non=>.non
 | _,_,.bl b=>.bl b
 | _,_,.int i=>.int i
 | _,_,.str y=>.str y
 | _,_,.lst h r=>.lst (s.seq h) (RDs.mono s r)
 | _,_,.tup h r=>.tup (s.tup h) (RDs.mono s r)
theorem RDs.mono {K:PySem.W.Frag} {H H':Hp} (s:Qm H H'):∀{xs:List V} {ds:List PyData},RDs K H xs ds→RDs K H' xs ds
 | _,_,.nil=>.nil
 | _,_,.cons r rs=>.cons (RD.mono s r) (RDs.mono s rs)
end
theorem RDs.snoc {K:PySem.W.Frag} {H:Hp} {x:V} {d:PyData} (r:RD K H x d):∀{xs:List V} {ds:List PyData},RDs K H xs ds→RDs K H (xs++[x]) (ds++[d])
 | _,_,.nil=>.cons r .nil
 | _,_,.cons q qs=>.cons q (RDs.snoc r qs)
def RNew (K:PySem.W.Frag) (H H':Hp) (y:V) (d:PyData):Prop:=∀H'',(∀c o,H c=none→H' c=some o→H'' c=some o)→RD K H'' y d
theorem QdB {K:PySem.W.Frag} {l:Addr} {xs:List V} {ds:List PyData} {fr:List (Nat×Str)} {te:TE} {σ:St} {H1:Hp} {Q:VK} (hz:xs.length≤sizeLine) (hl:ds.length=xs.length) (hS:SqL K H1 l xs)
 (hte:∀(i:Nat) (x:V) (d:PyData) (H3:Hp) (Q':VK),xs[i]?=some x→ds[i]?=some d→Qm H1 H3→(∀y H4,Qm H3 H4→RNew K H3 H4 y d→Q' y H4)→te (some x :: frV σ fr) H3 Q')
 (hQ:∀D ys H2,H1 D=none→Qm H1 H2→H2 D=some (.lst ys)→RDs K H2 ys ds→Q (.ref D) H2) :
 Jg (Itl K l) fr W7 te σ H1 Q:=by
 refine KJ (fun D i ys H=>ys.length=i∧∀H'',(∀c o,c≠D→H c=some o→H'' c=some o)→RDs K H'' ys (ds.take i)) hz hS (fun D nD=>⟨rfl,fun H'' _=>.nil⟩) (fun D i ys H h=>h.1) ?_ ?_
 ·intro D i x ys H3 Q' hi nD hP eD s3 k
  have hid:i<ds.length:=by rw [hl];exact (List.getElem?_eq_some_iff.mp hi).1
  have ed:ds[i]?=some ds[i]:=List.getElem?_eq_getElem hid
  refine hte i x ds[i] H3 Q' hi ed s3 fun y H4 s4 rn=>k y H4 s4 ⟨by rw [List.length_append,List.length_singleton,hP.1],fun H'' hk=>?_⟩
  rw [List.take_add_one,ed]
  refine RDs.snoc (rn H'' fun c o n e=>?_) (hP.2 H'' fun c o n e=>hk c o n (by rw [Qk n];exact s4 _ _ e))
  have cD:c≠D:=fun z=>by rw [z,eD] at n;cases n
  exact hk c o cD (by rw [Qk cD];exact e)
 ·intro D ys H2 nD hP s2 e2
  refine hQ D ys H2 nD s2 e2 ?_
  have:=hP.2 H2 fun c o _ e=>e
  rwa [List.take_of_length_le (by omega)] at this
def Jh:Tr→PyData
 | .any=>.tuple [.str "any"]
 | .ans=>.tuple [.str "answers"]
 | .word w=>.tuple [.str "word",.str w]
 | .title w=>.tuple [.str "title",.str w]
 | .frm w=>.tuple [.str "from",.str w]
 | .days l h=>.tuple [.str "day",.int l,.int h]
 | .inn w=>.tuple [.str "in",.str w]
 | .mrk w=>.tuple [.str "marked",.str w]
 | .nt u=>.tuple [.str "not",Jh u]
 | .thr u=>.tuple [.str "thread",Jh u]
 | .bth u v=>.tuple [.str "both",Jh u,Jh v]
 | .eth u v=>.tuple [.str "either",Jh u,Jh v]
theorem TAt.rd {K:PySem.W.Frag} {H:Hp} {p:Addr} {t:Tr} (h:TAt H p t):RD K H (.ref p) (Jh t):=by
 induction h with
 | any e=>exact .tup (SqT.of e) (.cons (.str _) .nil)
 | ans e=>exact .tup (SqT.of e) (.cons (.str _) .nil)
 | word e w=>exact .tup (SqT.of e) (.cons (.str _) (.cons (.str _) .nil))
 | title e w=>exact .tup (SqT.of e) (.cons (.str _) (.cons (.str _) .nil))
 | frm e w=>exact .tup (SqT.of e) (.cons (.str _) (.cons (.str _) .nil))
 | days e _=>exact .tup (SqT.of e) (.cons (.str _) (.cons (.int _) (.cons (.int _) .nil)))
 | inn e w=>exact .tup (SqT.of e) (.cons (.str _) (.cons (.str _) .nil))
 | mrk e w=>exact .tup (SqT.of e) (.cons (.str _) (.cons (.str _) .nil))
 | nt e _ ih=>exact .tup (SqT.of e) (.cons (.str _) (.cons ih .nil))
 | thr e _ ih=>exact .tup (SqT.of e) (.cons (.str _) (.cons ih .nil))
 | bth e _ _ i1 i2=>exact .tup (SqT.of e) (.cons (.str _) (.cons i1 (.cons i2 .nil)))
 | eth e _ _ i1 i2=>exact .tup (SqT.of e) (.cons (.str _) (.cons i1 (.cons i2 .nil)))
theorem TAt.lay {H:Hp} {p:Addr} {t:Tr} (h:TAt H p t):PyData.canLay0 (Jh t)=true∧PyData.depth (Jh t)≤t.dp+1:=by
 have z1:PyData.strOk "any"=true:=by decide +kernel
 have z2:PyData.strOk "answers"=true:=by decide +kernel
 have z3:PyData.strOk "word"=true:=by decide +kernel
 have z4:PyData.strOk "title"=true:=by decide +kernel
 have z5:PyData.strOk "from"=true:=by decide +kernel
 have z6:PyData.strOk "day"=true:=by decide +kernel
 have z7:PyData.strOk "in"=true:=by decide +kernel
 have z8:PyData.strOk "marked"=true:=by decide +kernel
 have z9:PyData.strOk "not"=true:=by decide +kernel
 have z10:PyData.strOk "thread"=true:=by decide +kernel
 have z11:PyData.strOk "both"=true:=by decide +kernel
 have z12:PyData.strOk "either"=true:=by decide +kernel
 induction h with
 | any e=>exact ⟨by simp [Jh,PyData.canLay0,PyData.canLayAll0,z1],by simp [Jh,PyData.depth,PyData.depthAll]⟩
 | ans e=>exact ⟨by simp [Jh,PyData.canLay0,PyData.canLayAll0,z2],by simp [Jh,PyData.depth,PyData.depthAll]⟩
 | word e w=>exact ⟨by simp [Jh,PyData.canLay0,PyData.canLayAll0,z3,w.asc.ok],by simp [Jh,PyData.depth,PyData.depthAll]⟩
 | title e w=>exact ⟨by simp [Jh,PyData.canLay0,PyData.canLayAll0,z4,w.asc.ok],by simp [Jh,PyData.depth,PyData.depthAll]⟩
 | frm e w=>exact ⟨by simp [Jh,PyData.canLay0,PyData.canLayAll0,z5,w.asc.ok],by simp [Jh,PyData.depth,PyData.depthAll]⟩
 | days e _=>exact ⟨by simp [Jh,PyData.canLay0,PyData.canLayAll0,z6],by simp [Jh,PyData.depth,PyData.depthAll]⟩
 | inn e w=>exact ⟨by simp [Jh,PyData.canLay0,PyData.canLayAll0,z7,w.asc.ok],by simp [Jh,PyData.depth,PyData.depthAll]⟩
 | mrk e w=>exact ⟨by simp [Jh,PyData.canLay0,PyData.canLayAll0,z8,w.asc.ok],by simp [Jh,PyData.depth,PyData.depthAll]⟩
 | nt e _ ih=>exact ⟨by simp [Jh,PyData.canLay0,PyData.canLayAll0,z9,ih.1],by have:=ih.2;simp only [Jh,PyData.depth,PyData.depthAll,Tr.dp];omega⟩
 | thr e _ ih=>exact ⟨by simp [Jh,PyData.canLay0,PyData.canLayAll0,z10,ih.1],by have:=ih.2;simp only [Jh,PyData.depth,PyData.depthAll,Tr.dp];omega⟩
 | bth e _ _ i1 i2=>exact ⟨by simp [Jh,PyData.canLay0,PyData.canLayAll0,z11,i1.1,i2.1],by have:=i1.2;have:=i2.2;simp only [Jh,PyData.depth,PyData.depthAll,Tr.dp];omega⟩
 | eth e _ _ i1 i2=>exact ⟨by simp [Jh,PyData.canLay0,PyData.canLayAll0,z12,i1.1,i2.1],by have:=i1.2;have:=i2.2;simp only [Jh,PyData.depth,PyData.depthAll,Tr.dp];omega⟩
section
variable {P : Program} {w : World} {K : PySem.W.Frag} {mg : Str → Option Value} {base : Heap} {a : Adr}
theorem Txt.mtree {K:PySem.W.Frag} {mg:Str→Option Value} {a:Adr} (T:Txt K mg a):∀t:Tr,QN K (Yw a t) "tree" a.f_Condition_tree
 | .any=>T.M_Always_tree
 | .ans=>T.M_DoesAnswer_tree
 | .word _=>T.M_HasWord_tree
 | .title _=>T.M_HasTitleWord_tree
 | .frm _=>T.M_IsFrom_tree
 | .days _ _=>T.M_IsOfDays_tree
 | .inn _=>T.M_IsIn_tree
 | .mrk _=>T.M_IsMarked_tree
 | .nt _=>T.M_Not_tree
 | .thr _=>T.M_InThread_tree
 | .bth _ _=>T.M_Both_tree
 | .eth _ _=>T.M_Either_tree
end
def WZ:Tr→List Str
 | .any=>["any"]
 | .ans=>["answers"]
 | .word w=>["word",w]
 | .title w=>["title",w]
 | .frm w=>["from",w]
 | .inn w=>["in",w]
 | .mrk w=>["marked",w]
 | _=>[]
def wr:Tr→Str
 | .days l h=>(((Str.empty++"day ")++Str.ofString (toString l))++" to ")++Str.ofString (toString h)
 | .nt u=>(("not":Str)++" ")++wr u
 | .thr u=>(("thread":Str)++" ")++wr u
 | .bth u v=>((((((Str.empty++"(")++wr u)++" ")++"and")++" ")++wr v)++")"
 | .eth u v=>((((((Str.empty++"(")++wr u)++" ")++"or")++" ")++wr v)++")"
 | t=>PySem.Txt.join " " (WZ t)
theorem Qg (x y:Str):(x++y).length=x.length+y.length:=strLen_append x y
theorem Yn (x y:Str):PySem.Txt.join " " [x,y]=(x++" ")++y:=by rfl
theorem TAt.wlen {H:Hp} {p:Addr} {t:Tr} (h:TAt H p t):(wr t).length+7≤47*2 ^ t.dp:=by
 have e0:Str.empty.length=0:=rfl
 have q1:("word":Str).length=4:=by decide +kernel
 have q2:("title":Str).length=5:=by decide +kernel
 have q3:("from":Str).length=4:=by decide +kernel
 have q4:("in":Str).length=2:=by decide +kernel
 have q5:("marked":Str).length=6:=by decide +kernel
 have q6:(" ":Str).length=1:=by decide +kernel
 have q7:("day ":Str).length=4:=by decide +kernel
 have q8:(" to ":Str).length=4:=by decide +kernel
 have q9:("not":Str).length=3:=by decide +kernel
 have q10:("thread":Str).length=6:=by decide +kernel
 have q11:("(":Str).length=1:=by decide +kernel
 have q12:(")":Str).length=1:=by decide +kernel
 have q13:("and":Str).length=3:=by decide +kernel
 have q14:("or":Str).length=2:=by decide +kernel
 induction h with
 | any e=>decide +kernel
 | ans e=>decide +kernel
 | word e w =>
   have:=w.hi
   show (PySem.Txt.join " " ["word",_]).length+7≤47*2 ^ 0
   rw [Yn,Qg,Qg,q1,q6];omega
 | title e w =>
   have:=w.hi
   show (PySem.Txt.join " " ["title",_]).length+7≤47*2 ^ 0
   rw [Yn,Qg,Qg,q2,q6];omega
 | frm e w =>
   have:=w.hi
   show (PySem.Txt.join " " ["from",_]).length+7≤47*2 ^ 0
   rw [Yn,Qg,Qg,q3,q6];omega
 | inn e w =>
   have:=w.hi
   show (PySem.Txt.join " " ["in",_]).length+7≤47*2 ^ 0
   rw [Yn,Qg,Qg,q4,q6];omega
 | mrk e w =>
   have:=w.hi
   show (PySem.Txt.join " " ["marked",_]).length+7≤47*2 ^ 0
   rw [Yn,Qg,Qg,q5,q6];omega
 | days e b =>
   have h1:=Vs b.1 b.2.1
   have h2:=Vs b.2.2.1 b.2.2.2
   show ((((Str.empty++"day ")++Str.ofString (toString _))++" to ")++Str.ofString (toString _)).length+7≤47*2 ^ 0
   rw [Qg,Qg,Qg,Qg,e0,q7,q8];omega
 | nt e _ ih =>
   show ((("not":Str)++" ")++wr _).length+7≤47*2 ^ (_+1)
   rw [Qg,Qg,q9,q6,Nat.pow_succ]
   have:=Nat.one_le_two_pow (n:=Tr.dp ‹Tr›)
   omega
 | thr e _ ih =>
   show ((("thread":Str)++" ")++wr _).length+7≤47*2 ^ (_+1)
   rw [Qg,Qg,q10,q6,Nat.pow_succ]
   have:=Nat.one_le_two_pow (n:=Tr.dp ‹Tr›)
   omega
 | bth e _ _ i1 i2 =>
   rename_i u v _ _
   show (((((((Str.empty++"(")++wr u)++" ")++"and")++" ")++wr v)++")").length+7≤47*2 ^ (max u.dp v.dp+1)
   rw [Qg,Qg,Qg,Qg,Qg,Qg,Qg,e0,q11,q6,q13,q12,Nat.pow_succ]
   have p1:2 ^ u.dp≤2 ^ max u.dp v.dp:=Nat.pow_le_pow_right (by decide) (by omega)
   have p2:2 ^ v.dp≤2 ^ max u.dp v.dp:=Nat.pow_le_pow_right (by decide) (by omega)
   omega
 | eth e _ _ i1 i2 =>
   rename_i u v _ _
   show (((((((Str.empty++"(")++wr u)++" ")++"or")++" ")++wr v)++")").length+7≤47*2 ^ (max u.dp v.dp+1)
   rw [Qg,Qg,Qg,Qg,Qg,Qg,Qg,e0,q11,q6,q14,q12,Nat.pow_succ]
   have p1:2 ^ u.dp≤2 ^ max u.dp v.dp:=Nat.pow_le_pow_right (by decide) (by omega)
   have p2:2 ^ v.dp≤2 ^ max u.dp v.dp:=Nat.pow_le_pow_right (by decide) (by omega)
   omega
inductive QeP (a:Adr) (t:Tr) (vs:List V) (H:Hp) (Q:VK):Prop
 | mk:∀x,vs=[.ref x]→QJ a H x t→t.dp<10→Q (.str (wr t)) H→QeP a t vs H Q
def QdJ (a:Adr) (t:Tr):Sp:=fun vs H Q _=>QeP a t vs H Q
inductive QeQ (K:PySem.W.Frag) (a:Adr) (u v:Tr) (vs:List V) (H:Hp) (Q:VK):Prop
 | mk:∀x b C dx p y z,vs=[.ref x,.str b]→b.length≤3→H x=some (.ins C dx [("shape",.ref p),("one",.ref y),("other",.ref z)])→Cls K C→QD K C "one"→QD K C "other"→QJ a H y u→QJ a H z v→u.dp<9→v.dp<9→Q (.str (((((((Str.empty++"(")++wr u)++" ")++b)++" ")++wr v)++")")) H→QeQ K a u v vs H Q
def spWW (K:PySem.W.Frag) (a:Adr) (u v:Tr):Sp:=fun vs H Q _=>QeQ K a u v vs H Q
theorem QJ.len {a:Adr} {H:Hp} {x:Addr} {t:Tr} (h:QJ a H x t) (hd:t.dp<10):(wr t).length≤24064:=by
 obtain ⟨dx,fs,_,_,_,_,p,_,ht⟩:=h.obj
 have h1:=ht.wlen
 have h2:2 ^ t.dp≤2 ^ 9:=Nat.pow_le_pow_right (by decide) (by omega)
 omega
theorem XH {d:Int} (h0:0≤d) (h1:d≤9999):d.natAbs.log2<1920:=by
 by_cases h:d.natAbs=0
 ·rw [h];decide
 ·exact Nat.lt_of_lt_of_le ((Nat.log2_lt h).mpr (Nat.lt_of_le_of_lt (show d.natAbs≤9999 by omega) (by decide:9999<2 ^ 14))) (by decide)
theorem ZF {n:Nat} (h:n≤100000):n≤sizeLine:=Nat.le_trans h (by decide)
section
variable {P : Program} {w : World} {K : PySem.W.Frag} {mg : Str → Option Value} {base : Heap} {a : Adr}
variable (P w K mg base a)
def WOk (k:Nat) (t:Tr):Prop:=∃f fd,QN K (Yw a t) "written" f∧Qt K fd ["self"] []∧Qw P w K mg base CX0 k f fd ["self"] (QdJ a t)
variable {P w K mg base a}
theorem QJ.objW {a:Adr} {H:Hp} {x:Addr} {t:Tr} (h:QJ a H x t):∃dx fs,H x=some (.ins (Yw a t) dx fs)∧fs.lookup ("written":Str)=none:=by
 cases h with
 | lf l e t=>exact ⟨_,_,e,rfl⟩
 | nt e t _=>exact ⟨_,_,e,rfl⟩
 | thr e t _=>exact ⟨_,_,e,rfl⟩
 | bth e t _ _=>exact ⟨_,_,e,rfl⟩
 | eth e t _ _=>exact ⟨_,_,e,rfl⟩
theorem Yb {t:Tr} {fd:FuncData} (hp:∀(H:Hp) p,TAt H p t→H p=some (.tup ((WZ t).map V.str))) (hw:wr t=PySem.Txt.join " " (WZ t)) (hz:∀(H:Hp) p,TAt H p t→((WZ t).map (·.length)).sum+(WZ t).length≤1000) (F:Fun K "written" "Condition.written" Zp a.f_Condition_written fd) (T:Txt K mg a):Qw P w K mg base CX0 1 a.f_Condition_written fd ["self"] (QdJ a t):=by
 refine F.ok U2 (fun vs H Q E h=>?_) (fun cdv A outer s H vs Q E hr h=>?_)
 ·obtain ⟨x,rfl,_⟩:=h;rfl
 ·obtain ⟨x,rfl,hx,hd,k⟩:=h
  obtain ⟨dx,fs,ex,_,_,_,p,lp,ht⟩:=hx.obj
  have hz':=hz H p ht
  rw [hw] at k
  exact ⟨_,(Qd (Qo (Z8 PySem.F.plainAttrs_str PySem.F.slot_str_join PySem.F.type_str_join Ku Qi (pac (QC (pv 0) rfl) Qf)))),⟨rfl,_,rfl,x,_,dx,fs,_,rfl,ex,T.cls t,T.noshape t,lp,_,p,WZ t,rfl,rfl,SqT.of (hp H p ht),(by show _+_*1≤_;omega),k⟩⟩
theorem QdQ {l h:Int} {fd:FuncData} (F:Fun K "written" "IsOfDays.written" Zv a.f_IsOfDays_written fd) (T:Txt K mg a):Qw P w K mg base CX0 1 a.f_IsOfDays_written fd ["self"] (QdJ a (.days l h)):=by
 refine F.ok Jp (fun vs H Q E h=>?_) (fun cdv A outer s H vs Q E hr h=>?_)
 ·obtain ⟨x,rfl,_⟩:=h;rfl
 ·obtain ⟨x,rfl,hx,hd,k⟩:=h
  have hlen:=hx.len hd
  cases hx with
  | lf _ ex tt =>
    cases tt with
    | days ep b =>
      have h1:=Vs b.1 b.2.1
      have h2:=Vs b.2.2.1 b.2.2.2
      refine ⟨_,(Qb (Qv (i:=1) Jp.nd rfl (Or.inl rfl) (Qn Qs (QC (pv 0) rfl) Qa (fun _ _=>rfl)))
       (Qb (Qv (i:=2) Jp.nd rfl (Or.inl rfl) (Qn Qs (QC (pv 0) rfl) Qa (fun _ _=>rfl)))
       (Qd (Qo (QfC (ZS Qi (ZS (VQ (pv 1)) (ZS Qi (ZS (VQ (pv 2)) Qcq))))))))),?_⟩
      refine ⟨_,rfl,x,_,_,_,_,rfl,ex,T.c_IsOfDays,T.n_IsOfDays_shape,rfl,_,_,_,_,rfl,rfl,SqT.of ep,rfl,?_⟩
      refine ⟨_,rfl,x,_,_,_,_,rfl,ex,T.c_IsOfDays,T.n_IsOfDays_shape,rfl,_,_,_,_,rfl,rfl,SqT.of ep,rfl,?_⟩
      have e0:Str.empty.length=0:=rfl
      have q7:("day ":Str).length=4:=by decide +kernel
      have q8:(" to ":Str).length=4:=by decide +kernel
      refine ⟨_,rfl,ZF (by rw [Qg,e0,q7];decide),_,rfl,.int l rfl (XH b.1 b.2.1) ⟨_,rfl,ZF (by rw [Qg,Qg,e0,q7];omega),_,rfl,ZF (by rw [Qg,Qg,Qg,e0,q7,q8];omega),_,rfl,.int h rfl (XH b.2.2.1 b.2.2.2) ⟨_,rfl,ZF (by rw [Qg,Qg,Qg,Qg,e0,q7,q8];omega),ZF (by rw [Qg,Qg,Qg,Qg,e0,q7,q8];omega),k⟩⟩⟩
theorem Gy {u:Tr} {t:Tr} {k:Nat} {fd:FuncData} {nm:Str} (ht:t.dp=u.dp+1) (hw:wr t=(nm++" ")++wr u) (hn:nm.length≤6) (inv:∀(H:Hp) x,QJ a H x t→∃dx p y q,H x=some (.ins (Yw a t) dx [("shape",.ref p),("inner",.ref y)])∧H p=some (.tup [.str nm,.ref q])∧QJ a H y u) (ni:QD K (Yw a t) "inner")
 (F:Fun K "written" "Wrapped.written" ZI a.f_Wrapped_written fd) (T:Txt K mg a) (G:WOk P w K mg base a k u):Qw P w K mg base CX0 (k+1) a.f_Wrapped_written fd ["self"] (QdJ a t):=by
 obtain ⟨f,fdh,M,b,G⟩:=G
 refine F.ok VM (fun vs H Q E h=>?_) (fun cdv A outer s H vs Q E hr h=>?_)
 ·obtain ⟨x,rfl,_⟩:=h;rfl
 ·obtain ⟨x,rfl,hx,hd,kk⟩:=h
  have hrk:QG k _:=hr
  obtain ⟨dx,p,y,q,ex,ep,hy⟩:=inv H x hx
  obtain ⟨dy,fs,ey,lw⟩:=hy.objW
  have hl:=hy.len (by omega)
  have q6:(" ":Str).length=1:=by decide +kernel
  rw [hw] at kk
  refine ⟨_,(Qd (Qo (Ql QH (Ql QH (Qn Qs (QC (pv 0) rfl) Qa (fun _ _=>rfl)) Qi) (Us (QC (pv 0) rfl))))),?_⟩
  refine ⟨_,rfl,x,_,dx,_,_,rfl,ex,T.cls t,T.noshape t,rfl,p,_,_,_,rfl,rfl,SqT.of ep,rfl,_,_,rfl,rfl,ZF (by rw [q6];omega),?_⟩
  refine ⟨_,rfl,x,_,dx,_,_,rfl,ex,T.cls t,ni,rfl,y,dy,fs,_,f,fdh,_,_,k,rfl,ey,T.cls u,M,G,hrk,b,lw,?_⟩
  exact ⟨y,rfl,hy,by omega,_,_,rfl,rfl,ZF (by rw [Qg,q6];omega),kk⟩
end
section
variable {P : Program} {w : World} {K : PySem.W.Frag} {mg : Str → Option Value} {base : Heap} {a : Adr}
theorem QhT {u v:Tr} {k:Nat} {fd:FuncData} (F:Fun K "written_with" "Joined.written_with" Zb a.f_Joined_written_with fd) (T:Txt K mg a) (G:WOk P w K mg base a k u) (G2:WOk P w K mg base a k v):Qw P w K mg base CX0 (k+1) a.f_Joined_written_with fd ["self","between"] (spWW K a u v):=by
 obtain ⟨f,fdh,M,b,G⟩:=G
 obtain ⟨f2,fdh2,M2,b2,G2⟩:=G2
 refine F.ok ZR (fun vs H Q E h=>?_) (fun cdv A outer s H vs Q E hr h=>?_)
 ·obtain ⟨x,bt,C,dx,p,y,z,rfl,_⟩:=h;rfl
 ·obtain ⟨x,bt,C,dx,p,y,z,rfl,hb,ex,cl,n1,n2,hy,hz,hd1,hd2,kk⟩:=h
  have hrk:QG k _:=hr
  obtain ⟨dy,fs,ey,lw⟩:=hy.objW
  obtain ⟨dz,gs,ez,lz⟩:=hz.objW
  have hl1:=hy.len (by omega)
  have hl2:=hz.len (by omega)
  have e0:Str.empty.length=0:=rfl
  have q6:(" ":Str).length=1:=by decide +kernel
  have q11:("(":Str).length=1:=by decide +kernel
  have q12:(")":Str).length=1:=by decide +kernel
  refine ⟨_,(Qb (Qv (i:=2) ZR.nd rfl (Or.inl rfl) (Us (QC (pv 0) rfl)))
   (Qb (Qv (i:=3) ZR.nd rfl (Or.inl rfl) (Us (QC (pv 0) rfl)))
   (Qd (Qo (QfC (ZS Qi (ZS (VQ (pv 2)) (ZS Qi (ZS (VQ (pv 1)) (ZS Qi (ZS (VQ (pv 3)) (ZS Qi Qcq)))))))))))),?_⟩
  refine ⟨_,rfl,x,_,dx,_,_,rfl,ex,cl,n1,rfl,y,dy,fs,_,f,fdh,_,_,k,rfl,ey,T.cls u,M,G,hrk,b,lw,?_⟩
  refine ⟨y,rfl,hy,by omega,?_⟩
  refine ⟨_,rfl,x,_,dx,_,_,rfl,ex,cl,n2,rfl,z,dz,gs,_,f2,fdh2,_,_,k,rfl,ez,T.cls v,M2,G2,hrk,b2,lz,?_⟩
  refine ⟨z,rfl,hz,by omega,?_⟩
  refine ⟨_,rfl,ZF (by rw [Qg,e0,q11];decide),_,rfl,.str _ rfl (ZF (by omega)) ⟨_,rfl,ZF (by rw [Qg,Qg,e0,q11];omega),_,rfl,ZF (by rw [Qg,Qg,Qg,e0,q11,q6];omega),_,rfl,.str _ rfl (ZF (by omega)) ⟨_,rfl,ZF (by rw [Qg,Qg,Qg,Qg,e0,q11,q6];omega),_,rfl,ZF (by rw [Qg,Qg,Qg,Qg,Qg,e0,q11,q6];omega),_,rfl,.str _ rfl (ZF (by omega)) ⟨_,rfl,ZF (by rw [Qg,Qg,Qg,Qg,Qg,Qg,e0,q11,q6];omega),_,rfl,ZF (by rw [Qg,Qg,Qg,Qg,Qg,Qg,Qg,e0,q11,q6,q12];omega),ZF (by rw [Qg,Qg,Qg,Qg,Qg,Qg,Qg,e0,q11,q6,q12];omega),kk⟩⟩⟩⟩
theorem QfM {u v:Tr} {k:Nat} {fd:FuncData} (F:Fun K "written" "Both.written" Jz a.f_Both_written fd) (T:Txt K mg a) (FF:Z1 K a) (G:WOk P w K mg base a k u) (G2:WOk P w K mg base a k v):Qw P w K mg base CX0 (k+2) a.f_Both_written fd ["self"] (QdJ a (.bth u v)):=by
 obtain ⟨fdw,Fw,bw⟩:=FF.F_Joined_written_with
 have Gw:Qw P w K mg base CX0 (k+1) a.f_Joined_written_with fdw ["self","between"] (spWW K a u v):=QhT Fw T G G2
 refine F.ok Xs (fun vs H Q E h=>?_) (fun cdv A outer s H vs Q E hr h=>?_)
 ·obtain ⟨x,rfl,_⟩:=h;rfl
 ·obtain ⟨x,rfl,hx,hd,kk⟩:=h
  have hrw:QG (k+1) _:=hr
  have hd':max u.dp v.dp+1<10:=hd
  cases hx with
  | lf z _ _=>cases z
  | bth ex tt hy hz =>
    refine ⟨_,(Qd (Qo (Yz (pv 0) T.c_Both T.M_Both_written_with Gw hrw bw .nil Qy (pac Qi Qf)))),?_⟩
    exact ⟨_,rfl,x,_,_,rfl,ex,rfl,x,_,_,_,_,_,_,rfl,(by decide +kernel),ex,T.c_Both,T.n_Both_one,T.n_Both_other,hy,hz,by omega,by omega,kk⟩
theorem QfL {u v:Tr} {k:Nat} {fd:FuncData} (F:Fun K "written" "Either.written" ZX a.f_Either_written fd) (T:Txt K mg a) (FF:Z1 K a) (G:WOk P w K mg base a k u) (G2:WOk P w K mg base a k v):Qw P w K mg base CX0 (k+2) a.f_Either_written fd ["self"] (QdJ a (.eth u v)):=by
 obtain ⟨fdw,Fw,bw⟩:=FF.F_Joined_written_with
 have Gw:Qw P w K mg base CX0 (k+1) a.f_Joined_written_with fdw ["self","between"] (spWW K a u v):=QhT Fw T G G2
 refine F.ok Wb (fun vs H Q E h=>?_) (fun cdv A outer s H vs Q E hr h=>?_)
 ·obtain ⟨x,rfl,_⟩:=h;rfl
 ·obtain ⟨x,rfl,hx,hd,kk⟩:=h
  have hrw:QG (k+1) _:=hr
  have hd':max u.dp v.dp+1<10:=hd
  cases hx with
  | lf z _ _=>cases z
  | eth ex tt hy hz =>
    refine ⟨_,(Qd (Qo (Yz (pv 0) T.c_Either T.M_Either_written_with Gw hrw bw .nil Qy (pac Qi Qf)))),?_⟩
    exact ⟨_,rfl,x,_,_,rfl,ex,rfl,x,_,_,_,_,_,_,rfl,(by decide +kernel),ex,T.c_Either,T.n_Either_one,T.n_Either_other,hy,hz,by omega,by omega,kk⟩
theorem askW (T:Txt K mg a) (FF:Z1 K a):∀t:Tr,WOk P w K mg base a (2*t.dp+1) t:=by
 obtain ⟨fc,Fc,bc⟩:=FF.F_Condition_written
 intro t
 induction t with
 | any=>exact ⟨_,fc,T.M_Always_written,bc,Yb (fun H p h=>by cases h with | any e=>exact e) rfl (fun H p h=>by decide +kernel) Fc T⟩
 | ans=>exact ⟨_,fc,T.M_DoesAnswer_written,bc,Yb (fun H p h=>by cases h with | ans e=>exact e) rfl (fun H p h=>by decide +kernel) Fc T⟩
 | word u=>exact ⟨_,fc,T.M_HasWord_written,bc,Yb (fun H p h=>by cases h with | word e _=>exact e) rfl (fun H p h=>by cases h with | word e w=>(have:=w.hi;have q:("word":Str).length≤6:=(by decide +kernel);show ("word":Str).length+(u.length+0)+2≤1000;omega)) Fc T⟩
 | title u=>exact ⟨_,fc,T.M_HasTitleWord_written,bc,Yb (fun H p h=>by cases h with | title e _=>exact e) rfl (fun H p h=>by cases h with | title e w=>(have:=w.hi;have q:("title":Str).length≤6:=(by decide +kernel);show ("title":Str).length+(u.length+0)+2≤1000;omega)) Fc T⟩
 | frm u=>exact ⟨_,fc,T.M_IsFrom_written,bc,Yb (fun H p h=>by cases h with | frm e _=>exact e) rfl (fun H p h=>by cases h with | frm e w=>(have:=w.hi;have q:("from":Str).length≤6:=(by decide +kernel);show ("from":Str).length+(u.length+0)+2≤1000;omega)) Fc T⟩
 | inn u=>exact ⟨_,fc,T.M_IsIn_written,bc,Yb (fun H p h=>by cases h with | inn e _=>exact e) rfl (fun H p h=>by cases h with | inn e w=>(have:=w.hi;have q:("in":Str).length≤6:=(by decide +kernel);show ("in":Str).length+(u.length+0)+2≤1000;omega)) Fc T⟩
 | mrk u=>exact ⟨_,fc,T.M_IsMarked_written,bc,Yb (fun H p h=>by cases h with | mrk e _=>exact e) rfl (fun H p h=>by cases h with | mrk e w=>(have:=w.hi;have q:("marked":Str).length≤6:=(by decide +kernel);show ("marked":Str).length+(u.length+0)+2≤1000;omega)) Fc T⟩
 | days l h =>
   obtain ⟨fd,F,b⟩:=FF.F_IsOfDays_written
   exact ⟨_,fd,T.M_IsOfDays_written,b,QdQ F T⟩
 | nt u ih =>
   obtain ⟨fd,F,b⟩:=FF.F_Wrapped_written
   refine ⟨_,fd,T.M_Not_written,b,(Gy (u:=u) (t:=.nt u) (nm:="not") rfl rfl (by decide +kernel) (fun H x h=>?_) T.n_Not_inner F T ih).mono (by show 2*u.dp+1+1≤2*(u.dp+1)+1;omega)⟩
   cases h with
   | lf z _ _=>cases z
   | nt ex tt hy=>cases tt with | nt ep hq=>exact ⟨_,_,_,_,ex,ep,hy⟩
 | thr u ih =>
   obtain ⟨fd,F,b⟩:=FF.F_Wrapped_written
   refine ⟨_,fd,T.M_InThread_written,b,(Gy (u:=u) (t:=.thr u) (nm:="thread") rfl rfl (by decide +kernel) (fun H x h=>?_) T.n_InThread_inner F T ih).mono (by show 2*u.dp+1+1≤2*(u.dp+1)+1;omega)⟩
   cases h with
   | lf z _ _=>cases z
   | thr ex tt hy=>cases tt with | thr ep hq=>exact ⟨_,_,_,_,ex,ep,hy⟩
 | bth u v i1 i2 =>
   obtain ⟨fd,F,b⟩:=FF.F_Both_written
   obtain ⟨f1,g1,m1,b1,o1⟩:=i1
   obtain ⟨f2,g2,m2,b2,o2⟩:=i2
   exact ⟨_,fd,T.M_Both_written,b,(QfM (k:=2*max u.dp v.dp+1) F T FF ⟨f1,g1,m1,b1,o1.mono (by omega)⟩ ⟨f2,g2,m2,b2,o2.mono (by omega)⟩).mono (by show 2*max u.dp v.dp+1+2≤2*(max u.dp v.dp+1)+1;omega)⟩
 | eth u v i1 i2 =>
   obtain ⟨fd,F,b⟩:=FF.F_Either_written
   obtain ⟨f1,g1,m1,b1,o1⟩:=i1
   obtain ⟨f2,g2,m2,b2,o2⟩:=i2
   exact ⟨_,fd,T.M_Either_written,b,(QfL (k:=2*max u.dp v.dp+1) F T FF ⟨f1,g1,m1,b1,o1.mono (by omega)⟩ ⟨f2,g2,m2,b2,o2.mono (by omega)⟩).mono (by show 2*max u.dp v.dp+1+2≤2*(max u.dp v.dp+1)+1;omega)⟩
end
theorem Vm (x y z:Str):(x++y)++z=x++(y++z):=by
 show (⟨(x.cps++y.cps)++z.cps⟩:Str)=⟨x.cps++(y.cps++z.cps)⟩
 rw [Array.append_assoc]
theorem XB (x:Str):Str.empty++x=x:=by
 show (⟨#[]++x.cps⟩:Str)=x
 rw [Array.empty_append]
theorem QgP (l h:Int):wr (.days l h)=((("day ":Str)++Str.ofString (toString l))++" to ")++Str.ofString (toString h):=by
 show (((Str.empty++"day ")++_)++_)++_=_
 rw [XB]
theorem Qh9 (u v:Tr):wr (.bth u v)=(((("(":Str)++wr u)++" and ")++wr v)++")":=by
 show ((((((Str.empty++"(")++wr u)++" ")++"and")++" ")++wr v)++")"=_
 rw [XB,Vm (("(":Str)++wr u) " " "and",Vm (("(":Str)++wr u) _ " "]
 rfl
theorem Qh8 (u v:Tr):wr (.eth u v)=(((("(":Str)++wr u)++" or ")++wr v)++")":=by
 show ((((((Str.empty++"(")++wr u)++" ")++"or")++" ")++wr v)++")"=_
 rw [XB,Vm (("(":Str)++wr u) " " "or",Vm (("(":Str)++wr u) _ " "]
 rfl
theorem TAt.small {H:Hp} {p:Addr} {t:Tr} (h:TAt H p t) (hd:t.dp<10):(wr t).length≤24064:=by
 have h1:=h.wlen
 have h2:2 ^ t.dp≤2 ^ 9:=Nat.pow_le_pow_right (by decide) (by omega)
 omega
inductive Qe2 (n:Nat) (vs:List V) (H:Hp) (Q:VK):Prop
 | mk:∀p t,vs=[.ref p]→TAt H p t→t.dp<n→t.dp<10→Q (.str (wr t)) H→Qe2 n vs H Q
def spLW (n:Nat):Sp:=fun vs H Q _=>Qe2 n vs H Q
section
variable {P : Program} {w : World} {K : PySem.W.Frag} {mg : Str → Option Value} {base : Heap} {a : Adr}
theorem QhU {fd:FuncData} (F:Fun K "_law_written" "_law_written" YH a.f_l_written fd) (b_l_written:Qt K fd ["_law_tree"] []) (T:Txt K mg a):∀n,Qw P w K mg base CX0 (n+1) a.f_l_written fd ["_law_tree"] (spLW n)
 | 0=>by
   refine F.ok V7 (fun vs H Q E h=>?_) (fun cdv A outer st H vs Q E hr h=>?_)
   ·obtain ⟨p,t,rfl,_⟩:=h;rfl
   ·obtain ⟨p,t,_,_,h,_⟩:=h;exact absurd h (Nat.not_lt_zero _)
 | n+1=>by
   have G:=QhU F b_l_written T n
   refine F.ok V7 (fun vs H Q E h=>?_) (fun cdv A outer st H vs Q E hr h=>?_)
   ·obtain ⟨p,t,rfl,_⟩:=h;rfl
   obtain ⟨p,t,rfl,tt,hd,hd9,k⟩:=h
   have hrG:QG (n+1) _:=hr
   have hlen:=tt.small hd9
   have q6:(" ":Str).length=1:=by decide +kernel
   have q7:("day ":Str).length=4:=by decide +kernel
   have q8:(" to ":Str).length=4:=by decide +kernel
   have q11:("(":Str).length=1:=by decide +kernel
   have q12:(")":Str).length=1:=by decide +kernel
   have q13:(" and ":Str).length=5:=by decide +kernel
   have q14:(" or ":Str).length=4:=by decide +kernel
   refine ⟨_,(Qb (QK (Qr QZ (Qn Qs (pv 0) Qa (fun _ _=>rfl)) Qi (Qz _)) (Qd (Qo (Ql QH (Ql QH (Ql QH Qi (Z3 Wv rfl T.b_str PyProof.Rows.boot_str (pac (Qn Qs (pv 0) Qa (fun _ _=>rfl)) Qf))) Qi) (Z3 Wv rfl T.b_str PyProof.Rows.boot_str (pac (Qn Qs (pv 0) Qa (fun _ _=>rfl)) Qf))))) QB)
    (Qb (QK (PW.pt (Wf (Qr QZ (Qn Qs (pv 0) Qa (fun _ _=>rfl)) Qi (Qz _)) (VP (Qr QZ (Qn Qs (pv 0) Qa (fun _ _=>rfl)) Qi (Qz _))))) (Qd (Qo (Ql QH (Ql QH (Qn Qs (pv 0) Qa (fun _ _=>rfl)) Qi) (Qx G hrG rfl T.m_l_written F.kp b_l_written .nil Qy (pac (Qn Qs (pv 0) Qa (fun _ _=>rfl)) Qf))))) QB)
    (Qb (QK (Qr QZ (Qn Qs (pv 0) Qa (fun _ _=>rfl)) Qi (Qz _)) (Qd (Qo (Ql QH (Ql QH (Ql QH (Ql QH Qi (Qx G hrG rfl T.m_l_written F.kp b_l_written .nil Qy (pac (Qn Qs (pv 0) Qa (fun _ _=>rfl)) Qf))) Qi) (Qx G hrG rfl T.m_l_written F.kp b_l_written .nil Qy (pac (Qn Qs (pv 0) Qa (fun _ _=>rfl)) Qf))) Qi))) QB)
    (Qb (QK (Qr QZ (Qn Qs (pv 0) Qa (fun _ _=>rfl)) Qi (Qz _)) (Qd (Qo (Ql QH (Ql QH (Ql QH (Ql QH Qi (Qx G hrG rfl T.m_l_written F.kp b_l_written .nil Qy (pac (Qn Qs (pv 0) Qa (fun _ _=>rfl)) Qf))) Qi) (Qx G hrG rfl T.m_l_written F.kp b_l_written .nil Qy (pac (Qn Qs (pv 0) Qa (fun _ _=>rfl)) Qf))) Qi))) QB)
    (Qd (Qo (Z8 PySem.F.plainAttrs_str PySem.F.slot_str_join PySem.F.type_str_join Ku Qi (pac (pv 0) Qf)))))))),?_⟩
   have tt':=tt
   cases tt' with
   | days e b =>
     refine ⟨_,rfl,p,_,_,_,rfl,rfl,SqT.of e,rfl,rfl,_,rfl,JT ?_⟩
     have h1:=Vs b.1 b.2.1
     have h2:=Vs b.2.2.1 b.2.2.2
     rw [QgP] at k
     refine ⟨_,rfl,p,_,_,_,rfl,rfl,SqT.of e,rfl,_,rfl,XH b.1 b.2.1,_,_,rfl,rfl,ZF (by rw [q7];omega),_,_,rfl,rfl,ZF (by rw [Qg,q7,q8];omega),_,rfl,p,_,_,_,rfl,rfl,SqT.of e,rfl,_,rfl,XH b.2.2.1 b.2.2.2,_,_,rfl,rfl,ZF (by rw [Qg,Qg,q7,q8];omega),k⟩
   | nt e h1 =>
     refine ⟨_,rfl,p,_,_,_,rfl,rfl,SqT.of e,rfl,rfl,_,rfl,skS (by decide +kernel) ?_⟩
     have hu:=h1.small (by simp only [Tr.dp] at hd9;omega)
     have q9:("not":Str).length=3:=by decide +kernel
     refine ⟨_,rfl,p,_,_,_,rfl,rfl,SqT.of e,rfl,rfl,_,rfl,JT (Zc ?_)⟩
     refine ⟨_,rfl,p,_,_,_,rfl,rfl,SqT.of e,rfl,_,_,rfl,rfl,ZF (by rw [q9,q6];decide),_,rfl,p,_,_,_,rfl,rfl,SqT.of e,rfl,_,_,rfl,h1,(by simp only [Tr.dp] at hd;omega),(by simp only [Tr.dp] at hd9;omega),_,_,rfl,rfl,ZF (by rw [Qg,q9,q6];omega),k⟩
   | thr e h1 =>
     refine ⟨_,rfl,p,_,_,_,rfl,rfl,SqT.of e,rfl,rfl,_,rfl,skS (by decide +kernel) ?_⟩
     have hu:=h1.small (by simp only [Tr.dp] at hd9;omega)
     have q9:("thread":Str).length=6:=by decide +kernel
     refine ⟨_,rfl,p,_,_,_,rfl,rfl,SqT.of e,rfl,rfl,_,rfl,skS (by decide +kernel) ⟨_,rfl,p,_,_,_,rfl,rfl,SqT.of e,rfl,rfl,_,rfl,JT ?_⟩⟩
     refine ⟨_,rfl,p,_,_,_,rfl,rfl,SqT.of e,rfl,_,_,rfl,rfl,ZF (by rw [q9,q6];decide),_,rfl,p,_,_,_,rfl,rfl,SqT.of e,rfl,_,_,rfl,h1,(by simp only [Tr.dp] at hd;omega),(by simp only [Tr.dp] at hd9;omega),_,_,rfl,rfl,ZF (by rw [Qg,q9,q6];omega),k⟩
   | bth e h1 h2 =>
     refine ⟨_,rfl,p,_,_,_,rfl,rfl,SqT.of e,rfl,rfl,_,rfl,skS (by decide +kernel) ?_⟩
     refine ⟨_,rfl,p,_,_,_,rfl,rfl,SqT.of e,rfl,rfl,_,rfl,skS (by decide +kernel) ⟨_,rfl,p,_,_,_,rfl,rfl,SqT.of e,rfl,rfl,_,rfl,skS (by decide +kernel) ?_⟩⟩
     refine ⟨_,rfl,p,_,_,_,rfl,rfl,SqT.of e,rfl,rfl,_,rfl,JT ?_⟩
     have hu:=h1.small (by simp only [Tr.dp] at hd9;omega)
     have hv:=h2.small (by simp only [Tr.dp] at hd9;omega)
     rw [Qh9] at k
     refine ⟨_,rfl,p,_,_,_,rfl,rfl,SqT.of e,rfl,_,_,rfl,h1,(by simp only [Tr.dp] at hd;omega),(by simp only [Tr.dp] at hd9;omega),_,_,rfl,rfl,ZF (by rw [q11];omega),_,_,rfl,rfl,ZF (by rw [Qg,q11,q13];omega),_,rfl,p,_,_,_,rfl,rfl,SqT.of e,rfl,_,_,rfl,h2,(by simp only [Tr.dp] at hd;omega),(by simp only [Tr.dp] at hd9;omega),_,_,rfl,rfl,ZF (by rw [Qg,Qg,q11,q13];omega),_,_,rfl,rfl,ZF (by rw [Qg,Qg,Qg,q11,q13,q12];omega),k⟩
   | eth e h1 h2 =>
     refine ⟨_,rfl,p,_,_,_,rfl,rfl,SqT.of e,rfl,rfl,_,rfl,skS (by decide +kernel) ?_⟩
     refine ⟨_,rfl,p,_,_,_,rfl,rfl,SqT.of e,rfl,rfl,_,rfl,skS (by decide +kernel) ⟨_,rfl,p,_,_,_,rfl,rfl,SqT.of e,rfl,rfl,_,rfl,skS (by decide +kernel) ?_⟩⟩
     refine ⟨_,rfl,p,_,_,_,rfl,rfl,SqT.of e,rfl,rfl,_,rfl,skS (by decide +kernel) ?_⟩
     refine ⟨_,rfl,p,_,_,_,rfl,rfl,SqT.of e,rfl,rfl,_,rfl,JT ?_⟩
     have hu:=h1.small (by simp only [Tr.dp] at hd9;omega)
     have hv:=h2.small (by simp only [Tr.dp] at hd9;omega)
     rw [Qh8] at k
     refine ⟨_,rfl,p,_,_,_,rfl,rfl,SqT.of e,rfl,_,_,rfl,h1,(by simp only [Tr.dp] at hd;omega),(by simp only [Tr.dp] at hd9;omega),_,_,rfl,rfl,ZF (by rw [q11];omega),_,_,rfl,rfl,ZF (by rw [Qg,q11,q14];omega),_,rfl,p,_,_,_,rfl,rfl,SqT.of e,rfl,_,_,rfl,h2,(by simp only [Tr.dp] at hd;omega),(by simp only [Tr.dp] at hd9;omega),_,_,rfl,rfl,ZF (by rw [Qg,Qg,q11,q14];omega),_,_,rfl,rfl,ZF (by rw [Qg,Qg,Qg,q11,q14,q12];omega),k⟩
   | any e =>
     refine ⟨_,rfl,p,_,_,_,rfl,rfl,SqT.of e,rfl,rfl,_,rfl,skS (by decide +kernel) ?_⟩
     refine ⟨_,rfl,p,_,_,_,rfl,rfl,SqT.of e,rfl,rfl,_,rfl,skS (by decide +kernel) ⟨_,rfl,p,_,_,_,rfl,rfl,SqT.of e,rfl,rfl,_,rfl,skS (by decide +kernel) ?_⟩⟩
     refine ⟨_,rfl,p,_,_,_,rfl,rfl,SqT.of e,rfl,rfl,_,rfl,skS (by decide +kernel) ?_⟩
     refine ⟨_,rfl,p,_,_,_,rfl,rfl,SqT.of e,rfl,rfl,_,rfl,skS (by decide +kernel) ?_⟩
     exact ⟨rfl,_,rfl,_,p,WZ (.any),rfl,rfl,SqT.of e,(by decide +kernel),k⟩
   | ans e =>
     refine ⟨_,rfl,p,_,_,_,rfl,rfl,SqT.of e,rfl,rfl,_,rfl,skS (by decide +kernel) ?_⟩
     refine ⟨_,rfl,p,_,_,_,rfl,rfl,SqT.of e,rfl,rfl,_,rfl,skS (by decide +kernel) ⟨_,rfl,p,_,_,_,rfl,rfl,SqT.of e,rfl,rfl,_,rfl,skS (by decide +kernel) ?_⟩⟩
     refine ⟨_,rfl,p,_,_,_,rfl,rfl,SqT.of e,rfl,rfl,_,rfl,skS (by decide +kernel) ?_⟩
     refine ⟨_,rfl,p,_,_,_,rfl,rfl,SqT.of e,rfl,rfl,_,rfl,skS (by decide +kernel) ?_⟩
     exact ⟨rfl,_,rfl,_,p,WZ (.ans),rfl,rfl,SqT.of e,(by decide +kernel),k⟩
   | word e hw =>
     refine ⟨_,rfl,p,_,_,_,rfl,rfl,SqT.of e,rfl,rfl,_,rfl,skS (by decide +kernel) ?_⟩
     refine ⟨_,rfl,p,_,_,_,rfl,rfl,SqT.of e,rfl,rfl,_,rfl,skS (by decide +kernel) ⟨_,rfl,p,_,_,_,rfl,rfl,SqT.of e,rfl,rfl,_,rfl,skS (by decide +kernel) ?_⟩⟩
     refine ⟨_,rfl,p,_,_,_,rfl,rfl,SqT.of e,rfl,rfl,_,rfl,skS (by decide +kernel) ?_⟩
     refine ⟨_,rfl,p,_,_,_,rfl,rfl,SqT.of e,rfl,rfl,_,rfl,skS (by decide +kernel) ?_⟩
     rename_i wd
     have:=hw.hi
     have q:("word":Str).length≤6:=by decide +kernel
     exact ⟨rfl,_,rfl,_,p,WZ (.word wd),rfl,rfl,SqT.of e,(by show ("word":Str).length+(wd.length+0)+2*1≤16777216;omega),k⟩
   | title e hw =>
     refine ⟨_,rfl,p,_,_,_,rfl,rfl,SqT.of e,rfl,rfl,_,rfl,skS (by decide +kernel) ?_⟩
     refine ⟨_,rfl,p,_,_,_,rfl,rfl,SqT.of e,rfl,rfl,_,rfl,skS (by decide +kernel) ⟨_,rfl,p,_,_,_,rfl,rfl,SqT.of e,rfl,rfl,_,rfl,skS (by decide +kernel) ?_⟩⟩
     refine ⟨_,rfl,p,_,_,_,rfl,rfl,SqT.of e,rfl,rfl,_,rfl,skS (by decide +kernel) ?_⟩
     refine ⟨_,rfl,p,_,_,_,rfl,rfl,SqT.of e,rfl,rfl,_,rfl,skS (by decide +kernel) ?_⟩
     rename_i wd
     have:=hw.hi
     have q:("title":Str).length≤6:=by decide +kernel
     exact ⟨rfl,_,rfl,_,p,WZ (.title wd),rfl,rfl,SqT.of e,(by show ("title":Str).length+(wd.length+0)+2*1≤16777216;omega),k⟩
   | frm e hw =>
     refine ⟨_,rfl,p,_,_,_,rfl,rfl,SqT.of e,rfl,rfl,_,rfl,skS (by decide +kernel) ?_⟩
     refine ⟨_,rfl,p,_,_,_,rfl,rfl,SqT.of e,rfl,rfl,_,rfl,skS (by decide +kernel) ⟨_,rfl,p,_,_,_,rfl,rfl,SqT.of e,rfl,rfl,_,rfl,skS (by decide +kernel) ?_⟩⟩
     refine ⟨_,rfl,p,_,_,_,rfl,rfl,SqT.of e,rfl,rfl,_,rfl,skS (by decide +kernel) ?_⟩
     refine ⟨_,rfl,p,_,_,_,rfl,rfl,SqT.of e,rfl,rfl,_,rfl,skS (by decide +kernel) ?_⟩
     rename_i wd
     have:=hw.hi
     have q:("from":Str).length≤6:=by decide +kernel
     exact ⟨rfl,_,rfl,_,p,WZ (.frm wd),rfl,rfl,SqT.of e,(by show ("from":Str).length+(wd.length+0)+2*1≤16777216;omega),k⟩
   | inn e hw =>
     refine ⟨_,rfl,p,_,_,_,rfl,rfl,SqT.of e,rfl,rfl,_,rfl,skS (by decide +kernel) ?_⟩
     refine ⟨_,rfl,p,_,_,_,rfl,rfl,SqT.of e,rfl,rfl,_,rfl,skS (by decide +kernel) ⟨_,rfl,p,_,_,_,rfl,rfl,SqT.of e,rfl,rfl,_,rfl,skS (by decide +kernel) ?_⟩⟩
     refine ⟨_,rfl,p,_,_,_,rfl,rfl,SqT.of e,rfl,rfl,_,rfl,skS (by decide +kernel) ?_⟩
     refine ⟨_,rfl,p,_,_,_,rfl,rfl,SqT.of e,rfl,rfl,_,rfl,skS (by decide +kernel) ?_⟩
     rename_i wd
     have:=hw.hi
     have q:("in":Str).length≤6:=by decide +kernel
     exact ⟨rfl,_,rfl,_,p,WZ (.inn wd),rfl,rfl,SqT.of e,(by show ("in":Str).length+(wd.length+0)+2*1≤16777216;omega),k⟩
   | mrk e hw =>
     refine ⟨_,rfl,p,_,_,_,rfl,rfl,SqT.of e,rfl,rfl,_,rfl,skS (by decide +kernel) ?_⟩
     refine ⟨_,rfl,p,_,_,_,rfl,rfl,SqT.of e,rfl,rfl,_,rfl,skS (by decide +kernel) ⟨_,rfl,p,_,_,_,rfl,rfl,SqT.of e,rfl,rfl,_,rfl,skS (by decide +kernel) ?_⟩⟩
     refine ⟨_,rfl,p,_,_,_,rfl,rfl,SqT.of e,rfl,rfl,_,rfl,skS (by decide +kernel) ?_⟩
     refine ⟨_,rfl,p,_,_,_,rfl,rfl,SqT.of e,rfl,rfl,_,rfl,skS (by decide +kernel) ?_⟩
     rename_i wd
     have:=hw.hi
     have q:("marked":Str).length≤6:=by decide +kernel
     exact ⟨rfl,_,rfl,_,p,WZ (.mrk wd),rfl,rfl,SqT.of e,(by show ("marked":Str).length+(wd.length+0)+2*1≤16777216;omega),k⟩
end
inductive Act where
 | place (w:Str)
 | mark (w:Str)
 | unmark (w:Str)
 | stop
def Uy:Act→List Str
 | .place w=>["place",w]
 | .mark w=>["mark",w]
 | .unmark w=>["unmark",w]
 | .stop=>["stop"]
def awd:Act→Prop
 | .place w=>Q4 w
 | .mark w=>Q4 w
 | .unmark w=>Q4 w
 | .stop=>True
def AAt (H:Hp) (p:Addr) (x:Act):Prop:=H p=some (.tup ((Uy x).map V.str))∧awd x
theorem AAt.mono {H H':Hp} {p:Addr} {x:Act} (h:AAt H p x) (s:Qm H H'):AAt H' p x:=⟨s _ _ h.1,h.2⟩
theorem AAt.kl {a:Adr} {H H':Hp} {p:Addr} {x:Act} (h:AAt H p x) (s:KL a H H'):AAt H' p x:=⟨s.keep h.1 rfl,h.2⟩
def Vl (c:CD):Act→CD
 | .place w=>{ c with fo:=w }
 | .mark w=>{ c with ms:=SS (c.ms++[w]) }
 | .unmark w=>{ c with ms:=c.ms.filter fun m=>decide (m≠w) }
 | .stop=>c
def Q5:CD→List Act→CD
 | c,[]=>c
 | c,.stop :: _=>c
 | c,x :: r=>Q5 (Vl c x) r
theorem WD {c c':CD} (h:{ c with fo:=c'.fo,ms:=c'.ms }=c') (x:Act):{ c with fo:=(Vl c' x).fo,ms:=(Vl c' x).ms }=Vl c' x:=by
 obtain ⟨s,t,b,d,an,fo,ms⟩:=c
 obtain ⟨s',t',b',d',an',fo',ms'⟩:=c'
 injection h with h1 h2 h3 h4 h5 _ _
 subst h1 h2 h3 h4 h5
 cases x <;> rfl
theorem GM (xs ys:List Str):PyData.eqv (.tuple (xs.map PyData.str)) (.tuple (ys.map PyData.str))=decide (xs=ys):=by
 simp only [PyData.eqv];exact Xh xs ys
theorem UB {xs:List Str} (h:∀x∈xs,Asc x):SeqAt.shaped (.tuple (xs.map PyData.str))=true:=by
 have q:=Vg h
 unfold SeqAt.shaped
 simp only [PyData.canLay0,PyData.depth,q.1,q.2]
 rfl
theorem WA {x:Str} (h:(x.cps.toList.all fun c=>decide (c<128))=true):Asc x:=fun c hc=>of_decide_eq_true (List.all_eq_true.mp h c hc)
theorem KO {x:Act} (h:awd x):∀y∈Uy x,Asc y:=by
 cases x with
 | stop=>intro y hy;rw [List.mem_singleton.mp hy];exact WA (by decide +kernel)
 | place w =>
   intro y hy
   simp only [Uy,List.mem_cons,List.not_mem_nil,or_false] at hy
   rcases hy with rfl | rfl
   ·exact WA (by decide +kernel)
   ·exact Q4.asc h
 | mark w =>
   intro y hy
   simp only [Uy,List.mem_cons,List.not_mem_nil,or_false] at hy
   rcases hy with rfl | rfl
   ·exact WA (by decide +kernel)
   ·exact Q4.asc h
 | unmark w =>
   intro y hy
   simp only [Uy,List.mem_cons,List.not_mem_nil,or_false] at hy
   rcases hy with rfl | rfl
   ·exact WA (by decide +kernel)
   ·exact Q4.asc h
theorem QaQ:∀y∈(["stop"]:List Str),Asc y:=fun y hy=>by rw [List.mem_singleton.mp hy];exact WA (by decide +kernel)
inductive Qe8 (a:Adr) (vs:List V) (H:Hp) (Q:VK):Prop
 | mk:∀x q c (ps:List (Addr×Act)),vs=[.ref x,.ref q]→Yt a H x c→ZC c→SS c.ms=c.ms→H q=some (.tup (ps.map fun y=>V.ref y.1))→(∀y∈ps,AAt H y.1 y.2)→c.ms.length+ps.length≤50→(∀y g H',H y=none→H g=none→Qm H H'→Yh a H' y g (Q5 c (ps.map (·.2))).s (Q5 c (ps.map (·.2))).t (Q5 c (ps.map (·.2))).b (Q5 c (ps.map (·.2))).d (Q5 c (ps.map (·.2))).an (Q5 c (ps.map (·.2))).fo (Q5 c (ps.map (·.2))).ms→Q (.ref y) H')→Qe8 a vs H Q
def spCB (a:Adr):Sp:=fun vs H Q _=>Qe8 a vs H Q
theorem Qb2 (ns:List Str) (n:Str):(Z0 ns n).length≤ns.length+1:=by
 unfold Z0
 split
 ·omega
 ·rw [List.length_append,List.length_singleton];exact Nat.le_refl _
theorem QiX {ms ks:List Str} {w:Str} (h:∀x,x∈ks↔x∈ms):∀x,x∈Z0 ks w↔x∈SS (ms++[w]):=fun x=>by
 rw [Qav,List.mem_append,List.mem_singleton,Qau,h x]
section
variable {P : Program} {w : World} {K : PySem.W.Frag} {mg : Str → Option Value} {base : Heap} {a : Adr}
theorem ok_cb {fd:FuncData} (F:Fun K "card_behind" "card_behind" ZP a.f_card_behind fd) (T:Txt K mg a) (FF:Z1 K a):Qw P w K mg base CX0 10 a.f_card_behind fd ["card","acts"] (spCB a):=by
 obtain ⟨fdA,F_init,b_Card_init,_⟩:=FF.F_Card_init
 have G_Card_init:Qw P w K mg base CX0 8 a.f_Card_init fdA ["self","letter","folder","marks"] (XD a):=Qbf F_init T FF
 obtain ⟨S,mS,hS⟩:=T.gt_STOP
 refine F.ok ZH (fun vs H Q E h=>?_) (fun cdv A outer st H vs Q E hr h=>?_)
 ·obtain ⟨x,q,c,ps,rfl,_⟩:=h;rfl
 ·obtain ⟨x,q,c,ps,rfl,⟨g,⟨dx,y,ex,hy⟩,eg⟩,gd,hSS,eq,hps,hn,k⟩:=h
  have hr_Card_mk:QG 9 _:=hr
  have hu:=QbJ hr
  have hu64:=hr.units
  obtain ⟨t4,h4,sp4⟩:∃t,PSs (UI CX0 P w K mg base VG "card_behind" (Qe ZP) a.f_card_behind cdv A outer st H E).nox ((QM ZP).drop 4) t ∧
   ∀(H1:Hp) (D:Addr) (fo:Str) (ks:List Str) (o4 o5:Option V),Qm H H1→H1 D=some (.dK (ZM ks))→ks.length≤60→Q5 c (ps.map (·.2))={ c with fo:=fo,ms:=SS ks } →
    t { nx:=fun _ H'=>Q .non H',rt:=Q } [some (.ref x),some (.ref q),some (.str fo),some (.ref D),o4,o5] H1:=by
   refine ⟨_,(Qd (Qo (ZA T.k_Card G_Card_init hr_Card_mk rfl T.mc_Card b_Card_init .nil Qy (pac (QC (pv 0) rfl) (pac (pv 2) (pac (Z3 (KM rfl) rfl T.b_list PyProof.Rows.boot_list (pac (pv 3) Qf)) Qf)))))),fun H1 D fo ks o4 o5 s1 eD hk he=>?_⟩
   refine ⟨_,rfl,x,_,dx,_,_,rfl,s1 _ _ ex,T.c_Card,T.n_Card_letter,rfl,_,rfl,_,rfl,D,_,rfl,eD,fun l nl=>?_⟩
   have s2:Qm H1 (upd H1 l (.lst ((ZM ks).map fun kv=>kV kv.1))):=Qm.upd_new nl
   have el:(upd H1 l (.lst ((ZM ks).map fun kv=>kV kv.1))) l=some (.lst (ks.map V.str)):=by rw [Qh];unfold ZM;rw [List.map_map];rfl
   generalize upd H1 l (.lst ((ZM ks).map fun kv=>kV kv.1))=H2 at s2 el ⊢
   have s12:=s1.trans s2
   refine fun z dz nz nd ne=>Qbj (ss:=ks) nz nd ne (hy.mono s12) gd.g (.inr ⟨l,rfl,.inl el⟩) (by omega) fun H' gg s3 ng hc=>⟨rfl,k z gg H' (s12.free nz) (s12.free ng) (s12.trans s3) ?_⟩
   rw [he]
   exact hc
  refine ⟨_,(Qb (Qv (i:=2) ZH.nd rfl (Or.inl rfl) (QC (pv 0) rfl))
   (Qb (Qv (i:=3) ZH.nd rfl (Or.inl rfl) Qa9)
   (Qb (Z5 PassesOwn.never rfl (Zx (QC (pv 0) rfl)) (QR (i:=4) ZH.nd rfl (Or.inl rfl)) (Qd (Wg hu (pv 3) (pv 4) Yu rfl)))
   (Qb (Z5 PassesOwn.never rfl (Kc (pv 1)) (QR (i:=5) ZH.nd rfl (Or.inl rfl)) (Qb (QK (Qr (QfI hu64) (pv 5) (Xa (v:=.ref S) rfl ⟨_,mS,rfl⟩) (Qz _)) (Qd Qa8) QB)
   (Qd (QK (Qr QZ (Qn Qs (pv 5) Qa (fun _ _=>rfl)) Qi (Qz _)) (Qd (Qv (i:=2) ZH.nd rfl (Or.inl rfl) (Qn Qs (pv 5) Qa (fun _ _=>rfl)))) (Qd (QK (Qr QZ (Qn Qs (pv 5) Qa (fun _ _=>rfl)) Qi (Qz _)) (Qd (Wg hu (pv 3) (Qn Qs (pv 5) Qa (fun _ _=>rfl)) Yu rfl)) (Qd (Q9 (QfE (pv 3) (Qn Qs (pv 5) Qa (fun _ _=>rfl)) Qan ⟨rfl,rfl,rfl,rfl⟩)))))))))
   h4)))),?_⟩
  refine ⟨_,rfl,x,_,dx,_,_,rfl,ex,T.c_Card,T.n_Card_box,rfl,fun D nD=>?_⟩
  have s1:Qm H (upd H D (.dK [])):=Qm.upd_new nD
  have eD1:(upd H D (.dK [])) D=some (.dK (ZM [])):=Qh
  show Qb8 _ _ _ _ (upd H D (.dK []))
  generalize upd H D (.dK [])=H1 at s1 eD1 ⊢
  refine ⟨_,rfl,x,_,dx,_,_,rfl,s1 _ _ ex,T.c_Card,T.n_Card_signs,rfl,g,rfl,⟨_,SqL.of (s1 _ _ eg)⟩,Uw (K:=K) (a:=g) (xs:=c.ms.map V.str) (fun i σ H2=>∃(ks:List Str) (o4:Option V),σ=[some (.ref x),some (.ref q),some (.str c.fo),some (.ref D),o4,none]∧Qm H H2∧H2 D=some (.dK (ZM ks))∧(∀z,z∈ks↔z∈c.ms.take i)∧ks.length≤i)
   ⟨[],none,rfl,s1,eD1,(fun z=>by simp),Nat.le_refl _⟩ (fun i σ H2 _ ⟨_,_,_,s2,_⟩=>SqL.of (s2 _ _ eg)) ?_ ?_⟩
  ·rintro i v σ H2 hi ⟨ks,o4,rfl,s2,e2,hk,hkl⟩
   obtain ⟨m,rfl,hm⟩:=Qcd hi
   have hil:i<c.ms.length:=(List.getElem?_eq_some_iff.mp hm).1
   refine ⟨_,rfl,_,rfl,D,_,rfl,QaG.k (k:=Sum.inr m) e2 (by unfold ZM;rw [List.length_map];exact Qj (by omega)),Z0 ks m,_,rfl,s2.upd_of nD,by rw [Qh,Qdc],fun z=>?_,?_⟩
   ·rw [Qau,hk z,List.take_add_one,hm,List.mem_append]
    simp
   ·have:=Qb2 ks m;omega
  ·rintro σ H2 ⟨ks,o4,rfl,s2,e2,hk,hkl⟩
   rw [List.length_map] at hk hkl
   rw [List.take_of_length_le (Nat.le_refl _)] at hk
   refine ⟨_,rfl,q,rfl,⟨_,SqT.of (s2 _ _ eq)⟩,QaA (K:=K) (a:=q) (xs:=ps.map fun y=>V.ref y.1) (fun i σ H3=>∃(ks:List Str) (c':CD) (o5:Option V),σ=[some (.ref x),some (.ref q),some (.str c'.fo),some (.ref D),o4,o5]∧Qm H H3∧H3 D=some (.dK (ZM ks))∧(∀z,z∈ks↔z∈c'.ms)∧ks.length≤c.ms.length+i∧SS c'.ms=c'.ms∧{ c with fo:=c'.fo,ms:=c'.ms }=c'∧Q5 c (ps.map (·.2))=Q5 c' ((ps.map (·.2)).drop i))
    ⟨ks,c,none,rfl,s2,e2,hk,hkl,hSS,rfl,rfl⟩ (fun i σ H3 _ ⟨_,_,_,_,s3,_⟩=>SqT.of (s3 _ _ eq)) ?_ ?_⟩
   ·rintro i v σ H3 hi ⟨ks,c',o5,rfl,s3,e3,hk3,hl3,hS3,hc3,hb3⟩
    rw [List.getElem?_map] at hi
    cases ei:ps[i]? with
    | none=>rw [ei] at hi;cases hi
    | some y0 =>
      obtain ⟨pa,act⟩:=y0
      rw [ei] at hi
      cases hi
      have hil:i<ps.length:=(List.getElem?_eq_some_iff.mp ei).1
      have hA:AAt H3 pa act:=(hps (pa,act) (List.mem_of_getElem? ei)).mono s3
      have hdr:(ps.map (·.2)).drop i=act :: (ps.map (·.2)).drop (i+1):=by
       rw [List.drop_eq_getElem_cons (by rw [List.length_map];exact hil),List.getElem_map]
       rw [(List.getElem?_eq_some_iff.mp ei).2]
      rw [hdr] at hb3
      refine ⟨_,rfl,.tuple ((Uy act).map PyData.str),.tuple ((["stop"]:List Str).map PyData.str),.tup (SqT.of hA.1) (Ur _),.tup (hS H3) (Ur _),UB (KO hA.2),UB QaQ,_,rfl,?_⟩
      rw [GM]
      cases act with
      | stop =>
        rw [show decide (Uy Act.stop=(["stop"]:List Str))=true from by decide +kernel]
        refine Zc (sp4 H3 D c'.fo ks o4 _ s3 e3 (by omega) ?_)
        rw [hb3,WE hk3,hS3]
        exact hc3.symm
      | place wd =>
        rw [decide_eq_false (show ¬Uy (Act.place wd)=(["stop"]:List Str) from fun z=>by have:=congrArg List.length z;cases this)]
        refine QU ⟨_,rfl,pa,_,_,_,rfl,rfl,SqT.of hA.1,rfl,rfl,_,rfl,JT ⟨_,rfl,pa,_,_,_,rfl,rfl,SqT.of hA.1,rfl,?_⟩⟩
        exact ⟨ks,{ c' with fo:=wd },_,rfl,s3,e3,hk3,by omega,hS3,WD hc3 (.place wd),hb3⟩
      | mark wd =>
        rw [decide_eq_false (show ¬Uy (Act.mark wd)=(["stop"]:List Str) from fun z=>by have:=congrArg List.length z;cases this)]
        refine QU ⟨_,rfl,pa,_,_,_,rfl,rfl,SqT.of hA.1,rfl,rfl,_,rfl,skS (by decide +kernel) ⟨_,rfl,pa,_,_,_,rfl,rfl,SqT.of hA.1,rfl,rfl,_,rfl,JT ⟨_,rfl,_,rfl,pa,_,_,_,rfl,rfl,SqT.of hA.1,rfl,D,_,rfl,QaG.k (k:=Sum.inr wd) e3 (by unfold ZM;rw [List.length_map];exact Qj (by omega)),?_⟩⟩⟩
        have:=Qb2 ks wd
        exact ⟨Z0 ks wd,Vl c' (.mark wd),_,rfl,s3.upd_of nD,by rw [Qh,Qdc],QiX hk3,by omega,QaF _,WD hc3 _,hb3⟩
      | unmark wd =>
        rw [decide_eq_false (show ¬Uy (Act.unmark wd)=(["stop"]:List Str) from fun z=>by have:=congrArg List.length z;cases this)]
        have hfl:SS (c'.ms.filter fun m=>decide (m≠wd))=c'.ms.filter fun m=>decide (m≠wd):=by
         have:=G1 c'.ms fun m=>decide (m≠wd)
         rwa [hS3] at this
        refine QU ⟨_,rfl,pa,_,_,_,rfl,rfl,SqT.of hA.1,rfl,rfl,_,rfl,skS (by decide +kernel) ⟨_,rfl,pa,_,_,_,rfl,rfl,SqT.of hA.1,rfl,rfl,_,rfl,skS (by decide +kernel) ⟨_,rfl,D,rfl,.inl ⟨_,.inl e3⟩,_,rfl,pa,_,_,_,rfl,rfl,SqT.of hA.1,rfl,ZM ks,Sum.inr wd,e3,rfl,fun v hv=>?_,fun hv=>?_⟩⟩⟩
        ·have:=List.length_filter_le (fun m=>decide (m≠wd)) ks
         exact ⟨ks.filter fun m=>decide (m≠wd),Vl c' (.unmark wd),_,rfl,s3.upd_of nD,by rw [Qh,W4],(fun z=>by show _↔z∈c'.ms.filter _;rw [List.mem_filter,List.mem_filter,hk3 z]),by omega,hfl,WD hc3 _,hb3⟩
        ·have hnk:¬wd∈ks:=fun z=>by rw [XM,if_pos z] at hv;cases hv
         exact ⟨ks,Vl c' (.unmark wd),_,rfl,s3,e3,(fun z=>by
          show _↔z∈c'.ms.filter _
          rw [List.mem_filter,←hk3 z]
          exact ⟨fun h=>⟨h,decide_eq_true fun e=>hnk (e▸h)⟩,fun h=>h.1⟩),by omega,hfl,WD hc3 _,hb3⟩
   ·rintro σ H3 ⟨ks,c',o5,rfl,s3,e3,hk3,hl3,hS3,hc3,hb3⟩
    rw [List.length_map] at hl3 hb3
    refine sp4 H3 D c'.fo ks o4 o5 s3 e3 (by omega) ?_
    rw [hb3,List.drop_of_length_le (by rw [List.length_map];exact Nat.le_refl _)]
    show c'=_
    rw [WE hk3,hS3]
    exact hc3.symm
end
def Ys (x:Act):Str:=PySem.Txt.join " " (Uy x)
def WC (as:List Act):Str:=PySem.Txt.join ", " (as.map Ys)
def Qah (t:Tr) (as:List Act):Str:=(((Str.empty++"if ")++wr t)++" then ")++WC as
theorem KR {x:Act} (h:awd x):(Ys x).length≤27:=by
 have q6:(" ":Str).length=1:=by decide +kernel
 cases x with
 | stop=>decide +kernel
 | place w =>
   have:=Q4.hi h
   have q:("place":Str).length=5:=by decide +kernel
   show (PySem.Txt.join " " ["place",w]).length≤27
   rw [Yn,Qg,Qg,q,q6];omega
 | mark w =>
   have:=Q4.hi h
   have q:("mark":Str).length=4:=by decide +kernel
   show (PySem.Txt.join " " ["mark",w]).length≤27
   rw [Yn,Qg,Qg,q,q6];omega
 | unmark w =>
   have:=Q4.hi h
   have q:("unmark":Str).length=6:=by decide +kernel
   show (PySem.Txt.join " " ["unmark",w]).length≤27
   rw [Yn,Qg,Qg,q,q6];omega
theorem Qb1 {x:Act} (h:awd x):((Uy x).map (·.length)).sum+(Uy x).length*(" ":Str).length≤16777216:=by
 cases x with
 | stop=>decide +kernel
 | place w =>
   have:=Q4.hi h
   have q:("place":Str).length=5:=by decide +kernel
   show ("place":Str).length+(w.length+0)+2*1≤16777216
   omega
 | mark w =>
   have:=Q4.hi h
   have q:("mark":Str).length=4:=by decide +kernel
   show ("mark":Str).length+(w.length+0)+2*1≤16777216
   omega
 | unmark w =>
   have:=Q4.hi h
   have q:("unmark":Str).length=6:=by decide +kernel
   show ("unmark":Str).length+(w.length+0)+2*1≤16777216
   omega
theorem XO {ys:List Str} {n:Nat} (h:∀y∈ys,y.length≤n):(ys.map (·.length)).sum≤n*ys.length:=by
 induction ys with
 | nil=>simp
 | cons y ys ih =>
   have h1:=h y List.mem_cons_self
   have h2:=ih fun z hz=>h z (List.mem_cons_of_mem _ hz)
   rw [List.map_cons,List.sum_cons,List.length_cons,Nat.mul_succ]
   omega
theorem W2 {s:Str} (ys:List Str):(PySem.Txt.join s ys).length≤(ys.map (·.length)).sum+ys.length*s.length:=by
 have e:PySem.Txt.join s ys=Str.join s ys:=StrLaws.glued_eq_join ..
 rw [e]
 exact StrLaws.join_length_le s ys
inductive QeY (a:Adr) (vs:List V) (H:Hp) (Q:VK):Prop
 | mk:∀x q t (ps:List (Addr×Act)),vs=[.ref x,.ref q]→QJ a H x t→t.dp<10→H q=some (.tup (ps.map fun y=>V.ref y.1))→(∀y∈ps,AAt H y.1 y.2)→ps.length≤10→(∀H',Qm H H'→Q (.str (Qah t (ps.map (·.2)))) H')→QeY a vs H Q
def spRW (a:Adr):Sp:=fun vs H Q _=>QeY a vs H Q
section
variable {P : Program} {w : World} {K : PySem.W.Frag} {mg : Str → Option Value} {base : Heap} {a : Adr}
theorem ok_rw {fd:FuncData} (F:Fun K "row_written" "row_written" Ji a.f_row_written fd) (T:Txt K mg a) (FF:Z1 K a):Qw P w K mg base CX0 20 a.f_row_written fd ["condition","acts"] (spRW a):=by
 refine F.ok YR (fun vs H Q E h=>?_) (fun cdv A outer st H vs Q E hr h=>?_)
 ·obtain ⟨x,q,t,ps,rfl,_⟩:=h;rfl
 ·obtain ⟨x,q,t,ps,rfl,hx,hd,eq,hps,hn,k⟩:=h
  obtain ⟨f,fdh,M,b,G⟩:=askW (P:=P) (w:=w) (base:=base) T FF t
  have hr19:QG 19 _:=hr
  have hrk:QG (2*t.dp+1) _:=hr19.mono (by omega)
  obtain ⟨dx,fs,ex,lw⟩:=hx.objW
  have hlen:=hx.len hd
  refine ⟨_,(Qb (Qv (i:=2) YR.nd rfl (Or.inl rfl) (Us (pv 0)))
   (Qb (Qv (i:=3) YR.nd rfl (Or.inl rfl) (Z8 PySem.F.plainAttrs_str PySem.F.slot_str_join PySem.F.type_str_join Wp Qi (pac (Ub (sc:=Qe Ji) (N:=VF) (fr:=[]) ⟨rfl,rfl,by decide +kernel,by decide +kernel,by decide +kernel,by decide +kernel,by decide +kernel⟩ rfl rfl rfl (Kc (pv 1)) (fun _ _ _ _=>JS) (fun _ _ _ _=>(QfG K PySem.F.plainAttrs_str PySem.F.slot_str_join PySem.F.type_str_join (GE K) Qi (pac (pv 0) Qf)))) Qf)))
   (Qd (Qo (QfC (ZS Qi (ZS (VQ (pv 2)) (ZS Qi (ZS (VQ (pv 3)) Qcq))))))))),?_⟩
  refine ⟨_,rfl,x,dx,fs,_,f,fdh,_,_,_,rfl,ex,T.cls t,M,G,hrk,b,lw,x,rfl,hx,hd,?_⟩
  refine ⟨rfl,_,rfl,q,rfl,⟨_,SqT.of eq⟩,GT (fun y:Addr×Act=>V.ref y.1) (fun y=>V.str (Ys y.2)) (Nat.le_of_lt (Qj (by omega))) (SqT.of eq) (fun y H3 Q' hy s3 kq=>?_) fun D H2 nD s2 eD=>?_⟩
  ·have hA:=(hps y hy).mono s3
   exact ⟨rfl,_,rfl,_,y.1,Uy y.2,rfl,rfl,SqT.of hA.1,Qb1 hA.2,kq H3 (Qm.refl H3)⟩
  ·have eD':H2 D=some (.lst (((ps.map (·.2)).map Ys).map V.str)):=by rw [eD,List.map_map,List.map_map];rfl
   have hs:(((ps.map (·.2)).map Ys).map (·.length)).sum≤27*((ps.map (·.2)).map Ys).length:=XO fun y hy=>by
    obtain ⟨z,hz,rfl⟩:=List.mem_map.mp hy
    obtain ⟨y',hy',rfl⟩:=List.mem_map.mp hz
    exact KR (hps y' hy').2
   have hl10:((ps.map (·.2)).map Ys).length≤10:=by rw [List.length_map,List.length_map];exact hn
   have q2:(", ":Str).length=2:=by decide +kernel
   have q3:("if ":Str).length=3:=by decide +kernel
   have q4:(" then ":Str).length=6:=by decide +kernel
   have e0:Str.empty.length=0:=rfl
   have hj:=W2 (s:=", ") ((ps.map (·.2)).map Ys)
   rw [q2] at hj
   have hja:(WC (ps.map (·.2))).length≤1000:=by show (PySem.Txt.join ", " ((ps.map (·.2)).map Ys)).length≤1000;omega
   refine ⟨", ",D,(ps.map (·.2)).map Ys,rfl,rfl,SqL.of eD',(by rw [q2];omega),?_⟩
   refine ⟨_,rfl,ZF (by rw [Qg,e0,q3];decide),_,rfl,.str _ rfl (ZF (by omega)) ⟨_,rfl,ZF (by rw [Qg,Qg,e0,q3];omega),_,rfl,ZF (by rw [Qg,Qg,Qg,e0,q3,q4];omega),_,rfl,.str _ rfl (ZF (by show (WC (ps.map (·.2))).length≤100000;omega)) ⟨_,rfl,ZF ?_,ZF ?_,k H2 s2⟩⟩⟩
   ·show ((((Str.empty++"if ")++wr t)++" then ")++WC (ps.map (·.2))).length≤100000
    rw [Qg,Qg,Qg,Qg,e0,q3,q4];omega
   ·show ((((Str.empty++"if ")++wr t)++" then ")++WC (ps.map (·.2))).length≤100000
    rw [Qg,Qg,Qg,Qg,e0,q3,q4];omega
end
structure RW where
 r:Addr
 cnd:Addr
 q:Addr
 t:Tr
 as:List (Addr×Act)
structure JX (a:Adr) (H:Hp) (x:RW):Prop where
 e:H x.r=some (.tup [.ref x.cnd,.ref x.q])
 c:QJ a H x.cnd x.t
 d:x.t.dp<8
 q:H x.q=some (.tup (x.as.map fun y=>V.ref y.1))
 as:∀y∈x.as,AAt H y.1 y.2
 n:x.as.length≤4
theorem JX.kl {a:Adr} {H H':Hp} {x:RW} (h:JX a H x) (k:KL a H H'):JX a H' x:=⟨k.keep h.e rfl,h.c.kl k,h.d,k.keep h.q rfl,fun y hy=>(h.as y hy).kl k,h.n⟩
def YB (a:Adr) (H:Hp) (x:Addr) (rs:List RW):Prop:=∃dx l,H x=some (.ins a.C_Rules dx [("kept",.ref l)])∧H l=some (.lst (rs.map fun r=>V.ref r.r))∧(∀r∈rs,JX a H r)∧rs.length≤10
theorem YB.kl {a:Adr} {H H':Hp} {x:Addr} {rs:List RW} (h:YB a H x rs) (k:KL a H H'):YB a H' x rs:=let ⟨dx,l,e1,e2,hr,n⟩:=h;⟨dx,l,k.inst e1 rfl,k.keep e2 rfl,fun r hr'=>(hr r hr').kl k,n⟩
def Je (rs:List RW):List Str:=rs.map fun r=>Qah r.t (r.as.map (·.2))
theorem Qfg {a:Adr} {H:Hp} {r:RW} (h:JX a H r):(Qah r.t (r.as.map (·.2))).length≤40000:=by
 have hd:=h.d
 have h1:=h.c.len (by omega)
 have hs:(((r.as.map (·.2)).map Ys).map (·.length)).sum≤27*((r.as.map (·.2)).map Ys).length:=XO fun y hy=>by
  obtain ⟨z,hz,rfl⟩:=List.mem_map.mp hy
  obtain ⟨y',hy',rfl⟩:=List.mem_map.mp hz
  exact KR (h.as y' hy').2
 have hl:((r.as.map (·.2)).map Ys).length≤4:=by rw [List.length_map,List.length_map];exact h.n
 have q2:(", ":Str).length=2:=by decide +kernel
 have q3:("if ":Str).length=3:=by decide +kernel
 have q4:(" then ":Str).length=6:=by decide +kernel
 have e0:Str.empty.length=0:=rfl
 have hj:=W2 (s:=", ") ((r.as.map (·.2)).map Ys)
 rw [q2] at hj
 show ((((Str.empty++"if ")++wr r.t)++" then ")++PySem.Txt.join ", " ((r.as.map (·.2)).map Ys)).length≤40000
 rw [Qg,Qg,Qg,Qg,e0,q3,q4]
 omega
inductive QcY (a:Adr) (vs:List V) (H:Hp) (Q:VK):Prop
 | mk:∀x rs,vs=[.ref x]→YB a H x rs→(∀H',Qm H H'→Q (.str (PySem.Txt.join "\n" (Je rs))) H')→QcY a vs H Q
def QhM (a:Adr):Sp:=fun vs H Q _=>QcY a vs H Q
section
variable {P : Program} {w : World} {K : PySem.W.Frag} {mg : Str → Option Value} {base : Heap} {a : Adr}
theorem Qiy {fd:FuncData} (F:Fun K "written" "Rules.written" ZJ a.f_Rules_written fd) (T:Txt K mg a) (FF:Z1 K a):Qw P w K mg base CX0 21 a.f_Rules_written fd ["self"] (QhM a):=by
 obtain ⟨fdR,F_row_written,b_row_written⟩:=FF.F_row_written
 have G_row_written:Qw P w K mg base CX0 20 a.f_row_written fdR ["condition","acts"] (spRW a):=ok_rw F_row_written T FF
 refine F.ok WK (fun vs H Q E h=>?_) (fun cdv A outer st H vs Q E hr h=>?_)
 ·obtain ⟨x,rs,rfl,_⟩:=h;rfl
 ·obtain ⟨x,rs,rfl,⟨dx,l,ex,el,hrs,hn⟩,k⟩:=h
  have hr_row_written:QG 20 _:=hr
  refine ⟨_,(Qd (Qo (Z8 PySem.F.plainAttrs_str PySem.F.slot_str_join PySem.F.type_str_join Wp Qi (pac (U8 (sc:=Qe ZJ) (N:=UM) (fr:=[]) ⟨rfl,rfl,rfl,by decide +kernel,by decide +kernel,by decide +kernel,by decide +kernel,by decide +kernel⟩ rfl rfl rfl (Zx (QC (pv 0) rfl)) (fun _ _ _ _=>(Qx G_row_written hr_row_written rfl T.m_row_written F_row_written.kp b_row_written .nil Qy (pac (pv 0) (pac (pv 1) Qf))))) Qf)))),?_⟩
  refine ⟨rfl,_,rfl,x,_,dx,_,_,rfl,ex,T.c_Rules,T.n_Rules_kept,rfl,l,rfl,⟨_,SqL.of el⟩,Ue (xs:=rs) (fun r=>r.r) (fun r=>.ref r.cnd) (fun r=>.ref r.q) (fun D i ys H3=>ys=((Je rs).take i).map V.str∧ys.length=i) (Nat.le_of_lt (Qj (by omega))) (SqL.of el) (fun D nD=>⟨rfl,rfl⟩) (fun D i ys H3 h=>h.2) (fun r hr' H3 s3=>SqT.of (s3 _ _ (hrs r hr').e)) ?_ ?_⟩
  ·rintro D i r ys H3 Q' hi nD ⟨hys,hyl⟩ eD s3 kk
   have hrow:=(hrs r (List.mem_of_getElem? hi)).kl (KL.of s3)
   have hd:=hrow.d
   have hn4:=hrow.n
   refine ⟨_,rfl,_,rfl,r.cnd,r.q,r.t,r.as,rfl,hrow.c,by omega,hrow.q,hrow.as,by omega,fun H4 s4=>kk _ H4 s4 ⟨?_,by rw [List.length_append,List.length_singleton,hyl]⟩⟩
   rw [hys,List.take_add_one,show (Je rs)[i]?=some (Qah r.t (r.as.map (·.2))) by unfold Je;rw [List.getElem?_map,hi];rfl,List.map_append]
   rfl
  ·rintro D ys H2 nD ⟨hys,hyl⟩ s2 eD
   rw [List.take_of_length_le (by unfold Je;rw [List.length_map];exact Nat.le_refl _)] at hys
   subst hys
   have hl:(Je rs).length≤10:=by unfold Je;rw [List.length_map];exact hn
   have hs:((Je rs).map (·.length)).sum≤40000*(Je rs).length:=XO fun y hy=>by
    obtain ⟨r,hr',rfl⟩:=List.mem_map.mp hy
    exact Qfg (hrs r hr')
   have q1:("\n":Str).length=1:=by decide +kernel
   exact ⟨"\n",D,Je rs,rfl,rfl,SqL.of eD,(by rw [q1];omega),k H2 s2⟩
end
theorem Qb3 {c:CD} {x:Act} (g:ZC c) (h:awd x) (hS:SS c.ms=c.ms) (hl:c.ms.length<50):ZC (Vl c x)∧SS (Vl c x).ms=(Vl c x).ms∧(Vl c x).ms.length≤c.ms.length+1:=by
 cases x with
 | stop=>exact ⟨g,hS,Nat.le_succ _⟩
 | place w=>exact ⟨⟨g.g,h,g.m,g.l⟩,hS,Nat.le_succ _⟩
 | mark w =>
   have hl2:=QgM (c.ms++[w])
   rw [List.length_append,List.length_singleton] at hl2
   refine ⟨⟨g.g,g.f,fun y hy=>?_,by show (SS (c.ms++[w])).length≤50;omega⟩,QaF _,hl2⟩
   rcases List.mem_append.mp (Qav.mp hy) with hy | hy
   ·exact g.m y hy
   ·rw [List.mem_singleton.mp hy];exact h
 | unmark w =>
   have hl2:=List.length_filter_le (fun m=>decide (m≠w)) c.ms
   have hf:SS (c.ms.filter fun m=>decide (m≠w))=c.ms.filter fun m=>decide (m≠w):=by
    have:=G1 c.ms fun m=>decide (m≠w)
    rwa [hS] at this
   exact ⟨⟨g.g,g.f,fun y hy=>g.m y (List.mem_filter.mp hy).1,by show (c.ms.filter _).length≤50;have:=g.l;omega⟩,hf,by show (c.ms.filter _).length≤_;omega⟩
theorem Vk:∀{as:List Act} {c:CD},ZC c→(∀x∈as,awd x)→SS c.ms=c.ms→c.ms.length+as.length≤50→ZC (Q5 c as)∧SS (Q5 c as).ms=(Q5 c as).ms∧(Q5 c as).ms.length≤c.ms.length+as.length
 | [],c,g,_,hS,_=>⟨g,hS,Nat.le_refl _⟩
 | x :: r,c,g,h,hS,hl=>by
   rw [List.length_cons] at hl
   obtain ⟨g1,s1,l1⟩:=Qb3 g (h x List.mem_cons_self) hS (by omega)
   have ih:=Vk (as:=r) g1 (fun y hy=>h y (List.mem_cons_of_mem _ hy)) s1 (by omega)
   cases x with
   | stop=>exact ⟨g,hS,by show c.ms.length≤_;omega⟩
   | place w=>exact ⟨ih.1,ih.2.1,by have:=ih.2.2;rw [List.length_cons];show (Q5 (Vl c (.place w)) r).ms.length≤_;omega⟩
   | mark w=>exact ⟨ih.1,ih.2.1,by have:=ih.2.2;rw [List.length_cons];show (Q5 (Vl c (.mark w)) r).ms.length≤_;omega⟩
   | unmark w=>exact ⟨ih.1,ih.2.1,by have:=ih.2.2;rw [List.length_cons];show (Q5 (Vl c (.unmark w)) r).ms.length≤_;omega⟩
def Jr (os:List CD):List RW→Nat→CD→List Nat→CD×List Nat
 | [],_,c,ps=>(c,ps)
 | r :: rs,i,c,ps=>if Z9 r.t c os=true then (if (r.as.map (·.2)).any (fun x=>match x with | .stop=>true | _=>false)=true then (Q5 c (r.as.map (·.2)),ps++[i]) else Jr os rs (i+1) (Q5 c (r.as.map (·.2))) (ps++[i])) else Jr os rs (i+1) c ps
theorem Qgt {K:PySem.W.Frag} {a:Addr} {xs:List V} {g:TG} {tb:TS} {D:VY} {σ:St} {H:Hp} (Pv:Nat→St→Hp→Prop) (h0:Pv 0 σ H) (hl:∀i σ H,i≤xs.length→Pv i σ H→SqL K H a xs)
 (hs:∀i x σ H T,xs[i]?=some x→Pv i σ H→H T=none→g (.ref T) σ (upd H T (.tup [.int i,x])) fun σ2 H2=>tb { D with nx:=Pv (i+1),ct:=Pv (i+1),bk:=D.nx } σ2 H2) (hd:∀σ H,Pv xs.length σ H→D.nx σ H) :
 VL g tb D σ (Ite K a) H:=by
 refine ⟨fun i m σ H=>m=xs.length - i∧i≤xs.length∧Pv i σ H,⟨xs.length,by simp,Nat.zero_le _,h0⟩,?_⟩
 rintro i m σ H ⟨rfl,hi,p⟩
 have q:=hl i σ H hi p
 by_cases hlt:i<xs.length
 ·refine .inr ⟨⟨xs,xs[i],q,by simp [hlt]⟩,Pv (i+1),fun σ' H' p'=>⟨xs.length - (i+1),by omega,rfl,hlt,p'⟩,fun v H' y=>?_⟩
  obtain ⟨T,x,y,hT,rfl,rfl⟩:=y
  exact hs i x σ _ T (y xs q) p hT
 ·have e:i=xs.length:=by omega
  subst e
  exact .inl ⟨⟨xs,q,rfl⟩,hd σ H p⟩
theorem QgG {as:List Act}:((as.map fun x=>PyData.tuple ((Uy x).map PyData.str)).any fun e=>PyData.eqv e (.tuple ((["stop"]:List Str).map PyData.str)))=as.any (fun x=>match x with | .stop=>true | _=>false):=by
 induction as with
 | nil=>rfl
 | cons x r ih =>
   rw [List.map_cons,List.any_cons,List.any_cons,ih,GM]
   congr 1
   cases x with
   | stop=>exact decide_eq_true rfl
   | place w=>exact decide_eq_false fun z=>by have:=congrArg List.length z;cases this
   | mark w=>exact decide_eq_false fun z=>by have:=congrArg List.length z;cases this
   | unmark w=>exact decide_eq_false fun z=>by have:=congrArg List.length z;cases this
def CaD (a:Adr) (D:Addr) (H:Hp) (x:Addr) (c:CD):Prop:=∃g,g≠D∧Yh a H x g c.s c.t c.b c.d c.an c.fo c.ms
inductive QcX (a:Adr) (vs:List V) (H:Hp) (Q:VK):Prop
 | mk:∀x cx lo rs c ys cs,vs=[.ref x,.ref cx,.ref lo]→YB a H x rs→Yt a H cx c→ZC c→SS c.ms=c.ms→c.ms.length+4*rs.length≤50→H lo=some (.lst ys)→Zl a H ys cs→(∀z∈cs,ZC z)→cs.length≤50→(∀u y D H',KL a H H'→H D=none→H' u=some (.tup [.ref y,.ref D])→Yt a H' y (Jr cs rs 0 c []).1→H' D=some (.lst ((Jr cs rs 0 c []).2.map fun i:Nat=>V.int (i:Int)))→Q (.ref u) H')→QcX a vs H Q
def QeW (a:Adr):Sp:=fun vs H Q _=>QcX a vs H Q
theorem XL {K:PySem.W.Frag} {H:Hp}:∀{ps:List (Addr×Act)},(∀y∈ps,AAt H y.1 y.2)→RDs K H (ps.map fun y=>V.ref y.1) ((ps.map (·.2)).map fun x=>PyData.tuple ((Uy x).map PyData.str))
 | [],_=>.nil
 | y :: r,h=>.cons (.tup (SqT.of (h y List.mem_cons_self).1) (Ur _)) (XL fun z hz=>h z (List.mem_cons_of_mem _ hz))
theorem KP:∀{as:List Act},(∀x∈as,awd x)→PyData.canLayAll0 (as.map fun x=>PyData.tuple ((Uy x).map PyData.str))=true
 | [],_=>rfl
 | x :: r,h=>by
   have q:=Vg (KO (h x List.mem_cons_self))
   simp only [List.map_cons,PyData.canLayAll0,PyData.canLay0,q.1,KP fun y hy=>h y (List.mem_cons_of_mem _ hy)]
   rfl
section
variable {P : Program} {w : World} {K : PySem.W.Frag} {mg : Str → Option Value} {base : Heap} {a : Adr}
theorem QfR {fd:FuncData} (F:Fun K "run" "Rules.run" JF a.f_Rules_run fd) (T:Txt K mg a) (FF:Z1 K a):Qw P w K mg base CX0 14 a.f_Rules_run fd ["self","card","others"] (QeW a):=by
 obtain ⟨fdC,F_card_behind,b_card_behind⟩:=FF.F_card_behind
 have G_card_behind:Qw P w K mg base CX0 10 a.f_card_behind fdC ["card","acts"] (spCB a):=ok_cb F_card_behind T FF
 obtain ⟨S,mS,hS⟩:=T.gt_STOP
 refine F.ok JO (fun vs H Q E h=>?_) (fun cdv A outer st H vs Q E hr h=>?_)
 ·obtain ⟨x,cx,lo,rs,c,ys,cs,rfl,_⟩:=h;rfl
 ·obtain ⟨x,cx,lo,rs,c,ys,cs,rfl,hR,hc,gd,hSS,hl50,elo,hcs,gcs,hn,k⟩:=h
  have hr13:QG 13 _:=hr
  have hr_card_behind:QG 10 _:=hr13.mono (by decide)
  have hu64:=hr.units
  obtain ⟨dx,l,ex,el,hrs,hrn⟩:=id hR
  obtain ⟨t2,h2,sp2⟩:∃t,PSs (UI CX0 P w K mg base Xd "Rules.run" (Qe JF) a.f_Rules_run cdv A outer st H E).nox ((QM JF).drop 2) t ∧
   ∀(H1:Hp) (y D:Addr) (o4 o5:Option V),KL a H H1→H D=none→Yt a H1 y (Jr cs rs 0 c []).1→H1 D=some (.lst ((Jr cs rs 0 c []).2.map fun i:Nat=>V.int (i:Int))) →
    t { nx:=fun _ H'=>Q .non H',rt:=Q } [some (.ref x),some (.ref y),some (.ref lo),some (.ref D),o4,o5] H1:=by
   refine ⟨_,(Qd (Qo (QV (Qc (pv 1) (Qc (pv 3) Qq))))),fun H1 y D o4 o5 k1 nD hy hD=>?_⟩
   exact ⟨_,rfl,_,rfl,(by show 2≤sizeLine;decide),fun u H2 nu s2 e2=>k u y D H2 (k1.trans (KL.of s2)) nD e2 (hy.kl (KL.of s2)) (s2 _ _ hD)⟩
  refine ⟨_,(Qb (Qv (i:=3) JO.nd rfl (Or.inl rfl) (Q0 Qq))
   (Qb (Z5 PassesOwn.never rfl (Qg9 rfl T.b_enumerate (pac (QC (pv 0) rfl) Qf)) (WQ rfl (Zy (QR (i:=4) JO.nd rfl (Or.inl rfl)) (Zy (QR (i:=5) JO.nd rfl (Or.inl rfl)) Vr)))
     (Qd (QK (Js (Zz (Qn Qs (pv 5) Qa (fun _ _=>rfl)) (pac (pv 1) (pac (pv 2) Qf))))
       (Qb (Q9 (Z8 PySem.F.plainAttrs_list PySem.F.slot_list_append PySem.F.type_list_append Q3 (pv 3) (pac (pv 4) Qf)))
       (Qb (Qv (i:=1) JO.nd rfl (Or.inl rfl) (Qx G_card_behind hr_card_behind rfl T.m_card_behind F_card_behind.kp b_card_behind .nil Qy (pac (pv 1) (pac (Qn Qs (pv 5) Qa (fun _ _=>rfl)) Qf))))
       (Qd (QK (Qr (Qhd hu64) (Xa (v:=.ref S) rfl ⟨_,mS,rfl⟩) (Qn Qs (pv 5) Qa (fun _ _=>rfl)) (by with_unfolding_all rfl)) (Qd Qa8) QB)))) QB)))
   h2)),?_⟩
  refine ⟨(by show 0≤sizeLine;decide),fun D H1 nD s1 eD1=>?_⟩
  refine ⟨_,rfl,x,_,dx,_,_,rfl,s1 _ _ ex,T.c_Rules,T.n_Rules_kept,rfl,l,_,rfl,s1 _ _ el,?_⟩
  refine Qgt (K:=K) (a:=l) (xs:=rs.map fun r=>V.ref r.r) (fun i σ H2=>∃(y:Addr) (c':CD) (ps:List Nat) (o4 o5:Option V),σ=[some (.ref x),some (.ref y),some (.ref lo),some (.ref D),o4,o5]∧KL a H H2∧CaD a D H2 y c'∧ZC c'∧SS c'.ms=c'.ms∧c'.ms.length≤c.ms.length+4*i∧H2 D=some (.lst (ps.map fun i:Nat=>V.int (i:Int)))∧ps.length≤i∧Jr cs rs 0 c []=Jr cs (rs.drop i) i c' ps)
   ?_ (fun i σ H2 _ ⟨_,_,_,_,_,_,k2,_⟩=>SqL.of (k2.keep el rfl)) ?_ ?_
  ·obtain ⟨g,⟨dc,yl,ec,hy⟩,eg⟩:=hc
   exact ⟨cx,c,[],none,none,rfl,KL.of s1,⟨g,Qu eg nD,⟨dc,yl,s1 _ _ ec,hy.mono s1⟩,s1 _ _ eg⟩,gd,hSS,Nat.le_refl _,eD1,Nat.le_refl _,rfl⟩
  ·rintro i v σ H2 Tt hi ⟨y,c',ps,o4,o5,rfl,k2,hy,g',hS',hl',eD,hpl,hrun⟩ nT
   rw [List.getElem?_map] at hi
   cases er:rs[i]? with
   | none=>rw [er] at hi;cases hi
   | some r =>
     rw [er] at hi
     cases hi
     have hil:i<rs.length:=(List.getElem?_eq_some_iff.mp er).1
     have hdr:rs.drop i=r :: rs.drop (i+1):=by rw [List.drop_eq_getElem_cons hil,(List.getElem?_eq_some_iff.mp er).2]
     rw [hdr] at hrun
     have s3:Qm H2 (upd H2 Tt (.tup [.int i,.ref r.r])):=Qm.upd_new nT
     have eT:(upd H2 Tt (.tup [.int i,.ref r.r])) Tt=some (.tup [.int i,.ref r.r]):=Qh
     refine ⟨Tt,_,rfl,SqT.of Qh,rfl,_,_,rfl,_,_,rfl,rfl,?_⟩
     generalize upd H2 Tt (.tup [.int i,.ref r.r])=H3 at s3 eT ⊢
     have k3:KL a H H3:=k2.trans (KL.of s3)
     have hrow:=(hrs r (List.mem_of_getElem? er)).kl k3
     obtain ⟨g,ng,hyc⟩:=hy
     have hyc3:=hyc.mono s3
     have hrd:=hrow.d
     obtain ⟨f,fdh,M,bh,G⟩:=(ask (P:=P) (w:=w) (base:=base) T FF r.t).1
     have hr_h:QG (r.t.dp+4) _:=hr13.mono (by omega)
     obtain ⟨dxc,fs,exc,q1,q2,q3,_⟩:=hrow.c.obj
     refine ⟨_,rfl,r.r,_,_,_,rfl,rfl,SqT.of hrow.e,rfl,r.cnd,dxc,fs,_,f,fdh,_,_,_,rfl,exc,T.cls r.t,M,G,hr_h,bh,q1,_,rfl,_,rfl,?_⟩
     refine ⟨r.cnd,y,lo,ys,c',cs,rfl,hrow.c,⟨g,hyc3⟩,g',k3.keep elo rfl,hcs.kl k3,gcs,by omega,fun H4 k4=>⟨_,rfl,?_⟩⟩
     have eD4:=k4.keep (s3 _ _ eD) rfl
     have k04:KL a H H4:=k3.trans k4
     have hyc4:Yh a H4 y g c'.s c'.t c'.b c'.d c'.an c'.fo c'.ms:=by
      obtain ⟨⟨dq,yq,eq1,hq1⟩,eq2⟩:=hyc3
      exact ⟨⟨dq,yq,k4.inst eq1 rfl,hq1.kl k4⟩,k4.keep eq2 rfl⟩
     cases eh:Z9 r.t c' cs
     ·refine QU ⟨y,c',ps,_,_,rfl,k04,⟨g,ng,hyc4⟩,g',hS',by omega,eD4,by omega,?_⟩
      rw [hrun]
      show (if Z9 r.t c' cs=true then _ else _)=_
      rw [eh,if_neg (by decide)]
     ·refine Zc ⟨_,rfl,.inl ⟨rfl,_,SqL.of eD4⟩,_,rfl,D,_,_,rfl,rfl,eD4,(by rw [List.length_map];exact Qj (by omega)),?_⟩
      have k5:KL a H (upd H4 D (.lst ((ps.map fun i:Nat=>V.int (i:Int))++[.int (i:Int)]))):=k04.upd_of nD (fun kv z=>by rw [eD4] at z;cases z)
      have eD5:(upd H4 D (.lst ((ps.map fun i:Nat=>V.int (i:Int))++[.int (i:Int)]))) D=some (.lst (((ps++[i]).map fun i:Nat=>V.int (i:Int)))):=by rw [Qh,List.map_append];rfl
      have hyc5:=hyc4.list (ys:=(ps.map fun i:Nat=>V.int (i:Int))++[.int (i:Int)]) eD4 ng
      generalize upd H4 D (.lst ((ps.map fun i:Nat=>V.int (i:Int))++[.int (i:Int)]))=H5 at k5 eD5 hyc5 ⊢
      have hrow5:=(hrs r (List.mem_of_getElem? er)).kl k5
      have hrn4:=hrow5.n
      have bg:=Vk (as:=r.as.map (·.2)) g' (fun z hz=>by obtain ⟨z',hz',rfl⟩:=List.mem_map.mp hz;exact (hrow5.as z' hz').2) hS' (by rw [List.length_map];omega)
      rw [List.length_map] at bg
      refine ⟨_,rfl,_,rfl,r.r,_,_,_,rfl,rfl,SqT.of hrow5.e,rfl,y,r.q,c',r.as,rfl,⟨g,hyc5⟩,g',hS',hrow5.q,hrow5.as,by omega,fun y2 g2 H6 ny2 ng2 s6 hc2=>?_⟩
      have k6:KL a H H6:=k5.trans (KL.of s6)
      have hrow6:=hrow5.kl (KL.of s6)
      have eD6:=s6 _ _ eD5
      have g2D:g2≠D:=fun z=>by rw [z,eD5] at ng2;cases ng2
      refine ⟨_,rfl,r.r,_,_,_,rfl,rfl,SqT.of hrow6.e,rfl,.tuple ((["stop"]:List Str).map PyData.str),_,.tup (hS H6) (Ur _),.tup (SqT.of hrow6.q) (XL hrow6.as),KP (fun z hz=>by obtain ⟨z',hz',rfl⟩:=List.mem_map.mp hz;exact (hrow6.as z' hz').2),SeqAt.canLay_of_shaped (UB QaQ),(by decide +kernel),_,rfl,?_⟩
      rw [QgG]
      have hrun2:Jr cs rs 0 c []=if (r.as.map (·.2)).any (fun x=>match x with | .stop=>true | _=>false)=true then (Q5 c' (r.as.map (·.2)),ps++[i]) else Jr cs (rs.drop (i+1)) (i+1) (Q5 c' (r.as.map (·.2))) (ps++[i]):=by
       rw [hrun]
       show (if Z9 r.t c' cs=true then _ else _)=_
       rw [eh,if_pos rfl] <;> rfl
      cases es:(r.as.map (·.2)).any (fun x=>match x with | .stop=>true | _=>false)
      ·rw [es,if_neg (by decide)] at hrun2
       exact QU ⟨y2,Q5 c' (r.as.map (·.2)),ps++[i],_,_,rfl,k6,⟨g2,g2D,hc2⟩,bg.1,bg.2.1,by have:=bg.2.2;omega,eD6,by rw [List.length_append,List.length_singleton];omega,hrun2⟩
      ·rw [es,if_pos rfl] at hrun2
       refine Zc (sp2 H6 y2 D _ _ k6 nD ?_ ?_)
       ·rw [hrun2];exact ⟨g2,hc2⟩
       ·rw [hrun2];exact eD6
  ·rintro σ H2 ⟨y,c',ps,o4,o5,rfl,k2,⟨g,ng,hyc⟩,g',hS',hl',eD,hpl,hrun⟩
   rw [List.length_map,List.drop_of_length_le (Nat.le_refl _)] at hrun
   refine sp2 H2 y D o4 o5 k2 nD ?_ ?_
   ·rw [hrun];exact ⟨g,hyc⟩
   ·rw [hrun];exact eD
end
structure QgN (a:Adr) (H:Hp) (x cx lo:Addr) (rs:List RW) (c:CD) (ys:List V) (cs:List CD):Prop where
 r:YB a H x rs
 ca:Yt a H cx c
 g:ZC c
 s:SS c.ms=c.ms
 n:c.ms.length+4*rs.length≤50
 l:H lo=some (.lst ys)
 o:Zl a H ys cs
 og:∀z∈cs,ZC z
 on:cs.length≤50
inductive Qc2 (a:Adr) (vs:List V) (H:Hp) (Q:VK):Prop
 | mk:∀x cx lo rs c ys cs,vs=[.ref x,.ref cx,.ref lo]→QgN a H x cx lo rs c ys cs→(∀D H',KL a H H'→H D=none→H' D=some (.lst ((Jr cs rs 0 c []).2.map fun i:Nat=>V.int (i:Int)))→Q (.ref D) H')→Qc2 a vs H Q
def QhO (a:Adr):Sp:=fun vs H Q _=>Qc2 a vs H Q
inductive Qc0 (a:Adr) (vs:List V) (H:Hp) (Q:VK):Prop
 | mk:∀x cx lo rs c ys cs,vs=[.ref x,.ref cx,.ref lo]→QgN a H x cx lo rs c ys cs→(∀u l H',KL a H H'→H u=none→H l=none→H' u=some (.tup [.str (Jr cs rs 0 c []).1.fo,.ref l])→H' l=some (.lst ((Jr cs rs 0 c []).1.ms.map V.str))→Q (.ref u) H')→Qc0 a vs H Q
def QhN (a:Adr):Sp:=fun vs H Q _=>Qc0 a vs H Q
section
variable {P : Program} {w : World} {K : PySem.W.Frag} {mg : Str → Option Value} {base : Heap} {a : Adr}
theorem QiA {fd:FuncData} (F:Fun K "met" "Rules.met" YT a.f_Rules_met fd) (T:Txt K mg a) (FF:Z1 K a):Qw P w K mg base CX0 15 a.f_Rules_met fd ["self","card","others"] (QhO a):=by
 obtain ⟨fdR,F_run,b_run⟩:=FF.F_Rules_run
 have G_run:Qw P w K mg base CX0 14 a.f_Rules_run fdR ["self","card","others"] (QeW a):=QfR F_run T FF
 refine F.ok Qae (fun vs H Q E h=>?_) (fun cdv A outer st H vs Q E hr h=>?_)
 ·obtain ⟨x,cx,lo,rs,c,ys,cs,rfl,_⟩:=h;rfl
 ·obtain ⟨x,cx,lo,rs,c,ys,cs,rfl,hi,k⟩:=h
  have hr_run:QG 14 _:=hr
  obtain ⟨dx,l,ex,_⟩:=id hi.r
  refine ⟨_,(Qd (Qo (Qn Qs (Yz (pv 0) T.c_Rules T.M_Rules_run G_run hr_run b_run .nil Qy (pac (pv 1) (pac (pv 2) Qf))) Qa (fun _ _=>rfl)))),?_⟩
  refine ⟨_,rfl,x,dx,_,rfl,ex,rfl,_,rfl,_,rfl,x,cx,lo,rs,c,ys,cs,rfl,hi.r,hi.ca,hi.g,hi.s,hi.n,hi.l,hi.o,hi.og,hi.on,fun u y D H' k1 nD eu hy eD=>?_⟩
  exact ⟨u,_,_,_,rfl,rfl,SqT.of eu,rfl,k D H' k1 nD eD⟩
theorem Qiz {fd:FuncData} (F:Fun K "outcome" "Rules.outcome" Jc a.f_Rules_outcome fd) (T:Txt K mg a) (FF:Z1 K a):Qw P w K mg base CX0 15 a.f_Rules_outcome fd ["self","card","others"] (QhN a):=by
 obtain ⟨fdR,F_run,b_run⟩:=FF.F_Rules_run
 have G_run:Qw P w K mg base CX0 14 a.f_Rules_run fdR ["self","card","others"] (QeW a):=QfR F_run T FF
 refine F.ok Uq (fun vs H Q E h=>?_) (fun cdv A outer st H vs Q E hr h=>?_)
 ·obtain ⟨x,cx,lo,rs,c,ys,cs,rfl,_⟩:=h;rfl
 ·obtain ⟨x,cx,lo,rs,c,ys,cs,rfl,hi,k⟩:=h
  have hr_run:QG 14 _:=hr
  obtain ⟨dx,l,ex,_⟩:=id hi.r
  refine ⟨_,(Qb (Qv (i:=3) Uq.nd rfl (Or.inl rfl) (Qn Qs (Yz (pv 0) T.c_Rules T.M_Rules_run G_run hr_run b_run .nil Qy (pac (pv 1) (pac (pv 2) Qf))) Qa (fun _ _=>rfl)))
   (Qd (Qo (QV (Qc (QC (pv 3) rfl) (Qc (Z3 KN rfl T.b_list PyProof.Rows.boot_list (pac (QC (pv 3) rfl) Qf)) Qq)))))),?_⟩
  refine ⟨_,rfl,x,dx,_,rfl,ex,rfl,_,rfl,_,rfl,x,cx,lo,rs,c,ys,cs,rfl,hi.r,hi.ca,hi.g,hi.s,hi.n,hi.l,hi.o,hi.og,hi.on,fun u y D H' k1 nD eu hy eD=>?_⟩
  obtain ⟨g,⟨dy,yl,ey,_⟩,eg⟩:=hy
  refine ⟨u,_,_,_,rfl,rfl,SqT.of eu,rfl,?_⟩
  refine ⟨_,rfl,y,_,dy,_,_,rfl,ey,T.c_Card,T.n_Card_box,rfl,_,rfl,y,_,dy,_,_,rfl,ey,T.c_Card,T.n_Card_signs,rfl,g,_,rfl,.inl (SqL.of eg),fun l2 H2 n2 s2 e2=>?_⟩
  exact ⟨(by show 2≤sizeLine;decide),fun u2 H3 nu s3 e3=>k u2 l2 H3 ((k1.trans (KL.of s2)).trans (KL.of s3)) (k1.free (s2.free nu)) (k1.free n2) e3 (s3 _ _ e2)⟩
end
def adat (as:List Act):PyData:=.tuple (as.map fun x=>PyData.tuple ((Uy x).map PyData.str))
def Vy (t:Tr) (as:List Act):PyData:=.tuple [Jh t,adat as]
inductive QaT (K:PySem.W.Frag) (a:Adr) (vs:List V) (H:Hp) (Q:VK):Prop
 | mk:∀x rs,vs=[.ref x]→YB a H x rs→(∀D ys H',Qm H H'→H D=none→H' D=some (.lst ys)→RDs K H' ys (rs.map fun r=>Vy r.t (r.as.map (·.2)))→Q (.ref D) H')→QaT K a vs H Q
def QeX (K:PySem.W.Frag) (a:Adr):Sp:=fun vs H Q _=>QaT K a vs H Q
section
variable {P : Program} {w : World} {K : PySem.W.Frag} {mg : Str → Option Value} {base : Heap} {a : Adr}
theorem Qhi {fd:FuncData} (F:Fun K "rows" "Rules.rows" JG a.f_Rules_rows fd) (T:Txt K mg a) (FF:Z1 K a):Qw P w K mg base CX0 2 a.f_Rules_rows fd ["self"] (QeX K a):=by
 obtain ⟨fdT,F_tree,b_tree⟩:=FF.F_Condition_tree
 have G_tree:Qw P w K mg base CX0 1 a.f_Condition_tree fdT ["self"] (QeT a):=Qhf F_tree T
 refine F.ok KY (fun vs H Q E h=>?_) (fun cdv A outer st H vs Q E hr h=>?_)
 ·obtain ⟨x,rs,rfl,_⟩:=h;rfl
 ·obtain ⟨x,rs,rfl,⟨dx,l,ex,el,hrs,hn⟩,k⟩:=h
  have hr_tree:QG 1 _:=hr
  refine ⟨_,(Qd (Qo (U8 (sc:=Qe JG) (N:=Wl) (fr:=[]) ⟨rfl,rfl,rfl,by decide +kernel,by decide +kernel,by decide +kernel,by decide +kernel,by decide +kernel⟩ rfl rfl rfl (Zx (QC (pv 0) rfl)) (fun _ _ _ _=>(QV (Qc (Us (pv 0)) (Qc (pv 1) Qq))))))),?_⟩
  refine ⟨_,rfl,x,_,dx,_,_,rfl,ex,T.c_Rules,T.n_Rules_kept,rfl,l,rfl,⟨_,SqL.of el⟩,Ue (xs:=rs) (fun r=>r.r) (fun r=>.ref r.cnd) (fun r=>.ref r.q) (fun D i ys H3=>ys.length=i∧∀H'',(∀c o,c≠D→H3 c=some o→H'' c=some o)→RDs K H'' ys ((rs.map fun r=>Vy r.t (r.as.map (·.2))).take i)) (Nat.le_of_lt (Qj (by omega))) (SqL.of el) (fun D nD=>⟨rfl,fun _ _=>.nil⟩) (fun D i ys H3 h=>h.1) (fun r hr' H3 s3=>SqT.of (s3 _ _ (hrs r hr').e)) ?_ ?_⟩
  ·rintro D i r ys H3 Q' hi nD ⟨hyl,hys⟩ eD s3 kk
   have hrow:=(hrs r (List.mem_of_getElem? hi)).kl (KL.of s3)
   obtain ⟨dc,fs,ec,q1,q2,q3,_⟩:=hrow.c.obj
   refine ⟨_,rfl,r.cnd,dc,fs,_,_,fdT,_,_,_,rfl,ec,T.cls r.t,T.mtree r.t,G_tree,hr_tree,b_tree,q3,?_⟩
   refine ⟨r.cnd,r.t,rfl,hrow.c,fun p' hp'=>⟨_,rfl,(by show 2≤sizeLine;decide),fun u H4 nu s4 e4=>kk _ H4 s4 ⟨by rw [List.length_append,List.length_singleton,hyl],fun H'' hk=>?_⟩⟩⟩
   have eD4:=s4 _ _ eD
   have kt:∀c xs,H3 c=some (.tup xs)→H'' c=some (.tup xs):=fun c xs e=>by
    have cD:c≠D:=Zq e eD (fun z=>nomatch z)
    exact hk c _ cD (by rw [Qk cD];exact s4 _ _ e)
   have uD:u≠D:=Zq e4 eD4 (fun z=>nomatch z)
   rw [List.take_add_one,show (rs.map fun r=>Vy r.t (r.as.map (·.2)))[i]?=some (Vy r.t (r.as.map (·.2))) by rw [List.getElem?_map,hi];rfl]
   refine RDs.snoc ?_ (hys H'' fun c o n e=>hk c o n (by rw [Qk n];exact s4 _ _ e))
   exact .tup (SqT.of (hk u _ uD (by rw [Qk uD];exact e4))) (.cons (hp'.tups kt).rd (.cons (.tup (SqT.of (kt _ _ hrow.q)) (XL fun y hy=>⟨kt _ _ (hrow.as y hy).1,(hrow.as y hy).2⟩)) .nil))
  ·rintro D ys H2 nD ⟨hyl,hys⟩ s2 eD
   have:=hys H2 fun c o _ e=>e
   rw [List.take_of_length_le (by rw [List.length_map];exact Nat.le_refl _)] at this
   exact k D ys H2 s2 nD eD this
end
theorem QJ.past {a:Adr} {H H':Hp} {x C dx:Addr} {y:Addr} {t:Tr} (h:QJ a H y t) (ex:H x=some (.ins C dx [])) (k:∀c o,c≠x→H c=some o→H' c=some o):QJ a H' y t:=by
 have kt:∀c xs,H c=some (.tup xs)→H' c=some (.tup xs):=fun c xs e=>k c _ (Zq e ex (fun z=>nomatch z)) e
 have ki:∀c D d (f:Str×V) fs,H c=some (.ins D d (f :: fs))→H' c=some (.ins D d (f :: fs)):=fun c D d f fs e=>k c _ (fun z=>by rw [z,ex] at e;cases e) e
 induction h with
 | lf l e t=>exact .lf l (ki _ _ _ _ _ e) (t.tups kt)
 | nt e t _ ih=>exact .nt (ki _ _ _ _ _ e) (t.tups kt) ih
 | thr e t _ ih=>exact .thr (ki _ _ _ _ _ e) (t.tups kt) ih
 | bth e t _ _ i1 i2=>exact .bth (ki _ _ _ _ _ e) (t.tups kt) i1 i2
 | eth e t _ _ i1 i2=>exact .eth (ki _ _ _ _ _ e) (t.tups kt) i1 i2
theorem JX.past {a:Adr} {H H':Hp} {x C dx:Addr} {r:RW} (h:JX a H r) (ex:H x=some (.ins C dx [])) (k:∀c o,c≠x→H c=some o→H' c=some o):JX a H' r :=
 have kt:∀c xs,H c=some (.tup xs)→H' c=some (.tup xs):=fun c xs e=>k c _ (Zq e ex (fun z=>nomatch z)) e
 ⟨kt _ _ h.e,h.c.past ex k,h.d,kt _ _ h.q,fun y hy=>⟨kt _ _ (h.as y hy).1,(h.as y hy).2⟩,h.n⟩
structure Y7 (a:Adr) (H:Hp) (x:RW):Prop where
 e:H x.r=some (.tup [.ref x.cnd,.ref x.q])
 c:QJ a H x.cnd x.t
 d:x.t.dp<8
 q:H x.q=some (.lst (x.as.map fun y=>V.ref y.1))
 as:∀y∈x.as,AAt H y.1 y.2
 n:x.as.length≤4
theorem Y7.kl {a:Adr} {H H':Hp} {x:RW} (h:Y7 a H x) (k:KL a H H'):Y7 a H' x:=⟨k.keep h.e rfl,h.c.kl k,h.d,k.keep h.q rfl,fun y hy=>(h.as y hy).kl k,h.n⟩
inductive Qh1 (K:PySem.W.Frag) (xs:List V) (H:Hp) (Q:VK):Prop
 | mk:∀p ys,xs=[.ref p]→SqL K H p ys→Yx (.tup ys) H Q→Qh1 K xs H Q
theorem Xl {X:Cx} (K:PySem.W.Frag) (hK:X.K=K:=by rfl):JA X (.type "tuple") (Qh1 K):=by
 subst hK
 intro pins s σ H xs us Q I r h
 obtain ⟨p,ys,e,hq,q⟩:=h
 exact K8 pins s σ H xs us Q I r ⟨p,ys,e,.inl ⟨hq,fun l hl=>Yx.put q hl⟩⟩
inductive Qh3 (K:PySem.W.Frag) (xs:List V) (H:Hp) (Q:VK):Prop
 | mk:∀p ys,xs=[.ref p]→(SqL K H p ys∨SqT K H p ys)→Yx (.lst ys) H Q→Qh3 K xs H Q
theorem QbX {X:Cx} (K:PySem.W.Frag) (hK:X.K=K:=by rfl):JA X (.type "list") (Qh3 K):=by
 subst hK
 intro pins s σ H xs us Q I r h
 obtain ⟨p,ys,e,hq,q⟩:=h
 exact Ww pins s σ H xs us Q I r ⟨p,ys,e,hq,fun l hl=>Yx.put q hl⟩
theorem QJ.ti {a:Adr} {H H':Hp} {y:Addr} {t:Tr} (h:QJ a H y t) (kt:∀c xs,H c=some (.tup xs)→H' c=some (.tup xs)) (ki:∀c D d f fs,H c=some (.ins D d (f :: fs))→H' c=some (.ins D d (f :: fs))):QJ a H' y t:=by
 induction h with
 | lf l e t=>exact .lf l (ki _ _ _ _ _ e) (t.tups kt)
 | nt e t _ ih=>exact .nt (ki _ _ _ _ _ e) (t.tups kt) ih
 | thr e t _ ih=>exact .thr (ki _ _ _ _ _ e) (t.tups kt) ih
 | bth e t _ _ i1 i2=>exact .bth (ki _ _ _ _ _ e) (t.tups kt) i1 i2
 | eth e t _ _ i1 i2=>exact .eth (ki _ _ _ _ _ e) (t.tups kt) i1 i2
theorem JX.ti {a:Adr} {H H':Hp} {r:RW} (h:JX a H r) (kt:∀c xs,H c=some (.tup xs)→H' c=some (.tup xs)) (ki:∀c D d f fs,H c=some (.ins D d (f :: fs))→H' c=some (.ins D d (f :: fs))):JX a H' r :=
 ⟨kt _ _ h.e,h.c.ti kt ki,h.d,kt _ _ h.q,fun y hy=>⟨kt _ _ (h.as y hy).1,(h.as y hy).2⟩,h.n⟩
theorem JX.list {a:Adr} {H:Hp} {r:RW} {l:Addr} {xs ys:List V} (h:JX a H r) (e:H l=some (.lst xs)):JX a (upd H l (.lst ys)) r :=
 h.ti (fun c xs' e'=>by rw [Qk (Zq e' e (fun z=>nomatch z))];exact e') (fun c D d f fs e'=>by rw [Qk (Zq e' e (fun z=>nomatch z))];exact e')
def rdt (r:RW):Tr×List Act:=(r.t,r.as.map (·.2))
inductive QeZ (a:Adr) (vs:List V) (H:Hp) (Q:VK):Prop
 | mk:∀x dx L (hs:List RW),vs=[.ref x,.ref L]→H x=some (.ins a.C_Rules dx [])→H L=some (.lst (hs.map fun r=>V.ref r.r))→(∀r∈hs,Y7 a H r)→hs.length≤10→(∀H' (rs:List RW) l,(∀c o,c≠x→H c=some o→H' c=some o)→H l=none→H' x=some (.ins a.C_Rules dx [("kept",.ref l)])→H' l=some (.lst (rs.map fun r=>V.ref r.r))→(∀r∈rs,JX a H' r)→rs.map rdt=hs.map rdt→Q .non H')→QeZ a vs H Q
def spRI (a:Adr):Sp:=fun vs H Q _=>QeZ a vs H Q
section
variable {P : Program} {w : World} {K : PySem.W.Frag} {mg : Str → Option Value} {base : Heap} {a : Adr}
theorem ok_ri {fd:FuncData} (F:Fun K "__init__" "Rules.__init__" JH a.f_Rules_init fd) (T:Txt K mg a):Qw P w K mg base CX0 1 a.f_Rules_init fd ["self","rows"] (spRI a):=by
 refine F.ok KZ (fun vs H Q E h=>?_) (fun cdv A outer st H vs Q E hr h=>?_)
 ·obtain ⟨x,dx,L,hs,rfl,_⟩:=h;rfl
 ·obtain ⟨x,dx,L,hs,rfl,ex,eL,hh,hn,k⟩:=h
  refine ⟨_,(Qd (Jt (pv 0) (U8 (sc:=Qe JH) (N:=Wm) (fr:=[]) ⟨rfl,rfl,rfl,by decide +kernel,by decide +kernel,by decide +kernel,by decide +kernel,by decide +kernel⟩ rfl rfl rfl (Zx (pv 1)) (fun _ _ _ _=>(QV (Qc (pv 0) (Qc (Z3 (Xl K) rfl T.b_tuple PyProof.Rows.boot_tuple (pac (pv 1) Qf)) Qq))))) rfl)),?_⟩
  refine ⟨_,rfl,L,rfl,⟨_,SqL.of eL⟩,Ue (xs:=hs) (fun r=>r.r) (fun r=>.ref r.cnd) (fun r=>.ref r.q) (fun D i ys H3=>∃rs:List RW,ys=rs.map (fun r=>V.ref r.r)∧rs.length=i∧rs.map rdt=(hs.map rdt).take i∧∀r∈rs,JX a H3 r) (Nat.le_of_lt (Qj (by omega))) (SqL.of eL) (fun D nD=>⟨[],rfl,rfl,rfl,fun r hr'=>nomatch hr'⟩) (fun D i ys H3 ⟨rs,e,l,_⟩=>by rw [e,List.length_map,l]) (fun r hr' H3 s3=>SqT.of (s3 _ _ (hh r hr').e)) ?_ ?_⟩
  ·rintro D i r ys H3 Q' hi nD ⟨rs,rfl,hl,e,hrs⟩ eD s3 kk
   have hrow:=(hh r (List.mem_of_getElem? hi)).kl (KL.of s3)
   refine ⟨_,rfl,_,rfl,r.q,_,rfl,SqL.of hrow.q,fun q' H4 nq s4 e4=>⟨(by show 2≤sizeLine;decide),fun u H5 nu s5 e5=>kk _ H5 (s4.trans s5) ⟨rs++[⟨u,r.cnd,q',r.t,r.as⟩],by rw [List.map_append];rfl,by rw [List.length_append,List.length_singleton,hl],?_,?_⟩⟩⟩
   ·rw [List.map_append,e,List.take_add_one,List.getElem?_map,hi];rfl
   ·have s35:=s4.trans s5
    have eD5:=s35 _ _ eD
    intro r' hr'
    rcases List.mem_append.mp hr' with hr' | hr'
    ·exact ((hrs r' hr').kl (KL.of s35)).list eD5
    ·rw [List.mem_singleton.mp hr']
     have h5:=hrow.kl (KL.of s35)
     exact JX.list ⟨e5,h5.c,h5.d,s5 _ _ e4,h5.as,h5.n⟩ eD5
  ·rintro D ys H2 nD ⟨rs,rfl,hl,e,hrs⟩ s2 eD
   rw [List.take_of_length_le (by rw [List.length_map];exact Nat.le_refl _)] at e
   have ex2:=s2 _ _ ex
   have xD:D≠x:=Zq eD ex2 (fun z=>nomatch z)
   refine ⟨_,rfl,x,_,dx,_,rfl,ex2,T.c_Rules,T.n_Rules_kept,(by show 0<1000;decide),?_⟩
   refine k _ rs D (fun c o n e'=>by rw [Qk n];exact s2 _ _ e') nD Qh (by rw [Qk xD];exact eD) (fun r hr'=>(hrs r hr').past ex2 fun c o n e'=>by rw [Qk n];exact e') e
end
inductive Qe9 (vs:List V) (H:Hp) (Q:VK):Prop
 | mk:∀(sh c:Int),vs=[.int sh,.int c]→0≤sh→sh<2147483629→0≤c→(∀q (ps:List (Addr×Act)) H',Qm H H'→H' q=some (.tup (ps.map fun y=>V.ref y.1))→(∀y∈ps,AAt H' y.1 y.2)→ps.length≤3→Q (.ref q) H')→Qe9 vs H Q
def spAB:Sp:=fun vs H Q _=>Qe9 vs H Q
section
variable {P : Program} {w : World} {K : PySem.W.Frag} {mg : Str → Option Value} {base : Heap} {a : Adr}
theorem ok_ab {fd:FuncData} (F:Fun K "_law_acts_by" "_law_acts_by" YQ a.f_l_acts_by fd) (T:Txt K mg a) (FF:Z1 K a):Qw P w K mg base CX0 2 a.f_l_acts_by fd ["_law_shape","_law_cell"] spAB:=by
 obtain ⟨fdW,F_l_word_by,b_l_word_by⟩:=FF.F_l_word_by
 have G_l_word_by:Qw P w K mg base CX0 1 a.f_l_word_by fdW ["_law_shape","_law_k"] Ul:=Ut F_l_word_by T
 refine F.ok Jk (fun vs H Q E h=>?_) (fun cdv A outer st H vs Q E hr h=>?_)
 ·obtain ⟨sh,c,rfl,_⟩:=h;rfl
 ·obtain ⟨sh,c,rfl,hs0,hs1,hc,k⟩:=h
  have hr_l_word_by:QG 1 _:=hr
  refine ⟨_,(Qb (Qv (i:=2) Jk.nd rfl (Or.inl rfl) (Q0 Qq))
   (Qb (Z5 PassesOwn.never rfl (JJ rfl T.b_range (pac (Ql ZE Qa (Ql QP (pv 1) Qa)) Qf)) (QR (i:=3) Jk.nd rfl (Or.inl rfl)) (Qb (Qv (i:=4) Jk.nd rfl (Or.inl rfl) (Ql QT (Ql QT (pv 1) Qa) (Ql ZE Qa (Ql Yr Qa (pv 3)))))
   (Qb (Qv (i:=5) Jk.nd rfl (Or.inl rfl) (Qx G_l_word_by hr_l_word_by rfl T.m_l_word_by F_l_word_by.kp b_l_word_by .nil Qy (pac (pv 0) (pac (Ql QP (Ql QT (pv 4) Qa) Qa) Qf))))
   (Qb (Qv (i:=6) Jk.nd rfl (Or.inl rfl) (Q0 (Qc (QV (Qc Qi (Qc (pv 5) Qq))) (Qc (QV (Qc Qi (Qc (pv 5) Qq))) (Qc (QV (Qc Qi (Qc (pv 5) Qq))) (Qc (QV (Qc Qi (Qc (pv 5) Qq))) (Qc (QV (Qc Qi Qq)) Qq)))))))
   (Qd (Q9 (Z8 PySem.F.plainAttrs_list PySem.F.slot_list_append PySem.F.type_list_append Q3 (pv 2) (pac (Qn QA (pv 6) (Ql QP (pv 4) Qa) (fun _ _=>rfl)) Qf))))))))
   (Qd (Qo (Z3 (Xl K) rfl T.b_tuple PyProof.Rows.boot_tuple (pac (pv 2) Qf)))))),?_⟩
  have m0:0≤c % 3:=Int.emod_nonneg _ (by decide)
  have m1:c % 3<3:=Int.emod_lt_of_pos _ (by decide)
  refine ⟨(by show 0≤sizeLine;decide),fun D H1 nD s1 eD1=>?_⟩
  refine ⟨_,rfl,_,_,rfl,rfl,(by show (0:Int)<3;decide),_,_,rfl,rfl,1+c % 3,rfl,by omega,by omega,Yd (n:=(1+c % 3).toNat) (fun i σ H2=>∃(ps:List (Addr×Act)) (o3 o4 o5 o6:Option V),σ=[some (.int sh),some (.int c),some (.ref D),o3,o4,o5,o6]∧Qm H H2∧H2 D=some (.lst (ps.map fun y=>V.ref y.1))∧(∀y∈ps,AAt H2 y.1 y.2)∧ps.length≤i)
   ⟨[],none,none,none,none,rfl,s1,eD1,(fun y hy=>nomatch hy),Nat.le_refl _⟩ ?_ ?_⟩
  ·rintro i σ H2 hi ⟨ps,o3,o4,o5,o6,rfl,s2,eD,hps,hpl⟩
   have hi3:i<3:=by omega
   have dv:(0:Int)<1+20*(0+(i:Int)):=by omega
   have dv2:1+20*(0+(i:Int))<1073741824:=by omega
   refine ⟨_,rfl,_,_,rfl,rfl,⟨by decide,by decide⟩,_,rfl,_,_,rfl,rfl,.inl ⟨by decide,by decide⟩,_,_,rfl,rfl,_,_,rfl,rfl,⟨dv,dv2⟩,?_⟩
   generalize c / 3 / (1+20*(0+(i:Int)))=more
   have k0:0≤more / 7 % 5:=Int.emod_nonneg _ (by decide)
   have k1:more / 7 % 5<5:=Int.emod_lt_of_pos _ (by decide)
   refine ⟨_,rfl,_,rfl,_,_,rfl,rfl,⟨by decide,by decide⟩,_,_,rfl,rfl,(by show (0:Int)<5;decide),sh,more / 7 % 5,rfl,hs0,by omega,k0,by omega,fun H3 s3=>?_⟩
   have hwd:Q4 (ZO sh (more / 7 % 5)):=JY k0 (by omega)
   generalize ZO sh (more / 7 % 5)=wd at hwd
   refine ⟨_,rfl,(by show 2≤sizeLine;decide),fun p1 H4 n4 s4 e4=>⟨_,rfl,(by show 2≤sizeLine;decide),fun p2 H5 n5 s5 e5=>⟨_,rfl,(by show 2≤sizeLine;decide),fun p3 H6 n6 s6 e6=>⟨_,rfl,(by show 2≤sizeLine;decide),fun p4 H7 n7 s7 e7=>⟨(by show 1≤sizeLine;decide),fun p5 H8 n8 s8 e8=>⟨(by show 5≤sizeLine;decide),fun l H9 n9 s9 e9=>?_⟩⟩⟩⟩⟩⟩
   have s29:Qm H2 H9:=(((((s3.trans s4).trans s5).trans s6).trans s7).trans s8).trans s9
   have a1:AAt H9 p1 (.place wd):=⟨s9 _ _ (s8 _ _ (s7 _ _ (s6 _ _ (s5 _ _ e4)))),hwd⟩
   have a2:AAt H9 p2 (.mark wd):=⟨s9 _ _ (s8 _ _ (s7 _ _ (s6 _ _ e5))),hwd⟩
   have a3:AAt H9 p3 (.unmark wd):=⟨s9 _ _ (s8 _ _ (s7 _ _ e6)),hwd⟩
   have a4:AAt H9 p4 (.mark wd):=⟨s9 _ _ (s8 _ _ e7),hwd⟩
   have a5:AAt H9 p5 .stop:=⟨s9 _ _ e8,trivial⟩
   obtain ⟨v,hv,hvm,_⟩:=ZB (xs:=[V.ref p1,V.ref p2,V.ref p3,V.ref p4,V.ref p5]) (i:=more % 5) (Int.emod_nonneg _ (by decide)) (Int.emod_lt_of_pos _ (by decide))
   obtain ⟨pa,act,rfl,hA⟩:∃pa act,v=.ref pa∧AAt H9 pa act:=by
    simp only [List.mem_cons,List.not_mem_nil,or_false] at hvm
    rcases hvm with rfl | rfl | rfl | rfl | rfl
    ·exact ⟨_,_,rfl,a1⟩
    ·exact ⟨_,_,rfl,a2⟩
    ·exact ⟨_,_,rfl,a3⟩
    ·exact ⟨_,_,rfl,a4⟩
    ·exact ⟨_,_,rfl,a5⟩
   have eD9:=s29 _ _ eD
   refine ⟨_,rfl,.inl ⟨rfl,_,SqL.of eD9⟩,_,rfl,_,rfl,_,_,rfl,rfl,(by show (0:Int)<5;decide),l,_,_,_,rfl,rfl,SqL.of e9,hv,D,_,_,rfl,rfl,eD9,(by rw [List.length_map];exact Qj (by omega)),?_⟩
   refine ⟨ps++[(pa,act)],_,_,_,_,rfl,(s2.trans s29).upd_of nD,by rw [Qh,List.map_append];rfl,fun y hy=>?_,by rw [List.length_append,List.length_singleton];omega⟩
   have kt:∀{y:Addr×Act},AAt H9 y.1 y.2→AAt (upd H9 D (.lst (ps.map (fun y=>V.ref y.1)++[.ref pa]))) y.1 y.2:=fun {y} h=>⟨by rw [Qk (Zq h.1 eD9 (fun z=>nomatch z))];exact h.1,h.2⟩
   rcases List.mem_append.mp hy with hy | hy
   ·exact kt ((hps y hy).mono s29)
   ·rw [List.mem_singleton.mp hy];exact kt (y:=(pa,act)) hA
  ·rintro σ H2 ⟨ps,o3,o4,o5,o6,rfl,s2,eD,hps,hpl⟩
   exact ⟨_,rfl,D,_,rfl,SqL.of eD,fun q H3 nq s3 e3=>k q ps H3 (s2.trans s3) e3 (fun y hy=>(hps y hy).mono s3) (by omega)⟩
end
structure Uj (H:Hp) (x:RW):Prop where
 e:H x.r=some (.tup [.ref x.cnd,.ref x.q])
 c:TAt H x.cnd x.t
 d:x.t.dp<8
 q:H x.q=some (.tup (x.as.map fun y=>V.ref y.1))
 as:∀y∈x.as,AAt H y.1 y.2
 n:x.as.length≤4
theorem Uj.kl {a:Adr} {H H':Hp} {x:RW} (h:Uj H x) (k:KL a H H'):Uj H' x:=⟨k.keep h.e rfl,h.c.kl k,h.d,k.keep h.q rfl,fun y hy=>(h.as y hy).kl k,h.n⟩
theorem Uj.mono {H H':Hp} {x:RW} (h:Uj H x) (k:Qm H H'):Uj H' x:=⟨k _ _ h.e,h.c.mono k,h.d,k _ _ h.q,fun y hy=>(h.as y hy).mono k,h.n⟩
theorem Uj.list {H:Hp} {x:RW} {l:Addr} {xs ys:List V} (h:Uj H x) (e:H l=some (.lst xs)):Uj (upd H l (.lst ys)) x :=
 have kt:∀c xs',H c=some (.tup xs')→(upd H l (.lst ys)) c=some (.tup xs'):=fun c xs' e'=>by rw [Qk (Zq e' e (fun z=>nomatch z))];exact e'
 ⟨kt _ _ h.e,h.c.tups kt,h.d,kt _ _ h.q,fun y hy=>⟨kt _ _ (h.as y hy).1,(h.as y hy).2⟩,h.n⟩
theorem VO {os:List CD}:∀{rs rs':List RW} {i:Nat} {c:CD} {ps:List Nat},rs.map rdt=rs'.map rdt→Jr os rs i c ps=Jr os rs' i c ps
 | [],[],_,_,_,_=>rfl
 | [],_ :: _,_,_,_,h=>by cases h
 | _ :: _,[],_,_,_,h=>by cases h
 | r :: rs,r' :: rs',i,c,ps,h=>by
   rw [List.map_cons,List.map_cons] at h
   injection h with h1 h2
   have e1:r.t=r'.t:=congrArg Prod.fst h1
   have e2:r.as.map (·.2)=r'.as.map (·.2):=congrArg Prod.snd h1
   unfold Jr
   rw [e1,e2,VO (rs:=rs) (rs':=rs') h2,VO (rs:=rs) (rs':=rs') h2]
theorem Qhn {ms:List Str} {w:Str} (h:SS ms=ms):ZG (ms.filter (fun m=>!decide (m=w))++[w])=SS (ms++[w]):=by
 have nd:ms.Nodup:=by rw [←h];exact Qh6 ms
 have nd2:(ms.filter (fun m=>!decide (m=w))++[w]).Nodup:=by
  rw [List.nodup_append]
  refine ⟨nd.filter _,List.pairwise_singleton _ _,fun x hx y hy e=>?_⟩
  rw [List.mem_singleton.mp hy] at e
  have:=(List.mem_filter.mp hx).2
  rw [e] at this
  simp at this
 rw [←QgL nd2]
 refine WE fun x=>?_
 rw [List.mem_append,List.mem_append,List.mem_singleton,List.mem_filter]
 by_cases e:x=w
 ·exact ⟨fun _=>.inr e,fun _=>.inr e⟩
 ·simp [e]
theorem QiL {ms:List Str} {w:Str}:(ms.filter fun m=>!decide (m=w))=ms.filter fun m=>decide (m≠w):=by
 congr 1
 funext m
 simp
def CTP (P:Addr) (H:Hp) (u:Addr) (c:CD):Prop:=∃q m,m≠P∧H u=some (.tup [.ref q,.str c.fo,.ref m])∧H q=some (.tup [.str c.s,.str c.t,.str c.b,.int c.d,.str c.an])∧H m=some (.lst (c.ms.map V.str))
theorem CTP.at {P:Addr} {H:Hp} {u:Addr} {c:CD} (h:CTP P H u c):Y8 H u c:=let ⟨q,m,_,e1,e2,e3⟩:=h;⟨q,m,e1,e2,e3⟩
theorem CTP.mono {P:Addr} {H H':Hp} {u:Addr} {c:CD} (h:CTP P H u c) (s:Qm H H'):CTP P H' u c:=let ⟨q,m,n,e1,e2,e3⟩:=h;⟨q,m,n,s _ _ e1,s _ _ e2,s _ _ e3⟩
theorem CTP.upd {P:Addr} {H:Hp} {u:Addr} {c:CD} {xs ys:List V} (h:CTP P H u c) (e:H P=some (.lst xs)):CTP P (upd H P (.lst ys)) u c :=
 let ⟨q,m,n,e1,e2,e3⟩:=h
 ⟨q,m,n,by rw [Qk (Zq e1 e (fun z=>nomatch z))];exact e1,by rw [Qk (Zq e2 e (fun z=>nomatch z))];exact e2,by rw [Qk n];exact e3⟩
abbrev UJ (as:List Act):Bool:=as.any (fun x=>match x with | .stop=>true | _=>false)
theorem Vb {as:List Act} {x:Act} (h:UJ as=false) (hx:UJ [x]=false):UJ (as++[x])=false:=by
 unfold UJ at *
 rw [List.any_append,h,hx];rfl
inductive Qe3 (vs:List V) (H:Hp) (Q:VK):Prop
 | mk:∀D u l (rs:List RW) c (xs:List (Addr×CD)),vs=[.ref D,.ref u,.ref l]→H D=some (.lst (rs.map fun r=>V.ref r.r))→(∀r∈rs,Uj H r)→rs.length≤10→Y8 H u c→ZC c→SS c.ms=c.ms→c.ms.length+4*rs.length≤49→H l=some (.lst (xs.map fun x=>V.ref x.1))→(∀x∈xs,Y8 H x.1 x.2∧ZC x.2)→xs.length≤100→(∀z u' P H',Qm H H'→H' z=some (.tup [.ref u',.ref P])→Y8 H' u' (Jr (xs.map (·.2)) rs 0 c []).1→H' P=some (.lst ((Jr (xs.map (·.2)) rs 0 c []).2.map fun i:Nat=>V.int (i:Int)))→Q (.ref z) H')→Qe3 vs H Q
def spLR:Sp:=fun vs H Q _=>Qe3 vs H Q
section
variable {P : Program} {w : World} {K : PySem.W.Frag} {mg : Str → Option Value} {base : Heap} {a : Adr}
theorem ok_lr {fd:FuncData} (F:Fun K "_law_run" "_law_run" UW a.f_l_run fd) (T:Txt K mg a) (FF:Z1 K a):Qw P w K mg base CX0 10 a.f_l_run fd ["_law_rows","_law_card","_law_others"] spLR:=by
 obtain ⟨fdH,F_l_holds,b_l_holds⟩:=FF.F_l_holds
 have G_l_holds:Qw P w K mg base CX0 9 a.f_l_holds fdH ["_law_tree","_law_card","_law_others"] (spLH 8):=QhV F_l_holds b_l_holds T FF 8
 refine F.ok Ja (fun vs H Q E h=>?_) (fun cdv A outer st H vs Q E hr h=>?_)
 ·obtain ⟨D,u,l,rs,c,xs,rfl,_⟩:=h;rfl
 ·obtain ⟨D,u,l,rs,c,xs,rfl,hD,hrs,hrn,hu,gd,hSS,hl49,hl,hxs,hxn,k⟩:=h
  have hr_l_holds:QG 9 _:=hr
  obtain ⟨t2,h2,sp2⟩:∃t,PSs (UI CX0 P w K mg base Qaq "_law_run" (Qe UW) a.f_l_run cdv A outer st H E).nox ((QM UW).drop 2) t ∧
   ∀(H1:Hp) (y Pl:Addr) (o4 o5 o6 o7 o8:Option V),Qm H H1→Y8 H1 y (Jr (xs.map (·.2)) rs 0 c []).1→H1 Pl=some (.lst ((Jr (xs.map (·.2)) rs 0 c []).2.map fun i:Nat=>V.int (i:Int))) →
    t { nx:=fun _ H'=>Q .non H',rt:=Q } [some (.ref D),some (.ref y),some (.ref l),some (.ref Pl),o4,o5,o6,o7,o8] H1:=by
   refine ⟨_,(Qd (Qo (QV (Qc (pv 1) (Qc (pv 3) Qq))))),fun H1 y Pl o4 o5 o6 o7 o8 s1 hy hP=>?_⟩
   exact ⟨_,rfl,_,rfl,(by show 2≤sizeLine;decide),fun z H2 nz s2 e2=>k z y Pl H2 (s1.trans s2) e2 (hy.mono s2) (s2 _ _ hP)⟩
  refine ⟨_,(Qb (Qv (i:=3) Ja.nd rfl (Or.inl rfl) (Q0 Qq))
   (Qb (Z5 PassesOwn.never rfl (JJ rfl T.b_range (pac (QO Zk rfl T.b_len PySem.boot_len (pac (pv 0) Qf)) Qf)) (QR (i:=4) Ja.nd rfl (Or.inl rfl)) (Qd (QK (Js (Qx G_l_holds hr_l_holds rfl T.m_l_holds F_l_holds.kp b_l_holds .nil Qy (pac (Qn Qs (Qn QA (pv 0) (pv 4) (fun _ _=>rfl)) Qa (fun _ _=>rfl)) (pac (pv 1) (pac (pv 2) Qf))))) (Qb (Q9 (Z8 PySem.F.plainAttrs_list PySem.F.slot_list_append PySem.F.type_list_append Q3 (pv 3) (pac (pv 4) Qf)))
   (Qd (Z5 PassesOwn.never rfl (Kc (Qn Qs (Qn QA (pv 0) (pv 4) (fun _ _=>rfl)) Qa (fun _ _=>rfl))) (QR (i:=5) Ja.nd rfl (Or.inr rfl)) (Qb (Qcm (pv 1) (WQ rfl (Zy (QR (i:=6) Ja.nd rfl (Or.inl rfl)) (Zy (QR (i:=7) Ja.nd rfl (Or.inl rfl)) (Zy (QR (i:=8) Ja.nd rfl (Or.inl rfl)) Vr)))))
   (Qb (QK (Qr QZ (Qn Qs (pv 5) Qa (fun _ _=>rfl)) Qi (Qz _)) (Qd (Qo (QV (Qc (pv 1) (Qc (pv 3) Qq))))) QB)
   (Qb (QK (Qr QZ (Qn Qs (pv 5) Qa (fun _ _=>rfl)) Qi (Qz _)) (Qd (Qv (i:=7) Ja.nd rfl (Or.inl rfl) (Qn Qs (pv 5) Qa (fun _ _=>rfl)))) (Qd (UE (sc:=Qe UW) (N:=Qaq) (i:=8) (fr:=[(5,"_law_act")]) ⟨rfl,rfl,by decide +kernel,by decide +kernel,by decide +kernel,by decide +kernel,by decide +kernel⟩ rfl rfl rfl Ja.nd rfl rfl (Zx (pv 8)) (fun _ _ _ _=>Qg7 (Qr Gu (pv 0) (Qn (Qhp K) (pv 1) Qa (fun _ _=>rfl)) (Qz _))) (fun _ _ _ _=>(pv 0)))))
   (Qb (QK (Qr QZ (Qn Qs (pv 5) Qa (fun _ _=>rfl)) Qi (Qz _)) (Qd (Qv (i:=8) Ja.nd rfl (Or.inl rfl) (QO Xm rfl T.b_sorted PyProof.Rows.boot_sorted (pac (Ql YA (pv 8) (Q0 (Qc (Qn Qs (pv 5) Qa (fun _ _=>rfl)) Qq))) Qf)))) QB)
   (Qd (Qv (i:=1) Ja.nd rfl (Or.inl rfl) (QV (Qc (pv 6) (Qc (pv 7) (Qc (pv 8) Qq))))))))))))) QB)))
   h2)),?_⟩
  refine ⟨(by show 0≤sizeLine;decide),fun Pl H1 nP s1 eP1=>?_⟩
  have hll:(rs.map fun r=>V.ref r.r).length=rs.length:=List.length_map _
  refine ⟨_,rfl,D,_,rfl,.inl (SqL.of (s1 _ _ hD)),((rs.map fun r=>V.ref r.r).length:Int),rfl,by omega,by omega,Yd (n:=((rs.map fun r=>V.ref r.r).length:Int).toNat) (fun i σ H2=>∃(y:Addr) (c':CD) (ps:List Nat) (o4 o5 o6 o7 o8:Option V),σ=[some (.ref D),some (.ref y),some (.ref l),some (.ref Pl),o4,o5,o6,o7,o8]∧Qm H H2∧CTP Pl H2 y c'∧ZC c'∧SS c'.ms=c'.ms∧c'.ms.length≤c.ms.length+4*i∧H2 Pl=some (.lst (ps.map fun i:Nat=>V.int (i:Int)))∧ps.length≤i∧Jr (xs.map (·.2)) rs 0 c []=Jr (xs.map (·.2)) (rs.drop i) i c' ps)
   ?_ ?_ ?_⟩
  ·obtain ⟨q,m,e1,e2,e3⟩:=hu
   exact ⟨u,c,[],none,none,none,none,none,rfl,s1,⟨q,m,Qu e3 nP,s1 _ _ e1,s1 _ _ e2,s1 _ _ e3⟩,gd,hSS,Nat.le_refl _,eP1,Nat.le_refl _,rfl⟩
  ·rintro i σ H2 hi ⟨y,c',ps,o4,o5,o6,o7,o8,rfl,s2,hy,g',hS',hl',eP,hpl,hrun⟩
   have hil:i<rs.length:=by omega
   have er:rs[i]?=some rs[i]:=List.getElem?_eq_getElem hil
   generalize rs[i]=r at er
   have hdr:rs.drop i=r :: rs.drop (i+1):=by rw [List.drop_eq_getElem_cons hil,(List.getElem?_eq_some_iff.mp er).2]
   rw [hdr] at hrun
   have hrow:=(hrs r (List.mem_of_getElem? er)).mono s2
   have eat:atI (rs.map fun r=>V.ref r.r) (0+(i:Int))=some (V.ref r.r):=by rw [Int.zero_add];exact Wy (by rw [List.getElem?_map,er];rfl)
   refine ⟨_,rfl,_,rfl,D,_,_,_,rfl,rfl,SqL.of (s2 _ _ hD),eat,r.r,_,_,_,rfl,rfl,SqT.of hrow.e,rfl,_,rfl,_,rfl,?_⟩
   refine ⟨r.cnd,r.t,y,l,c',xs,rfl,hrow.c,hrow.d,hy.at,g',s2 _ _ hl,(fun x hx=>⟨(hxs x hx).1.mono s2,(hxs x hx).2⟩),hxn,fun H3 s3=>⟨_,rfl,?_⟩⟩
   have s03:=s2.trans s3
   have hrow3:=hrow.mono s3
   have eP3:=s3 _ _ eP
   rw [←Uv]
   cases eh:Z9 r.t c' (xs.map (·.2))
   ·refine QU ⟨y,c',ps,_,_,_,_,_,rfl,s03,hy.mono s3,g',hS',by omega,eP3,by omega,?_⟩
    rw [hrun]
    show (if Z9 r.t c' (xs.map (·.2))=true then _ else _)=_
    rw [eh,if_neg (by decide)]
   ·have hrun2:Jr (xs.map (·.2)) rs 0 c []=if UJ (r.as.map (·.2))=true then (Q5 c' (r.as.map (·.2)),ps++[i]) else Jr (xs.map (·.2)) (rs.drop (i+1)) (i+1) (Q5 c' (r.as.map (·.2))) (ps++[i]):=by
     rw [hrun]
     show (if Z9 r.t c' (xs.map (·.2))=true then _ else _)=_
     rw [eh,if_pos rfl] <;> rfl
    refine Zc ⟨_,rfl,.inl ⟨rfl,_,SqL.of eP3⟩,_,rfl,Pl,_,_,rfl,rfl,eP3,(by rw [List.length_map];exact Qj (by omega)),?_⟩
    have s4:Qm H (upd H3 Pl (.lst ((ps.map fun i:Nat=>V.int (i:Int))++[.int (0+(i:Int))]))):=s03.upd_of nP
    have eP4:(upd H3 Pl (.lst ((ps.map fun i:Nat=>V.int (i:Int))++[.int (0+(i:Int))]))) Pl=some (.lst (((ps++[i]).map fun i:Nat=>V.int (i:Int)))):=by rw [Qh,List.map_append,Int.zero_add];rfl
    have hy4:=(hy.mono s3).upd (ys:=(ps.map fun i:Nat=>V.int (i:Int))++[.int (0+(i:Int))]) eP3
    have hrow4:=hrow3.list (ys:=(ps.map fun i:Nat=>V.int (i:Int))++[.int (0+(i:Int))]) eP3
    generalize upd H3 Pl (.lst ((ps.map fun i:Nat=>V.int (i:Int))++[.int (0+(i:Int))]))=H4 at s4 eP4 hy4 hrow4 ⊢
    have hn4:=hrow4.n
    refine ⟨_,rfl,_,rfl,D,_,_,_,rfl,rfl,SqL.of (s4 _ _ hD),eat,r.r,_,_,_,rfl,rfl,SqT.of hrow4.e,rfl,r.q,rfl,⟨_,SqT.of hrow4.q⟩,QaA (K:=K) (a:=r.q) (xs:=r.as.map fun y=>V.ref y.1) (fun j σ H5=>∃(y:Addr) (c1:CD) (o5 o6 o7 o8:Option V),σ=[some (.ref D),some (.ref y),some (.ref l),some (.ref Pl),some (.int (0+(i:Int))),o5,o6,o7,o8]∧Qm H4 H5∧CTP Pl H5 y c1∧ZC c1∧SS c1.ms=c1.ms∧c1.ms.length≤c'.ms.length+j∧Q5 c' (r.as.map (·.2))=Q5 c1 ((r.as.map (·.2)).drop j)∧UJ ((r.as.map (·.2)).take j)=false)
     ⟨y,c',_,_,_,_,rfl,Qm.refl _,hy4,g',hS',Nat.le_refl _,rfl,rfl⟩ (fun j σ H5 _ ⟨_,_,_,_,_,_,_,s5,_⟩=>SqT.of (s5 _ _ hrow4.q)) ?_ ?_⟩
    ·rintro j v σ H5 hj ⟨y1,c1,p5,p6,p7,p8,rfl,s5,hy1,g1,hS1,hl1,hb1,hst⟩
     rw [List.getElem?_map] at hj
     cases ej:r.as[j]? with
     | none=>rw [ej] at hj;cases hj
     | some y0 =>
       obtain ⟨pa,act⟩:=y0
       rw [ej] at hj
       cases hj
       have hjl:j<r.as.length:=(List.getElem?_eq_some_iff.mp ej).1
       have hA:AAt H5 pa act:=(hrow4.as (pa,act) (List.mem_of_getElem? ej)).mono s5
       have hdj:(r.as.map (·.2)).drop j=act :: (r.as.map (·.2)).drop (j+1):=by
        rw [List.drop_eq_getElem_cons (by rw [List.length_map];exact hjl),List.getElem_map]
        rw [(List.getElem?_eq_some_iff.mp ej).2]
       have htj:(r.as.map (·.2)).take (j+1)=(r.as.map (·.2)).take j++[act]:=by rw [List.take_add_one,List.getElem?_map,ej];rfl
       rw [hdj] at hb1
       obtain ⟨q,m,nm,e1,e2,e3⟩:=id hy1
       have hl50:c1.ms.length<50:=by omega
       have ag:=Qb3 g1 hA.2 hS1 hl50
       have eP5:=s5 _ _ eP4
       refine ⟨_,rfl,y1,_,rfl,SqT.of e1,rfl,_,_,rfl,_,_,rfl,_,_,rfl,rfl,?_⟩
       cases act with
       | stop =>
         refine ⟨_,rfl,pa,_,_,_,rfl,rfl,SqT.of hA.1,rfl,rfl,_,rfl,JT ?_⟩
         have hany:UJ (r.as.map (·.2))=true:=by
          rw [←List.take_append_drop j (r.as.map (·.2)),hdj]
          show ((r.as.map (·.2)).take j++_).any _=true
          rw [List.any_append,List.any_cons]
          simp
         rw [hany,if_pos rfl,hb1] at hrun2
         refine ⟨_,rfl,_,rfl,(by show 2≤sizeLine;decide),fun z H6 nz s6 e6=>k z y1 Pl H6 ((s4.trans s5).trans s6) e6 ?_ ?_⟩
         ·rw [hrun2];exact (hy1.mono s6).at
         ·rw [hrun2];exact s6 _ _ eP5
       | place wd =>
         refine ⟨_,rfl,pa,_,_,_,rfl,rfl,SqT.of hA.1,rfl,rfl,_,rfl,skS (by decide +kernel) ?_⟩
         refine ⟨_,rfl,pa,_,_,_,rfl,rfl,SqT.of hA.1,rfl,rfl,_,rfl,JT ⟨_,rfl,pa,_,_,_,rfl,rfl,SqT.of hA.1,rfl,?_⟩⟩
         refine ⟨_,rfl,pa,_,_,_,rfl,rfl,SqT.of hA.1,rfl,rfl,_,rfl,skS (by decide +kernel) ?_⟩
         refine ⟨_,rfl,_,rfl,_,rfl,(by show 3≤sizeLine;decide),fun y2 H6 n6 s6 e6=>?_⟩
         exact ⟨y2,Vl c1 (.place wd),_,_,_,_,rfl,s5.trans s6,⟨q,m,nm,e6,s6 _ _ e2,s6 _ _ e3⟩,ag.1,ag.2.1,by have:=ag.2.2;omega,hb1,by rw [htj];exact Vb hst rfl⟩
       | mark wd =>
         refine ⟨_,rfl,pa,_,_,_,rfl,rfl,SqT.of hA.1,rfl,rfl,_,rfl,skS (by decide +kernel) ?_⟩
         refine ⟨_,rfl,pa,_,_,_,rfl,rfl,SqT.of hA.1,rfl,rfl,_,rfl,skS (by decide +kernel) ?_⟩
         refine ⟨_,rfl,m,rfl,⟨_,SqL.of e3⟩,Xj (xs:=c1.ms) V.str (fun m=>!decide (m=wd)) V.str (Nat.le_of_lt (Qj (by omega))) (SqL.of e3) (fun x H6 Q' hx s6 kq=>?_) (fun x H6 Q' hx s6 _ kq=>⟨_,rfl,kq H6 (Qm.refl _)⟩) fun m2 H6 n6 s6 e6=>?_⟩
         ·refine ⟨_,rfl,_,rfl,pa,_,_,_,rfl,rfl,SqT.of (s6 _ _ hA.1),rfl,rfl,_,rfl,?_⟩
          rw [XQ]
          exact kq H6 (Qm.refl _)
         have hA6:=hA.mono s6
         have hfl:=List.length_filter_le (fun m=>!decide (m=wd)) c1.ms
         refine ⟨_,rfl,pa,_,_,_,rfl,rfl,SqT.of hA6.1,rfl,rfl,_,rfl,JT ?_⟩
         refine ⟨_,rfl,_,rfl,pa,_,_,_,rfl,rfl,SqT.of hA6.1,rfl,(by show 1≤sizeLine;decide),fun l1 H7 n7 s7 e7=>?_⟩
         refine ⟨m2,l1,_,_,rfl,rfl,s7 _ _ e6,e7,Nat.le_of_lt (Qj (by rw [List.length_map,List.length_singleton];omega)),fun l2 H8 n8 s8 e8=>?_⟩
         have e8':H8 l2=some (.lst ((c1.ms.filter (fun m=>!decide (m=wd))++[wd]).map V.str)):=by rw [e8,List.map_append];rfl
         refine ⟨l2,_,rfl,SqL.of e8',(by rw [List.length_append,List.length_singleton];omega),fun l3 n9=>?_⟩
         have s9:Qm H8 (upd H8 l3 (.lst ((ZG (c1.ms.filter (fun m=>!decide (m=wd))++[wd])).map V.str))):=Qm.upd_new n9
         have e9:(upd H8 l3 (.lst ((ZG (c1.ms.filter (fun m=>!decide (m=wd))++[wd])).map V.str))) l3=some (.lst ((SS (c1.ms++[wd])).map V.str)):=by rw [Qh,Qhn hS1]
         generalize upd H8 l3 (.lst ((ZG (c1.ms.filter (fun m=>!decide (m=wd))++[wd])).map V.str))=H9 at s9 e9 ⊢
         have s59:Qm H5 H9:=((s6.trans s7).trans s8).trans s9
         have nl3:l3≠Pl:=fun z=>by rw [z,((s6.trans s7).trans s8) _ _ eP5] at n9;cases n9
         refine ⟨_,rfl,_,rfl,_,rfl,(by show 3≤sizeLine;decide),fun y2 H10 n10 s10 e10=>?_⟩
         exact ⟨y2,Vl c1 (.mark wd),_,_,_,_,rfl,(s5.trans s59).trans s10,⟨q,l3,nl3,e10,s10 _ _ (s59 _ _ e2),s10 _ _ e9⟩,ag.1,ag.2.1,by have:=ag.2.2;omega,hb1,by rw [htj];exact Vb hst rfl⟩
       | unmark wd =>
         refine ⟨_,rfl,pa,_,_,_,rfl,rfl,SqT.of hA.1,rfl,rfl,_,rfl,skS (by decide +kernel) ?_⟩
         refine ⟨_,rfl,pa,_,_,_,rfl,rfl,SqT.of hA.1,rfl,rfl,_,rfl,skS (by decide +kernel) ?_⟩
         refine ⟨_,rfl,m,rfl,⟨_,SqL.of e3⟩,Xj (xs:=c1.ms) V.str (fun m=>!decide (m=wd)) V.str (Nat.le_of_lt (Qj (by omega))) (SqL.of e3) (fun x H6 Q' hx s6 kq=>?_) (fun x H6 Q' hx s6 _ kq=>⟨_,rfl,kq H6 (Qm.refl _)⟩) fun m2 H6 n6 s6 e6=>?_⟩
         ·refine ⟨_,rfl,_,rfl,pa,_,_,_,rfl,rfl,SqT.of (s6 _ _ hA.1),rfl,rfl,_,rfl,?_⟩
          rw [XQ]
          exact kq H6 (Qm.refl _)
         have hA6:=hA.mono s6
         rw [QiL] at e6
         have nm2:m2≠Pl:=fun z=>by rw [z,eP5] at n6;cases n6
         refine ⟨_,rfl,pa,_,_,_,rfl,rfl,SqT.of hA6.1,rfl,rfl,_,rfl,skS (by decide +kernel) ?_⟩
         refine ⟨_,rfl,_,rfl,_,rfl,(by show 3≤sizeLine;decide),fun y2 H10 n10 s10 e10=>?_⟩
         exact ⟨y2,Vl c1 (.unmark wd),_,_,_,_,rfl,(s5.trans s6).trans s10,⟨q,m2,nm2,e10,s10 _ _ (s6 _ _ e2),s10 _ _ e6⟩,ag.1,ag.2.1,by have:=ag.2.2;omega,hb1,by rw [htj];exact Vb hst rfl⟩
    ·rintro σ H5 ⟨y1,c1,p5,p6,p7,p8,rfl,s5,hy1,g1,hS1,hl1,hb1,hst⟩
     rw [List.length_map] at hl1 hb1 hst
     rw [List.drop_of_length_le (by rw [List.length_map];exact Nat.le_refl _)] at hb1
     rw [List.take_of_length_le (by rw [List.length_map];exact Nat.le_refl _)] at hst
     rw [hst,if_neg (by decide),hb1] at hrun2
     exact ⟨y1,c1,ps++[i],_,_,_,_,_,rfl,s4.trans s5,hy1,g1,hS1,by omega,s5 _ _ eP4,by rw [List.length_append,List.length_singleton];omega,hrun2⟩
  ·rintro σ H2 ⟨y,c',ps,o4,o5,o6,o7,o8,rfl,s2,hy,g',hS',hl',eP,hpl,hrun⟩
   rw [show ((rs.map fun r=>V.ref r.r).length:Int).toNat=rs.length by omega,List.drop_of_length_le (Nat.le_refl _)] at hrun
   refine sp2 H2 y Pl o4 o5 o6 o7 o8 s2 ?_ ?_
   ·rw [hrun];exact hy.at
   ·rw [hrun];exact eP
end
theorem Qep (x:V) (xs:List V):Yo (x :: xs) (some 1) none=xs:=by
 have h:=Wu (fun v:V=>v) (x :: xs) 1 (by decide)
 simpa using h
theorem WO {os:List CD}:∀{rs:List RW} {i:Nat} {c:CD} {ps:List Nat},ZC c→SS c.ms=c.ms→(∀r∈rs,∀y∈r.as,awd y.2)→(∀r∈rs,r.as.length≤4)→c.ms.length+4*rs.length≤50→ZC (Jr os rs i c ps).1
 | [],_,_,_,g,_,_,_,_=>g
 | r :: rs,i,c,ps,g,hS,ha,hn,hl=>by
   rw [List.length_cons] at hl
   have hn4:=hn r List.mem_cons_self
   have bg:=Vk (as:=r.as.map (·.2)) g (fun z hz=>by obtain ⟨z',hz',rfl⟩:=List.mem_map.mp hz;exact ha r List.mem_cons_self z' hz') hS (by rw [List.length_map];omega)
   rw [List.length_map] at bg
   have hl2:=bg.2.2
   unfold Jr
   split
   ·split
    ·exact bg.1
    ·exact WO bg.1 bg.2.1 (fun r' h'=>ha r' (List.mem_cons_of_mem _ h')) (fun r' h'=>hn r' (List.mem_cons_of_mem _ h')) (by omega)
   ·exact WO g hS (fun r' h'=>ha r' (List.mem_cons_of_mem _ h')) (fun r' h'=>hn r' (List.mem_cons_of_mem _ h')) (by omega)
theorem U3 {K:PySem.W.Frag} {H:Hp}:∀ns:List Nat,RDs K H (ns.map fun i:Nat=>V.int (i:Int)) (ns.map fun i:Nat=>PyData.int (i:Int))
 | []=>.nil
 | _ :: ns=>.cons (.int _) (U3 ns)
theorem QbG:∀ns:List Nat,PyData.canLayAll0 (ns.map fun i:Nat=>PyData.int (i:Int))=true∧PyData.depthAll (ns.map fun i:Nat=>PyData.int (i:Int))=0
 | []=>⟨rfl,rfl⟩
 | n :: ns=>by
   have ih:=QbG ns
   exact ⟨by simp [PyData.canLayAll0,PyData.canLay0,ih.1],by simp [PyData.depthAll,PyData.depth,ih.2]⟩
theorem W8 (ns:List Nat):SeqAt.shaped (.list (ns.map fun i:Nat=>PyData.int (i:Int)))=true:=by
 have q:=QbG ns
 unfold SeqAt.shaped
 rw [Bool.and_eq_true]
 exact ⟨by simp only [PyData.canLay0,q.1],decide_eq_true (by simp only [PyData.depth,q.2];decide)⟩
theorem Gm {fo:Str} {ms:List Str} (hf:Q4 fo) (hm:∀x∈ms,Q4 x):SeqAt.shaped (.tuple [.str fo,.list (ms.map PyData.str)])=true:=by
 have q:=Vg (xs:=ms) fun x hx=>(hm x hx).asc
 unfold SeqAt.shaped
 rw [Bool.and_eq_true]
 exact ⟨by simp [PyData.canLay0,PyData.canLayAll0,hf.asc.ok,q.1],decide_eq_true (by simp [PyData.depth,PyData.depthAll,q.2])⟩
theorem QbD {K:PySem.W.Frag} {H:Hp}:∀{rs:List RW},(∀r∈rs,Uj H r)→RDs K H (rs.map fun r=>V.ref r.r) (rs.map fun r=>Vy r.t (r.as.map (·.2)))
 | [],_=>.nil
 | r :: rs,h=>.cons (.tup (SqT.of (h r List.mem_cons_self).e) (.cons (h r List.mem_cons_self).c.rd (.cons (.tup (SqT.of (h r List.mem_cons_self).q) (XL (h r List.mem_cons_self).as)) .nil))) (QbD fun r' h'=>h r' (List.mem_cons_of_mem _ h'))
theorem KQ:∀{as:List Act},(∀x∈as,awd x)→PyData.depthAll (as.map fun x=>PyData.tuple ((Uy x).map PyData.str))≤1
 | [],_=>Nat.zero_le _
 | x :: r,h=>by
   have q:=Vg (KO (h x List.mem_cons_self))
   have ih:=KQ fun y hy=>h y (List.mem_cons_of_mem _ hy)
   simp only [List.map_cons,PyData.depthAll,PyData.depth,q.2]
   omega
theorem Qf9 {H:Hp} {r:RW} (hr:Uj H r):PyData.canLay0 (Vy r.t (r.as.map (·.2)))=true∧PyData.depth (Vy r.t (r.as.map (·.2)))≤20:=by
 have ha:∀x∈r.as.map (·.2),awd x:=fun z hz=>by obtain ⟨z',hz',rfl⟩:=List.mem_map.mp hz;exact (hr.as z' hz').2
 have q1:=hr.c.lay
 have q2:=KP ha
 have q3:=KQ ha
 have hd:=hr.d
 have q5:=q1.2
 refine ⟨by simp only [PyData.canLayAll0,Vy,adat,PyData.canLay0,q1.1,q2];rfl,?_⟩
 simp only [PyData.depthAll,Vy,adat,PyData.depth]
 omega
theorem GG {H:Hp}:∀{rs:List RW},(∀r∈rs,Uj H r)→PyData.canLayAll0 (rs.map fun r=>Vy r.t (r.as.map (·.2)))=true∧PyData.depthAll (rs.map fun r=>Vy r.t (r.as.map (·.2)))≤20
 | [],_=>⟨rfl,Nat.zero_le _⟩
 | r :: rs,h=>by
   have ih:=GG (rs:=rs) fun r' h'=>h r' (List.mem_cons_of_mem _ h')
   have q:=Qf9 (h r List.mem_cons_self)
   have q4:=ih.2
   have q5:=q.2
   refine ⟨by simp only [List.map_cons,PyData.canLayAll0,q.1,ih.1];rfl,?_⟩
   simp only [List.map_cons,PyData.depthAll]
   omega
theorem Qaw {H:Hp} {rs:List RW} (h:∀r∈rs,Uj H r):SeqAt.shaped (.list (rs.map fun r=>Vy r.t (r.as.map (·.2))))=true:=by
 have q:=GG h
 have q2:=q.2
 unfold SeqAt.shaped
 rw [Bool.and_eq_true]
 exact ⟨by simp only [PyData.canLay0,q.1],decide_eq_true (by simp only [PyData.depth];omega)⟩
theorem Qck:∀{rs rs':List RW},rs.map rdt=rs'.map rdt→(rs.map fun r=>Vy r.t (r.as.map (·.2)))=rs'.map fun r=>Vy r.t (r.as.map (·.2)):=fun {rs rs'} h=>by
 have e:(fun r:RW=>Vy r.t (r.as.map (·.2)))=(fun x:Tr×List Act=>Vy x.1 x.2)∘rdt:=rfl
 rw [e,←List.map_map,←List.map_map,h]
theorem len2 {x y:V} {A B:Prop} (h:B):if (!decide (V.int (([x,y]:List V).length:Int)=V.int 2))=true then A else B:=by
 rw [show (V.int (([x,y]:List V).length:Int))=V.int 2 from rfl,decide_eq_true rfl]
 exact QU h
def Qao (c:CD):PyData:=.tuple [.str c.s,.str c.t,.str c.b,.int c.d,.str c.an]
theorem Qcr {cs:List CD} (h:∀c∈cs,ZC c):SeqAt.shaped (.list (cs.map Qao))=true:=by
 have q:PyData.canLayAll0 (cs.map Qao)=true∧PyData.depthAll (cs.map Qao)≤1:=by
  induction cs with
  | nil=>exact ⟨rfl,Nat.zero_le _⟩
  | cons c cs ih =>
    have ih:=ih fun z hz=>h z (List.mem_cons_of_mem _ hz)
    have g:=h c List.mem_cons_self
    have ha:PyData.strOk c.an=true:=by
     rcases g.g.a_ with h | h
     ·rw [h];exact Asc.ok (QiR (by decide +kernel))
     ·exact h.asc.ok
    have i2:=ih.2
    refine ⟨by simp [Qao,PyData.canLay0,PyData.canLayAll0,g.g.s_.asc.ok,g.g.t_.ok,g.g.b_.ok,ha,ih.1],?_⟩
    simp only [List.map_cons,PyData.depthAll,Qao,PyData.depth]
    simp
    omega
 have q2:=q.2
 unfold SeqAt.shaped
 rw [Bool.and_eq_true]
 exact ⟨by simp only [PyData.canLay0,q.1],decide_eq_true (by simp only [PyData.depth];omega)⟩
structure TIn (a:Adr) (H:Hp) (X D lc lm:Addr) (rs rs':List RW) (xs:List (Addr×CD)) (ms:List V):Prop where
 r:YB a H X rs'
 e:rs.map rdt=rs'.map rdt
 d:H D=some (.lst (rs.map fun r=>V.ref r.r))
 lr:∀r∈rs,Uj H r
 n:rs.length≤4
 c:H lc=some (.lst (xs.map fun x=>V.ref x.1))
 ct:∀y∈xs,Y8 H y.1 y.2
 g:∀y∈xs,ZC y.2∧SS y.2.ms=y.2.ms∧y.2.ms.length≤4
 p:0<xs.length
 l:xs.length≤4
 m:H lm=some (.lst ms)
 cm:Zl a H ms (xs.map (·.2))
theorem TIn.kl {a:Adr} {H H':Hp} {X D lc lm:Addr} {rs rs':List RW} {xs:List (Addr×CD)} {ms:List V} (h:TIn a H X D lc lm rs rs' xs ms) (k:KL a H H'):TIn a H' X D lc lm rs rs' xs ms :=
 ⟨h.r.kl k,h.e,k.keep h.d rfl,fun r hr=>(h.lr r hr).kl k,h.n,k.keep h.c rfl,fun y hy=>(h.ct y hy).kl k,h.g,h.p,h.l,k.keep h.m rfl,h.cm.kl k⟩
inductive Qce (a:Adr) (vs:List V) (H:Hp) (Q:VK):Prop
 | mk:∀X D lc lm (tn:Int) (rs rs':List RW) (xs:List (Addr×CD)) (ms:List V),vs=[.ref X,.ref D,.ref lc,.ref lm,.int tn]→TIn a H X D lc lm rs rs' xs ms→(∀H',KL a H H'→Q (.bl true) H')→Qce a vs H Q
def spTd (a:Adr):Sp:=fun vs H Q _=>Qce a vs H Q
theorem at0 {x:V} {xs:List V}:atI (x :: xs) 0=some x:=Wy (j:=0) rfl
theorem Qgf {K:PySem.W.Frag}:PySem.W.kitOne K (.type "list") (.type "list")=some true:=by unfold PySem.W.kitOne;rw [if_pos (beq_self_eq_true _)]
theorem X6 {os:List CD}:∀{rs:List RW} {i:Nat} {c:CD} {ps:List Nat},(Jr os rs i c ps).2.length≤ps.length+rs.length
 | [],_,_,_=>Nat.le_refl _
 | r :: rs,i,c,ps=>by
   unfold Jr
   split
   ·split
    ·show (ps++[i]).length≤_
     rw [List.length_append,List.length_singleton,List.length_cons];omega
    ·have:=X6 (os:=os) (rs:=rs) (i:=i+1) (c:=Q5 c (r.as.map (·.2))) (ps:=ps++[i])
     rw [List.length_append,List.length_singleton] at this
     rw [List.length_cons];omega
   ·have:=X6 (os:=os) (rs:=rs) (i:=i+1) (c:=c) (ps:=ps)
    rw [List.length_cons];omega
theorem RDs.len {K:PySem.W.Frag} {H:Hp}:∀{xs:List V} {ds:List PyData},RDs K H xs ds→xs.length=ds.length
 | _,_,.nil=>rfl
 | _,_,.cons _ rs=>by rw [List.length_cons,List.length_cons,RDs.len rs]
section
variable {P : Program} {w : World} {K : PySem.W.Frag} {mg : Str → Option Value} {base : Heap} {a : Adr}
theorem ok_td {fd:FuncData} (F:Fun K "_law_told" "_law_told" Jj a.f_l_told fd) (T:Txt K mg a) (FF:Z1 K a):Qw P w K mg base CX0 17 a.f_l_told fd ["_law_rules","_law_rows","_law_cards","_law_made_here","_law_turn"] (spTd a):=by
 obtain ⟨fd1,F_l_run,b_l_run⟩:=FF.F_l_run
 have G_l_run:Qw P w K mg base CX0 10 a.f_l_run fd1 ["_law_rows","_law_card","_law_others"] spLR:=ok_lr F_l_run T FF
 obtain ⟨fd2,F_met,b_Rules_met⟩:=FF.F_Rules_met
 have G_Rules_met:Qw P w K mg base CX0 15 a.f_Rules_met fd2 ["self","card","others"] (QhO a):=QiA F_met T FF
 obtain ⟨fd3,F_out,b_Rules_outcome⟩:=FF.F_Rules_outcome
 have G_Rules_outcome:Qw P w K mg base CX0 15 a.f_Rules_outcome fd3 ["self","card","others"] (QhN a):=Qiz F_out T FF
 obtain ⟨fd4,F_rows,b_Rules_rows⟩:=FF.F_Rules_rows
 have G_Rules_rows:Qw P w K mg base CX0 2 a.f_Rules_rows fd4 ["self"] (QeX K a):=Qhi F_rows T FF
 obtain ⟨fd5,F_Letter_parts,b_Letter_parts⟩:=FF.F_Letter_parts
 have G_Letter_parts:Qw P w K mg base CX0 1 a.f_Letter_parts fd5 ["self"] (QcZ a):=QfS F_Letter_parts T
 refine F.ok J2 (fun vs H Q E h=>?_) (fun cdv A outer st H vs Q E hr h=>?_)
 ·obtain ⟨X,D,lc,lm,tn,rs,rs',xs,ms,rfl,_⟩:=h;rfl
 ·obtain ⟨X,D,lc,lm,tn,rs,rs',xs,ms,rfl,hin,k⟩:=h
  have hr16:QG 16 _:=hr
  have hr_l_run:QG 10 _:=hr16.mono (by decide)
  have hr_Rules_met:QG 15 _:=hr16.mono (by decide)
  have hr_Rules_outcome:QG 15 _:=hr16.mono (by decide)
  have hr_Rules_rows:QG 2 _:=hr16.mono (by decide)
  have hr_Letter_parts:QG 1 _:=hr16.mono (by decide)
  have hu64:=hr.units
  cases xs with
  | nil=>exact absurd hin.p (Nat.lt_irrefl _)
  | cons x0 xt =>
  obtain ⟨m0,mt,rfl,hc0,hct⟩:∃m0 mt,ms=.ref m0 :: mt∧Yt a H m0 x0.2∧Zl a H mt (xt.map (·.2)):=by
   have:=hin.cm
   rw [List.map_cons] at this
   cases this with
   | cons h ht=>exact ⟨_,_,rfl,h,ht⟩
  have g0:=hin.g x0 List.mem_cons_self
  have hrl:rs'.length=rs.length:=by have:=congrArg List.length hin.e;rw [List.length_map,List.length_map] at this;exact this.symm
  have hn4:=hin.n
  have hxl:=hin.l
  rw [List.length_cons] at hxl
  have gt:∀z∈xt.map (·.2),ZC z:=fun z hz=>by
   obtain ⟨y,hy,rfl⟩:=List.mem_map.mp hz
   exact (hin.g y (List.mem_cons_of_mem _ hy)).1
  have g3:=g0.2.2
  have runin:∀(H1:Hp) (lo:Addr),KL a H H1→H1 lo=some (.lst mt)→QgN a H1 X m0 lo rs' x0.2 mt (xt.map (·.2)):=fun H1 lo k1 e=>⟨hin.r.kl k1,hc0.kl k1,g0.1,g0.2.1,by omega,e,hct.kl k1,gt,by rw [List.length_map];omega⟩
  have eR:Jr (xt.map (·.2)) rs' 0 x0.2 []=Jr (xt.map (·.2)) rs 0 x0.2 []:=VO hin.e.symm
  have gR:ZC (Jr (xt.map (·.2)) rs 0 x0.2 []).1:=WO g0.1 g0.2.1 (fun r hr' y hy=>((hin.lr r hr').as y hy).2) (fun r hr'=>(hin.lr r hr').n) (by omega)
  have lR:(Jr (xt.map (·.2)) rs 0 x0.2 []).2.length≤4:=by
   have:=X6 (os:=xt.map (·.2)) (rs:=rs) (i:=0) (c:=x0.2) (ps:=[])
   rw [List.length_nil] at this
   omega
  generalize hRd:Jr (xt.map (·.2)) rs 0 x0.2 []=R at eR gR lR
  obtain ⟨t12,h12,sp12⟩:∃t,PSs (UI CX0 P w K mg base Uu "_law_told" (Qe Jj) a.f_l_told cdv A outer st H E).nox ((QM Jj).drop 12) t ∧
   ∀(H1:Hp) (f fl Dm Dt:Addr) (fo:Str) (l1 l2 l3:List V) (o5 o6 o10:Option V),KL a H H1→H fl=none→H Dm=none→H Dt=none→fl≠Dm→fl≠Dt→Dm≠Dt→H1 f=some (.tup [.str fo,.ref fl])→H1 fl=some (.lst l1)→H1 Dm=some (.lst l2)→H1 Dt=some (.lst l3)→l1.length≤100→l2.length≤100→l3.length≤100 →
    t { nx:=fun _ H'=>Q .non H',rt:=Q } [some (.ref X),some (.ref D),some (.ref lc),some (.ref lm),some (.int tn),o5,o6,some (.ref f),some (.ref Dm),some (.ref Dt),o10] H1:=by
   refine ⟨_,(Qb (Q9 (Z8 PySem.F.plainAttrs_list PySem.F.slot_list_append PySem.F.type_list_append Q3 (Qn Qs (pv 7) Qa (fun _ _=>rfl)) (pac Qi Qf)))
    (Qb (Q9 (Z8 PySem.F.plainAttrs_list PySem.F.slot_list_append PySem.F.type_list_append Q3 (pv 8) (pac Qa Qf)))
    (Qb (Q9 (Z8 PySem.F.plainAttrs_list PySem.F.slot_list_append PySem.F.type_list_append Q3 (pv 9) (pac Qa Qf)))
    (Qd (Qo (JC (QfI hu64) (QV (Qc (QC (Qn QA (pv 3) Qa (fun _ _=>rfl)) rfl) (Qc (QC (Qn QA (pv 3) Qa (fun _ _=>rfl)) rfl) Qq))) (QV (Qc (Qn Qs (Qn QA (pv 2) Qa (fun _ _=>rfl)) Qa (fun _ _=>rfl)) (Qc (Qn Qs (Qn QA (pv 2) Qa (fun _ _=>rfl)) Qa (fun _ _=>rfl)) Qq))) (Qz _))))))),fun H1 f fl Dm Dt fo l1 l2 l3 o5 o6 o10 k1 nfl nDm nDt d1 d2 d3 ef efl eDm eDt b1 b2 b3=>?_⟩
   refine ⟨_,rfl,f,_,_,_,rfl,rfl,SqT.of ef,rfl,.inl ⟨rfl,_,SqL.of efl⟩,fl,_,_,rfl,rfl,efl,Qj (by omega),?_⟩
   have k2:KL a H (upd H1 fl (.lst (l1++[.str "zz"]))):=k1.upd_of nfl (fun kv z=>by rw [efl] at z;cases z)
   have eDm2:(upd H1 fl (.lst (l1++[.str "zz"]))) Dm=some (.lst l2):=by rw [Qk d1.symm];exact eDm
   have eDt2:(upd H1 fl (.lst (l1++[.str "zz"]))) Dt=some (.lst l3):=by rw [Qk d2.symm];exact eDt
   show Qb8 _ _ _ _ (upd H1 fl (.lst (l1++[.str "zz"])))
   generalize upd H1 fl (.lst (l1++[.str "zz"]))=H2 at k2 eDm2 eDt2 ⊢
   refine ⟨_,rfl,.inl ⟨rfl,_,SqL.of eDm2⟩,Dm,_,_,rfl,rfl,eDm2,Qj (by omega),?_⟩
   have k3:KL a H (upd H2 Dm (.lst (l2++[.int 99]))):=k2.upd_of nDm (fun kv z=>by rw [eDm2] at z;cases z)
   have eDt3:(upd H2 Dm (.lst (l2++[.int 99]))) Dt=some (.lst l3):=by rw [Qk d3.symm];exact eDt2
   show Qb8 _ _ _ _ (upd H2 Dm (.lst (l2++[.int 99])))
   generalize upd H2 Dm (.lst (l2++[.int 99]))=H3 at k3 eDt3 ⊢
   refine ⟨_,rfl,.inl ⟨rfl,_,SqL.of eDt3⟩,Dt,_,_,rfl,rfl,eDt3,Qj (by omega),?_⟩
   have k4:KL a H (upd H3 Dt (.lst (l3++[.int 1]))):=k3.upd_of nDt (fun kv z=>by rw [eDt3] at z;cases z)
   dsimp only
   generalize upd H3 Dt (.lst (l3++[.int 1]))=H4 at k4 ⊢
   have hin4:=hin.kl k4
   obtain ⟨g,⟨dm,yl,ex,_⟩,eg⟩:=hc0.kl k4
   obtain ⟨q,m,e1,e2,e3⟩:=hin4.ct x0 List.mem_cons_self
   refine ⟨_,rfl,lm,_,_,_,rfl,rfl,SqL.of hin4.m,at0,m0,_,dm,_,_,rfl,ex,T.c_Card,T.n_Card_box,rfl,_,rfl,lm,_,_,_,rfl,rfl,SqL.of hin4.m,at0,m0,_,dm,_,_,rfl,ex,T.c_Card,T.n_Card_signs,rfl,(by show 2≤sizeLine;decide),fun p1 H5 n5 s5 e5=>?_⟩
   refine ⟨_,rfl,lc,_,_,_,rfl,rfl,SqL.of (s5 _ _ hin4.c),at0,x0.1,_,_,_,rfl,rfl,SqT.of (s5 _ _ e1),rfl,_,rfl,lc,_,_,_,rfl,rfl,SqL.of (s5 _ _ hin4.c),at0,x0.1,_,_,_,rfl,rfl,SqT.of (s5 _ _ e1),rfl,(by show 2≤sizeLine;decide),fun p2 H6 n6 s6 e6=>?_⟩
   exact Qhx (.tup (SqT.of (s6 _ _ e5)) (.cons (.str _) (.cons (XF (SqL.of (s6 _ _ (s5 _ _ eg)))) .nil))) (.tup (SqT.of e6) (.cons (.str _) (.cons (XF (SqL.of (s6 _ _ (s5 _ _ e3)))) .nil))) (Gm g0.1.f g0.1.m) (k H6 (k4.trans (KL.of (s5.trans s6))))
  obtain ⟨t8,h8,sp8⟩:∃t,PSs (UI CX0 P w K mg base Uu "_law_told" (Qe Jj) a.f_l_told cdv A outer st H E).nox ((QM Jj).drop 8) t ∧
   ∀(H1:Hp) (f fl Dm Dt:Addr) (fo:Str) (l1 l2 l3:List V) (o5 o6 o10:Option V),KL a H H1→H fl=none→H Dm=none→H Dt=none→fl≠Dm→fl≠Dt→Dm≠Dt→H1 f=some (.tup [.str fo,.ref fl])→H1 fl=some (.lst l1)→H1 Dm=some (.lst l2)→H1 Dt=some (.lst l3)→l1.length≤100→l2.length≤100→l3.length≤100 →
    t { nx:=fun _ H'=>Q .non H',rt:=Q } [some (.ref X),some (.ref D),some (.ref lc),some (.ref lm),some (.int tn),o5,o6,some (.ref f),some (.ref Dm),some (.ref Dt),o10] H1:=by
   refine ⟨_,(Qb (Qv (i:=10) J2.nd rfl (Or.inl rfl) (Z3 KN rfl T.b_list PyProof.Rows.boot_list (pac (Q7 Zs (pv 3) (Q6 Qa) Z7) Qf)))
    (Qb (Q9 (Yz (pv 0) T.c_Rules T.M_Rules_met G_Rules_met hr_Rules_met b_Rules_met .nil Qy (pac (Qn QA (pv 3) Qa (fun _ _=>rfl)) (pac (pv 10) Qf))))
    (Qb (Q9 (Yz (pv 0) T.c_Rules T.M_Rules_outcome G_Rules_outcome hr_Rules_outcome b_Rules_outcome .nil Qy (pac (Qn QA (pv 3) Qa (fun _ _=>rfl)) (pac (pv 10) Qf))))
    (Qb (QK (Qr (Kh hu64) (Ub (sc:=Qe Jj) (N:=Uu) (fr:=[]) ⟨rfl,rfl,by decide +kernel,by decide +kernel,by decide +kernel,by decide +kernel,by decide +kernel⟩ rfl rfl rfl (Zx (pv 10)) (fun _ _ _ _=>JS) (fun _ _ _ _=>(YZ (Qdg K (pv 0) rfl) T.c_Letter T.M_Letter_parts G_Letter_parts hr_Letter_parts b_Letter_parts .nil Qy))) (Ub (sc:=Qe Jj) (N:=Uu) (fr:=[]) ⟨rfl,rfl,by decide +kernel,by decide +kernel,by decide +kernel,by decide +kernel,by decide +kernel⟩ rfl rfl rfl (Zx (Q7 Zs (pv 3) (Q6 Qa) Z7)) (fun _ _ _ _=>JS) (fun _ _ _ _=>(YZ (Qdg K (pv 0) rfl) T.c_Letter T.M_Letter_parts G_Letter_parts hr_Letter_parts b_Letter_parts .nil Qy))) (Qz _)) (Qd (Qo Yu)) QB)
    h12)))),fun H1 f fl Dm Dt fo l1 l2 l3 o5 o6 o10 k1 nfl nDm nDt d1 d2 d3 ef efl eDm eDt b1 b2 b3=>?_⟩
   refine ⟨_,rfl,_,rfl,lm,_,rfl,SqL.of (k1.keep hin.m rfl),fun j1 H2 n2 s2 e2=>?_⟩
   rw [Qep] at e2
   refine ⟨j1,_,rfl,.inl (SqL.of e2),fun j2 H3 n3 s3 e3=>?_⟩
   have k3:KL a H H3:=k1.trans (KL.of (s2.trans s3))
   obtain ⟨dx,l,ex,_⟩:=hin.r.kl k3
   refine ⟨_,rfl,X,dx,_,rfl,ex,rfl,_,rfl,lm,_,_,_,rfl,rfl,SqL.of (k3.keep hin.m rfl),at0,_,rfl,X,m0,j2,rs',x0.2,mt,_,rfl,runin H3 j2 k3 e3,fun D4 H4 k4 n4 e4=>?_⟩
   have k04:=k3.trans k4
   obtain ⟨dx4,l4,ex4,_⟩:=hin.r.kl k04
   refine ⟨_,rfl,X,dx4,_,rfl,ex4,rfl,_,rfl,lm,_,_,_,rfl,rfl,SqL.of (k04.keep hin.m rfl),at0,_,rfl,X,m0,j2,rs',x0.2,mt,_,rfl,runin H4 j2 k04 (k4.keep e3 rfl),fun u5 l5 H5 k5 n5 n5' e5 e5'=>?_⟩
   have k05:=k04.trans k5
   have e3':=k5.keep (k4.keep e3 rfl) rfl
   have hct5:=hct.kl k05
   have nd:((xt.map (·.2)).map Qao).length=mt.length:=by rw [List.length_map,hct.len]
   have nm:mt.length≤1000:=by rw [hct.len,List.length_map];omega
   have each:∀(j:Nat) (y:V) (d:PyData) (H6:Hp) (Q':VK),mt[j]?=some y→((xt.map (·.2)).map Qao)[j]?=some d→Qm H5 H6→(∀y H7,Qm H6 H7→RNew K H6 H7 y d→Q' y H7)→∃z yl dz dy fo' g' f',y=.ref z∧H6 z=some (.ins a.C_Card dz (cfs yl fo' g'))∧H6 yl=some (.ins a.C_Letter dy f')∧f'.lookup ("parts":Str)=none∧WH a [.ref yl] H6 Q':=by
    intro j y d H6 Q' hj hdj s6 q
    obtain ⟨z,cz,rfl,ecz,hz⟩:=hct5.at j y hj
    rw [List.getElem?_map,ecz] at hdj
    cases hdj
    obtain ⟨gz,⟨dz,yl,ez,hy⟩,_⟩:=hz.kl (KL.of s6)
    obtain ⟨dy,ff,ey⟩:=hy.at
    refine ⟨z,yl,dz,dy,_,_,_,rfl,ez,ey,rfl,yl,_,_,_,_,_,rfl,hy,fun p np=>q _ _ (Qm.upd_new np) fun H'' kk=>?_⟩
    exact .tup (SqT.of (kk _ _ np Qh)) (.cons (.str _) (.cons (.str _) (.cons (.str _) (.cons (.int _) (.cons (.str _) .nil)))))
   refine ⟨_,rfl,j2,rfl,⟨_,SqL.of e3'⟩,QdB (ds:=(xt.map (·.2)).map Qao) (Nat.le_of_lt (Qj nm)) nd (SqL.of e3') (fun j y d H6 Q' hj hdj s6 q=>?_) fun D1 ys1 H6 nD1 s6 eD1 r1=>?_⟩
   ·obtain ⟨z,yl,dz,dy,fo',g',f',rfl,ez,ey,lk,sp⟩:=each j y d H6 Q' hj hdj s6 q
    exact ⟨_,rfl,z,_,dz,_,_,rfl,ez,T.c_Card,T.n_Card_letter,rfl,yl,dy,_,rfl,ey,lk,sp⟩
   refine ⟨_,rfl,_,rfl,lm,_,rfl,SqL.of (s6 _ _ (k05.keep hin.m rfl)),fun j3 H7 n7 s7 e7=>?_⟩
   rw [Qep] at e7
   refine ⟨j3,rfl,⟨_,SqL.of e7⟩,QdB (ds:=(xt.map (·.2)).map Qao) (Nat.le_of_lt (Qj nm)) nd (SqL.of e7) (fun j y d H8 Q' hj hdj s8 q=>?_) fun D2 ys2 H8 nD2 s8 eD2 r2=>?_⟩
   ·obtain ⟨z,yl,dz,dy,fo',g',f',rfl,ez,ey,lk,sp⟩:=each j y d H8 Q' hj hdj ((s6.trans s7).trans s8) q
    exact ⟨_,rfl,z,_,dz,_,_,rfl,ez,T.c_Card,T.n_Card_letter,rfl,yl,dy,_,rfl,ey,lk,sp⟩
   have s78:=s7.trans s8
   refine Wj (.lst (SqL.of (s78 _ _ eD1)) (RDs.mono s78 r1)) (.lst (SqL.of eD2) r2) (Qcr gt) ⟨_,rfl,QU ?_⟩
   have k18:KL a H1 H8:=(((KL.of (s2.trans s3)).trans k4).trans k5).trans (KL.of (s6.trans s78))
   exact sp12 H8 f fl Dm Dt fo l1 l2 l3 o5 o6 _ (k1.trans k18) nfl nDm nDt d1 d2 d3 (k18.keep ef rfl) (k18.keep efl rfl) (k18.keep eDm rfl) (k18.keep eDt rfl) b1 b2 b3
  obtain ⟨t2,h2,sp2⟩:∃t,PSs (UI CX0 P w K mg base Uu "_law_told" (Qe Jj) a.f_l_told cdv A outer st H E).nox ((QM Jj).drop 2) t ∧
   ∀(H1:Hp) (u Pl:Addr) (o10:Option V),KL a H H1→Y8 H1 u R.1→H1 Pl=some (.lst (R.2.map fun i:Nat=>V.int (i:Int))) →
    t { nx:=fun _ H'=>Q .non H',rt:=Q } [some (.ref X),some (.ref D),some (.ref lc),some (.ref lm),some (.int tn),some (.ref u),some (.ref Pl),none,none,none,o10] H1:=by
   refine ⟨_,(Qb (Qv (i:=7) J2.nd rfl (Or.inl rfl) (Yz (pv 0) T.c_Rules T.M_Rules_outcome G_Rules_outcome hr_Rules_outcome b_Rules_outcome .nil Qy (pac (Qn QA (pv 3) Qa (fun _ _=>rfl)) (pac (Q7 Zs (pv 3) (Q6 Qa) Z7) Qf))))
    (Qb (QK (PW.pt (Wf (YX (Js (QO Zn rfl T.b_isinstance PyProof.Rows.boot_isinstance (pac (pv 7) (pac (Yi (v:=.ty "tuple") rfl T.b_tuple PyProof.Rows.boot_tuple rfl) Qf))))) (Wf (Qr Gu (QO Zk rfl T.b_len PySem.boot_len (pac (pv 7) Qf)) Qa (Qz _)) (VP (Qr (Kh hu64) (pv 7) (QV (Qc (Qn Qs (pv 5) Qa (fun _ _=>rfl)) (Qc (Qn Qs (pv 5) Qa (fun _ _=>rfl)) Qq))) (Qz _)))))) (Qd (Qo Yu)) QB)
    (Qb (Qv (i:=8) J2.nd rfl (Or.inl rfl) (Yz (pv 0) T.c_Rules T.M_Rules_met G_Rules_met hr_Rules_met b_Rules_met .nil Qy (pac (Qn QA (pv 3) Qa (fun _ _=>rfl)) (pac (Q7 Zs (pv 3) (Q6 Qa) Z7) Qf))))
    (Qb (QK (PW.pt (Wf (YX (Js (QO Zn rfl T.b_isinstance PyProof.Rows.boot_isinstance (pac (pv 8) (pac (Yi (v:=.ty "list") rfl T.b_list PyProof.Rows.boot_list rfl) Qf))))) (Wf (Qr (Kh hu64) (pv 8) (pv 6) (Qz _)) (VP (YX (Js (QO Zn rfl T.b_isinstance PyProof.Rows.boot_isinstance (pac (Qn Qs (pv 7) Qa (fun _ _=>rfl)) (pac (Yi (v:=.ty "list") rfl T.b_list PyProof.Rows.boot_list rfl) Qf))))))))) (Qd (Qo Yu)) QB)
    (Qb (Qv (i:=9) J2.nd rfl (Or.inl rfl) (YZ (pv 0) T.c_Rules T.M_Rules_rows G_Rules_rows hr_Rules_rows b_Rules_rows .nil Qy))
    (Qb (QK (PW.pt (Wf (YX (Js (QO Zn rfl T.b_isinstance PyProof.Rows.boot_isinstance (pac (pv 9) (pac (Yi (v:=.ty "list") rfl T.b_list PyProof.Rows.boot_list rfl) Qf))))) (VP (Qr (Kh hu64) (pv 9) (pv 1) (Qz _))))) (Qd (Qo Yu)) QB)
    h8)))))),fun H1 u Pl o10 k1 hu hP=>?_⟩
   obtain ⟨dx,l,ex,_⟩:=hin.r.kl k1
   refine ⟨_,rfl,X,dx,_,rfl,ex,rfl,_,rfl,lm,_,_,_,rfl,rfl,SqL.of (k1.keep hin.m rfl),at0,_,rfl,_,rfl,lm,_,rfl,SqL.of (k1.keep hin.m rfl),fun j1 H2 n2 s2 e2=>?_⟩
   rw [Qep] at e2
   have k2:KL a H H2:=k1.trans (KL.of s2)
   refine ⟨X,m0,j1,rs',x0.2,mt,_,rfl,runin H2 j1 k2 e2,fun f fl H3 k3 nf nfl ef efl=>?_⟩
   rw [eR] at ef efl
   have k03:=k2.trans k3
   have hu3:=(hu.mono s2).kl k3
   obtain ⟨q,m,e1,e2',e3⟩:=hu3
   refine ⟨_,rfl,_,_,_,_,_,rfl,rfl,Yp.tup ef,QhY,_,rfl,QU ?_⟩
   refine ⟨_,rfl,f,_,rfl,.inr (SqT.of ef),rfl,_,rfl,len2 ?_⟩
   refine ⟨_,rfl,_,rfl,u,_,_,_,rfl,rfl,SqT.of e1,rfl,_,rfl,u,_,_,_,rfl,rfl,SqT.of e1,rfl,(by show 2≤sizeLine;decide),fun p4 H4 n4 s4 e4=>?_⟩
   refine Wj (.tup (SqT.of (s4 _ _ ef)) (.cons (.str _) (.cons (XF (SqL.of (s4 _ _ efl))) .nil))) (.tup (SqT.of e4) (.cons (.str _) (.cons (XF (SqL.of (s4 _ _ e3))) .nil))) (Gm gR.f gR.m) ⟨_,rfl,QU ?_⟩
   have k04:KL a H H4:=k03.trans (KL.of s4)
   obtain ⟨dx4,l4,ex4,_⟩:=hin.r.kl k04
   refine ⟨_,rfl,X,dx4,_,rfl,ex4,rfl,_,rfl,lm,_,_,_,rfl,rfl,SqL.of (k04.keep hin.m rfl),at0,_,rfl,_,rfl,lm,_,rfl,SqL.of (k04.keep hin.m rfl),fun j5 H5 n5 s5 e5=>?_⟩
   rw [Qep] at e5
   have k05:KL a H H5:=k04.trans (KL.of s5)
   refine ⟨X,m0,j5,rs',x0.2,mt,_,rfl,runin H5 j5 k05 e5,fun Dm H6 k6 nDm eDm=>?_⟩
   rw [eR] at eDm
   have k06:=k05.trans k6
   have k26:KL a H2 H6:=(k3.trans (KL.of (s4.trans s5))).trans k6
   have k36:KL a H3 H6:=(KL.of (s4.trans s5)).trans k6
   have efl6:=k36.keep efl rfl
   have ef6:=k36.keep ef rfl
   have hP6:=(KL.of s2 |>.trans k26).keep hP rfl
   have flDm:fl≠Dm:=fun z=>by rw [←z,(s4.trans s5) _ _ efl] at nDm;cases nDm
   refine ⟨_,rfl,_,_,_,_,_,rfl,rfl,Yp.lst eDm,Qgf,_,rfl,QU ?_⟩
   refine ⟨_,rfl,_,rfl,Wj (.lst (SqL.of eDm) (U3 _)) (.lst (SqL.of hP6) (U3 _)) (W8 _) ⟨_,rfl,QU ?_⟩⟩
   refine ⟨_,rfl,f,_,_,_,rfl,rfl,SqT.of ef6,rfl,_,_,_,_,_,rfl,rfl,Yp.lst efl6,Qgf,_,rfl,QU ?_⟩
   obtain ⟨dx6,l6,ex6,_⟩:=hin.r.kl k06
   refine ⟨_,rfl,X,dx6,_,rfl,ex6,rfl,X,rs',rfl,hin.r.kl k06,fun Dt ys H7 s7 nDt eDt rds=>?_⟩
   have k07:KL a H H7:=k06.trans (KL.of s7)
   have flDt:fl≠Dt:=fun z=>by rw [←z,efl6] at nDt;cases nDt
   have DmDt:Dm≠Dt:=fun z=>by rw [←z,eDm] at nDt;cases nDt
   have hlr7:∀r∈rs,Uj H7 r:=fun r hr'=>(hin.lr r hr').kl k07
   rw [←Qck hin.e] at rds
   have hyl:=rds.len
   rw [List.length_map] at hyl
   refine ⟨_,rfl,_,_,_,_,_,rfl,rfl,Yp.lst eDt,Qgf,_,rfl,QU ?_⟩
   refine ⟨_,rfl,_,rfl,Wj (.lst (SqL.of eDt) rds) (.lst (SqL.of (k07.keep hin.d rfl)) (QbD hlr7)) (Qaw hlr7) ⟨_,rfl,QU ?_⟩⟩
   have gRl:=gR.l
   exact sp8 H7 f fl Dm Dt _ _ _ ys _ _ _ k07 (k2.free nfl) (k05.free nDm) (k06.free nDt) flDm flDt DmDt (s7 _ _ ef6) (s7 _ _ efl6) (s7 _ _ eDm) eDt (by rw [List.length_map];omega) (by rw [List.length_map];omega) (by omega)
  refine ⟨_,(Qb (Qcm (Qx G_l_run hr_l_run rfl T.m_l_run F_l_run.kp b_l_run .nil Qy (pac (pv 1) (pac (Qn QA (pv 2) Qa (fun _ _=>rfl)) (pac (Q7 Zs (pv 2) (Q6 Qa) Z7) Qf)))) (WQ rfl (Zy (QR (i:=5) J2.nd rfl (Or.inl rfl)) (Zy (QR (i:=6) J2.nd rfl (Or.inl rfl)) Vr))))
   (Qb (QK (PW.pt (Ka (Qr QZ (Ql QP (pv 4) Qa) Qa (Qz _)) (XG (Qr (Kh hu64) (Yz (pv 0) T.c_Rules T.M_Rules_met G_Rules_met hr_Rules_met b_Rules_met .nil Qy (pac (Qn QA (pv 3) Qa (fun _ _=>rfl)) (pac (Q7 Zs (pv 3) (Q6 Qa) Z7) Qf))) (pv 6) (Qz _))))) (Qd (Qo Yu)) QB)
   h2)),?_⟩
  refine ⟨_,rfl,_,rfl,lc,_,_,_,rfl,rfl,SqL.of hin.c,at0,_,rfl,_,rfl,lc,_,rfl,SqL.of hin.c,fun j1 H1 n1 s1 e1=>?_⟩
  rw [List.map_cons,Qep] at e1
  refine ⟨D,x0.1,j1,rs,x0.2,xt,rfl,s1 _ _ hin.d,(fun r hr'=>(hin.lr r hr').mono s1),by omega,(hin.ct x0 List.mem_cons_self).mono s1,g0.1,g0.2.1,by omega,e1,(fun x hx=>⟨(hin.ct x (List.mem_cons_of_mem _ hx)).mono s1,(hin.g x (List.mem_cons_of_mem _ hx)).1⟩),by omega,fun z u Pl H2 s2 ez hu hP=>?_⟩
  rw [hRd] at hu hP
  have k2:KL a H H2:=KL.of (s1.trans s2)
  refine ⟨z,_,rfl,SqT.of ez,rfl,_,_,rfl,_,_,rfl,rfl,?_⟩
  refine ⟨_,rfl,_,_,rfl,rfl,(by show (0:Int)<2;decide),rfl,_,rfl,?_⟩
  rw [KD]
  cases decide (tn % 2=1)
  ·exact QU (QU (sp2 H2 u Pl _ k2 hu hP))
  ·obtain ⟨dx,l,ex,_⟩:=hin.r.kl k2
   refine Zc ⟨_,rfl,X,dx,_,rfl,ex,rfl,_,rfl,lm,_,_,_,rfl,rfl,SqL.of (k2.keep hin.m rfl),at0,_,rfl,_,rfl,lm,_,rfl,SqL.of (k2.keep hin.m rfl),fun j3 H3 n3 s3 e3=>?_⟩
   rw [Qep] at e3
   have k3:KL a H H3:=k2.trans (KL.of s3)
   refine ⟨X,m0,j3,rs',x0.2,mt,_,rfl,runin H3 j3 k3 e3,fun Dm H4 k4 nDm eDm=>?_⟩
   rw [eR] at eDm
   have k24:KL a H2 H4:=(KL.of s3).trans k4
   refine ⟨_,rfl,Wj (.lst (SqL.of eDm) (U3 _)) (.lst (SqL.of (k24.keep hP rfl)) (U3 _)) (W8 _) ⟨_,rfl,QU (sp2 H4 u Pl _ (k2.trans k24) (hu.kl k24) (k24.keep hP rfl))⟩⟩
end
theorem Qa3 {rs rs':List RW} (h:rs.map rdt=rs'.map rdt):Je rs=Je rs':=by
 have e:(fun r:RW=>Qah r.t (r.as.map (·.2)))=(fun x:Tr×List Act=>Qah x.1 x.2)∘rdt:=rfl
 unfold Je
 rw [e,←List.map_map,←List.map_map,h]
theorem QbE {H:Hp} {r:RW} (h:Uj H r):(wr r.t).length≤24064∧(WC (r.as.map (·.2))).length≤1000∧(((r.as.map (·.2)).map Ys).map (·.length)).sum+((r.as.map (·.2)).map Ys).length*(", ":Str).length≤1000:=by
 have hd:=h.d
 have hs:(((r.as.map (·.2)).map Ys).map (·.length)).sum≤27*((r.as.map (·.2)).map Ys).length:=XO fun y hy=>by
  obtain ⟨z,hz,rfl⟩:=List.mem_map.mp hy
  obtain ⟨y',hy',rfl⟩:=List.mem_map.mp hz
  exact KR (h.as y' hy').2
 have hl:((r.as.map (·.2)).map Ys).length≤4:=by rw [List.length_map,List.length_map];exact h.n
 have q2:(", ":Str).length=2:=by decide +kernel
 have hj:=W2 (s:=", ") ((r.as.map (·.2)).map Ys)
 rw [q2] at hj ⊢
 exact ⟨h.c.small (by omega),by show (PySem.Txt.join ", " ((r.as.map (·.2)).map Ys)).length≤1000;omega,by omega⟩
inductive QeR (vs:List V) (H:Hp) (Q:VK):Prop
 | mk:∀D (rs:List RW),vs=[.ref D]→H D=some (.lst (rs.map fun r=>V.ref r.r))→(∀r∈rs,Uj H r)→rs.length≤10→(∀H',Qm H H'→Q (.str (PySem.Txt.join "\n" (Je rs))) H')→QeR vs H Q
def spTx:Sp:=fun vs H Q _=>QeR vs H Q
section
variable {P : Program} {w : World} {K : PySem.W.Frag} {mg : Str → Option Value} {base : Heap} {a : Adr}
theorem ok_tx {fd:FuncData} (F:Fun K "_law_text" "_law_text" Vo a.f_l_text fd) (T:Txt K mg a) (FF:Z1 K a):Qw P w K mg base CX0 12 a.f_l_text fd ["_law_rows"] spTx:=by
 obtain ⟨fd1,F_l_written,b_l_written⟩:=FF.F_l_written
 have G_l_written:Qw P w K mg base CX0 11 a.f_l_written fd1 ["_law_tree"] (spLW 10):=QhU F_l_written b_l_written T 10
 refine F.ok Vp (fun vs H Q E h=>?_) (fun cdv A outer st H vs Q E hr h=>?_)
 ·obtain ⟨D,rs,rfl,_⟩:=h;rfl
 ·obtain ⟨D,rs,rfl,hD,hrs,hrn,k⟩:=h
  have hr_l_written:QG 11 _:=hr
  refine ⟨_,(Qb (Qv (i:=1) Vp.nd rfl (Or.inl rfl) (Q0 Qq))
   (Qb (Z5 PassesOwn.never rfl (Zx (pv 0)) (WQ rfl (Zy (QR (i:=2) Vp.nd rfl (Or.inl rfl)) (Zy (QR (i:=3) Vp.nd rfl (Or.inl rfl)) Vr))) (Qd (Q9 (Z8 PySem.F.plainAttrs_list PySem.F.slot_list_append PySem.F.type_list_append Q3 (pv 1) (pac (Ql QH (Ql QH (Ql QH Qi (Qx G_l_written hr_l_written rfl T.m_l_written F_l_written.kp b_l_written .nil Qy (pac (pv 2) Qf))) Qi) (Z8 PySem.F.plainAttrs_str PySem.F.slot_str_join PySem.F.type_str_join Wp Qi (pac (Ub (sc:=Qe Vo) (N:=Qbo) (fr:=[]) ⟨rfl,rfl,by decide +kernel,by decide +kernel,by decide +kernel,by decide +kernel,by decide +kernel⟩ rfl rfl rfl (Kc (pv 3)) (fun _ _ _ _=>JS) (fun _ _ _ _=>(QfG K PySem.F.plainAttrs_str PySem.F.slot_str_join PySem.F.type_str_join (GE K) Qi (pac (pv 0) Qf)))) Qf))) Qf)))))
   (Qd (Qo (Z8 PySem.F.plainAttrs_str PySem.F.slot_str_join PySem.F.type_str_join Wp Qi (pac (pv 1) Qf)))))),?_⟩
  refine ⟨(by show 0≤sizeLine;decide),fun L H1 nL s1 eL1=>?_⟩
  refine ⟨_,rfl,D,rfl,⟨_,SqL.of (s1 _ _ hD)⟩,Uw (K:=K) (a:=D) (xs:=rs.map fun r=>V.ref r.r) (fun i σ H2=>∃(o2 o3:Option V),σ=[some (.ref D),some (.ref L),o2,o3]∧Qm H H2∧H2 L=some (.lst (((Je rs).take i).map V.str)))
   ⟨none,none,rfl,s1,eL1⟩ (fun i σ H2 _ ⟨_,_,_,s2,_⟩=>SqL.of (s2 _ _ hD)) ?_ ?_⟩
  ·rintro i v σ H2 hi ⟨o2,o3,rfl,s2,eL⟩
   rw [List.getElem?_map] at hi
   cases er:rs[i]? with
   | none=>rw [er] at hi;cases hi
   | some r =>
     rw [er] at hi
     cases hi
     have hil:i<rs.length:=(List.getElem?_eq_some_iff.mp er).1
     have hrow:=(hrs r (List.mem_of_getElem? er)).mono s2
     have hln:=QbE hrow
     have q3:("if ":Str).length=3:=by decide +kernel
     have q4:(" then ":Str).length=6:=by decide +kernel
     have hd:=hrow.d
     refine ⟨r.r,_,rfl,SqT.of hrow.e,rfl,_,_,rfl,_,_,rfl,rfl,?_⟩
     refine ⟨_,rfl,.inl ⟨rfl,_,SqL.of eL⟩,_,rfl,r.cnd,r.t,rfl,hrow.c,by omega,by omega,_,_,rfl,rfl,ZF (by rw [q3];omega),_,_,rfl,rfl,ZF (by rw [Qg,q3,q4];omega),rfl,_,rfl,r.q,rfl,⟨_,SqT.of hrow.q⟩,GT (fun y:Addr×Act=>V.ref y.1) (fun y=>V.str (Ys y.2)) (Nat.le_of_lt (Qj (by have:=hrow.n;omega))) (SqT.of hrow.q) (fun y H3 Q' hy s3 kq=>?_) fun D3 H3 nD3 s3 eD3=>?_⟩
     ·have hA:=(hrow.as y hy).mono s3
      exact ⟨rfl,_,rfl,_,y.1,Uy y.2,rfl,rfl,SqT.of hA.1,Qb1 hA.2,kq H3 (Qm.refl H3)⟩
     ·have eD3':H3 D3=some (.lst (((r.as.map (·.2)).map Ys).map V.str)):=by rw [eD3,List.map_map,List.map_map];rfl
      have eL3:=s3 _ _ eL
      refine ⟨", ",D3,(r.as.map (·.2)).map Ys,rfl,rfl,SqL.of eD3',by have:=hln.2.2;omega,_,_,rfl,rfl,ZF ?_,L,_,_,rfl,rfl,eL3,(by rw [List.length_map,List.length_take];exact Qj (by omega)),?_⟩
      ·show ((("if ":Str)++wr r.t)++" then ").length+(WC (r.as.map (·.2))).length≤100000
       rw [Qg,Qg,q3,q4];omega
      ·refine ⟨_,_,rfl,(s2.trans s3).upd_of nL,?_⟩
       rw [Qh,List.take_add_one,show (Je rs)[i]?=some (Qah r.t (r.as.map (·.2))) by unfold Je;rw [List.getElem?_map,er];rfl,List.map_append]
       have e0:Qah r.t (r.as.map (·.2))=((("if ":Str)++wr r.t)++" then ")++WC (r.as.map (·.2)):=by unfold Qah;rw [XB]
       rw [e0]
       rfl
  ·rintro σ H2 ⟨o2,o3,rfl,s2,eL⟩
   rw [List.take_of_length_le (by unfold Je;rw [List.length_map,List.length_map];exact Nat.le_refl _)] at eL
   have hl:(Je rs).length≤10:=by unfold Je;rw [List.length_map];exact hrn
   have hs:((Je rs).map (·.length)).sum≤40000*(Je rs).length:=XO fun y hy=>by
    obtain ⟨r,hr',rfl⟩:=List.mem_map.mp hy
    have hln:=QbE (hrs r hr')
    have q3:("if ":Str).length=3:=by decide +kernel
    have q4:(" then ":Str).length=6:=by decide +kernel
    have e0:Str.empty.length=0:=rfl
    show ((((Str.empty++"if ")++wr r.t)++" then ")++WC (r.as.map (·.2))).length≤40000
    rw [Qg,Qg,Qg,Qg,e0,q3,q4]
    omega
   have q1:("\n":Str).length=1:=by decide +kernel
   exact ⟨rfl,_,rfl,"\n",L,Je rs,rfl,rfl,SqL.of eL,(by rw [q1];omega),k H2 s2⟩
end
theorem QbR {lo:Int} {n:Nat} {fr:List (Nat×Str)} {te:TE} {σ:St} {H1:Hp} {Q:VK} (Pv:Addr→Nat→List V→Hp→Prop) (hz:n≤sizeLine) (h0:∀D,H1 D=none→Pv D 0 [] (upd H1 D (.lst []))) (hlen:∀D i ys H,Pv D i ys H→ys.length=i)
 (hte:∀(D:Addr) (i:Nat) (ys:List V) (H3:Hp) (Q':VK),i<n→H1 D=none→Pv D i ys H3→H3 D=some (.lst ys)→(∀y H5,H5 D=some (.lst ys)→Pv D (i+1) (ys++[y]) (upd H5 D (.lst (ys++[y])))→Q' y H5)→te (some (.int (lo+i)) :: frV σ fr) H3 Q')
 (hQ:∀D ys H2,H1 D=none→Pv D n ys H2→H2 D=some (.lst ys)→Q (.ref D) H2) :
 Jg (Itr lo n) fr W7 te σ H1 Q:=by
 unfold Jg
 intro D hD
 refine ⟨fun i m ys H2=>m=n - i∧i≤n∧Pv D i ys H2∧H2 D=some (.lst ys),⟨n,by simp,Nat.zero_le _,h0 D hD,Qh⟩,?_⟩
 rintro i m ys H2 ⟨rfl,hi,p,d2⟩
 refine ⟨d2,?_⟩
 by_cases hlt:i<n
 ·refine .inr ⟨hlt,?_⟩
  rintro v H3 ⟨rfl,rfl⟩
  refine UT (Zc ?_)
  refine hte D i ys _ _ hlt hD p d2 fun y H5 d5 p'=>⟨d5,?_,n - (i+1),by omega,rfl,hlt,p',Qh⟩
  rw [hlen D i ys _ p];omega
 ·have e:i=n:=by omega
  subst e
  exact .inl ⟨Nat.le_refl _,hQ D ys H2 hD p d2⟩
def CTD (D:Addr) (H:Hp) (u:Addr) (c:CD):Prop:=∀H'',(∀x o,x≠D→H x=some o→H'' x=some o)→Y8 H'' u c
theorem CTD.next {D u:Addr} {H H' H2:Hp} {c:CD} (h:CTD D H u c) (s:Qm H H') (k:∀x o,x≠D→H' x=some o→H2 x=some o):CTD D H2 u c:=fun H'' kk=>h H'' fun x o n e=>kk x o n (k x o n (s _ _ e))
inductive Xz (a:Adr) (D:Addr) (H:Hp):List V→List CD→Prop
 | nil:Xz a D H [] []
 | cons {x:Addr} {c:CD} {xs:List V} {cs:List CD}:CaD a D H x c→Xz a D H xs cs→Xz a D H (.ref x :: xs) (c :: cs)
theorem Xz.next {a:Adr} {D:Addr} {H H':Hp} {xs:List V} {cs:List CD} {l l':List V} (h:Xz a D H xs cs) (s:Qm H H') (e:H' D=some (.lst l)):Xz a D (upd H' D (.lst l')) xs cs:=by
 induction h with
 | nil=>exact .nil
 | cons h _ ih =>
   obtain ⟨g,ng,hc⟩:=h
   exact .cons ⟨g,ng,(hc.mono s).list e ng⟩ ih
theorem Xz.snoc {a:Adr} {D x:Addr} {H:Hp} {xs:List V} {cs:List CD} {c:CD} (h:Xz a D H xs cs) (hc:CaD a D H x c):Xz a D H (xs++[.ref x]) (cs++[c]):=by
 induction h with
 | nil=>exact .cons hc .nil
 | cons h _ ih=>exact .cons h ih
theorem Xz.at {a:Adr} {D:Addr} {H:Hp} {xs:List V} {cs:List CD} (h:Xz a D H xs cs):Zl a H xs cs:=by
 induction h with
 | nil=>exact .nil
 | cons h _ ih =>
   obtain ⟨g,_,hc⟩:=h
   exact .cons ⟨g,hc⟩ ih
inductive Qe0 (a:Adr) (vs:List V) (H:Hp) (Q:VK):Prop
 | mk:∀u c,vs=[.ref u]→Y8 H u c→ZC c→SS c.ms=c.ms→(∀x g H',H x=none→H g=none→Qm H H'→Yh a H' x g c.s c.t c.b c.d c.an c.fo c.ms→Q (.ref x) H')→Qe0 a vs H Q
def spMd (a:Adr):Sp:=fun vs H Q _=>Qe0 a vs H Q
def spLaw (K:PySem.W.Frag):Sp:=fun vs H Q _=>∃(p:Addr) (ns:List Int),vs=[.ref p]∧SqL K H p (ns.map V.int)∧ns.length≤63∧∀H',Q (.bl true) H'
theorem GS {cs:List Int} {lo hi:Int} (h0:0≤lo) (h1:lo≤hi) (h2:hi≤(cs.length:Int)):∃cs':List Int,Yo (cs.map V.int) (some lo) (some hi)=cs'.map V.int∧(∀c∈cs',c∈cs)∧(cs'.length:Int)=hi - lo:=by
 refine ⟨(cs.drop lo.toNat).take (hi.toNat - lo.toNat),Qhy V.int cs lo hi h0 h1,fun c hc=>List.mem_of_mem_drop (List.mem_of_mem_take hc),?_⟩
 rw [List.length_take,List.length_drop]
 omega
section
variable {P : Program} {w : World} {K : PySem.W.Frag} {mg : Str → Option Value} {base : Heap} {a : Adr}
theorem ok_md {fd:FuncData} (F:Fun K "_law_made" "_law_made" V5 a.f_l_made fd) (T:Txt K mg a) (FF:Z1 K a):Qw P w K mg base CX0 10 a.f_l_made fd ["_law_card"] (spMd a):=by
 obtain ⟨fdA,F_init,b_Card_init,_⟩:=FF.F_Card_init
 have G_Card_init:Qw P w K mg base CX0 8 a.f_Card_init fdA ["self","letter","folder","marks"] (XD a):=Qbf F_init T FF
 obtain ⟨fdL,F_l_letter,b_l_letter⟩:=FF.F_l_letter
 have G_l_letter:Qw P w K mg base CX0 7 a.f_l_letter fdL ["_law_parts"] (QhP a):=QdT F_l_letter T FF
 refine F.ok QdN (fun vs H Q E h=>?_) (fun cdv A outer st H vs Q E hr h=>?_)
 ·obtain ⟨u,c,rfl,_⟩:=h;rfl
 ·obtain ⟨u,c,rfl,⟨q,m,e1,e2,e3⟩,g,hS,k⟩:=h
  have hr_Card_mk:QG 9 _:=hr
  have hr_l_letter:QG 7 _:=hr_Card_mk.mono (by decide)
  refine ⟨_,(Qd (Qo (ZA T.k_Card G_Card_init hr_Card_mk rfl T.mc_Card b_Card_init .nil Qy (pac (Qx G_l_letter hr_l_letter rfl T.m_l_letter F_l_letter.kp b_l_letter .nil Qy (pac (Qn Qs (pv 0) Qa (fun _ _=>rfl)) Qf)) (pac (Qn Qs (pv 0) Qa (fun _ _=>rfl)) (pac (Qn Qs (pv 0) Qa (fun _ _=>rfl)) Qf)))))),?_⟩
  refine ⟨_,rfl,u,_,_,_,rfl,rfl,SqT.of e1,rfl,q,_,_,_,_,_,rfl,e2,g.g,fun x H1 nx s1 hx=>?_⟩
  have e1':=s1 _ _ e1
  refine ⟨_,rfl,u,_,_,_,rfl,rfl,SqT.of e1',rfl,_,rfl,u,_,_,_,rfl,rfl,SqT.of e1',rfl,fun y dy ny nd ne=>Qbj (ss:=c.ms) ny nd ne hx g.g (.inr ⟨m,rfl,.inl (s1 _ _ e3)⟩) (by have:=g.l;omega) fun H' gg s2 ng hc=>⟨rfl,k y gg H' (s1.free ny) (s1.free ng) (s1.trans s2) (by rw [hS] at hc;exact hc)⟩⟩
end
theorem Qa7 {X:Cx} {x y z:Str} {px py pt pz spos:Pos} {kt i:Nat} {iter elt:Expr} {scope sc:Scope} {pos:Pos} {N:List Str} {fr:List (Nat×Str)} {wi:TI} {te:TE}
 (S:V0 sc scope N x y fr) (hsc:X.env.scope=sc) (hN:X.N=N) (hc:X.calm=true) (hnd:X.N.Nodup) (hiz:X.N[i]?=some z) (hz:X.env.scope.names.lookup z=some .local) (hi:PI X (.Tuple [.Name x px,.Name y py] kt pt) iter wi)
 (he:∀(C:Addr) (s:Shared) (H:Hp) (fp:List Addr),PE (Z6 X scope C (x :: y :: fr.map (·.2)) s H fp) elt te)
 (hs:∀z,foldedSetIterable iter X.env z=pure z:=by intro _;rfl)
 (hsw:swapsWith (.ListComp elt [⟨.Tuple [.Name x px,.Name y py] kt pt,iter,[],0⟩] scope pos) (some (.Name z pz)) spos.line X.env=pure true:=by rfl) :
 PS X (.Assign [.Name z pz] (.ListComp elt [⟨.Tuple [.Name x px,.Name y py] kt pt,iter,[],0⟩] scope pos) spos) (QeN (Qcb X.K wi fr te) (Wr i)):=by
 intro pins s σ H D0 I h
 rw [exec_Assign_Name_used _ _ _ _ hsw]
 refine wpAny_bind (wpAny_standAt (wpAny_bind ?_))
 show wpAny _ X.A (do let _ ←comprehension (.ListComp elt [⟨.Tuple [.Name x px,.Name y py] kt pt,iter,[],0⟩] scope pos) scope X.env _ (newList []) false (eval iter X.env) (some (assign (.Name z pz) X.env))) _ _ s
 refine wpAny_bind (thn (GU (use:=some (assign (.Name z pz) X.env)) (Q':=fun _ s'=>SP X pins D0 .next s') S hsc hN hc hi he hs I h fun D C H' s' m J hn fc q=>?_) fun _ s' hq=>wpAny_pure (wpAny_pure hq))
 show wpAny _ _ (assign (.Name z pz) X.env (.ref D)) _ _ s'
 refine wpAny_assign_Name (WG J hnd hiz (.inl hz) (v:=.ref D) rfl (fun s5 J5 hs5=>?_) (.inr hz))
 obtain ⟨a,sb,ha⟩:=hs5
 have hCa:C≠a:=by
  rcases ha with z | z
  ·rw [z];exact fc.hL
  ·exact Ne.symm (fc.h2 _ _ z)
 refine ⟨m,hn.sameBut sb hCa,fun h' hs'=>⟨_,H',J5.turned (t':=s5.toks) (fun b o hb e=>(hs'.2 b hb).trans e) fc.hn fc.hL fc.h1 fc.h2 fc.h3,q⟩⟩
def Y6 (a:Adr) (H:Hp) (x l:Addr) (rs:List RW):Prop:=(∃dx,H x=some (.ins a.C_Rules dx [("kept",.ref l)]))∧H l=some (.lst (rs.map fun r=>V.ref r.r))∧(∀r∈rs,JX a H r)∧rs.length≤10
theorem Y6.at {a:Adr} {H:Hp} {x l:Addr} {rs:List RW} (h:Y6 a H x l rs):YB a H x rs:=let ⟨⟨dx,e⟩,el,hr,n⟩:=h;⟨dx,l,e,el,hr,n⟩
theorem Y6.kl {a:Adr} {H H':Hp} {x l:Addr} {rs:List RW} (h:Y6 a H x l rs) (k:KL a H H'):Y6 a H' x l rs:=let ⟨⟨dx,e⟩,el,hr,n⟩:=h;⟨⟨dx,k.inst e rfl⟩,k.keep el rfl,fun r hr'=>(hr r hr').kl k,n⟩
theorem Y6.list {a:Adr} {H:Hp} {x l d:Addr} {rs:List RW} {xs ys:List V} (h:Y6 a H x l rs) (e:H d=some (.lst xs)) (n:l≠d):Y6 a (upd H d (.lst ys)) x l rs :=
 let ⟨⟨dx,ex⟩,el,hr,hn⟩:=h
 ⟨⟨dx,by rw [Qk (Zq ex e (fun z=>nomatch z))];exact ex⟩,by rw [Qk n];exact el,fun r hr'=>(hr r hr').list e,hn⟩
theorem Y7.list {a:Adr} {H:Hp} {r:RW} {l:Addr} {xs ys:List V} (h:Y7 a H r) (e:H l=some (.lst xs)) (n:r.q≠l):Y7 a (upd H l (.lst ys)) r :=
 have kt:∀c xs',H c=some (.tup xs')→(upd H l (.lst ys)) c=some (.tup xs'):=fun c xs' e'=>by rw [Qk (Zq e' e (fun z=>nomatch z))];exact e'
 ⟨kt _ _ h.e,h.c.ti kt (fun c D d f fs e'=>by rw [Qk (Zq e' e (fun z=>nomatch z))];exact e'),h.d,by rw [Qk n];exact h.q,fun y hy=>⟨kt _ _ (h.as y hy).1,(h.as y hy).2⟩,h.n⟩
theorem QdY {a:Adr} {hs:List RW} {H:Hp} {R:VK} {E:XK} {x dx L:Addr} (hx:H x=none) (hd:H dx=none) (ne:dx≠x) (eL:H L=some (.lst (hs.map fun r=>V.ref r.r))) (hh:∀r∈hs,Y7 a H r) (hn:hs.length≤10)
 (k:∀H' (rs:List RW) l,Qm H H'→H l=none→Y6 a H' x l rs→rs.map rdt=hs.map rdt→R .non H'):spRI a [.ref x,.ref L] (upd (upd H dx (.own x)) x (.ins a.C_Rules dx [])) R E:=by
 have sm:Qm H (upd (upd H dx (.own x)) x (.ins a.C_Rules dx [])):=fun c o e=>by rw [Qk (Qu e hx),Qk (Qu e hd)];exact e
 refine ⟨x,dx,L,hs,rfl,Qh,sm _ _ eL,(fun r hr=>(hh r hr).kl (KL.of sm)),hn,fun H' rs l hk nl ex el hrs e=>k H' rs l (fun c o e=>hk c o (Qu e hx) (sm _ _ e)) (sm.free nl) ⟨⟨dx,ex⟩,el,hrs,?_⟩ e⟩
 have:=congrArg List.length e
 rw [List.length_map,List.length_map] at this
 omega
section
variable {P : Program} {w : World} {K : PySem.W.Frag} {mg : Str → Option Value} {base : Heap} {a : Adr}
theorem QiB {fd:FuncData} (F:Fun K "law" "law" Xn a.f_law fd) (T:Txt K mg a) (FF:Z1 K a):Qw P w K mg base CX0 60 a.f_law fd ["_law_script"] (spLaw K):=by
 obtain ⟨fd1,F_l_mixed,b_l_mixed⟩:=FF.F_l_mixed
 have G_l_mixed:Qw P w K mg base CX0 2 a.f_l_mixed fd1 ["_law_script","_law_start","_law_many"] (Qc1 K):=QfT F_l_mixed T FF
 obtain ⟨fd2,F_l_card_by,b_l_card_by⟩:=FF.F_l_card_by
 have G_l_card_by:Qw P w K mg base CX0 4 a.f_l_card_by fd2 ["_law_shape","_law_cells"] QaY:=QdW F_l_card_by T FF
 obtain ⟨fd3,F_l_made,b_l_made⟩:=FF.F_l_made
 have G_l_made:Qw P w K mg base CX0 10 a.f_l_made fd3 ["_law_card"] (spMd a):=ok_md F_l_made T FF
 obtain ⟨fd4,F_l_tree_by,b_l_tree_by⟩:=FF.F_l_tree_by
 have G_l_tree_by:Qw P w K mg base CX0 11 a.f_l_tree_by fd4 ["_law_shape","_law_cells"] spTB:=ok_tb F_l_tree_by T FF
 obtain ⟨fd5,F_condition_of,b_condition_of⟩:=FF.F_condition_of
 have G_condition_of:Qw P w K mg base CX0 27 a.f_condition_of fd5 ["tree"] (Qaa a 8):=QhW F_condition_of b_condition_of T FF 8
 obtain ⟨fd6,F_l_told,b_l_told⟩:=FF.F_l_told
 have G_l_told:Qw P w K mg base CX0 17 a.f_l_told fd6 ["_law_rules","_law_rows","_law_cards","_law_made_here","_law_turn"] (spTd a):=ok_td F_l_told T FF
 obtain ⟨fd7,F_l_acts_by,b_l_acts_by⟩:=FF.F_l_acts_by
 have G_l_acts_by:Qw P w K mg base CX0 2 a.f_l_acts_by fd7 ["_law_shape","_law_cell"] spAB:=ok_ab F_l_acts_by T FF
 obtain ⟨fd8,F_l_text,b_l_text⟩:=FF.F_l_text
 have G_l_text:Qw P w K mg base CX0 12 a.f_l_text fd8 ["_law_rows"] spTx:=ok_tx F_l_text T FF
 obtain ⟨fd9,F_ri,b_Rules_init⟩:=FF.F_Rules_init
 have G_Rules_init:Qw P w K mg base CX0 1 a.f_Rules_init fd9 ["self","rows"] (spRI a):=ok_ri F_ri T
 obtain ⟨fdA,F_rw,b_Rules_written⟩:=FF.F_Rules_written
 have G_Rules_written:Qw P w K mg base CX0 21 a.f_Rules_written fdA ["self"] (QhM a):=Qiy F_rw T FF
 refine F.ok Uf (fun vs H Q E h=>?_) (fun cdv A outer st H vs Q E hr h=>?_)
 ·obtain ⟨p,ns,rfl,_⟩:=h;rfl
 ·obtain ⟨p,ns,rfl,hp,hl,k⟩:=h
  have hr59:QG 59 _:=hr
  have hr_l_mixed:QG 2 _:=hr59.mono (by decide)
  have hr_l_card_by:QG 4 _:=hr59.mono (by decide)
  have hr_l_made:QG 10 _:=hr59.mono (by decide)
  have hr_l_tree_by:QG 11 _:=hr59.mono (by decide)
  have hr_condition_of:QG 27 _:=hr59.mono (by decide)
  have hr_l_told:QG 17 _:=hr59.mono (by decide)
  have hr_l_acts_by:QG 2 _:=hr59.mono (by decide)
  have hr_l_text:QG 12 _:=hr59.mono (by decide)
  have hr_Rules_mk:QG 2 _:=hr59.mono (by decide)
  have hr_Rules_written:QG 21 _:=hr59.mono (by decide)
  obtain ⟨t6,h6,sp6⟩:∃t,PSs (UI CX0 P w K mg base GC "law" (Qe Xn) a.f_law cdv A outer st H E).nox ((QM Xn).drop 6) t ∧
   ∀(H1:Hp) (R D M D5:Addr) (cs:List Int) (z:Int) (xs:List (Addr×CD)) (ms:List V) (rs:List RW) (o6 o7:Option V),cs.length=52→(∀c∈cs,0≤c∧c<2147483629)→H1 R=some (.lst (cs.map V.int))→H1 D=some (.lst (xs.map fun x=>V.ref x.1))→(∀x∈xs,Y8 H1 x.1 x.2)→(∀y∈xs,ZC y.2∧SS y.2.ms=y.2.ms∧y.2.ms.length≤4)→0<xs.length→xs.length≤4→H1 M=some (.lst ms)→Zl a H1 ms (xs.map (·.2))→H1 D5=some (.lst (rs.map fun r=>V.ref r.r))→(∀r∈rs,Uj H1 r)→rs.length≤4 →
    t { nx:=fun _ H'=>Q .non H',rt:=Q } [some (.ref p),some (.ref R),some (.int z),some (.ref D),some (.ref M),some (.ref D5),o6,o7,none,none] H1:=by
   refine ⟨_,(Qb (Qa7 (sc:=Qe Xn) (N:=GC) (i:=8) (fr:=[]) ⟨rfl,rfl,rfl,by decide +kernel,by decide +kernel,by decide +kernel,by decide +kernel,by decide +kernel⟩ rfl rfl rfl Uf.nd rfl rfl (Zx (pv 5)) (fun _ _ _ _=>(QV (Qc (Qx G_condition_of hr_condition_of rfl T.m_condition_of F_condition_of.kp b_condition_of .nil Qy (pac (pv 0) Qf)) (Qc (Z3 (QbX K) rfl T.b_list PyProof.Rows.boot_list (pac (pv 1) Qf)) Qq)))))
    (Qb (Qv (i:=9) Uf.nd rfl (Or.inl rfl) (ZA T.k_Rules G_Rules_init hr_Rules_mk rfl T.mc_Rules b_Rules_init .nil Qy (pac (pv 8) Qf)))
    (Qb (QK (PW.pt (Wf (YX (Js (Qx G_l_told hr_l_told rfl T.m_l_told F_l_told.kp b_l_told .nil Qy (pac (pv 9) (pac (pv 5) (pac (pv 3) (pac (pv 4) (pac (Ql QT (Qn QA (pv 1) Qa (fun _ _=>rfl)) Qa) Qf)))))))) (VP (Qr Gu (YZ (pv 9) T.c_Rules T.M_Rules_written G_Rules_written hr_Rules_written b_Rules_written .nil Qy) (Qx G_l_text hr_l_text rfl T.m_l_text F_l_text.kp b_l_text .nil Qy (pac (pv 5) Qf)) (Qz _))))) (Qd (Qo Yu)) QB)
    (Qb (Q9 (Z8 PySem.F.plainAttrs_list PySem.F.slot_list_append PySem.F.type_list_append Q3 (pv 8) (pac (QV (Qc (Qx G_condition_of hr_condition_of rfl T.m_condition_of F_condition_of.kp b_condition_of .nil Qy (pac (QV (Qc Qi Qq)) Qf)) (Qc (Q0 (Qc (QV (Qc Qi Qq)) Qq)) Qq))) Qf)))
    (Qb (QK (Qr Ki (QO Zk rfl T.b_len PySem.boot_len (pac (pv 5) Qf)) Qa (Qz _)) (Qd (Q9 (Z8 PySem.F.plainAttrs_list PySem.F.slot_list_append PySem.F.type_list_append Q3 (Qn Qs (Qn QA (pv 8) Qa (fun _ _=>rfl)) Qa (fun _ _=>rfl)) (pac (QV (Qc Qi (Qc Qi Qq))) Qf)))) QB)
    (Qd (Qo (Qx G_l_told hr_l_told rfl T.m_l_told F_l_told.kp b_l_told .nil Qy (pac (pv 9) (pac (pv 5) (pac (pv 3) (pac (pv 4) (pac (Ql QT (Qn QA (pv 1) Qa (fun _ _=>rfl)) Qa) Qf))))))))))))),fun H1 R D M D5 cs z xs ms rs o6 o7 hcl hcs hR hD hct hg hx0 hxn hM hms hD5 hrs hrn=>?_⟩
   obtain ⟨z51,e51,b0,b1⟩:=JR hcs 51 (by decide) (by omega)
   refine ⟨_,rfl,D5,rfl,⟨_,SqL.of hD5⟩,Ue (xs:=rs) (fun r=>r.r) (fun r=>.ref r.cnd) (fun r=>.ref r.q) (fun D8 i ys H3=>∃hs:List RW,ys=hs.map (fun r=>V.ref r.r)∧hs.length=i∧hs.map rdt=(rs.map rdt).take i∧∀h∈hs,Y7 a H3 h∧h.q≠D8∧H1 h.q=none) (Nat.le_of_lt (Qj (by omega))) (SqL.of hD5) (fun D8 n8=>⟨[],rfl,rfl,rfl,fun h hh=>nomatch hh⟩) (fun D8 i ys H3 ⟨hs,e,l,_⟩=>by rw [e,List.length_map,l]) (fun r hr' H3 s3=>SqT.of (s3 _ _ (hrs r hr').e)) ?_ ?_⟩
   ·rintro D8 i r ys H3 Q' hi n8 ⟨hs,rfl,hsl,e,hhs⟩ e8 s3 kk
    have hrow:=(hrs r (List.mem_of_getElem? hi)).mono s3
    refine ⟨_,rfl,r.cnd,r.t,rfl,hrow.c,hrow.d,fun y H4 s4 cn=>⟨_,rfl,r.q,_,rfl,.inr (SqT.of (s4 _ _ hrow.q)),fun l H5 n5 s5 e5=>⟨(by show 2≤sizeLine;decide),fun u H6 n6 s6 e6=>kk _ H6 ((s4.trans s5).trans s6) ⟨hs++[⟨u,y,l,r.t,r.as⟩],by rw [List.map_append];rfl,by rw [List.length_append,List.length_singleton,hsl],?_,?_⟩⟩⟩⟩
    ·rw [List.map_append,e,List.take_add_one,List.getElem?_map,hi];rfl
    ·have s36:=(s4.trans s5).trans s6
     have e86:=s36 _ _ e8
     have n5':=s4.free n5
     intro h hh
     rcases List.mem_append.mp hh with hh | hh
     ·exact ⟨((hhs h hh).1.kl (KL.of s36)).list e86 (hhs h hh).2.1,(hhs h hh).2⟩
     ·rw [List.mem_singleton.mp hh]
      have l8:l≠D8:=fun z=>by rw [z,e8] at n5';cases n5'
      have hrow6:=hrow.mono s36
      exact ⟨Y7.list ⟨e6,cn.at.mono (s5.trans s6),hrow.d,s6 _ _ e5,hrow6.as,hrow.n⟩ e86 l8,l8,s3.free n5'⟩
   ·rintro D8 ys H2 n8 ⟨hs,rfl,hsl,e,hhs⟩ s2 e8
    rw [List.take_of_length_le (by rw [List.length_map];exact Nat.le_refl _)] at e
    refine ⟨_,rfl,fun X dx nx nd ne=>QdY nx nd ne e8 (fun h hh=>(hhs h hh).1) (by omega) fun H3 rs' l s3 nl hX e'=>⟨rfl,?_⟩⟩
    have eR:rs.map rdt=rs'.map rdt:=by rw [e',e]
    have s13:=s2.trans s3
    have mkT:∀(H4:Hp),KL a H1 H4→Y6 a H4 X l rs'→TIn a H4 X D5 D M rs rs' xs ms:=fun H4 k4 hX4 =>
     ⟨hX4.at,eR,k4.keep hD5 rfl,fun r hr'=>(hrs r hr').kl k4,hrn,k4.keep hD rfl,fun y hy=>(hct y hy).kl k4,hg,hx0,hxn,k4.keep hM rfl,hms.kl k4⟩
    refine ⟨_,rfl,_,rfl,_,rfl,_,rfl,_,rfl,R,_,_,_,rfl,rfl,SqL.of (s13 _ _ hR),e51,_,_,rfl,rfl,⟨by decide,by decide⟩,X,D5,D,M,_,rs,rs',xs,ms,rfl,mkT H3 (KL.of s13) hX,fun H4 k4=>⟨_,rfl,QU ?_⟩⟩
    have k14:KL a H1 H4:=(KL.of s13).trans k4
    have hX4:=hX.kl k4
    obtain ⟨⟨dX,eX⟩,_⟩:=id hX4
    refine ⟨_,rfl,X,dX,_,rfl,eX,rfl,X,rs',rfl,hX4.at,fun H5 s5=>⟨_,rfl,D5,rs,rfl,s5 _ _ (k14.keep hD5 rfl),(fun r hr'=>((hrs r hr').kl k14).mono s5),by omega,fun H6 s6=>⟨rfl,_,rfl,?_⟩⟩⟩
    rw [Qa3 eR,decide_eq_true rfl]
    refine QU ?_
    have k46:KL a H4 H6:=KL.of (s5.trans s6)
    have k36:KL a H3 H6:=k4.trans k46
    have k26:KL a H2 H6:=(KL.of s3).trans k36
    have e86:=k26.keep e8 rfl
    refine ⟨_,rfl,.inl ⟨rfl,_,SqL.of e86⟩,(by show 1≤sizeLine;decide),fun p1 H7 n7 s7 e7=>⟨p1,.any,rfl,.any e7,by decide,fun y1 H9 s9 cn=>⟨(by show 1≤sizeLine;decide),fun p2 H10 n10 s10 e10=>⟨(by show 1≤sizeLine;decide),fun p3 H11 n11 s11 e11=>⟨(by show 2≤sizeLine;decide),fun p4 H12 n12 s12 e12=>?_⟩⟩⟩⟩⟩
    have s612:Qm H6 H12:=(((s7.trans s9).trans s10).trans s11).trans s12
    have e812:=s612 _ _ e86
    have hlD:l≠D8:=fun z=>by rw [z,e8] at nl;cases nl
    refine ⟨D8,_,_,rfl,rfl,e812,(by rw [List.length_map];exact Qj (by omega)),?_⟩
    have k112:KL a H1 H12:=(k14.trans k46).trans (KL.of s612)
    have k13:KL a H1 (upd H12 D8 (.lst (hs.map (fun r=>V.ref r.r)++[.ref p4]))):=k112.upd_of n8 (fun kv z=>by rw [e812] at z;cases z)
    have hX13:=((hX4.kl k46).kl (KL.of s612)).list (ys:=hs.map (fun r=>V.ref r.r)++[.ref p4]) e812 hlD
    have hh13:∀h∈hs,Y7 a (upd H12 D8 (.lst (hs.map (fun r=>V.ref r.r)++[.ref p4]))) h:=fun h hh=>((((hhs h hh).1.kl k26).kl (KL.of s612))).list e812 (hhs h hh).2.1
    have e813:(upd H12 D8 (.lst (hs.map (fun r=>V.ref r.r)++[.ref p4]))) D8=some (.lst (hs.map (fun r=>V.ref r.r)++[.ref p4])):=Qh
    show Qb8 _ _ _ _ (upd H12 D8 (.lst (hs.map (fun r=>V.ref r.r)++[.ref p4])))
    generalize upd H12 D8 (.lst (hs.map (fun r=>V.ref r.r)++[.ref p4]))=H13 at k13 hX13 hh13 e813 ⊢
    have fin:∀(H14:Hp),KL a H1 H14→Y6 a H14 X l rs'→Qce a [.ref X,.ref D5,.ref D,.ref M,.int (z51 / 30)] H14 Q:=fun H14 k14' hX14=>⟨X,D5,D,M,_,rs,rs',xs,ms,rfl,mkT H14 k14' hX14,fun H15 _=>k H15⟩
    refine ⟨_,rfl,D5,_,rfl,.inl (SqL.of (k13.keep hD5 rfl)),_,_,rfl,rfl,_,rfl,?_⟩
    rw [List.length_map]
    cases hs with
    | nil =>
      have r0:rs.length=0:=hsl.symm
      rw [decide_eq_false (by omega)]
      exact QU ⟨_,rfl,_,rfl,_,rfl,_,rfl,_,rfl,R,_,_,_,rfl,rfl,SqL.of (k13.keep hR rfl),e51,_,_,rfl,rfl,⟨by decide,by decide⟩,fin H13 k13 hX13⟩
    | cons h0 ht =>
      rw [List.length_cons] at hsl
      rw [decide_eq_true (by omega)]
      have hh0:=hh13 h0 List.mem_cons_self
      have hf0:=hhs h0 List.mem_cons_self
      have hl0:l≠h0.q:=fun z=>by rw [z,hf0.1.q] at nl;cases nl
      refine Zc ⟨_,rfl,D8,_,_,_,rfl,rfl,SqL.of e813,at0,h0.r,_,_,_,rfl,rfl,SqT.of hh0.e,rfl,.inl ⟨rfl,_,SqL.of hh0.q⟩,(by show 2≤sizeLine;decide),fun p5 H14 n14 s14 e14=>⟨h0.q,_,_,rfl,rfl,s14 _ _ hh0.q,(by rw [List.length_map];have:=hh0.n;exact Qj (by omega)),?_⟩⟩
      have k15:KL a H1 (upd H14 h0.q (.lst (h0.as.map (fun y=>V.ref y.1)++[.ref p5]))):=(k13.trans (KL.of s14)).upd_of hf0.2.2 (fun kv z=>by rw [s14 _ _ hh0.q] at z;cases z)
      exact ⟨_,rfl,_,rfl,_,rfl,_,rfl,_,rfl,R,_,_,_,rfl,rfl,SqL.of (k15.keep hR rfl),e51,_,_,rfl,rfl,⟨by decide,by decide⟩,fin _ k15 ((hX13.kl (KL.of s14)).list (s14 _ _ hh0.q) hl0)⟩
  obtain ⟨t4,h4,sp4⟩:∃t,PSs (UI CX0 P w K mg base GC "law" (Qe Xn) a.f_law cdv A outer st H E).nox ((QM Xn).drop 4) t ∧
   ∀(H1:Hp) (R D M:Addr) (cs:List Int) (z:Int) (xs:List (Addr×CD)) (ms:List V),cs.length=52→(∀c∈cs,0≤c∧c<2147483629)→0≤z→z<2147483629→H1 R=some (.lst (cs.map V.int))→H1 D=some (.lst (xs.map fun x=>V.ref x.1))→(∀x∈xs,Y8 H1 x.1 x.2)→(∀y∈xs,ZC y.2∧SS y.2.ms=y.2.ms∧y.2.ms.length≤4)→0<xs.length→xs.length≤4→H1 M=some (.lst ms)→Zl a H1 ms (xs.map (·.2)) →
    t { nx:=fun _ H'=>Q .non H',rt:=Q } [some (.ref p),some (.ref R),some (.int z),some (.ref D),some (.ref M),none,none,none,none,none] H1:=by
   refine ⟨_,(Qb (Qv (i:=5) Uf.nd rfl (Or.inl rfl) (Q0 Qq))
    (Qb (Z5 PassesOwn.never rfl (JJ rfl T.b_range (pac (Ql QP (Ql QT (Qn QA (pv 1) Qa (fun _ _=>rfl)) Qa) Qa) Qf)) (QR (i:=6) Uf.nd rfl (Or.inl rfl)) (Qb (Qv (i:=7) Uf.nd rfl (Or.inl rfl) (Qx G_l_tree_by hr_l_tree_by rfl T.m_l_tree_by F_l_tree_by.kp b_l_tree_by .nil Qy (pac (pv 2) (pac (Q7 Zs (pv 1) (Q6 (Ql ZE Qa (Ql Yr Qa (pv 6)))) (Q6 (Ql ZE (Ql ZE Qa (Ql Yr Qa (pv 6))) (Ql QP (Qn QA (pv 1) (Ql Qcs Qa (pv 6)) (fun _ _=>rfl)) Qa)))) Qf))))
    (Qd (Q9 (Z8 PySem.F.plainAttrs_list PySem.F.slot_list_append PySem.F.type_list_append Q3 (pv 5) (pac (QV (Qc (pv 7) (Qc (Qx G_l_acts_by hr_l_acts_by rfl T.m_l_acts_by F_l_acts_by.kp b_l_acts_by .nil Qy (pac (pv 2) (pac (Qn QA (pv 1) (Ql ZE Qa (Ql Yr Qa (pv 6))) (fun _ _=>rfl)) Qf))) Qq))) Qf))))))
    h6)),fun H1 R D M cs z xs ms hcl hcs hz0 hz1 hR hD hct hg hx0 hxn hM hms=>?_⟩
   obtain ⟨z51,e51,b0,b1⟩:=JR hcs 51 (by decide) (by omega)
   have m0:0≤z51 / 3 % 5:=Int.emod_nonneg _ (by decide)
   have m1:z51 / 3 % 5<5:=Int.emod_lt_of_pos _ (by decide)
   refine ⟨(by show 0≤sizeLine;decide),fun D5 H2 n5 s2 e5=>?_⟩
   refine ⟨_,rfl,R,_,_,_,rfl,rfl,SqL.of (s2 _ _ hR),e51,_,_,rfl,rfl,⟨by decide,by decide⟩,_,_,rfl,rfl,(by show (0:Int)<5;decide),z51 / 3 % 5,rfl,by omega,by omega,Yd (n:=(z51 / 3 % 5).toNat) (fun i σ H3=>∃(rs:List RW) (o6 o7:Option V),σ=[some (.ref p),some (.ref R),some (.int z),some (.ref D),some (.ref M),some (.ref D5),o6,o7,none,none]∧Qm H1 H3∧H3 D5=some (.lst (rs.map fun r=>V.ref r.r))∧(∀r∈rs,Uj H3 r)∧rs.length≤i)
    ⟨[],none,none,rfl,s2,e5,(fun r hr'=>nomatch hr'),Nat.le_refl _⟩ ?_ ?_⟩
   ·rintro i σ H3 hi ⟨rs,o6,o7,rfl,s3,e53,hrs,hrl⟩
    have hi4:i<4:=by omega
    obtain ⟨zc,ezc,c0,c1⟩:=JR hcs (49 - (0+(i:Int))) (by omega) (by omega)
    obtain ⟨zd,ezd,d0,d1⟩:=JR hcs (34+4*(0+(i:Int))) (by omega) (by omega)
    have f0:0≤zc % 4:=Int.emod_nonneg _ (by decide)
    have f1:zc % 4<4:=Int.emod_lt_of_pos _ (by decide)
    obtain ⟨cc,ecc,hcc,lcc⟩:=GS (cs:=cs) (lo:=30+5*(0+(i:Int))) (hi:=31+5*(0+(i:Int))+zc % 4) (by omega) (by omega) (by omega)
    have hR3:=s3 _ _ hR
    refine ⟨_,rfl,_,rfl,_,rfl,_,_,rfl,rfl,.inl ⟨by decide,by decide⟩,_,_,rfl,rfl,_,rfl,_,rfl,_,_,rfl,rfl,.inl ⟨by decide,by decide⟩,_,_,rfl,rfl,_,rfl,_,rfl,_,_,rfl,rfl,R,_,_,_,rfl,rfl,SqL.of hR3,ezc,_,_,rfl,rfl,(by show (0:Int)<4;decide),_,_,rfl,rfl,_,rfl,R,_,rfl,SqL.of hR3,fun l1 H4 n4 s4 e4=>?_⟩
    rw [ecc] at e4
    refine ⟨z,l1,cc,rfl,hz0,hz1,e4,(fun c hc=>(hcs c (hcc c hc)).1),by omega,by omega,fun tr q H5 s5 ht hd=>?_⟩
    have s35:=s4.trans s5
    refine ⟨_,rfl,.inl ⟨rfl,_,SqL.of (s35 _ _ e53)⟩,_,rfl,_,rfl,_,rfl,_,rfl,_,_,rfl,rfl,.inl ⟨by decide,by decide⟩,_,_,rfl,rfl,R,_,_,_,rfl,rfl,SqL.of (s35 _ _ hR3),ezd,?_⟩
    refine ⟨z,zd,rfl,hz0,hz1,d0,fun qa ps H6 s6 eq hps hpl=>⟨(by show 2≤sizeLine;decide),fun u H7 n7 s7 e7=>?_⟩⟩
    have s37:=(s35.trans s6).trans s7
    have e57:=s37 _ _ e53
    refine ⟨D5,_,_,rfl,rfl,e57,(by rw [List.length_map];exact Qj (by omega)),?_⟩
    refine ⟨rs++[⟨u,q,qa,tr,ps⟩],_,_,rfl,(s3.trans s37).upd_of n5,by rw [Qh,List.map_append];rfl,fun r hr'=>?_,by rw [List.length_append,List.length_singleton];omega⟩
    rcases List.mem_append.mp hr' with hr' | hr'
    ·exact ((hrs r hr').mono s37).list e57
    ·rw [List.mem_singleton.mp hr']
     exact Uj.list ⟨e7,ht.mono (s6.trans s7),hd,s7 _ _ eq,fun y hy=>(hps y hy).mono s7,Nat.le_trans hpl (by decide)⟩ e57
   ·rintro σ H3 ⟨rs,o6,o7,rfl,s3,e53,hrs,hrl⟩
    exact sp6 H3 R D M D5 cs z xs ms rs o6 o7 hcl hcs (s3 _ _ hR) (s3 _ _ hD) (fun x hx=>(hct x hx).mono s3) hg hx0 hxn (s3 _ _ hM) (hms.kl (KL.of s3)) e53 hrs (by omega)
  refine ⟨_,(Qb (Qv (i:=1) Uf.nd rfl (Or.inr rfl) (Qx G_l_mixed hr_l_mixed rfl T.m_l_mixed F_l_mixed.kp b_l_mixed .nil Qy (pac (pv 0) (pac Qa (pac Qa Qf)))))
   (Qb (Qv (i:=2) Uf.nd rfl (Or.inr rfl) (Qn QA (pv 1) Qa (fun _ _=>rfl)))
   (Qb (UE (sc:=Qe Xn) (N:=GC) (i:=3) (fr:=[(2,"_law_shape"),(1,"_law_cells")]) ⟨rfl,rfl,by decide +kernel,by decide +kernel,by decide +kernel,by decide +kernel,by decide +kernel⟩ rfl rfl rfl Uf.nd rfl rfl (JJ rfl T.b_range (pac (Ql ZE Qa (Ql QP (Qn QA (pv 1) Qa (fun _ _=>rfl)) Qa)) Qf)) (fun _ _ _ _=>JS) (fun _ _ _ _=>(Qx G_l_card_by hr_l_card_by rfl T.m_l_card_by F_l_card_by.kp b_l_card_by .nil Qy (pac (pv 1) (pac (Q7 (Qfb K) (pv 2) (Q6 (Ql Yr Qa (pv 0))) (Q6 (Ql ZE (Ql Yr Qa (pv 0)) Qa))) Qf)))))
   (Qb (UE (sc:=Qe Xn) (N:=GC) (i:=4) (fr:=[]) ⟨rfl,rfl,by decide +kernel,by decide +kernel,by decide +kernel,by decide +kernel,by decide +kernel⟩ rfl rfl rfl Uf.nd rfl rfl (Zx (pv 3)) (fun _ _ _ _=>JS) (fun _ _ _ _=>(Qx G_l_made hr_l_made rfl T.m_l_made F_l_made.kp b_l_made .nil Qy (pac (pv 0) Qf))))
   h4)))),?_⟩
  refine ⟨_,rfl,p,ns,0,52,rfl,hp,by decide,by decide,fun R cs H1 hcl hcs nR s1 hR=>?_⟩
  obtain ⟨z50,e50,z0,z1⟩:=JR hcs 50 (by decide) (by omega)
  obtain ⟨z51,e51,b0,b1⟩:=JR hcs 51 (by decide) (by omega)
  have m0:0≤z51 % 3:=Int.emod_nonneg _ (by decide)
  have m1:z51 % 3<3:=Int.emod_lt_of_pos _ (by decide)
  refine ⟨_,rfl,R,_,_,_,rfl,rfl,SqL.of hR,e50,?_⟩
  refine ⟨_,rfl,R,_,_,_,rfl,rfl,SqL.of hR,e51,_,_,rfl,rfl,(by show (0:Int)<3;decide),_,_,rfl,rfl,1+z51 % 3,rfl,by omega,by omega,?_⟩
  refine QbR (n:=(1+z51 % 3).toNat) (fun D i ys H2=>∃xs:List (Addr×CD),ys=xs.map (fun x=>V.ref x.1)∧xs.length=i∧Qm H1 H2∧∀x∈xs,CTD D H2 x.1 x.2∧ZC x.2∧SS x.2.ms=x.2.ms∧x.2.ms.length≤4) (Nat.le_of_lt (Qj (by omega))) (fun D nD=>⟨[],rfl,rfl,Qm.upd_new nD,fun x hx=>nomatch hx⟩) (fun D i ys H2 ⟨xs,e,l,_⟩=>by rw [e,List.length_map,l]) ?_ ?_
  ·rintro D i ys H3 Q' hi nD ⟨xs,rfl,hxl,s3,hxs⟩ eD kk
   have hi4:i<4:=by omega
   obtain ⟨c1,ec1,hc1,lc1⟩:=GS (cs:=cs) (lo:=10*(0+(i:Int))) (hi:=10*(0+(i:Int))+10) (by omega) (by omega) (by omega)
   have hR3:=s3 _ _ hR
   refine ⟨_,rfl,_,rfl,_,rfl,_,_,rfl,rfl,.inl ⟨by decide,by decide⟩,_,rfl,_,rfl,_,_,rfl,rfl,.inl ⟨by decide,by decide⟩,_,_,rfl,rfl,_,rfl,R,_,rfl,SqL.of hR3,fun l nl=>?_⟩
   rw [ec1]
   have s4:Qm H3 (upd H3 l (.lst (c1.map V.int))):=Qm.upd_new nl
   refine ⟨z50,l,c1,rfl,z0,by omega,Qh,(fun c hc=>hcs c (hc1 c hc)),by omega,fun u q m s t b d an fo ms H5 g hfo hms hnd hml s5 hu hq nm hm=>?_⟩
   have s35:=s4.trans s5
   have eD5:=s35 _ _ eD
   rw [←QgL hnd] at hm
   have uD:u≠D:=Zq hu eD5 (fun z=>nomatch z)
   have qD:q≠D:=Zq hq eD5 (fun z=>nomatch z)
   have mD:m≠D:=fun z=>by rw [z,s4 _ _ eD] at nm;cases nm
   refine kk _ H5 eD5 ⟨xs++[(u,⟨s,t,b,d,an,fo,SS ms⟩)],by rw [List.map_append];rfl,by rw [List.length_append,List.length_singleton,hxl],(s3.trans s35).upd_of nD,fun x hx=>?_⟩
   have kp:∀y o,y≠D→H5 y=some o→(upd H5 D (.lst (xs.map (fun x=>V.ref x.1)++[.ref u]))) y=some o:=fun y o n e=>by rw [Qk n];exact e
   rcases List.mem_append.mp hx with hx | hx
   ·exact ⟨(hxs x hx).1.next s35 kp,(hxs x hx).2⟩
   ·rw [List.mem_singleton.mp hx]
    have hsl:=QgM ms
    refine ⟨fun H'' kk'=>⟨q,m,kk' _ _ uD (kp _ _ uD hu),kk' _ _ qD (kp _ _ qD hq),kk' _ _ mD (kp _ _ mD hm)⟩,⟨g,hfo,(fun x hx=>hms x (Qav.mp hx)),by show (SS ms).length≤50;omega⟩,QaF ms,by show (SS ms).length≤4;omega⟩
  ·rintro D ys H2 nD ⟨xs,rfl,hxl,s2,hxs⟩ eD
   have hxn:xs.length≤4:=by omega
   have hct:∀x∈xs,Y8 H2 x.1 x.2:=fun x hx=>(hxs x hx).1 H2 fun _ _ _ e=>e
   refine ⟨_,rfl,D,rfl,⟨_,SqL.of eD⟩,KJ (fun M i ys H3=>ys.length=i∧Xz a M H3 ys ((xs.map (·.2)).take i)) (Nat.le_of_lt (Qj (by rw [List.length_map];omega))) (SqL.of eD) (fun M nM=>⟨rfl,.nil⟩) (fun M i ys H3 h=>h.1) ?_ ?_⟩
   ·rintro M i v ys H3 Q' hi nM ⟨hyl,hys⟩ eM s3 kk
    rw [List.getElem?_map] at hi
    cases ex:xs[i]? with
    | none=>rw [ex] at hi;cases hi
    | some x =>
      rw [ex] at hi
      cases hi
      have hxm:=List.mem_of_getElem? ex
      refine ⟨_,rfl,x.1,x.2,rfl,(hct x hxm).mono s3,(hxs x hxm).2.1,(hxs x hxm).2.2.1,fun y g H4 ny ng s4 hc=>kk _ H4 s4 ⟨by rw [List.length_append,List.length_singleton,hyl],?_⟩⟩
      have gM:g≠M:=fun z=>by rw [z,eM] at ng;cases ng
      have eM4:=s4 _ _ eM
      rw [List.take_add_one,List.getElem?_map,ex]
      exact (hys.next s4 eM4).snoc ⟨g,gM,hc.list eM4 gM⟩
   ·rintro M ys H3 nM ⟨hyl,hys⟩ s3 eM
    rw [List.take_of_length_le (by rw [List.length_map,List.length_map];exact Nat.le_refl _)] at hys
    exact sp4 H3 R D M cs z50 xs ys hcl hcs z0 z1 (s3 _ _ (s2 _ _ hR)) (s3 _ _ eD) (fun x hx=>(hct x hx).mono s3) (fun x hx=>(hxs x hx).2) (by omega) hxn eM hys.at
end
def obs (K:PySem.W.Frag):List (Option (FuncData×Option (List Value))×Bool)×Bool :=
 ([Hd.see K (Hd.gl K "_wall") "_wall",
   Hd.see K (Hd.gl K "card_behind") "card_behind",
   Hd.see K (Hd.gl K "row_written") "row_written",
   Hd.see K (Hd.gl K "condition_of") "condition_of",
   Hd.see K (Hd.gl K "all_among") "all_among",
   Hd.see K (Hd.gl K "is_word") "is_word",
   Hd.see K (Hd.gl K "words_of") "words_of",
   Hd.see K (Hd.gl K "is_text") "is_text",
   Hd.see K (Hd.gl K "is_whole") "is_whole",
   Hd.see K (Hd.gl K "is_answered") "is_answered",
   Hd.see K (Hd.gl K "check_parts") "check_parts",
   Hd.see K (Hd.gl K "_law_cell_at") "_law_cell_at",
   Hd.see K (Hd.gl K "_law_mixed") "_law_mixed",
   Hd.see K (Hd.gl K "_law_word_by") "_law_word_by",
   Hd.see K (Hd.gl K "_law_text_by") "_law_text_by",
   Hd.see K (Hd.gl K "_law_parts_by") "_law_parts_by",
   Hd.see K (Hd.gl K "_law_card_by") "_law_card_by",
   Hd.see K (Hd.gl K "_law_letter") "_law_letter",
   Hd.see K (Hd.gl K "_law_made") "_law_made",
   Hd.see K (Hd.gl K "_law_leaf_by") "_law_leaf_by",
   Hd.see K (Hd.gl K "_law_threads") "_law_threads",
   Hd.see K (Hd.gl K "_law_tree_by") "_law_tree_by",
   Hd.see K (Hd.gl K "_law_runs") "_law_runs",
   Hd.see K (Hd.gl K "_law_holds") "_law_holds",
   Hd.see K (Hd.gl K "_law_written") "_law_written",
   Hd.see K (Hd.gl K "_law_acts_by") "_law_acts_by",
   Hd.see K (Hd.gl K "_law_run") "_law_run",
   Hd.see K (Hd.gl K "_law_told") "_law_told",
   Hd.see K (Hd.gl K "_law_text") "_law_text",
   Hd.see K (Hd.gl K "law") "law",
   Hd.see K (PySem.W.findIn K (.ref (Hd.cl K "Card")) "__init__") "Card.__init__",
   Hd.see K (PySem.W.findIn K (.ref (Hd.cl K "Card")) "placed") "Card.placed",
   Hd.see K (PySem.W.findIn K (.ref (Hd.cl K "Card")) "signed") "Card.signed",
   Hd.see K (PySem.W.findIn K (.ref (Hd.cl K "Card")) "unsigned") "Card.unsigned",
   Hd.see K (PySem.W.findIn K (.ref (Hd.cl K "Rules")) "__init__") "Rules.__init__",
   Hd.see K (PySem.W.findIn K (.ref (Hd.cl K "Rules")) "rows") "Rules.rows",
   Hd.see K (PySem.W.findIn K (.ref (Hd.cl K "Rules")) "run") "Rules.run",
   Hd.see K (PySem.W.findIn K (.ref (Hd.cl K "Rules")) "outcome") "Rules.outcome",
   Hd.see K (PySem.W.findIn K (.ref (Hd.cl K "Rules")) "met") "Rules.met",
   Hd.see K (PySem.W.findIn K (.ref (Hd.cl K "Rules")) "written") "Rules.written",
   Hd.see K (PySem.W.findIn K (.ref (Hd.cl K "Condition")) "__init__") "Condition.__init__",
   Hd.see K (PySem.W.findIn K (.ref (Hd.cl K "Condition")) "holds") "Condition.holds",
   Hd.see K (PySem.W.findIn K (.ref (Hd.cl K "Condition")) "truths") "Condition.truths",
   Hd.see K (PySem.W.findIn K (.ref (Hd.cl K "Condition")) "tree") "Condition.tree",
   Hd.see K (PySem.W.findIn K (.ref (Hd.cl K "Condition")) "written") "Condition.written",
   Hd.see K (PySem.W.findIn K (.ref (Hd.cl K "HasWord")) "holds") "HasWord.holds",
   Hd.see K (PySem.W.findIn K (.ref (Hd.cl K "HasTitleWord")) "holds") "HasTitleWord.holds",
   Hd.see K (PySem.W.findIn K (.ref (Hd.cl K "IsFrom")) "holds") "IsFrom.holds",
   Hd.see K (PySem.W.findIn K (.ref (Hd.cl K "IsOfDays")) "holds") "IsOfDays.holds",
   Hd.see K (PySem.W.findIn K (.ref (Hd.cl K "IsOfDays")) "written") "IsOfDays.written",
   Hd.see K (PySem.W.findIn K (.ref (Hd.cl K "IsIn")) "holds") "IsIn.holds",
   Hd.see K (PySem.W.findIn K (.ref (Hd.cl K "IsMarked")) "holds") "IsMarked.holds",
   Hd.see K (PySem.W.findIn K (.ref (Hd.cl K "DoesAnswer")) "holds") "DoesAnswer.holds",
   Hd.see K (PySem.W.findIn K (.ref (Hd.cl K "Wrapped")) "__init__") "Wrapped.__init__",
   Hd.see K (PySem.W.findIn K (.ref (Hd.cl K "Wrapped")) "written") "Wrapped.written",
   Hd.see K (PySem.W.findIn K (.ref (Hd.cl K "Not")) "holds") "Not.holds",
   Hd.see K (PySem.W.findIn K (.ref (Hd.cl K "Not")) "truths") "Not.truths",
   Hd.see K (PySem.W.findIn K (.ref (Hd.cl K "InThread")) "holds") "InThread.holds",
   Hd.see K (PySem.W.findIn K (.ref (Hd.cl K "InThread")) "truths") "InThread.truths",
   Hd.see K (PySem.W.findIn K (.ref (Hd.cl K "Joined")) "__init__") "Joined.__init__",
   Hd.see K (PySem.W.findIn K (.ref (Hd.cl K "Joined")) "written_with") "Joined.written_with",
   Hd.see K (PySem.W.findIn K (.ref (Hd.cl K "Both")) "holds") "Both.holds",
   Hd.see K (PySem.W.findIn K (.ref (Hd.cl K "Both")) "truths") "Both.truths",
   Hd.see K (PySem.W.findIn K (.ref (Hd.cl K "Both")) "written") "Both.written",
   Hd.see K (PySem.W.findIn K (.ref (Hd.cl K "Either")) "holds") "Either.holds",
   Hd.see K (PySem.W.findIn K (.ref (Hd.cl K "Either")) "truths") "Either.truths",
   Hd.see K (PySem.W.findIn K (.ref (Hd.cl K "Either")) "written") "Either.written",
   Hd.see K (PySem.W.findIn K (.ref (Hd.cl K "Letter")) "__init__") "Letter.__init__",
   Hd.see K (PySem.W.findIn K (.ref (Hd.cl K "Letter")) "twin") "Letter.twin",
   Hd.see K (PySem.W.findIn K (.ref (Hd.cl K "Letter")) "parts") "Letter.parts",
   Hd.see K (PySem.W.findIn K (.ref (Hd.cl K "Letter")) "known") "Letter.known",
   Hd.see K (PySem.W.findIn K (.ref (Hd.cl K "Letter")) "words") "Letter.words",
   Hd.see K (PySem.W.findIn K (.ref (Hd.cl K "Letter")) "title_words") "Letter.title_words"],
  [decide (Hd.gl K "Card"=some (some (.ref (Hd.cl K "Card")))),
   decide (Hd.gl K "Rules"=some (some (.ref (Hd.cl K "Rules")))),
   decide (Hd.gl K "Condition"=some (some (.ref (Hd.cl K "Condition")))),
   decide (Hd.gl K "Always"=some (some (.ref (Hd.cl K "Always")))),
   decide (Hd.gl K "HasWord"=some (some (.ref (Hd.cl K "HasWord")))),
   decide (Hd.gl K "HasTitleWord"=some (some (.ref (Hd.cl K "HasTitleWord")))),
   decide (Hd.gl K "IsFrom"=some (some (.ref (Hd.cl K "IsFrom")))),
   decide (Hd.gl K "IsOfDays"=some (some (.ref (Hd.cl K "IsOfDays")))),
   decide (Hd.gl K "IsIn"=some (some (.ref (Hd.cl K "IsIn")))),
   decide (Hd.gl K "IsMarked"=some (some (.ref (Hd.cl K "IsMarked")))),
   decide (Hd.gl K "DoesAnswer"=some (some (.ref (Hd.cl K "DoesAnswer")))),
   decide (Hd.gl K "Wrapped"=some (some (.ref (Hd.cl K "Wrapped")))),
   decide (Hd.gl K "Not"=some (some (.ref (Hd.cl K "Not")))),
   decide (Hd.gl K "InThread"=some (some (.ref (Hd.cl K "InThread")))),
   decide (Hd.gl K "Joined"=some (some (.ref (Hd.cl K "Joined")))),
   decide (Hd.gl K "Both"=some (some (.ref (Hd.cl K "Both")))),
   decide (Hd.gl K "Either"=some (some (.ref (Hd.cl K "Either")))),
   decide (Hd.gl K "Letter"=some (some (.ref (Hd.cl K "Letter")))),
   decide ((Hd.gl K "WORD_SIGNS").map (Option.map Hd.bareV)=some (some (Hd.bv (.str "abcdefghijklmnopqrstuvwxyz0123456789")))),
   decide ((Hd.gl K "RUN_SIGNS").map (Option.map Hd.bareV)=some (some (Hd.bv (.str "abcdefghijklmnopqrstuvwxyzABCDEFGHIJKLMNOPQRSTUVWXYZ0123456789")))),
   decide ((Hd.gl K "MOST_WORD").map (Option.map Hd.bareV)=some (some (Hd.bv (.int 20)))),
   decide ((Hd.gl K "MOST_TITLE").map (Option.map Hd.bareV)=some (some (Hd.bv (.int 60)))),
   decide ((Hd.gl K "MOST_BODY").map (Option.map Hd.bareV)=some (some (Hd.bv (.int 400)))),
   decide ((Hd.gl K "LAST_DAY").map (Option.map Hd.bareV)=some (some (Hd.bv (.int 9999)))),
   Hd.tupStrs K "STOP" ["stop"],
   PySem.W.plainGet K (Hd.cl K "Card") Str.empty,
   PySem.W.hasDictIn K (Hd.cl K "Card"),
   PySem.W.plainOver K (Hd.cl K "Card"),
   decide (PySem.W.findIn K (.ref (Hd.cl K "Card")) "__setattr__"=some (some (.builtin "object.__setattr__"))),
   PySem.W.keepIn K (.ref (Hd.cl K "Card")),
   PySem.W.makesIn K (Hd.cl K "Card"),
   decide (PySem.W.findIn K (.ref (Hd.cl K "Card")) "letter"=some none),
   decide (PySem.W.findIn K (.ref (Hd.cl K "Card")) "box"=some none),
   decide (PySem.W.findIn K (.ref (Hd.cl K "Card")) "signs"=some none),
   PySem.W.plainGet K (Hd.cl K "Rules") Str.empty,
   PySem.W.hasDictIn K (Hd.cl K "Rules"),
   PySem.W.plainOver K (Hd.cl K "Rules"),
   decide (PySem.W.findIn K (.ref (Hd.cl K "Rules")) "__setattr__"=some (some (.builtin "object.__setattr__"))),
   PySem.W.keepIn K (.ref (Hd.cl K "Rules")),
   PySem.W.makesIn K (Hd.cl K "Rules"),
   decide (PySem.W.findIn K (.ref (Hd.cl K "Rules")) "kept"=some none),
   PySem.W.plainGet K (Hd.cl K "Condition") Str.empty,
   PySem.W.hasDictIn K (Hd.cl K "Condition"),
   PySem.W.plainOver K (Hd.cl K "Condition"),
   decide (PySem.W.findIn K (.ref (Hd.cl K "Condition")) "__setattr__"=some (some (.builtin "object.__setattr__"))),
   PySem.W.keepIn K (.ref (Hd.cl K "Condition")),
   PySem.W.makesIn K (Hd.cl K "Condition"),
   decide (PySem.W.findIn K (.ref (Hd.cl K "Condition")) "shape"=some none),
   PySem.W.plainGet K (Hd.cl K "Always") Str.empty,
   PySem.W.hasDictIn K (Hd.cl K "Always"),
   PySem.W.plainOver K (Hd.cl K "Always"),
   decide (PySem.W.findIn K (.ref (Hd.cl K "Always")) "__setattr__"=some (some (.builtin "object.__setattr__"))),
   PySem.W.keepIn K (.ref (Hd.cl K "Always")),
   PySem.W.makesIn K (Hd.cl K "Always"),
   decide (PySem.W.findIn K (.ref (Hd.cl K "Always")) "__init__"=PySem.W.findIn K (.ref (Hd.cl K "Condition")) "__init__"),
   decide (PySem.W.findIn K (.ref (Hd.cl K "Always")) "holds"=PySem.W.findIn K (.ref (Hd.cl K "Condition")) "holds"),
   decide (PySem.W.findIn K (.ref (Hd.cl K "Always")) "truths"=PySem.W.findIn K (.ref (Hd.cl K "Condition")) "truths"),
   decide (PySem.W.findIn K (.ref (Hd.cl K "Always")) "tree"=PySem.W.findIn K (.ref (Hd.cl K "Condition")) "tree"),
   decide (PySem.W.findIn K (.ref (Hd.cl K "Always")) "written"=PySem.W.findIn K (.ref (Hd.cl K "Condition")) "written"),
   decide (PySem.W.findIn K (.ref (Hd.cl K "Always")) "shape"=some none),
   PySem.W.plainGet K (Hd.cl K "HasWord") Str.empty,
   PySem.W.hasDictIn K (Hd.cl K "HasWord"),
   PySem.W.plainOver K (Hd.cl K "HasWord"),
   decide (PySem.W.findIn K (.ref (Hd.cl K "HasWord")) "__setattr__"=some (some (.builtin "object.__setattr__"))),
   PySem.W.keepIn K (.ref (Hd.cl K "HasWord")),
   PySem.W.makesIn K (Hd.cl K "HasWord"),
   decide (PySem.W.findIn K (.ref (Hd.cl K "HasWord")) "__init__"=PySem.W.findIn K (.ref (Hd.cl K "Condition")) "__init__"),
   decide (PySem.W.findIn K (.ref (Hd.cl K "HasWord")) "truths"=PySem.W.findIn K (.ref (Hd.cl K "Condition")) "truths"),
   decide (PySem.W.findIn K (.ref (Hd.cl K "HasWord")) "tree"=PySem.W.findIn K (.ref (Hd.cl K "Condition")) "tree"),
   decide (PySem.W.findIn K (.ref (Hd.cl K "HasWord")) "written"=PySem.W.findIn K (.ref (Hd.cl K "Condition")) "written"),
   decide (PySem.W.findIn K (.ref (Hd.cl K "HasWord")) "shape"=some none),
   PySem.W.plainGet K (Hd.cl K "HasTitleWord") Str.empty,
   PySem.W.hasDictIn K (Hd.cl K "HasTitleWord"),
   PySem.W.plainOver K (Hd.cl K "HasTitleWord"),
   decide (PySem.W.findIn K (.ref (Hd.cl K "HasTitleWord")) "__setattr__"=some (some (.builtin "object.__setattr__"))),
   PySem.W.keepIn K (.ref (Hd.cl K "HasTitleWord")),
   PySem.W.makesIn K (Hd.cl K "HasTitleWord"),
   decide (PySem.W.findIn K (.ref (Hd.cl K "HasTitleWord")) "__init__"=PySem.W.findIn K (.ref (Hd.cl K "Condition")) "__init__"),
   decide (PySem.W.findIn K (.ref (Hd.cl K "HasTitleWord")) "truths"=PySem.W.findIn K (.ref (Hd.cl K "Condition")) "truths"),
   decide (PySem.W.findIn K (.ref (Hd.cl K "HasTitleWord")) "tree"=PySem.W.findIn K (.ref (Hd.cl K "Condition")) "tree"),
   decide (PySem.W.findIn K (.ref (Hd.cl K "HasTitleWord")) "written"=PySem.W.findIn K (.ref (Hd.cl K "Condition")) "written"),
   decide (PySem.W.findIn K (.ref (Hd.cl K "HasTitleWord")) "shape"=some none),
   PySem.W.plainGet K (Hd.cl K "IsFrom") Str.empty,
   PySem.W.hasDictIn K (Hd.cl K "IsFrom"),
   PySem.W.plainOver K (Hd.cl K "IsFrom"),
   decide (PySem.W.findIn K (.ref (Hd.cl K "IsFrom")) "__setattr__"=some (some (.builtin "object.__setattr__"))),
   PySem.W.keepIn K (.ref (Hd.cl K "IsFrom")),
   PySem.W.makesIn K (Hd.cl K "IsFrom"),
   decide (PySem.W.findIn K (.ref (Hd.cl K "IsFrom")) "__init__"=PySem.W.findIn K (.ref (Hd.cl K "Condition")) "__init__"),
   decide (PySem.W.findIn K (.ref (Hd.cl K "IsFrom")) "truths"=PySem.W.findIn K (.ref (Hd.cl K "Condition")) "truths"),
   decide (PySem.W.findIn K (.ref (Hd.cl K "IsFrom")) "tree"=PySem.W.findIn K (.ref (Hd.cl K "Condition")) "tree"),
   decide (PySem.W.findIn K (.ref (Hd.cl K "IsFrom")) "written"=PySem.W.findIn K (.ref (Hd.cl K "Condition")) "written"),
   decide (PySem.W.findIn K (.ref (Hd.cl K "IsFrom")) "shape"=some none),
   PySem.W.plainGet K (Hd.cl K "IsOfDays") Str.empty,
   PySem.W.hasDictIn K (Hd.cl K "IsOfDays"),
   PySem.W.plainOver K (Hd.cl K "IsOfDays"),
   decide (PySem.W.findIn K (.ref (Hd.cl K "IsOfDays")) "__setattr__"=some (some (.builtin "object.__setattr__"))),
   PySem.W.keepIn K (.ref (Hd.cl K "IsOfDays")),
   PySem.W.makesIn K (Hd.cl K "IsOfDays"),
   decide (PySem.W.findIn K (.ref (Hd.cl K "IsOfDays")) "__init__"=PySem.W.findIn K (.ref (Hd.cl K "Condition")) "__init__"),
   decide (PySem.W.findIn K (.ref (Hd.cl K "IsOfDays")) "truths"=PySem.W.findIn K (.ref (Hd.cl K "Condition")) "truths"),
   decide (PySem.W.findIn K (.ref (Hd.cl K "IsOfDays")) "tree"=PySem.W.findIn K (.ref (Hd.cl K "Condition")) "tree"),
   decide (PySem.W.findIn K (.ref (Hd.cl K "IsOfDays")) "shape"=some none),
   PySem.W.plainGet K (Hd.cl K "IsIn") Str.empty,
   PySem.W.hasDictIn K (Hd.cl K "IsIn"),
   PySem.W.plainOver K (Hd.cl K "IsIn"),
   decide (PySem.W.findIn K (.ref (Hd.cl K "IsIn")) "__setattr__"=some (some (.builtin "object.__setattr__"))),
   PySem.W.keepIn K (.ref (Hd.cl K "IsIn")),
   PySem.W.makesIn K (Hd.cl K "IsIn"),
   decide (PySem.W.findIn K (.ref (Hd.cl K "IsIn")) "__init__"=PySem.W.findIn K (.ref (Hd.cl K "Condition")) "__init__"),
   decide (PySem.W.findIn K (.ref (Hd.cl K "IsIn")) "truths"=PySem.W.findIn K (.ref (Hd.cl K "Condition")) "truths"),
   decide (PySem.W.findIn K (.ref (Hd.cl K "IsIn")) "tree"=PySem.W.findIn K (.ref (Hd.cl K "Condition")) "tree"),
   decide (PySem.W.findIn K (.ref (Hd.cl K "IsIn")) "written"=PySem.W.findIn K (.ref (Hd.cl K "Condition")) "written"),
   decide (PySem.W.findIn K (.ref (Hd.cl K "IsIn")) "shape"=some none),
   PySem.W.plainGet K (Hd.cl K "IsMarked") Str.empty,
   PySem.W.hasDictIn K (Hd.cl K "IsMarked"),
   PySem.W.plainOver K (Hd.cl K "IsMarked"),
   decide (PySem.W.findIn K (.ref (Hd.cl K "IsMarked")) "__setattr__"=some (some (.builtin "object.__setattr__"))),
   PySem.W.keepIn K (.ref (Hd.cl K "IsMarked")),
   PySem.W.makesIn K (Hd.cl K "IsMarked"),
   decide (PySem.W.findIn K (.ref (Hd.cl K "IsMarked")) "__init__"=PySem.W.findIn K (.ref (Hd.cl K "Condition")) "__init__"),
   decide (PySem.W.findIn K (.ref (Hd.cl K "IsMarked")) "truths"=PySem.W.findIn K (.ref (Hd.cl K "Condition")) "truths"),
   decide (PySem.W.findIn K (.ref (Hd.cl K "IsMarked")) "tree"=PySem.W.findIn K (.ref (Hd.cl K "Condition")) "tree"),
   decide (PySem.W.findIn K (.ref (Hd.cl K "IsMarked")) "written"=PySem.W.findIn K (.ref (Hd.cl K "Condition")) "written"),
   decide (PySem.W.findIn K (.ref (Hd.cl K "IsMarked")) "shape"=some none),
   PySem.W.plainGet K (Hd.cl K "DoesAnswer") Str.empty,
   PySem.W.hasDictIn K (Hd.cl K "DoesAnswer"),
   PySem.W.plainOver K (Hd.cl K "DoesAnswer"),
   decide (PySem.W.findIn K (.ref (Hd.cl K "DoesAnswer")) "__setattr__"=some (some (.builtin "object.__setattr__"))),
   PySem.W.keepIn K (.ref (Hd.cl K "DoesAnswer")),
   PySem.W.makesIn K (Hd.cl K "DoesAnswer"),
   decide (PySem.W.findIn K (.ref (Hd.cl K "DoesAnswer")) "__init__"=PySem.W.findIn K (.ref (Hd.cl K "Condition")) "__init__"),
   decide (PySem.W.findIn K (.ref (Hd.cl K "DoesAnswer")) "truths"=PySem.W.findIn K (.ref (Hd.cl K "Condition")) "truths"),
   decide (PySem.W.findIn K (.ref (Hd.cl K "DoesAnswer")) "tree"=PySem.W.findIn K (.ref (Hd.cl K "Condition")) "tree"),
   decide (PySem.W.findIn K (.ref (Hd.cl K "DoesAnswer")) "written"=PySem.W.findIn K (.ref (Hd.cl K "Condition")) "written"),
   decide (PySem.W.findIn K (.ref (Hd.cl K "DoesAnswer")) "shape"=some none),
   PySem.W.plainGet K (Hd.cl K "Wrapped") Str.empty,
   PySem.W.hasDictIn K (Hd.cl K "Wrapped"),
   PySem.W.plainOver K (Hd.cl K "Wrapped"),
   decide (PySem.W.findIn K (.ref (Hd.cl K "Wrapped")) "__setattr__"=some (some (.builtin "object.__setattr__"))),
   PySem.W.keepIn K (.ref (Hd.cl K "Wrapped")),
   PySem.W.makesIn K (Hd.cl K "Wrapped"),
   decide (PySem.W.findIn K (.ref (Hd.cl K "Wrapped")) "holds"=PySem.W.findIn K (.ref (Hd.cl K "Condition")) "holds"),
   decide (PySem.W.findIn K (.ref (Hd.cl K "Wrapped")) "truths"=PySem.W.findIn K (.ref (Hd.cl K "Condition")) "truths"),
   decide (PySem.W.findIn K (.ref (Hd.cl K "Wrapped")) "tree"=PySem.W.findIn K (.ref (Hd.cl K "Condition")) "tree"),
   decide (PySem.W.findIn K (.ref (Hd.cl K "Wrapped")) "shape"=some none),
   decide (PySem.W.findIn K (.ref (Hd.cl K "Wrapped")) "inner"=some none),
   PySem.W.plainGet K (Hd.cl K "Not") Str.empty,
   PySem.W.hasDictIn K (Hd.cl K "Not"),
   PySem.W.plainOver K (Hd.cl K "Not"),
   decide (PySem.W.findIn K (.ref (Hd.cl K "Not")) "__setattr__"=some (some (.builtin "object.__setattr__"))),
   PySem.W.keepIn K (.ref (Hd.cl K "Not")),
   PySem.W.makesIn K (Hd.cl K "Not"),
   decide (PySem.W.findIn K (.ref (Hd.cl K "Not")) "__init__"=PySem.W.findIn K (.ref (Hd.cl K "Wrapped")) "__init__"),
   decide (PySem.W.findIn K (.ref (Hd.cl K "Not")) "tree"=PySem.W.findIn K (.ref (Hd.cl K "Condition")) "tree"),
   decide (PySem.W.findIn K (.ref (Hd.cl K "Not")) "written"=PySem.W.findIn K (.ref (Hd.cl K "Wrapped")) "written"),
   decide (PySem.W.findIn K (.ref (Hd.cl K "Not")) "shape"=some none),
   decide (PySem.W.findIn K (.ref (Hd.cl K "Not")) "inner"=some none),
   PySem.W.plainGet K (Hd.cl K "InThread") Str.empty,
   PySem.W.hasDictIn K (Hd.cl K "InThread"),
   PySem.W.plainOver K (Hd.cl K "InThread"),
   decide (PySem.W.findIn K (.ref (Hd.cl K "InThread")) "__setattr__"=some (some (.builtin "object.__setattr__"))),
   PySem.W.keepIn K (.ref (Hd.cl K "InThread")),
   PySem.W.makesIn K (Hd.cl K "InThread"),
   decide (PySem.W.findIn K (.ref (Hd.cl K "InThread")) "__init__"=PySem.W.findIn K (.ref (Hd.cl K "Wrapped")) "__init__"),
   decide (PySem.W.findIn K (.ref (Hd.cl K "InThread")) "tree"=PySem.W.findIn K (.ref (Hd.cl K "Condition")) "tree"),
   decide (PySem.W.findIn K (.ref (Hd.cl K "InThread")) "written"=PySem.W.findIn K (.ref (Hd.cl K "Wrapped")) "written"),
   decide (PySem.W.findIn K (.ref (Hd.cl K "InThread")) "shape"=some none),
   decide (PySem.W.findIn K (.ref (Hd.cl K "InThread")) "inner"=some none),
   PySem.W.plainGet K (Hd.cl K "Joined") Str.empty,
   PySem.W.hasDictIn K (Hd.cl K "Joined"),
   PySem.W.plainOver K (Hd.cl K "Joined"),
   decide (PySem.W.findIn K (.ref (Hd.cl K "Joined")) "__setattr__"=some (some (.builtin "object.__setattr__"))),
   PySem.W.keepIn K (.ref (Hd.cl K "Joined")),
   PySem.W.makesIn K (Hd.cl K "Joined"),
   decide (PySem.W.findIn K (.ref (Hd.cl K "Joined")) "holds"=PySem.W.findIn K (.ref (Hd.cl K "Condition")) "holds"),
   decide (PySem.W.findIn K (.ref (Hd.cl K "Joined")) "truths"=PySem.W.findIn K (.ref (Hd.cl K "Condition")) "truths"),
   decide (PySem.W.findIn K (.ref (Hd.cl K "Joined")) "tree"=PySem.W.findIn K (.ref (Hd.cl K "Condition")) "tree"),
   decide (PySem.W.findIn K (.ref (Hd.cl K "Joined")) "written"=PySem.W.findIn K (.ref (Hd.cl K "Condition")) "written"),
   decide (PySem.W.findIn K (.ref (Hd.cl K "Joined")) "shape"=some none),
   decide (PySem.W.findIn K (.ref (Hd.cl K "Joined")) "one"=some none),
   decide (PySem.W.findIn K (.ref (Hd.cl K "Joined")) "other"=some none),
   PySem.W.plainGet K (Hd.cl K "Both") Str.empty,
   PySem.W.hasDictIn K (Hd.cl K "Both"),
   PySem.W.plainOver K (Hd.cl K "Both"),
   decide (PySem.W.findIn K (.ref (Hd.cl K "Both")) "__setattr__"=some (some (.builtin "object.__setattr__"))),
   PySem.W.keepIn K (.ref (Hd.cl K "Both")),
   PySem.W.makesIn K (Hd.cl K "Both"),
   decide (PySem.W.findIn K (.ref (Hd.cl K "Both")) "__init__"=PySem.W.findIn K (.ref (Hd.cl K "Joined")) "__init__"),
   decide (PySem.W.findIn K (.ref (Hd.cl K "Both")) "tree"=PySem.W.findIn K (.ref (Hd.cl K "Condition")) "tree"),
   decide (PySem.W.findIn K (.ref (Hd.cl K "Both")) "written_with"=PySem.W.findIn K (.ref (Hd.cl K "Joined")) "written_with"),
   decide (PySem.W.findIn K (.ref (Hd.cl K "Both")) "shape"=some none),
   decide (PySem.W.findIn K (.ref (Hd.cl K "Both")) "one"=some none),
   decide (PySem.W.findIn K (.ref (Hd.cl K "Both")) "other"=some none),
   PySem.W.plainGet K (Hd.cl K "Either") Str.empty,
   PySem.W.hasDictIn K (Hd.cl K "Either"),
   PySem.W.plainOver K (Hd.cl K "Either"),
   decide (PySem.W.findIn K (.ref (Hd.cl K "Either")) "__setattr__"=some (some (.builtin "object.__setattr__"))),
   PySem.W.keepIn K (.ref (Hd.cl K "Either")),
   PySem.W.makesIn K (Hd.cl K "Either"),
   decide (PySem.W.findIn K (.ref (Hd.cl K "Either")) "__init__"=PySem.W.findIn K (.ref (Hd.cl K "Joined")) "__init__"),
   decide (PySem.W.findIn K (.ref (Hd.cl K "Either")) "tree"=PySem.W.findIn K (.ref (Hd.cl K "Condition")) "tree"),
   decide (PySem.W.findIn K (.ref (Hd.cl K "Either")) "written_with"=PySem.W.findIn K (.ref (Hd.cl K "Joined")) "written_with"),
   decide (PySem.W.findIn K (.ref (Hd.cl K "Either")) "shape"=some none),
   decide (PySem.W.findIn K (.ref (Hd.cl K "Either")) "one"=some none),
   decide (PySem.W.findIn K (.ref (Hd.cl K "Either")) "other"=some none),
   PySem.W.plainGet K (Hd.cl K "Letter") Str.empty,
   PySem.W.hasDictIn K (Hd.cl K "Letter"),
   PySem.W.plainOver K (Hd.cl K "Letter"),
   decide (PySem.W.findIn K (.ref (Hd.cl K "Letter")) "__setattr__"=some (some (.builtin "object.__setattr__"))),
   PySem.W.keepIn K (.ref (Hd.cl K "Letter")),
   PySem.W.makesIn K (Hd.cl K "Letter"),
   decide (PySem.W.findIn K (.ref (Hd.cl K "Letter")) "sender"=some none),
   decide (PySem.W.findIn K (.ref (Hd.cl K "Letter")) "title"=some none),
   decide (PySem.W.findIn K (.ref (Hd.cl K "Letter")) "body"=some none),
   decide (PySem.W.findIn K (.ref (Hd.cl K "Letter")) "day"=some none),
   decide (PySem.W.findIn K (.ref (Hd.cl K "Letter")) "answers"=some none),
   decide (PySem.W.findIn K (.ref (Hd.cl K "Letter")) "found"=some none),
   decide (PySem.W.specialIn K (.ref (Hd.cl K "Condition")) "__getattribute__"=some (some (.builtin "type.__getattribute__"))),
   PySem.W.readsIn K (Hd.cl K "Condition") (.type "type"),
   Hd.isVal (PySem.W.findCls K (.ref (Hd.cl K "Condition")) (.type "type") "__init__") (.ref (Hd.adOf (PySem.W.findIn K (.ref (Hd.cl K "Condition")) "__init__"))),
   decide (Hd.gl K "len"=some none),
   decide (Hd.gl K "range"=some none),
   decide (Hd.gl K "isinstance"=some none),
   decide (Hd.gl K "str"=some none),
   decide (Hd.gl K "int"=some none),
   decide (Hd.gl K "bool"=some none),
   decide (Hd.gl K "list"=some none),
   decide (Hd.gl K "tuple"=some none),
   decide (Hd.gl K "set"=some none),
   decide (Hd.gl K "max"=some none),
   decide (Hd.gl K "all"=some none),
   decide (Hd.gl K "any"=some none),
   decide (Hd.gl K "sorted"=some none),
   decide (Hd.gl K "enumerate"=some none),
   decide (Hd.gl K "zip"=some none)].all id)
def good:List (Option (FuncData×Option (List Value))×Bool)×Bool :=
 ([(some (Hd.bareFn "_wall" "_wall" QeO,none),true),
   (some (Hd.bareFn "card_behind" "card_behind" ZP,none),true),
   (some (Hd.bareFn "row_written" "row_written" Ji,none),true),
   (some (Hd.bareFn "condition_of" "condition_of" ZD,none),true),
   (some (Hd.bareFn "all_among" "all_among" J3,none),true),
   (some (Hd.bareFn "is_word" "is_word" UY,none),true),
   (some (Hd.bareFn "words_of" "words_of" YC,none),true),
   (some (Hd.bareFn "is_text" "is_text" UZ,none),true),
   (some (Hd.bareFn "is_whole" "is_whole" Up,none),true),
   (some (Hd.bareFn "is_answered" "is_answered" JK,none),true),
   (some (Hd.bareFn "check_parts" "check_parts" JL,none),true),
   (some (Hd.bareFn "_law_cell_at" "_law_cell_at" YN,none),true),
   (some (Hd.bareFn "_law_mixed" "_law_mixed" UX,none),true),
   (some (Hd.bareFn "_law_word_by" "_law_word_by" JD,none),true),
   (some (Hd.bareFn "_law_text_by" "_law_text_by" YK,none),true),
   (some (Hd.bareFn "_law_parts_by" "_law_parts_by" Zr,none),true),
   (some (Hd.bareFn "_law_card_by" "_law_card_by" YO,none),true),
   (some (Hd.bareFn "_law_letter" "_law_letter" Uo,none),true),
   (some (Hd.bareFn "_law_made" "_law_made" V5,none),true),
   (some (Hd.bareFn "_law_leaf_by" "_law_leaf_by" YL,none),true),
   (some (Hd.bareFn "_law_threads" "_law_threads" YJ,none),true),
   (some (Hd.bareFn "_law_tree_by" "_law_tree_by" YI,none),true),
   (some (Hd.bareFn "_law_runs" "_law_runs" V4,none),true),
   (some (Hd.bareFn "_law_holds" "_law_holds" YM,none),true),
   (some (Hd.bareFn "_law_written" "_law_written" YH,none),true),
   (some (Hd.bareFn "_law_acts_by" "_law_acts_by" YQ,none),true),
   (some (Hd.bareFn "_law_run" "_law_run" UW,none),true),
   (some (Hd.bareFn "_law_told" "_law_told" Jj,none),true),
   (some (Hd.bareFn "_law_text" "_law_text" Vo,none),true),
   (some (Hd.bareFn "law" "law" Xn,none),true),
   (some (Hd.bareFn "__init__" "Card.__init__" QI,some [Hd.bv (.str "inbox"),Hd.bv (.non)]),true),
   (some (Hd.bareFn "placed" "Card.placed" UD,none),true),
   (some (Hd.bareFn "signed" "Card.signed" UC,none),true),
   (some (Hd.bareFn "unsigned" "Card.unsigned" YV,none),true),
   (some (Hd.bareFn "__init__" "Rules.__init__" JH,none),true),
   (some (Hd.bareFn "rows" "Rules.rows" JG,none),true),
   (some (Hd.bareFn "run" "Rules.run" JF,none),true),
   (some (Hd.bareFn "outcome" "Rules.outcome" Jc,none),true),
   (some (Hd.bareFn "met" "Rules.met" YT,none),true),
   (some (Hd.bareFn "written" "Rules.written" ZJ,none),true),
   (some (Hd.bareFn "__init__" "Condition.__init__" ZZ,none),true),
   (some (Hd.bareFn "holds" "Condition.holds" ZL,none),true),
   (some (Hd.bareFn "truths" "Condition.truths" Ze,none),true),
   (some (Hd.bareFn "tree" "Condition.tree" ZY,none),true),
   (some (Hd.bareFn "written" "Condition.written" Zp,none),true),
   (some (Hd.bareFn "holds" "HasWord.holds" Jd,none),true),
   (some (Hd.bareFn "holds" "HasTitleWord.holds" Zh,none),true),
   (some (Hd.bareFn "holds" "IsFrom.holds" Jx,none),true),
   (some (Hd.bareFn "holds" "IsOfDays.holds" ZU,none),true),
   (some (Hd.bareFn "written" "IsOfDays.written" Zv,none),true),
   (some (Hd.bareFn "holds" "IsIn.holds" Yk,none),true),
   (some (Hd.bareFn "holds" "IsMarked.holds" ZV,none),true),
   (some (Hd.bareFn "holds" "DoesAnswer.holds" Zw,none),true),
   (some (Hd.bareFn "__init__" "Wrapped.__init__" Ju,none),true),
   (some (Hd.bareFn "written" "Wrapped.written" ZI,none),true),
   (some (Hd.bareFn "holds" "Not.holds" YU,none),true),
   (some (Hd.bareFn "truths" "Not.truths" JI,none),true),
   (some (Hd.bareFn "holds" "InThread.holds" ZW,none),true),
   (some (Hd.bareFn "truths" "InThread.truths" Zo,none),true),
   (some (Hd.bareFn "__init__" "Joined.__init__" JQ,none),true),
   (some (Hd.bareFn "written_with" "Joined.written_with" Zb,none),true),
   (some (Hd.bareFn "holds" "Both.holds" Yl,none),true),
   (some (Hd.bareFn "truths" "Both.truths" Jl,none),true),
   (some (Hd.bareFn "written" "Both.written" Jz,none),true),
   (some (Hd.bareFn "holds" "Either.holds" Jy,none),true),
   (some (Hd.bareFn "truths" "Either.truths" ZK,none),true),
   (some (Hd.bareFn "written" "Either.written" ZX,none),true),
   (some (Hd.bareFn "__init__" "Letter.__init__" QL,some [Hd.bv (.str "")]),true),
   (some (Hd.bareFn "twin" "Letter.twin" JP,none),true),
   (some (Hd.bareFn "parts" "Letter.parts" Jv,none),true),
   (some (Hd.bareFn "known" "Letter.known" Jw,none),true),
   (some (Hd.bareFn "words" "Letter.words" Ug,none),true),
   (some (Hd.bareFn "title_words" "Letter.title_words" Jq,none),true)],true)
theorem all_mk {l:PySem.W.OpenLaw} {w:World} {K:PySem.W.Frag} {h:Heap} {mg:Str→Option Value} {fa:Addr} (X:K.In h) (E:obs K=good) (G:h.Ns mainGlobals mg) (hfa:mg "law"=some (.ref fa)) :
 ∃fd:FuncData,(∀(s:Shared) (v:Value),BindsTo s fd ⟨[v],[]⟩ [("_law_script",v)])∧∀base:Heap,K.In base→base.Ns mainGlobals mg→Qw l.prog w K mg base CX0 60 fa fd ["_law_script"] (spLaw K):=by
 have e1:=congrArg Prod.fst E
 have e2:=congrArg Prod.snd E
 obtain ⟨a1,k1,i1,_,F1⟩:=Hd.see_fun (st:=QeO) (Hd.eq_at e1 0 rfl rfl)
 have b1:=F1.binds (ps:=["k"]) fun _ _ _ _ _ _=>by refine J0 ?_;intros;rfl
 obtain ⟨a2,k2,i2,_,F2⟩:=Hd.see_fun (st:=ZP) (Hd.eq_at e1 1 rfl rfl)
 have b2:=F2.binds (ps:=["card","acts"]) fun _ _ _ _ _ _=>by refine JZ ?_;intros;rfl
 obtain ⟨a3,k3,i3,_,F3⟩:=Hd.see_fun (st:=Ji) (Hd.eq_at e1 2 rfl rfl)
 have b3:=F3.binds (ps:=["condition","acts"]) fun _ _ _ _ _ _=>by refine JZ ?_;intros;rfl
 obtain ⟨a4,k4,i4,_,F4⟩:=Hd.see_fun (st:=ZD) (Hd.eq_at e1 3 rfl rfl)
 have b4:=F4.binds (ps:=["tree"]) fun _ _ _ _ _ _=>by refine J0 ?_;intros;rfl
 obtain ⟨a5,k5,i5,_,F5⟩:=Hd.see_fun (st:=J3) (Hd.eq_at e1 4 rfl rfl)
 have b5:=F5.binds (ps:=["text","signs"]) fun _ _ _ _ _ _=>by refine JZ ?_;intros;rfl
 obtain ⟨a6,k6,i6,_,F6⟩:=Hd.see_fun (st:=UY) (Hd.eq_at e1 5 rfl rfl)
 have b6:=F6.binds (ps:=["thing"]) fun _ _ _ _ _ _=>by refine J0 ?_;intros;rfl
 obtain ⟨a7,k7,i7,_,F7⟩:=Hd.see_fun (st:=YC) (Hd.eq_at e1 6 rfl rfl)
 have b7:=F7.binds (ps:=["text"]) fun _ _ _ _ _ _=>by refine J0 ?_;intros;rfl
 obtain ⟨a8,k8,i8,_,F8⟩:=Hd.see_fun (st:=UZ) (Hd.eq_at e1 7 rfl rfl)
 have b8:=F8.binds (ps:=["thing","most"]) fun _ _ _ _ _ _=>by refine JZ ?_;intros;rfl
 obtain ⟨a9,k9,i9,_,F9⟩:=Hd.see_fun (st:=Up) (Hd.eq_at e1 8 rfl rfl)
 have b9:=F9.binds (ps:=["thing"]) fun _ _ _ _ _ _=>by refine J0 ?_;intros;rfl
 obtain ⟨a10,k10,i10,_,F10⟩:=Hd.see_fun (st:=JK) (Hd.eq_at e1 9 rfl rfl)
 have b10:=F10.binds (ps:=["thing"]) fun _ _ _ _ _ _=>by refine J0 ?_;intros;rfl
 obtain ⟨a11,k11,i11,_,F11⟩:=Hd.see_fun (st:=JL) (Hd.eq_at e1 10 rfl rfl)
 have b11:=F11.binds (ps:=["sender","title","body","day","answers"]) fun _ _ _ _ _ _=>by refine us_5 ?_;intros;rfl
 obtain ⟨a12,k12,i12,_,F12⟩:=Hd.see_fun (st:=YN) (Hd.eq_at e1 11 rfl rfl)
 have b12:=F12.binds (ps:=["_law_script","_law_k"]) fun _ _ _ _ _ _=>by refine JZ ?_;intros;rfl
 obtain ⟨a13,k13,i13,_,F13⟩:=Hd.see_fun (st:=UX) (Hd.eq_at e1 12 rfl rfl)
 have b13:=F13.binds (ps:=["_law_script","_law_start","_law_many"]) fun _ _ _ _ _ _=>by refine Uk ?_;intros;rfl
 obtain ⟨a14,k14,i14,_,F14⟩:=Hd.see_fun (st:=JD) (Hd.eq_at e1 13 rfl rfl)
 have b14:=F14.binds (ps:=["_law_shape","_law_k"]) fun _ _ _ _ _ _=>by refine JZ ?_;intros;rfl
 obtain ⟨a15,k15,i15,_,F15⟩:=Hd.see_fun (st:=YK) (Hd.eq_at e1 14 rfl rfl)
 have b15:=F15.binds (ps:=["_law_shape","_law_cells"]) fun _ _ _ _ _ _=>by refine JZ ?_;intros;rfl
 obtain ⟨a16,k16,i16,_,F16⟩:=Hd.see_fun (st:=Zr) (Hd.eq_at e1 15 rfl rfl)
 have b16:=F16.binds (ps:=["_law_shape","_law_cells"]) fun _ _ _ _ _ _=>by refine JZ ?_;intros;rfl
 obtain ⟨a17,k17,i17,_,F17⟩:=Hd.see_fun (st:=YO) (Hd.eq_at e1 16 rfl rfl)
 have b17:=F17.binds (ps:=["_law_shape","_law_cells"]) fun _ _ _ _ _ _=>by refine JZ ?_;intros;rfl
 obtain ⟨a18,k18,i18,_,F18⟩:=Hd.see_fun (st:=Uo) (Hd.eq_at e1 17 rfl rfl)
 have b18:=F18.binds (ps:=["_law_parts"]) fun _ _ _ _ _ _=>by refine J0 ?_;intros;rfl
 obtain ⟨a19,k19,i19,_,F19⟩:=Hd.see_fun (st:=V5) (Hd.eq_at e1 18 rfl rfl)
 have b19:=F19.binds (ps:=["_law_card"]) fun _ _ _ _ _ _=>by refine J0 ?_;intros;rfl
 obtain ⟨a20,k20,i20,_,F20⟩:=Hd.see_fun (st:=YL) (Hd.eq_at e1 19 rfl rfl)
 have b20:=F20.binds (ps:=["_law_shape","_law_cell"]) fun _ _ _ _ _ _=>by refine JZ ?_;intros;rfl
 obtain ⟨a21,k21,i21,_,F21⟩:=Hd.see_fun (st:=YJ) (Hd.eq_at e1 20 rfl rfl)
 have b21:=F21.binds (ps:=["_law_tree"]) fun _ _ _ _ _ _=>by refine J0 ?_;intros;rfl
 obtain ⟨a22,k22,i22,_,F22⟩:=Hd.see_fun (st:=YI) (Hd.eq_at e1 21 rfl rfl)
 have b22:=F22.binds (ps:=["_law_shape","_law_cells"]) fun _ _ _ _ _ _=>by refine JZ ?_;intros;rfl
 obtain ⟨a23,k23,i23,_,F23⟩:=Hd.see_fun (st:=V4) (Hd.eq_at e1 22 rfl rfl)
 have b23:=F23.binds (ps:=["_law_text_here"]) fun _ _ _ _ _ _=>by refine J0 ?_;intros;rfl
 obtain ⟨a24,k24,i24,_,F24⟩:=Hd.see_fun (st:=YM) (Hd.eq_at e1 23 rfl rfl)
 have b24:=F24.binds (ps:=["_law_tree","_law_card","_law_others"]) fun _ _ _ _ _ _=>by refine Uk ?_;intros;rfl
 obtain ⟨a25,k25,i25,_,F25⟩:=Hd.see_fun (st:=YH) (Hd.eq_at e1 24 rfl rfl)
 have b25:=F25.binds (ps:=["_law_tree"]) fun _ _ _ _ _ _=>by refine J0 ?_;intros;rfl
 obtain ⟨a26,k26,i26,_,F26⟩:=Hd.see_fun (st:=YQ) (Hd.eq_at e1 25 rfl rfl)
 have b26:=F26.binds (ps:=["_law_shape","_law_cell"]) fun _ _ _ _ _ _=>by refine JZ ?_;intros;rfl
 obtain ⟨a27,k27,i27,_,F27⟩:=Hd.see_fun (st:=UW) (Hd.eq_at e1 26 rfl rfl)
 have b27:=F27.binds (ps:=["_law_rows","_law_card","_law_others"]) fun _ _ _ _ _ _=>by refine Uk ?_;intros;rfl
 obtain ⟨a28,k28,i28,_,F28⟩:=Hd.see_fun (st:=Jj) (Hd.eq_at e1 27 rfl rfl)
 have b28:=F28.binds (ps:=["_law_rules","_law_rows","_law_cards","_law_made_here","_law_turn"]) fun _ _ _ _ _ _=>by refine us_5 ?_;intros;rfl
 obtain ⟨a29,k29,i29,_,F29⟩:=Hd.see_fun (st:=Vo) (Hd.eq_at e1 28 rfl rfl)
 have b29:=F29.binds (ps:=["_law_rows"]) fun _ _ _ _ _ _=>by refine J0 ?_;intros;rfl
 obtain ⟨a30,k30,i30,_,F30⟩:=Hd.see_fun (st:=Xn) (Hd.eq_at e1 29 rfl rfl)
 have b30:=F30.binds (ps:=["_law_script"]) fun _ _ _ _ _ _=>by refine J0 ?_;intros;rfl
 obtain ⟨a31,k31,i31,D31,kV31,dc31,pm31,an31,cd31,ct31,o31,it31,Dn31,F31,t31,s31,m31⟩:=Hd.see_funD (st:=QI) (Hd.eq_at e1 30 rfl rfl)
 obtain ⟨dv31_0,dv31_1,rfl,rd31_0,rd31_1⟩:=Hd.map2 m31
 have b31_0:Qt K (PySem.W.fnOf "__init__" "Card.__init__" (Zf QI) (QM QI) (Qe QI) (.ref D31) kV31 dc31 pm31 an31 cd31 ct31) ["self","letter","folder","marks"] [dv31_0,dv31_1]:=fun s us X' hl=>have hl':us.length=2:=(by simpa using hl);(by clear hl;revert hl';revert us;refine JZ ?_;intros;exact PySem.W.binds_K (fd:=PySem.W.fnOf "__init__" "Card.__init__" (Zf QI) (QM QI) (Qe QI) (.ref D31) kV31 dc31 pm31 an31 cd31 ct31) X' rfl t31 s31 rfl rfl)
 have b31_1:Qt K (PySem.W.fnOf "__init__" "Card.__init__" (Zf QI) (QM QI) (Qe QI) (.ref D31) kV31 dc31 pm31 an31 cd31 ct31) ["self","letter","folder","marks"] [dv31_1]:=fun s us X' hl=>have hl':us.length=3:=(by simpa using hl);(by clear hl;revert hl';revert us;refine Uk ?_;intros;exact PySem.W.binds_K (fd:=PySem.W.fnOf "__init__" "Card.__init__" (Zf QI) (QM QI) (Qe QI) (.ref D31) kV31 dc31 pm31 an31 cd31 ct31) X' rfl t31 s31 rfl rfl)
 have b31_2:Qt K (PySem.W.fnOf "__init__" "Card.__init__" (Zf QI) (QM QI) (Qe QI) (.ref D31) kV31 dc31 pm31 an31 cd31 ct31) ["self","letter","folder","marks"] []:=fun s us X' hl=>have hl':us.length=4:=(by simpa using hl);(by clear hl;revert hl';revert us;refine us_4 ?_;intros;exact PySem.W.binds_K (fd:=PySem.W.fnOf "__init__" "Card.__init__" (Zf QI) (QM QI) (Qe QI) (.ref D31) kV31 dc31 pm31 an31 cd31 ct31) X' rfl t31 s31 rfl rfl)
 obtain ⟨a32,k32,i32,_,F32⟩:=Hd.see_fun (st:=UD) (Hd.eq_at e1 31 rfl rfl)
 have b32:=F32.binds (ps:=["self","folder"]) fun _ _ _ _ _ _=>by refine JZ ?_;intros;rfl
 obtain ⟨a33,k33,i33,_,F33⟩:=Hd.see_fun (st:=UC) (Hd.eq_at e1 32 rfl rfl)
 have b33:=F33.binds (ps:=["self","word"]) fun _ _ _ _ _ _=>by refine JZ ?_;intros;rfl
 obtain ⟨a34,k34,i34,_,F34⟩:=Hd.see_fun (st:=YV) (Hd.eq_at e1 33 rfl rfl)
 have b34:=F34.binds (ps:=["self","word"]) fun _ _ _ _ _ _=>by refine JZ ?_;intros;rfl
 obtain ⟨a35,k35,i35,_,F35⟩:=Hd.see_fun (st:=JH) (Hd.eq_at e1 34 rfl rfl)
 have b35:=F35.binds (ps:=["self","rows"]) fun _ _ _ _ _ _=>by refine JZ ?_;intros;rfl
 obtain ⟨a36,k36,i36,_,F36⟩:=Hd.see_fun (st:=JG) (Hd.eq_at e1 35 rfl rfl)
 have b36:=F36.binds (ps:=["self"]) fun _ _ _ _ _ _=>by refine J0 ?_;intros;rfl
 obtain ⟨a37,k37,i37,_,F37⟩:=Hd.see_fun (st:=JF) (Hd.eq_at e1 36 rfl rfl)
 have b37:=F37.binds (ps:=["self","card","others"]) fun _ _ _ _ _ _=>by refine Uk ?_;intros;rfl
 obtain ⟨a38,k38,i38,_,F38⟩:=Hd.see_fun (st:=Jc) (Hd.eq_at e1 37 rfl rfl)
 have b38:=F38.binds (ps:=["self","card","others"]) fun _ _ _ _ _ _=>by refine Uk ?_;intros;rfl
 obtain ⟨a39,k39,i39,_,F39⟩:=Hd.see_fun (st:=YT) (Hd.eq_at e1 38 rfl rfl)
 have b39:=F39.binds (ps:=["self","card","others"]) fun _ _ _ _ _ _=>by refine Uk ?_;intros;rfl
 obtain ⟨a40,k40,i40,_,F40⟩:=Hd.see_fun (st:=ZJ) (Hd.eq_at e1 39 rfl rfl)
 have b40:=F40.binds (ps:=["self"]) fun _ _ _ _ _ _=>by refine J0 ?_;intros;rfl
 obtain ⟨a41,k41,i41,_,F41⟩:=Hd.see_fun (st:=ZZ) (Hd.eq_at e1 40 rfl rfl)
 have b41:=F41.binds (ps:=["self","tree"]) fun _ _ _ _ _ _=>by refine JZ ?_;intros;rfl
 obtain ⟨a42,k42,i42,_,F42⟩:=Hd.see_fun (st:=ZL) (Hd.eq_at e1 41 rfl rfl)
 have b42:=F42.binds (ps:=["self","card","others"]) fun _ _ _ _ _ _=>by refine Uk ?_;intros;rfl
 obtain ⟨a43,k43,i43,_,F43⟩:=Hd.see_fun (st:=Ze) (Hd.eq_at e1 42 rfl rfl)
 have b43:=F43.binds (ps:=["self","cards"]) fun _ _ _ _ _ _=>by refine JZ ?_;intros;rfl
 obtain ⟨a44,k44,i44,_,F44⟩:=Hd.see_fun (st:=ZY) (Hd.eq_at e1 43 rfl rfl)
 have b44:=F44.binds (ps:=["self"]) fun _ _ _ _ _ _=>by refine J0 ?_;intros;rfl
 obtain ⟨a45,k45,i45,_,F45⟩:=Hd.see_fun (st:=Zp) (Hd.eq_at e1 44 rfl rfl)
 have b45:=F45.binds (ps:=["self"]) fun _ _ _ _ _ _=>by refine J0 ?_;intros;rfl
 obtain ⟨a46,k46,i46,_,F46⟩:=Hd.see_fun (st:=Jd) (Hd.eq_at e1 45 rfl rfl)
 have b46:=F46.binds (ps:=["self","card","others"]) fun _ _ _ _ _ _=>by refine Uk ?_;intros;rfl
 obtain ⟨a47,k47,i47,_,F47⟩:=Hd.see_fun (st:=Zh) (Hd.eq_at e1 46 rfl rfl)
 have b47:=F47.binds (ps:=["self","card","others"]) fun _ _ _ _ _ _=>by refine Uk ?_;intros;rfl
 obtain ⟨a48,k48,i48,_,F48⟩:=Hd.see_fun (st:=Jx) (Hd.eq_at e1 47 rfl rfl)
 have b48:=F48.binds (ps:=["self","card","others"]) fun _ _ _ _ _ _=>by refine Uk ?_;intros;rfl
 obtain ⟨a49,k49,i49,_,F49⟩:=Hd.see_fun (st:=ZU) (Hd.eq_at e1 48 rfl rfl)
 have b49:=F49.binds (ps:=["self","card","others"]) fun _ _ _ _ _ _=>by refine Uk ?_;intros;rfl
 obtain ⟨a50,k50,i50,_,F50⟩:=Hd.see_fun (st:=Zv) (Hd.eq_at e1 49 rfl rfl)
 have b50:=F50.binds (ps:=["self"]) fun _ _ _ _ _ _=>by refine J0 ?_;intros;rfl
 obtain ⟨a51,k51,i51,_,F51⟩:=Hd.see_fun (st:=Yk) (Hd.eq_at e1 50 rfl rfl)
 have b51:=F51.binds (ps:=["self","card","others"]) fun _ _ _ _ _ _=>by refine Uk ?_;intros;rfl
 obtain ⟨a52,k52,i52,_,F52⟩:=Hd.see_fun (st:=ZV) (Hd.eq_at e1 51 rfl rfl)
 have b52:=F52.binds (ps:=["self","card","others"]) fun _ _ _ _ _ _=>by refine Uk ?_;intros;rfl
 obtain ⟨a53,k53,i53,_,F53⟩:=Hd.see_fun (st:=Zw) (Hd.eq_at e1 52 rfl rfl)
 have b53:=F53.binds (ps:=["self","card","others"]) fun _ _ _ _ _ _=>by refine Uk ?_;intros;rfl
 obtain ⟨a54,k54,i54,_,F54⟩:=Hd.see_fun (st:=Ju) (Hd.eq_at e1 53 rfl rfl)
 have b54:=F54.binds (ps:=["self","tree"]) fun _ _ _ _ _ _=>by refine JZ ?_;intros;rfl
 obtain ⟨a55,k55,i55,_,F55⟩:=Hd.see_fun (st:=ZI) (Hd.eq_at e1 54 rfl rfl)
 have b55:=F55.binds (ps:=["self"]) fun _ _ _ _ _ _=>by refine J0 ?_;intros;rfl
 obtain ⟨a56,k56,i56,_,F56⟩:=Hd.see_fun (st:=YU) (Hd.eq_at e1 55 rfl rfl)
 have b56:=F56.binds (ps:=["self","card","others"]) fun _ _ _ _ _ _=>by refine Uk ?_;intros;rfl
 obtain ⟨a57,k57,i57,_,F57⟩:=Hd.see_fun (st:=JI) (Hd.eq_at e1 56 rfl rfl)
 have b57:=F57.binds (ps:=["self","cards"]) fun _ _ _ _ _ _=>by refine JZ ?_;intros;rfl
 obtain ⟨a58,k58,i58,_,F58⟩:=Hd.see_fun (st:=ZW) (Hd.eq_at e1 57 rfl rfl)
 have b58:=F58.binds (ps:=["self","card","others"]) fun _ _ _ _ _ _=>by refine Uk ?_;intros;rfl
 obtain ⟨a59,k59,i59,_,F59⟩:=Hd.see_fun (st:=Zo) (Hd.eq_at e1 58 rfl rfl)
 have b59:=F59.binds (ps:=["self","cards"]) fun _ _ _ _ _ _=>by refine JZ ?_;intros;rfl
 obtain ⟨a60,k60,i60,_,F60⟩:=Hd.see_fun (st:=JQ) (Hd.eq_at e1 59 rfl rfl)
 have b60:=F60.binds (ps:=["self","tree"]) fun _ _ _ _ _ _=>by refine JZ ?_;intros;rfl
 obtain ⟨a61,k61,i61,_,F61⟩:=Hd.see_fun (st:=Zb) (Hd.eq_at e1 60 rfl rfl)
 have b61:=F61.binds (ps:=["self","between"]) fun _ _ _ _ _ _=>by refine JZ ?_;intros;rfl
 obtain ⟨a62,k62,i62,_,F62⟩:=Hd.see_fun (st:=Yl) (Hd.eq_at e1 61 rfl rfl)
 have b62:=F62.binds (ps:=["self","card","others"]) fun _ _ _ _ _ _=>by refine Uk ?_;intros;rfl
 obtain ⟨a63,k63,i63,_,F63⟩:=Hd.see_fun (st:=Jl) (Hd.eq_at e1 62 rfl rfl)
 have b63:=F63.binds (ps:=["self","cards"]) fun _ _ _ _ _ _=>by refine JZ ?_;intros;rfl
 obtain ⟨a64,k64,i64,_,F64⟩:=Hd.see_fun (st:=Jz) (Hd.eq_at e1 63 rfl rfl)
 have b64:=F64.binds (ps:=["self"]) fun _ _ _ _ _ _=>by refine J0 ?_;intros;rfl
 obtain ⟨a65,k65,i65,_,F65⟩:=Hd.see_fun (st:=Jy) (Hd.eq_at e1 64 rfl rfl)
 have b65:=F65.binds (ps:=["self","card","others"]) fun _ _ _ _ _ _=>by refine Uk ?_;intros;rfl
 obtain ⟨a66,k66,i66,_,F66⟩:=Hd.see_fun (st:=ZK) (Hd.eq_at e1 65 rfl rfl)
 have b66:=F66.binds (ps:=["self","cards"]) fun _ _ _ _ _ _=>by refine JZ ?_;intros;rfl
 obtain ⟨a67,k67,i67,_,F67⟩:=Hd.see_fun (st:=ZX) (Hd.eq_at e1 66 rfl rfl)
 have b67:=F67.binds (ps:=["self"]) fun _ _ _ _ _ _=>by refine J0 ?_;intros;rfl
 obtain ⟨a68,k68,i68,D68,kV68,dc68,pm68,an68,cd68,ct68,o68,it68,Dn68,F68,t68,s68,m68⟩:=Hd.see_funD (st:=QL) (Hd.eq_at e1 67 rfl rfl)
 obtain ⟨dv68_0,rfl,rd68_0⟩:=Hd.map1 m68
 have b68_0:Qt K (PySem.W.fnOf "__init__" "Letter.__init__" (Zf QL) (QM QL) (Qe QL) (.ref D68) kV68 dc68 pm68 an68 cd68 ct68) ["self","sender","title","body","day","answers"] [dv68_0]:=fun s us X' hl=>have hl':us.length=5:=(by simpa using hl);(by clear hl;revert hl';revert us;refine us_5 ?_;intros;exact PySem.W.binds_K (fd:=PySem.W.fnOf "__init__" "Letter.__init__" (Zf QL) (QM QL) (Qe QL) (.ref D68) kV68 dc68 pm68 an68 cd68 ct68) X' rfl t68 s68 rfl rfl)
 have b68_1:Qt K (PySem.W.fnOf "__init__" "Letter.__init__" (Zf QL) (QM QL) (Qe QL) (.ref D68) kV68 dc68 pm68 an68 cd68 ct68) ["self","sender","title","body","day","answers"] []:=fun s us X' hl=>have hl':us.length=6:=(by simpa using hl);(by clear hl;revert hl';revert us;refine us_6 ?_;intros;exact PySem.W.binds_K (fd:=PySem.W.fnOf "__init__" "Letter.__init__" (Zf QL) (QM QL) (Qe QL) (.ref D68) kV68 dc68 pm68 an68 cd68 ct68) X' rfl t68 s68 rfl rfl)
 obtain ⟨a69,k69,i69,_,F69⟩:=Hd.see_fun (st:=JP) (Hd.eq_at e1 68 rfl rfl)
 have b69:=F69.binds (ps:=["self"]) fun _ _ _ _ _ _=>by refine J0 ?_;intros;rfl
 obtain ⟨a70,k70,i70,_,F70⟩:=Hd.see_fun (st:=Jv) (Hd.eq_at e1 69 rfl rfl)
 have b70:=F70.binds (ps:=["self"]) fun _ _ _ _ _ _=>by refine J0 ?_;intros;rfl
 obtain ⟨a71,k71,i71,_,F71⟩:=Hd.see_fun (st:=Jw) (Hd.eq_at e1 70 rfl rfl)
 have b71:=F71.binds (ps:=["self"]) fun _ _ _ _ _ _=>by refine J0 ?_;intros;rfl
 obtain ⟨a72,k72,i72,_,F72⟩:=Hd.see_fun (st:=Ug) (Hd.eq_at e1 71 rfl rfl)
 have b72:=F72.binds (ps:=["self"]) fun _ _ _ _ _ _=>by refine J0 ?_;intros;rfl
 obtain ⟨a73,k73,i73,_,F73⟩:=Hd.see_fun (st:=Jq) (Hd.eq_at e1 72 rfl rfl)
 have b73:=F73.binds (ps:=["self"]) fun _ _ _ _ _ _=>by refine J0 ?_;intros;rfl
 have e:Value.ref fa=.ref (Hd.adOf (Hd.gl K "law")):=Option.some.inj (hfa.symm.trans (PySem.W.mg_of X G a30))
 injection e with e
 subst e
 let A:Adr:={ f_wall:=Hd.adOf (Hd.gl K "_wall"),f_card_behind:=Hd.adOf (Hd.gl K "card_behind"),f_row_written:=Hd.adOf (Hd.gl K "row_written"),f_condition_of:=Hd.adOf (Hd.gl K "condition_of"),f_all_among:=Hd.adOf (Hd.gl K "all_among"),f_is_word:=Hd.adOf (Hd.gl K "is_word"),f_words_of:=Hd.adOf (Hd.gl K "words_of"),f_is_text:=Hd.adOf (Hd.gl K "is_text"),f_is_whole:=Hd.adOf (Hd.gl K "is_whole"),f_is_answered:=Hd.adOf (Hd.gl K "is_answered"),f_check_parts:=Hd.adOf (Hd.gl K "check_parts"),f_l_cell_at:=Hd.adOf (Hd.gl K "_law_cell_at"),f_l_mixed:=Hd.adOf (Hd.gl K "_law_mixed"),f_l_word_by:=Hd.adOf (Hd.gl K "_law_word_by"),f_l_text_by:=Hd.adOf (Hd.gl K "_law_text_by"),f_l_parts_by:=Hd.adOf (Hd.gl K "_law_parts_by"),f_l_card_by:=Hd.adOf (Hd.gl K "_law_card_by"),f_l_letter:=Hd.adOf (Hd.gl K "_law_letter"),f_l_made:=Hd.adOf (Hd.gl K "_law_made"),f_l_leaf_by:=Hd.adOf (Hd.gl K "_law_leaf_by"),f_l_threads:=Hd.adOf (Hd.gl K "_law_threads"),f_l_tree_by:=Hd.adOf (Hd.gl K "_law_tree_by"),f_l_runs:=Hd.adOf (Hd.gl K "_law_runs"),f_l_holds:=Hd.adOf (Hd.gl K "_law_holds"),f_l_written:=Hd.adOf (Hd.gl K "_law_written"),f_l_acts_by:=Hd.adOf (Hd.gl K "_law_acts_by"),f_l_run:=Hd.adOf (Hd.gl K "_law_run"),f_l_told:=Hd.adOf (Hd.gl K "_law_told"),f_l_text:=Hd.adOf (Hd.gl K "_law_text"),f_law:=Hd.adOf (Hd.gl K "law"),f_Card_init:=Hd.adOf (PySem.W.findIn K (.ref (Hd.cl K "Card")) "__init__"),f_Card_placed:=Hd.adOf (PySem.W.findIn K (.ref (Hd.cl K "Card")) "placed"),f_Card_signed:=Hd.adOf (PySem.W.findIn K (.ref (Hd.cl K "Card")) "signed"),f_Card_unsigned:=Hd.adOf (PySem.W.findIn K (.ref (Hd.cl K "Card")) "unsigned"),f_Rules_init:=Hd.adOf (PySem.W.findIn K (.ref (Hd.cl K "Rules")) "__init__"),f_Rules_rows:=Hd.adOf (PySem.W.findIn K (.ref (Hd.cl K "Rules")) "rows"),f_Rules_run:=Hd.adOf (PySem.W.findIn K (.ref (Hd.cl K "Rules")) "run"),f_Rules_outcome:=Hd.adOf (PySem.W.findIn K (.ref (Hd.cl K "Rules")) "outcome"),f_Rules_met:=Hd.adOf (PySem.W.findIn K (.ref (Hd.cl K "Rules")) "met"),f_Rules_written:=Hd.adOf (PySem.W.findIn K (.ref (Hd.cl K "Rules")) "written"),f_Condition_init:=Hd.adOf (PySem.W.findIn K (.ref (Hd.cl K "Condition")) "__init__"),f_Condition_holds:=Hd.adOf (PySem.W.findIn K (.ref (Hd.cl K "Condition")) "holds"),f_Condition_truths:=Hd.adOf (PySem.W.findIn K (.ref (Hd.cl K "Condition")) "truths"),f_Condition_tree:=Hd.adOf (PySem.W.findIn K (.ref (Hd.cl K "Condition")) "tree"),f_Condition_written:=Hd.adOf (PySem.W.findIn K (.ref (Hd.cl K "Condition")) "written"),f_HasWord_holds:=Hd.adOf (PySem.W.findIn K (.ref (Hd.cl K "HasWord")) "holds"),f_HasTitleWord_holds:=Hd.adOf (PySem.W.findIn K (.ref (Hd.cl K "HasTitleWord")) "holds"),f_IsFrom_holds:=Hd.adOf (PySem.W.findIn K (.ref (Hd.cl K "IsFrom")) "holds"),f_IsOfDays_holds:=Hd.adOf (PySem.W.findIn K (.ref (Hd.cl K "IsOfDays")) "holds"),f_IsOfDays_written:=Hd.adOf (PySem.W.findIn K (.ref (Hd.cl K "IsOfDays")) "written"),f_IsIn_holds:=Hd.adOf (PySem.W.findIn K (.ref (Hd.cl K "IsIn")) "holds"),f_IsMarked_holds:=Hd.adOf (PySem.W.findIn K (.ref (Hd.cl K "IsMarked")) "holds"),f_DoesAnswer_holds:=Hd.adOf (PySem.W.findIn K (.ref (Hd.cl K "DoesAnswer")) "holds"),f_Wrapped_init:=Hd.adOf (PySem.W.findIn K (.ref (Hd.cl K "Wrapped")) "__init__"),f_Wrapped_written:=Hd.adOf (PySem.W.findIn K (.ref (Hd.cl K "Wrapped")) "written"),f_Not_holds:=Hd.adOf (PySem.W.findIn K (.ref (Hd.cl K "Not")) "holds"),f_Not_truths:=Hd.adOf (PySem.W.findIn K (.ref (Hd.cl K "Not")) "truths"),f_InThread_holds:=Hd.adOf (PySem.W.findIn K (.ref (Hd.cl K "InThread")) "holds"),f_InThread_truths:=Hd.adOf (PySem.W.findIn K (.ref (Hd.cl K "InThread")) "truths"),f_Joined_init:=Hd.adOf (PySem.W.findIn K (.ref (Hd.cl K "Joined")) "__init__"),f_Joined_written_with:=Hd.adOf (PySem.W.findIn K (.ref (Hd.cl K "Joined")) "written_with"),f_Both_holds:=Hd.adOf (PySem.W.findIn K (.ref (Hd.cl K "Both")) "holds"),f_Both_truths:=Hd.adOf (PySem.W.findIn K (.ref (Hd.cl K "Both")) "truths"),f_Both_written:=Hd.adOf (PySem.W.findIn K (.ref (Hd.cl K "Both")) "written"),f_Either_holds:=Hd.adOf (PySem.W.findIn K (.ref (Hd.cl K "Either")) "holds"),f_Either_truths:=Hd.adOf (PySem.W.findIn K (.ref (Hd.cl K "Either")) "truths"),f_Either_written:=Hd.adOf (PySem.W.findIn K (.ref (Hd.cl K "Either")) "written"),f_Letter_init:=Hd.adOf (PySem.W.findIn K (.ref (Hd.cl K "Letter")) "__init__"),f_Letter_twin:=Hd.adOf (PySem.W.findIn K (.ref (Hd.cl K "Letter")) "twin"),f_Letter_parts:=Hd.adOf (PySem.W.findIn K (.ref (Hd.cl K "Letter")) "parts"),f_Letter_known:=Hd.adOf (PySem.W.findIn K (.ref (Hd.cl K "Letter")) "known"),f_Letter_words:=Hd.adOf (PySem.W.findIn K (.ref (Hd.cl K "Letter")) "words"),f_Letter_title_words:=Hd.adOf (PySem.W.findIn K (.ref (Hd.cl K "Letter")) "title_words"),C_Card:=Hd.cl K "Card",C_Rules:=Hd.cl K "Rules",C_Condition:=Hd.cl K "Condition",C_Always:=Hd.cl K "Always",C_HasWord:=Hd.cl K "HasWord",C_HasTitleWord:=Hd.cl K "HasTitleWord",C_IsFrom:=Hd.cl K "IsFrom",C_IsOfDays:=Hd.cl K "IsOfDays",C_IsIn:=Hd.cl K "IsIn",C_IsMarked:=Hd.cl K "IsMarked",C_DoesAnswer:=Hd.cl K "DoesAnswer",C_Wrapped:=Hd.cl K "Wrapped",C_Not:=Hd.cl K "Not",C_InThread:=Hd.cl K "InThread",C_Joined:=Hd.cl K "Joined",C_Both:=Hd.cl K "Both",C_Either:=Hd.cl K "Either",C_Letter:=Hd.cl K "Letter" }
 have T:Txt K mg A:=⟨PySem.W.mg_of X G a1,
  PySem.W.mg_of X G a2,
  PySem.W.mg_of X G a3,
  PySem.W.mg_of X G a4,
  PySem.W.mg_of X G a5,
  PySem.W.mg_of X G a6,
  PySem.W.mg_of X G a7,
  PySem.W.mg_of X G a8,
  PySem.W.mg_of X G a9,
  PySem.W.mg_of X G a10,
  PySem.W.mg_of X G a11,
  PySem.W.mg_of X G a12,
  PySem.W.mg_of X G a13,
  PySem.W.mg_of X G a14,
  PySem.W.mg_of X G a15,
  PySem.W.mg_of X G a16,
  PySem.W.mg_of X G a17,
  PySem.W.mg_of X G a18,
  PySem.W.mg_of X G a19,
  PySem.W.mg_of X G a20,
  PySem.W.mg_of X G a21,
  PySem.W.mg_of X G a22,
  PySem.W.mg_of X G a23,
  PySem.W.mg_of X G a24,
  PySem.W.mg_of X G a25,
  PySem.W.mg_of X G a26,
  PySem.W.mg_of X G a27,
  PySem.W.mg_of X G a28,
  PySem.W.mg_of X G a29,
  PySem.W.mg_of X G a30,
  Hd.const_at X G (of_decide_eq_true (Hd.all_at e2 18 rfl)),
  Hd.const_at X G (of_decide_eq_true (Hd.all_at e2 19 rfl)),
  Hd.const_at X G (of_decide_eq_true (Hd.all_at e2 20 rfl)),
  Hd.const_at X G (of_decide_eq_true (Hd.all_at e2 21 rfl)),
  Hd.const_at X G (of_decide_eq_true (Hd.all_at e2 22 rfl)),
  Hd.const_at X G (of_decide_eq_true (Hd.all_at e2 23 rfl)),
  Hd.tup_at X G (Hd.all_at e2 24 rfl),
  PySem.W.mg_none_of X G (of_decide_eq_true (Hd.all_at e2 221 rfl)),
  PySem.W.mg_none_of X G (of_decide_eq_true (Hd.all_at e2 222 rfl)),
  PySem.W.mg_none_of X G (of_decide_eq_true (Hd.all_at e2 223 rfl)),
  PySem.W.mg_none_of X G (of_decide_eq_true (Hd.all_at e2 224 rfl)),
  PySem.W.mg_none_of X G (of_decide_eq_true (Hd.all_at e2 225 rfl)),
  PySem.W.mg_none_of X G (of_decide_eq_true (Hd.all_at e2 226 rfl)),
  PySem.W.mg_none_of X G (of_decide_eq_true (Hd.all_at e2 227 rfl)),
  PySem.W.mg_none_of X G (of_decide_eq_true (Hd.all_at e2 228 rfl)),
  PySem.W.mg_none_of X G (of_decide_eq_true (Hd.all_at e2 229 rfl)),
  PySem.W.mg_none_of X G (of_decide_eq_true (Hd.all_at e2 230 rfl)),
  PySem.W.mg_none_of X G (of_decide_eq_true (Hd.all_at e2 231 rfl)),
  PySem.W.mg_none_of X G (of_decide_eq_true (Hd.all_at e2 232 rfl)),
  PySem.W.mg_none_of X G (of_decide_eq_true (Hd.all_at e2 233 rfl)),
  PySem.W.mg_none_of X G (of_decide_eq_true (Hd.all_at e2 234 rfl)),
  PySem.W.mg_none_of X G (of_decide_eq_true (Hd.all_at e2 235 rfl)),
  PySem.W.mg_of X G (of_decide_eq_true (Hd.all_at e2 0 rfl)),
  ⟨(Hd.all_at e2 25 rfl),(Hd.all_at e2 26 rfl),(Hd.all_at e2 27 rfl),(of_decide_eq_true (Hd.all_at e2 28 rfl))⟩,
  ⟨(Hd.all_at e2 30 rfl),a31,i31,(Hd.all_at e2 29 rfl)⟩,
  ⟨a32,i32,k32⟩,
  ⟨a33,i33,k33⟩,
  ⟨a34,i34,k34⟩,
  (Hd.no_at (Hd.all_at e2 31 rfl)),
  (Hd.no_at (Hd.all_at e2 32 rfl)),
  (Hd.no_at (Hd.all_at e2 33 rfl)),
  PySem.W.mg_of X G (of_decide_eq_true (Hd.all_at e2 1 rfl)),
  ⟨(Hd.all_at e2 34 rfl),(Hd.all_at e2 35 rfl),(Hd.all_at e2 36 rfl),(of_decide_eq_true (Hd.all_at e2 37 rfl))⟩,
  ⟨(Hd.all_at e2 39 rfl),a35,i35,(Hd.all_at e2 38 rfl)⟩,
  ⟨a36,i36,k36⟩,
  ⟨a37,i37,k37⟩,
  ⟨a38,i38,k38⟩,
  ⟨a39,i39,k39⟩,
  ⟨a40,i40,k40⟩,
  (Hd.no_at (Hd.all_at e2 40 rfl)),
  PySem.W.mg_of X G (of_decide_eq_true (Hd.all_at e2 2 rfl)),
  ⟨(Hd.all_at e2 41 rfl),(Hd.all_at e2 42 rfl),(Hd.all_at e2 43 rfl),(of_decide_eq_true (Hd.all_at e2 44 rfl))⟩,
  ⟨(Hd.all_at e2 46 rfl),a41,i41,(Hd.all_at e2 45 rfl)⟩,
  ⟨a42,i42,k42⟩,
  ⟨a43,i43,k43⟩,
  ⟨a44,i44,k44⟩,
  ⟨a45,i45,k45⟩,
  (Hd.no_at (Hd.all_at e2 47 rfl)),
  PySem.W.mg_of X G (of_decide_eq_true (Hd.all_at e2 3 rfl)),
  ⟨(Hd.all_at e2 48 rfl),(Hd.all_at e2 49 rfl),(Hd.all_at e2 50 rfl),(of_decide_eq_true (Hd.all_at e2 51 rfl))⟩,
  ⟨(Hd.all_at e2 53 rfl),((of_decide_eq_true (Hd.all_at e2 54 rfl)).trans a41),i41,(Hd.all_at e2 52 rfl)⟩,
  ⟨((of_decide_eq_true (Hd.all_at e2 55 rfl)).trans a42),i42,k42⟩,
  ⟨((of_decide_eq_true (Hd.all_at e2 56 rfl)).trans a43),i43,k43⟩,
  ⟨((of_decide_eq_true (Hd.all_at e2 57 rfl)).trans a44),i44,k44⟩,
  ⟨((of_decide_eq_true (Hd.all_at e2 58 rfl)).trans a45),i45,k45⟩,
  (Hd.no_at (Hd.all_at e2 59 rfl)),
  PySem.W.mg_of X G (of_decide_eq_true (Hd.all_at e2 4 rfl)),
  ⟨(Hd.all_at e2 60 rfl),(Hd.all_at e2 61 rfl),(Hd.all_at e2 62 rfl),(of_decide_eq_true (Hd.all_at e2 63 rfl))⟩,
  ⟨(Hd.all_at e2 65 rfl),((of_decide_eq_true (Hd.all_at e2 66 rfl)).trans a41),i41,(Hd.all_at e2 64 rfl)⟩,
  ⟨a46,i46,k46⟩,
  ⟨((of_decide_eq_true (Hd.all_at e2 67 rfl)).trans a43),i43,k43⟩,
  ⟨((of_decide_eq_true (Hd.all_at e2 68 rfl)).trans a44),i44,k44⟩,
  ⟨((of_decide_eq_true (Hd.all_at e2 69 rfl)).trans a45),i45,k45⟩,
  (Hd.no_at (Hd.all_at e2 70 rfl)),
  PySem.W.mg_of X G (of_decide_eq_true (Hd.all_at e2 5 rfl)),
  ⟨(Hd.all_at e2 71 rfl),(Hd.all_at e2 72 rfl),(Hd.all_at e2 73 rfl),(of_decide_eq_true (Hd.all_at e2 74 rfl))⟩,
  ⟨(Hd.all_at e2 76 rfl),((of_decide_eq_true (Hd.all_at e2 77 rfl)).trans a41),i41,(Hd.all_at e2 75 rfl)⟩,
  ⟨a47,i47,k47⟩,
  ⟨((of_decide_eq_true (Hd.all_at e2 78 rfl)).trans a43),i43,k43⟩,
  ⟨((of_decide_eq_true (Hd.all_at e2 79 rfl)).trans a44),i44,k44⟩,
  ⟨((of_decide_eq_true (Hd.all_at e2 80 rfl)).trans a45),i45,k45⟩,
  (Hd.no_at (Hd.all_at e2 81 rfl)),
  PySem.W.mg_of X G (of_decide_eq_true (Hd.all_at e2 6 rfl)),
  ⟨(Hd.all_at e2 82 rfl),(Hd.all_at e2 83 rfl),(Hd.all_at e2 84 rfl),(of_decide_eq_true (Hd.all_at e2 85 rfl))⟩,
  ⟨(Hd.all_at e2 87 rfl),((of_decide_eq_true (Hd.all_at e2 88 rfl)).trans a41),i41,(Hd.all_at e2 86 rfl)⟩,
  ⟨a48,i48,k48⟩,
  ⟨((of_decide_eq_true (Hd.all_at e2 89 rfl)).trans a43),i43,k43⟩,
  ⟨((of_decide_eq_true (Hd.all_at e2 90 rfl)).trans a44),i44,k44⟩,
  ⟨((of_decide_eq_true (Hd.all_at e2 91 rfl)).trans a45),i45,k45⟩,
  (Hd.no_at (Hd.all_at e2 92 rfl)),
  PySem.W.mg_of X G (of_decide_eq_true (Hd.all_at e2 7 rfl)),
  ⟨(Hd.all_at e2 93 rfl),(Hd.all_at e2 94 rfl),(Hd.all_at e2 95 rfl),(of_decide_eq_true (Hd.all_at e2 96 rfl))⟩,
  ⟨(Hd.all_at e2 98 rfl),((of_decide_eq_true (Hd.all_at e2 99 rfl)).trans a41),i41,(Hd.all_at e2 97 rfl)⟩,
  ⟨a49,i49,k49⟩,
  ⟨((of_decide_eq_true (Hd.all_at e2 100 rfl)).trans a43),i43,k43⟩,
  ⟨((of_decide_eq_true (Hd.all_at e2 101 rfl)).trans a44),i44,k44⟩,
  ⟨a50,i50,k50⟩,
  (Hd.no_at (Hd.all_at e2 102 rfl)),
  PySem.W.mg_of X G (of_decide_eq_true (Hd.all_at e2 8 rfl)),
  ⟨(Hd.all_at e2 103 rfl),(Hd.all_at e2 104 rfl),(Hd.all_at e2 105 rfl),(of_decide_eq_true (Hd.all_at e2 106 rfl))⟩,
  ⟨(Hd.all_at e2 108 rfl),((of_decide_eq_true (Hd.all_at e2 109 rfl)).trans a41),i41,(Hd.all_at e2 107 rfl)⟩,
  ⟨a51,i51,k51⟩,
  ⟨((of_decide_eq_true (Hd.all_at e2 110 rfl)).trans a43),i43,k43⟩,
  ⟨((of_decide_eq_true (Hd.all_at e2 111 rfl)).trans a44),i44,k44⟩,
  ⟨((of_decide_eq_true (Hd.all_at e2 112 rfl)).trans a45),i45,k45⟩,
  (Hd.no_at (Hd.all_at e2 113 rfl)),
  PySem.W.mg_of X G (of_decide_eq_true (Hd.all_at e2 9 rfl)),
  ⟨(Hd.all_at e2 114 rfl),(Hd.all_at e2 115 rfl),(Hd.all_at e2 116 rfl),(of_decide_eq_true (Hd.all_at e2 117 rfl))⟩,
  ⟨(Hd.all_at e2 119 rfl),((of_decide_eq_true (Hd.all_at e2 120 rfl)).trans a41),i41,(Hd.all_at e2 118 rfl)⟩,
  ⟨a52,i52,k52⟩,
  ⟨((of_decide_eq_true (Hd.all_at e2 121 rfl)).trans a43),i43,k43⟩,
  ⟨((of_decide_eq_true (Hd.all_at e2 122 rfl)).trans a44),i44,k44⟩,
  ⟨((of_decide_eq_true (Hd.all_at e2 123 rfl)).trans a45),i45,k45⟩,
  (Hd.no_at (Hd.all_at e2 124 rfl)),
  PySem.W.mg_of X G (of_decide_eq_true (Hd.all_at e2 10 rfl)),
  ⟨(Hd.all_at e2 125 rfl),(Hd.all_at e2 126 rfl),(Hd.all_at e2 127 rfl),(of_decide_eq_true (Hd.all_at e2 128 rfl))⟩,
  ⟨(Hd.all_at e2 130 rfl),((of_decide_eq_true (Hd.all_at e2 131 rfl)).trans a41),i41,(Hd.all_at e2 129 rfl)⟩,
  ⟨a53,i53,k53⟩,
  ⟨((of_decide_eq_true (Hd.all_at e2 132 rfl)).trans a43),i43,k43⟩,
  ⟨((of_decide_eq_true (Hd.all_at e2 133 rfl)).trans a44),i44,k44⟩,
  ⟨((of_decide_eq_true (Hd.all_at e2 134 rfl)).trans a45),i45,k45⟩,
  (Hd.no_at (Hd.all_at e2 135 rfl)),
  PySem.W.mg_of X G (of_decide_eq_true (Hd.all_at e2 11 rfl)),
  ⟨(Hd.all_at e2 136 rfl),(Hd.all_at e2 137 rfl),(Hd.all_at e2 138 rfl),(of_decide_eq_true (Hd.all_at e2 139 rfl))⟩,
  ⟨(Hd.all_at e2 141 rfl),a54,i54,(Hd.all_at e2 140 rfl)⟩,
  ⟨((of_decide_eq_true (Hd.all_at e2 142 rfl)).trans a42),i42,k42⟩,
  ⟨((of_decide_eq_true (Hd.all_at e2 143 rfl)).trans a43),i43,k43⟩,
  ⟨((of_decide_eq_true (Hd.all_at e2 144 rfl)).trans a44),i44,k44⟩,
  ⟨a55,i55,k55⟩,
  (Hd.no_at (Hd.all_at e2 145 rfl)),
  (Hd.no_at (Hd.all_at e2 146 rfl)),
  PySem.W.mg_of X G (of_decide_eq_true (Hd.all_at e2 12 rfl)),
  ⟨(Hd.all_at e2 147 rfl),(Hd.all_at e2 148 rfl),(Hd.all_at e2 149 rfl),(of_decide_eq_true (Hd.all_at e2 150 rfl))⟩,
  ⟨(Hd.all_at e2 152 rfl),((of_decide_eq_true (Hd.all_at e2 153 rfl)).trans a54),i54,(Hd.all_at e2 151 rfl)⟩,
  ⟨a56,i56,k56⟩,
  ⟨a57,i57,k57⟩,
  ⟨((of_decide_eq_true (Hd.all_at e2 154 rfl)).trans a44),i44,k44⟩,
  ⟨((of_decide_eq_true (Hd.all_at e2 155 rfl)).trans a55),i55,k55⟩,
  (Hd.no_at (Hd.all_at e2 156 rfl)),
  (Hd.no_at (Hd.all_at e2 157 rfl)),
  PySem.W.mg_of X G (of_decide_eq_true (Hd.all_at e2 13 rfl)),
  ⟨(Hd.all_at e2 158 rfl),(Hd.all_at e2 159 rfl),(Hd.all_at e2 160 rfl),(of_decide_eq_true (Hd.all_at e2 161 rfl))⟩,
  ⟨(Hd.all_at e2 163 rfl),((of_decide_eq_true (Hd.all_at e2 164 rfl)).trans a54),i54,(Hd.all_at e2 162 rfl)⟩,
  ⟨a58,i58,k58⟩,
  ⟨a59,i59,k59⟩,
  ⟨((of_decide_eq_true (Hd.all_at e2 165 rfl)).trans a44),i44,k44⟩,
  ⟨((of_decide_eq_true (Hd.all_at e2 166 rfl)).trans a55),i55,k55⟩,
  (Hd.no_at (Hd.all_at e2 167 rfl)),
  (Hd.no_at (Hd.all_at e2 168 rfl)),
  PySem.W.mg_of X G (of_decide_eq_true (Hd.all_at e2 14 rfl)),
  ⟨(Hd.all_at e2 169 rfl),(Hd.all_at e2 170 rfl),(Hd.all_at e2 171 rfl),(of_decide_eq_true (Hd.all_at e2 172 rfl))⟩,
  ⟨(Hd.all_at e2 174 rfl),a60,i60,(Hd.all_at e2 173 rfl)⟩,
  ⟨((of_decide_eq_true (Hd.all_at e2 175 rfl)).trans a42),i42,k42⟩,
  ⟨((of_decide_eq_true (Hd.all_at e2 176 rfl)).trans a43),i43,k43⟩,
  ⟨((of_decide_eq_true (Hd.all_at e2 177 rfl)).trans a44),i44,k44⟩,
  ⟨((of_decide_eq_true (Hd.all_at e2 178 rfl)).trans a45),i45,k45⟩,
  ⟨a61,i61,k61⟩,
  (Hd.no_at (Hd.all_at e2 179 rfl)),
  (Hd.no_at (Hd.all_at e2 180 rfl)),
  (Hd.no_at (Hd.all_at e2 181 rfl)),
  PySem.W.mg_of X G (of_decide_eq_true (Hd.all_at e2 15 rfl)),
  ⟨(Hd.all_at e2 182 rfl),(Hd.all_at e2 183 rfl),(Hd.all_at e2 184 rfl),(of_decide_eq_true (Hd.all_at e2 185 rfl))⟩,
  ⟨(Hd.all_at e2 187 rfl),((of_decide_eq_true (Hd.all_at e2 188 rfl)).trans a60),i60,(Hd.all_at e2 186 rfl)⟩,
  ⟨a62,i62,k62⟩,
  ⟨a63,i63,k63⟩,
  ⟨((of_decide_eq_true (Hd.all_at e2 189 rfl)).trans a44),i44,k44⟩,
  ⟨a64,i64,k64⟩,
  ⟨((of_decide_eq_true (Hd.all_at e2 190 rfl)).trans a61),i61,k61⟩,
  (Hd.no_at (Hd.all_at e2 191 rfl)),
  (Hd.no_at (Hd.all_at e2 192 rfl)),
  (Hd.no_at (Hd.all_at e2 193 rfl)),
  PySem.W.mg_of X G (of_decide_eq_true (Hd.all_at e2 16 rfl)),
  ⟨(Hd.all_at e2 194 rfl),(Hd.all_at e2 195 rfl),(Hd.all_at e2 196 rfl),(of_decide_eq_true (Hd.all_at e2 197 rfl))⟩,
  ⟨(Hd.all_at e2 199 rfl),((of_decide_eq_true (Hd.all_at e2 200 rfl)).trans a60),i60,(Hd.all_at e2 198 rfl)⟩,
  ⟨a65,i65,k65⟩,
  ⟨a66,i66,k66⟩,
  ⟨((of_decide_eq_true (Hd.all_at e2 201 rfl)).trans a44),i44,k44⟩,
  ⟨a67,i67,k67⟩,
  ⟨((of_decide_eq_true (Hd.all_at e2 202 rfl)).trans a61),i61,k61⟩,
  (Hd.no_at (Hd.all_at e2 203 rfl)),
  (Hd.no_at (Hd.all_at e2 204 rfl)),
  (Hd.no_at (Hd.all_at e2 205 rfl)),
  PySem.W.mg_of X G (of_decide_eq_true (Hd.all_at e2 17 rfl)),
  ⟨(Hd.all_at e2 206 rfl),(Hd.all_at e2 207 rfl),(Hd.all_at e2 208 rfl),(of_decide_eq_true (Hd.all_at e2 209 rfl))⟩,
  ⟨(Hd.all_at e2 211 rfl),a68,i68,(Hd.all_at e2 210 rfl)⟩,
  ⟨a69,i69,k69⟩,
  ⟨a70,i70,k70⟩,
  ⟨a71,i71,k71⟩,
  ⟨a72,i72,k72⟩,
  ⟨a73,i73,k73⟩,
  (Hd.no_at (Hd.all_at e2 212 rfl)),
  (Hd.no_at (Hd.all_at e2 213 rfl)),
  (Hd.no_at (Hd.all_at e2 214 rfl)),
  (Hd.no_at (Hd.all_at e2 215 rfl)),
  (Hd.no_at (Hd.all_at e2 216 rfl)),
  (Hd.no_at (Hd.all_at e2 217 rfl)),
  ⟨(of_decide_eq_true (Hd.all_at e2 218 rfl)),(Hd.all_at e2 219 rfl),Hd.isVal_of (Hd.all_at e2 220 rfl),rfl,k41⟩,
  trivial⟩
 have FF:Z1 K A:=⟨⟨_,F1,b1⟩,⟨_,F2,b2⟩,⟨_,F3,b3⟩,⟨_,F4,b4⟩,⟨_,F5,b5⟩,⟨_,F6,b6⟩,⟨_,F7,b7⟩,⟨_,F8,b8⟩,⟨_,F9,b9⟩,⟨_,F10,b10⟩,⟨_,F11,b11⟩,⟨_,F12,b12⟩,⟨_,F13,b13⟩,⟨_,F14,b14⟩,⟨_,F15,b15⟩,⟨_,F16,b16⟩,⟨_,F17,b17⟩,⟨_,F18,b18⟩,⟨_,F19,b19⟩,⟨_,F20,b20⟩,⟨_,F21,b21⟩,⟨_,F22,b22⟩,⟨_,F23,b23⟩,⟨_,F24,b24⟩,⟨_,F25,b25⟩,⟨_,F26,b26⟩,⟨_,F27,b27⟩,⟨_,F28,b28⟩,⟨_,F29,b29⟩,⟨_,F30,b30⟩,⟨_,F31,b31_2,⟨_,(.cons (Hd.bare_rel rd31_0) (.cons (Hd.bare_rel rd31_1) .nil)),b31_0⟩,⟨_,(.cons (Hd.bare_rel rd31_1) .nil),b31_1⟩⟩,⟨_,F32,b32⟩,⟨_,F33,b33⟩,⟨_,F34,b34⟩,⟨_,F35,b35⟩,⟨_,F36,b36⟩,⟨_,F37,b37⟩,⟨_,F38,b38⟩,⟨_,F39,b39⟩,⟨_,F40,b40⟩,⟨_,F41,b41⟩,⟨_,F42,b42⟩,⟨_,F43,b43⟩,⟨_,F44,b44⟩,⟨_,F45,b45⟩,⟨_,F46,b46⟩,⟨_,F47,b47⟩,⟨_,F48,b48⟩,⟨_,F49,b49⟩,⟨_,F50,b50⟩,⟨_,F51,b51⟩,⟨_,F52,b52⟩,⟨_,F53,b53⟩,⟨_,F54,b54⟩,⟨_,F55,b55⟩,⟨_,F56,b56⟩,⟨_,F57,b57⟩,⟨_,F58,b58⟩,⟨_,F59,b59⟩,⟨_,F60,b60⟩,⟨_,F61,b61⟩,⟨_,F62,b62⟩,⟨_,F63,b63⟩,⟨_,F64,b64⟩,⟨_,F65,b65⟩,⟨_,F66,b66⟩,⟨_,F67,b67⟩,⟨_,F68,b68_1,⟨_,(.cons (Hd.bare_rel rd68_0) .nil),b68_0⟩⟩,⟨_,F69,b69⟩,⟨_,F70,b70⟩,⟨_,F71,b71⟩,⟨_,F72,b72⟩,⟨_,F73,b73⟩⟩
 obtain ⟨_,_,kV,doc,pm,an,cdv,ct,_,rfl,_,_⟩:=F30.ex
 exact ⟨_,fun s v=>.of_eq rfl,fun base _ _=>QiB F30 T FF⟩
abbrev PP:Program:=PySem.Challenge.pw_mailroom_k16_rules_run
def loose:List Str:=(["_wall","Card","STOP","card_behind","row_written","Rules","MailError","NoLetter","NoRule","Condition","Always","HasWord","HasTitleWord","IsFrom","IsOfDays","IsIn","IsMarked","DoesAnswer","Wrapped","Not","InThread","Joined","Both","Either","condition_of","WORD_SIGNS","RUN_SIGNS","MOST_WORD","all_among","is_word","words_of","MOST_TITLE","MOST_BODY","LAST_DAY","is_text","is_whole","is_answered","check_parts","Letter","_law_cell_at","_law_mixed","_law_word_by","_law_text_by","_law_parts_by","_law_card_by","_law_letter","_law_made","_law_leaf_by","_law_threads","_law_tree_by","_law_runs","_law_holds","_law_written","_law_acts_by","_law_run","_law_told","_law_text"]:List String).map Str.ofString
theorem seen (w:World) (os:OsState):(Hd.runT (Hd.stepQ Hd.denQ PP w) (Hd.okQ 11 (some (.ref 6))) 20000 (Hd.S0 w os) (PySem.W.topStub PP)).map (fun s=>(Hd.chk PP w.params s.abs,Hd.seenQ (PySem.W.view PP [64]) loose (PySem.importedModules PP.main.body) (fun s=>PySem.W.recOk [] s) true s.abs,obs (Hd.fragT s)))=some (true,PySem.W.openGood (PySem.W.view PP [64]) loose,good):=by kernel_rfl
theorem look:PySem.W.Fast.tw9446332074065402090 PySem.Challenge.rw_mailroom_k16_rules_run=true:=by kernel_rfl
theorem opens:PySem.W.opening PP=PySem.W.plainProg PP.main.scope.names:=by kernel_rfl
theorem fence (s:Shared):fenceModules? PP s=some s:=by kernel_rfl
end K16
open PySem PySem.W PyProof.Rows
set_option maxRecDepth 100000 in
set_option maxHeartbeats 0 in
theorem PySem.Challenge.cw_mailroom_k16_rules_run_holds : PySem.Challenge.rw_mailroom_k16_rules_run.Holds := by
 refine Hd.close (q:=view K16.PP [64]) (loose:=K16.loose) (N:=20000) (obs:=K16.obs) (good:=K16.good) K16.look K16.opens rfl K16.fence K16.seen rfl rfl rfl rfl (by decide +kernel) ⟨rfl,rfl,rfl,rfl,rfl,by decide +kernel⟩ ?hw ?hc
 case hw=>w_witness2
 case hc=>exact Hd.walk (n:=63) (k:=60) (x:="_law_script") (sp:=K16.spLaw) rfl (by decide) rfl ⟨rfl,by decide,by decide,rfl⟩ (fun w K mg fa h KX y G hmg=>K16.all_mk KX y G hmg) (fun _ _ a ns hl _ hS=>⟨a,ns,rfl,hS,hl,fun _=>rfl⟩)
#print axioms PySem.Challenge.cw_mailroom_k16_rules_run_holds
