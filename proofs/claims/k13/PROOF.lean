import PyProof.Rows.All
import Wide.All
import OpenK.AllK
import Wide.FinOn
import Lean
import PyProof.EqAt
import PyProof.EqKinds
import PyProof.TupleCall
import PyProof.P3In
import KE.KDictLaws
import PyProof.Rows.SetFrom
import KE.KRevSl
import KE.KIntText
import KE.KLcPair
import KE.KIsAll
import PyProof.ExcArgsOwn
import PyProof.ExcAttrAll.ValueError
import PyProof.NsDelKeeps
import PyProof.Rows.CountFlat
import KE.RegKIsAll
import PyProof.WalksMore
import PyProof.FString5
import KE.KListMore
import PyProof.ZipIter
import PyProof.FString
import PyProof.StrLawsReplace
import PyProof.MinMaxWalk
import PyProof.WalkInts
import PyProof.Rows.MinMaxN
import PyProof.Rows.CallKwBuiltin
import KE.KMinKey
import PySem.Challenge.RW_mailroom_k13_conditions_written
noncomputable section
set_option Elab.async false
set_option linter.all false
set_option maxRecDepth 100000
namespace L2
open PySem PySem.Spec PyProof.Rows
/-- a key: an int or a str -/
abbrev Key := Sum Int Str
def keyIs : Key → Value → Bool
  | .inl k, v => Value.isInt k v
  | .inr x, v => Value.isStrOf x v
def keyH (w : World) : Key → Int
  | .inl k => hashInt k
  | .inr x => hashStr w x
theorem keyIs_shape : ∀ {k : Key} {v : Value}, keyIs k v = true → (∃ i t, k = Sum.inl i ∧ v = Value.int i t) ∨ (∃ x t, k = Sum.inr x ∧ v = Value.str x t)
  | .inl i, v, h => by
    obtain ⟨t, e⟩ := Value.isInt_shape (k := i) (v := v) h
    exact .inl ⟨i, t, rfl, e⟩
  | .inr x, v, h => by
    obtain ⟨t, e⟩ := Value.isStrOf_shape (x := x) (v := v) h
    exact .inr ⟨x, t, rfl, e⟩
theorem key_ll (a b : Int) : decide ((Sum.inl a : Key) = Sum.inl b) = (a == b) := by
  by_cases e : a = b
  · subst e; simp
  · have h : ¬ (Sum.inl a : Key) = Sum.inl b := fun q => e (Sum.inl.inj q)
    rw [decide_eq_false h]
    exact (beq_eq_false_iff_ne.mpr e).symm
theorem key_rr (a b : Str) : decide ((Sum.inr a : Key) = Sum.inr b) = decide (a = b) := by
  by_cases e : a = b
  · subst e; simp
  · have h : ¬ (Sum.inr a : Key) = Sum.inr b := fun q => e (Sum.inr.inj q)
    rw [decide_eq_false h, decide_eq_false e]
theorem key_lr (a : Int) (b : Str) : decide ((Sum.inl a : Key) = Sum.inr b) = false := decide_eq_false (fun q => nomatch q)
theorem key_rl (a : Str) (b : Int) : decide ((Sum.inr a : Key) = Sum.inl b) = false := decide_eq_false (fun q => nomatch q)
def mixKind (prog : Program) (w : World) : PySem.KeyKind prog w Key where
  is := keyIs
  hash := keyH w
  inj := fun v a b ha hb => by
    rcases keyIs_shape ha with ⟨i, t, rfl, rfl⟩ | ⟨x, t, rfl, rfl⟩
    · rcases keyIs_shape hb with ⟨j, u, rfl, e⟩ | ⟨y, u, rfl, e⟩
      · injection e with e1 _; rw [e1]
      · exact nomatch e
    · rcases keyIs_shape hb with ⟨j, u, rfl, e⟩ | ⟨y, u, rfl, e⟩
      · exact nomatch e
      · injection e with e1 _; rw [e1]
  byValue := fun k v h => by
    rcases keyIs_shape h with ⟨i, t, rfl, rfl⟩ | ⟨x, t, rfl, rfl⟩ <;> rfl
  pyHash := fun hv h => by
    rcases keyIs_shape hv with ⟨i, t, rfl, rfl⟩ | ⟨x, t, rfl, rfl⟩
    · exact wpAny_pyHash_int h
    · exact wpAny_pyHash_str h
  eqBool := fun hu hv h => by
    rcases keyIs_shape hu with ⟨i, t, rfl, rfl⟩ | ⟨x, t, rfl, rfl⟩
    · rcases keyIs_shape hv with ⟨j, u, rfl, rfl⟩ | ⟨y, u, rfl, rfl⟩
      · rw [key_ll] at h; exact wpAny_eqBool_int h
      · rw [key_lr] at h; exact SeqAt.EqAt.int_str i t y u _ _ _ _ h
    · rcases keyIs_shape hv with ⟨j, u, rfl, rfl⟩ | ⟨y, u, rfl, rfl⟩
      · rw [key_rl] at h; exact SeqAt.EqAt.str_int x t j u _ _ _ _ h
      · rw [key_rr] at h; exact wpAny_eqBool_str h
  «strs» := fun k x t v h => by
    rcases keyIs_shape h with ⟨i, u, rfl, e⟩ | ⟨y, u, rfl, e⟩
    · exact nomatch e
    · injection e with e1 _
      subst e1
      cases v <;> rfl
end L2
namespace L2
open PySem PySem.Spec PyProof.Rows
/-- a value, without the heap -/
inductive V where
  | non | bl (b : Bool) | int (i : Int) | str (x : Str) | byt (b : Array UInt8) | flt (b : UInt64) | ref (a : Addr) | ty (n : String)
  deriving DecidableEq
def RelV : V → Value → Prop
  | .non, u => u = Value.none
  | .bl b, u => u = Value.bool b
  | .int i, u => ∃ t, u = Value.int i t
  | .str x, u => ∃ t, u = Value.str x t
  | .byt b, u => ∃ t, u = Value.bytes b t
  | .flt b, u => ∃ t, u = Value.float b t
  | .ref a, u => u = Value.ref a
  | .ty n, u => u = Value.type n
abbrev Vals : List V → List Value → Prop := Paired RelV
theorem Vals.length {xs : List V} {us : List Value} (r : Vals xs us) : xs.length = us.length := Paired.length r
theorem Vals.get : ∀ {xs : List V} {us : List Value} {i : Nat} {x : V}, Vals xs us → xs[i]? = some x → ∃ u, us[i]? = some u ∧ RelV x u
  | _, _, _, _, .nil, e => by simp at e
  | _, _, 0, _, .cons r _, e => by simp at e; subst e; exact ⟨_, rfl, r⟩
  | _, _, i + 1, x, .cons _ t, e => by
    obtain ⟨u, h1, h2⟩ := Vals.get (i := i) (x := x) t (by simpa using e)
    exact ⟨u, by simpa using h1, h2⟩
theorem Vals.append : ∀ {xs ys : List V} {us ws : List Value}, Vals xs us → Vals ys ws → Vals (xs ++ ys) (us ++ ws)
  | _, _, _, _, .nil, s => s
  | _, _, _, _, .cons r t, s => .cons r (Vals.append t s)
theorem Vals.take : ∀ {xs : List V} {us : List Value} (n : Nat), Vals xs us → Vals (xs.take n) (us.take n)
  | _, _, 0, _ => .nil
  | _, _, _ + 1, .nil => .nil
  | _, _, n + 1, .cons r t => .cons r (Vals.take n t)
theorem Vals.drop : ∀ {xs : List V} {us : List Value} (n : Nat), Vals xs us → Vals (xs.drop n) (us.drop n)
  | _, _, 0, r => r
  | _, _, _ + 1, .nil => .nil
  | _, _, n + 1, .cons _ t => Vals.drop n t
def RelO : Option V → Option Value → Prop
  | some v, some u => RelV v u
  | none, none => True
  | _, _ => False
def KV {κ : Type} : List (κ × V) → List (κ × Value) → Prop := Paired fun (p : κ × V) (q : κ × Value) => p.1 = q.1 ∧ RelV p.2 q.2
/-- a key of a dict (00_mix): an int or a text -/
def kV : Key → V
  | .inl i => .int i
  | .inr x => .str x
/-- what stands at a tracked address -/
inductive HO where
  /-- a list -/
  | lst (xs : List V)
  /-- a tuple (never changes) -/
  | tup (xs : List V)
  /-- a dict whose keys are ints and texts; one whose keys are tuples of ints and texts (the empty one is both) -/
  | dK (kvs : List (Key × V)) | dT (kvs : List (List Key × V))
  /-- a set of ints: its members, its size -/
  | set (S : Int → Bool) (n : Nat)
  /-- an instance of the class at C, its dict at dx, its attributes -/
  | ins (C dx : Addr) (fs : List (Str × V))
  /-- the dict of the instance at x -/
  | own (x : Addr)
  /-- the dict of an exception -/
  | xd (fs : List (Str × V))
  /-- a bound method, f of x -/
  | met (f x : Addr)
  /-- a range object lo, lo + 1, .. below hi -/
  | rng (lo hi : Int)
  /-- a thing that is known to the object (the script; a dict while a loop walks it): read, never written while it is so -/
  | frz (o : Obj) (u : HO)
  /-- a code object's table -/
  | tbl (ps : Array Value)
  /-- any other thing, by what is true of its one object (a def of one's own: SetO a S n := HO.ext fun h => ..) -/
  | ext (φ : Heap → Prop)
abbrev Hp := Addr → Option HO
def upd (H : Hp) (a : Addr) (o : HO) : Hp := fun b => if b = a then some o else H b
theorem upd_same {H : Hp} {a : Addr} {o : HO} : upd H a o a = some o := by unfold upd; rw [if_pos rfl]
theorem upd_ne {H : Hp} {a b : Addr} {o : HO} (h : b ≠ a) : upd H a o b = H b := by unfold upd; rw [if_neg h]
theorem upd_upd {H : Hp} {a : Addr} {o u : HO} : upd (upd H a o) a u = upd H a u := by
  funext b; unfold upd; split <;> rfl
/-- two objects of different content stand apart -/
theorem ne_of {H : Hp} {a b : Addr} {o u : HO} (h : H a = some o) (h' : H b = some u) (d : o ≠ u) : a ≠ b := by
  intro e; subst e; rw [h] at h'; exact d (Option.some.inj h')
theorem ne_of_none {H : Hp} {a b : Addr} {o : HO} (h : H a = some o) (h' : H b = none) : a ≠ b := by
  intro e; subst e; rw [h] at h'; cases h'
section
variable (P : Program) (w : World)
def ObjOk (H : Hp) (h : Heap) (a : Addr) : HO → Prop
  | .lst xs => xs.length ≤ sizeLine ∧ ∃ (its : List Value) (n : Nat), Vals xs its ∧ h.get? a = some { cls := .type "list", data := .seq its.toArray n }
  | .tup xs => xs.length ≤ sizeLine ∧ ∃ its : List Value, Vals xs its ∧ IsTup h a its.toArray
  | .dK kvs => kvs.length ≤ sizeLine ∧ (a == sysModules) = false ∧ ∃ vs, KV kvs vs ∧ h.DictOf (mixKind P w) a vs
  | .dT kvs => kvs.length ≤ sizeLine ∧ (a == sysModules) = false ∧ ∃ xs : List (List Key × Addr × Value),
      Paired (fun (p : List Key × V) (q : List Key × Addr × Value) => p.1 = q.1 ∧ H q.2.1 = some (.tup (p.1.map kV)) ∧ RelV p.2 q.2.2) kvs xs ∧
      ∃ o es ep, h.get? a = some o ∧ o.ExactDict ∧ o.data = .dict es ep ∧ es.toList = xs.map (entryOfKey (tupleKind (mixKind P w))) ∧ (xs.map (·.1)).Nodup
  | .set S n => h.SetOf (intKind P w) a S n
  | .ins C dx fs => H dx = some (.own a) ∧ fs.length ≤ 1000 ∧ dx ≠ a ∧ h.get? a = some (PySem.W.instObj C dx) ∧
      ∃ mA, h.Ns1 dx mA ∧ (∀ f, RelO (fs.lookup f) (mA f)) ∧ PySem.Within mA (fs.map (·.1))
  | .own _ => ∃ o, h.get? a = some o
  | .xd fs => ∃ mA, h.Ns1 a mA ∧ ∀ f, RelO (fs.lookup f) (mA f)
  | .rng lo hi => ∃ t u v, h.get? a = some { cls := .type "range", data := .fields #[.int lo t, .int hi u, .int 1 v] }
  | .frz o u => h.get? a = some o ∧ ObjOk H h a u
  | .tbl ps => h.get? a = some { cls := .none, data := .fields ps }
  | .met f x => h.get? a = some (PySem.W.methodObj (.ref f) (.ref x))
  | .ext φ => φ h ∧ (∃ o, h.get? a = some o) ∧ ∀ h1 h2 : Heap, φ h1 → (∀ o, h1.get? a = some o → h2.get? a = some o) → φ h2
/-- the abstract heap is held -/
def HOk (H : Hp) (h : Heap) : Prop := ∀ a o, H a = some o → ObjOk P w H h a o
end
section
variable {P : Program} {w : World} {H H' : Hp} {h h' : Heap} {a : Addr} {o : HO}
theorem ObjOk.lt (x : ObjOk P w H h a o) : a < h.objs.size := by
  cases o with
  | lst xs => obtain ⟨_, _, _, _, e⟩ := x; exact Heap.lt_size e
  | tup xs => obtain ⟨_, _, _, p⟩ := x; exact p.lt
  | dK kvs => obtain ⟨_, _, _, _, o, _, _, e, _⟩ := x; exact Heap.lt_size e
  | dT kvs => obtain ⟨_, _, _, _, o, _, _, e, _⟩ := x; exact Heap.lt_size e
  | set S n => obtain ⟨o, _, _, _, e, _⟩ := x; exact Heap.lt_size e
  | ins C dx fs => obtain ⟨_, _, _, e, _⟩ := x; exact Heap.lt_size e
  | own y => obtain ⟨_, e⟩ := x; exact Heap.lt_size e
  | xd fs => obtain ⟨_, ⟨_, _, _, e, _⟩, _⟩ := x; exact Heap.lt_size e
  | rng lo hi => obtain ⟨_, _, _, e⟩ := x; exact Heap.lt_size e
  | frz ob u => obtain ⟨e, _⟩ := x; exact Heap.lt_size e
  | tbl ps => exact Heap.lt_size (show h.get? a = some _ from x)
  | met f y => exact Heap.lt_size (show h.get? a = some _ from x)
  | ext φ => obtain ⟨_, ⟨_, e⟩, _⟩ := x; exact Heap.lt_size e
theorem Paired.mapP {α β : Type} {F G : α → β → Prop} : ∀ {l₁ : List α} {l₂ : List β}, Paired F l₁ l₂ → (∀ a b, F a b → G a b) → Paired G l₁ l₂
  | _, _, .nil, _ => .nil
  | _, _, .cons r t, f => .cons (f _ _ r) (Paired.mapP t f)
/-- what an object's description leans on: its own object, its own dict, the tuples -/
theorem ObjOk.stay (x : ObjOk P w H h a o) (k : ∀ b u, (b = a ∨ H b = some (.own a)) → h.get? b = some u → h'.get? b = some u)
    (ho : ∀ b, H b = some (.own a) → H' b = some (.own a)) (ht : ∀ b xs, H b = some (.tup xs) → H' b = some (.tup xs)) : ObjOk P w H' h' a o := by
  induction o with
  | lst xs => obtain ⟨z, its, n, r, e⟩ := x; exact ⟨z, its, n, r, k _ _ (.inl rfl) e⟩
  | tup xs => obtain ⟨z, its, r, ob, e, c⟩ := x; exact ⟨z, its, r, ob, k _ _ (.inl rfl) e, c⟩
  | dK kvs => obtain ⟨z, y, vs, r, ob, es, ep, e, c⟩ := x; exact ⟨z, y, vs, r, ob, es, ep, k _ _ (.inl rfl) e, c⟩
  | dT kvs =>
    obtain ⟨z, y, xs, r, ob, es, ep, e, c⟩ := x
    exact ⟨z, y, xs, Paired.mapP r fun p q z => ⟨z.1, ht _ _ z.2.1, z.2.2⟩, ob, es, ep, k _ _ (.inl rfl) e, c⟩
  | set S n => obtain ⟨ob, es, ep, t, e, c⟩ := x; exact ⟨ob, es, ep, t, k _ _ (.inl rfl) e, c⟩
  | ins C dx fs =>
    obtain ⟨d, z, ne, e, mA, ⟨od, es, ep, e2, c⟩, r⟩ := x
    exact ⟨ho _ d, z, ne, k _ _ (.inl rfl) e, mA, ⟨od, es, ep, k _ _ (.inr d) e2, c⟩, r⟩
  | own y => obtain ⟨ob, e⟩ := x; exact ⟨ob, k _ _ (.inl rfl) e⟩
  | xd fs => obtain ⟨mA, ⟨od, es, ep, e, c⟩, r⟩ := x; exact ⟨mA, ⟨od, es, ep, k _ _ (.inl rfl) e, c⟩, r⟩
  | rng lo hi => obtain ⟨t, u, v, e⟩ := x; exact ⟨t, u, v, k _ _ (.inl rfl) e⟩
  | frz ob u ih => obtain ⟨e, q⟩ := x; exact ⟨k _ _ (.inl rfl) e, ih q⟩
  | tbl ps =>
    have e : h.get? a = some { cls := .none, data := .fields ps } := x
    show h'.get? a = some { cls := .none, data := .fields ps }
    exact k a _ (.inl rfl) e
  | met f y =>
    have e : h.get? a = some (PySem.W.methodObj (.ref f) (.ref y)) := x
    show h'.get? a = some (PySem.W.methodObj (.ref f) (.ref y))
    exact k a _ (.inl rfl) e
  | ext φ => obtain ⟨p, ⟨o, e⟩, st⟩ := x; exact ⟨st _ _ p fun o q => k _ _ (.inl rfl) q, ⟨o, k _ _ (.inl rfl) e⟩, st⟩
theorem HOk.lt (x : HOk P w H h) (e : H a = some o) : a < h.objs.size := (x a o e).lt
theorem HOk.fresh (x : HOk P w H h) (e : h.objs.size ≤ a) : H a = none := by
  cases q : H a with
  | none => rfl
  | some u => exact absurd (Nat.lt_of_lt_of_le (x.lt q) e) (Nat.lt_irrefl _)
/-- every object of the heap is kept -/
theorem HOk.kept (x : HOk P w H h) (k : ∀ b u, h.get? b = some u → h'.get? b = some u) : HOk P w H h' := fun a o e =>
  (x a o e).stay (fun b u _ q => k b u q) (fun _ q => q) fun _ _ q => q
/-- a new object is laid and tracked -/
theorem HOk.laid (x : HOk P w H h) (k : ∀ b u, h.get? b = some u → h'.get? b = some u) (hp : h.objs.size ≤ a) (new : ObjOk P w (upd H a o) h' a o) : HOk P w (upd H a o) h' := fun b u e => by
  have hn := x.fresh hp
  by_cases hb : b = a
  · subst hb; rw [upd_same] at e; cases e; exact new
  · rw [upd_ne hb] at e
    exact (x b u e).stay (fun c v _ q => k c v q) (fun c q => by rw [upd_ne (ne_of_none q hn)]; exact q) fun c xs q => by rw [upd_ne (ne_of_none q hn)]; exact q
end
/-- what may be read as u: it is u, or a known u -/
def Rd (H : Hp) (a : Addr) (u : HO) : Prop := H a = some u ∨ ∃ o, H a = some (.frz o u)
theorem Rd.ok {P : Program} {w : World} {H : Hp} {h : Heap} {a : Addr} {u : HO} (r : Rd H a u) (x : HOk P w H h) : ObjOk P w H h a u := by
  rcases r with r | ⟨o, r⟩
  · exact x a u r
  · obtain ⟨_, q⟩ := x a _ r
    exact q
/-- what may be written -/
def Mut : Option HO → Prop
  | some (.lst _) => True
  | some (.dK _) => True
  | some (.dT _) => True
  | some (.set _ _) => True
  | some (.ins _ _ _) => True
  | some (.ext _) => True
  | _ => False
section
variable {P : Program} {w : World} {H : Hp} {h h' : Heap} {x e : Addr} {o' : HO}
/-- the object at e is changed: x itself, or the dict of the instance x -/
theorem HOk.write (ok : HOk P w H h) (mu : Mut (H x)) (he : e = x ∨ H e = some (.own x)) (k : ∀ b u, b ≠ e → h.get? b = some u → h'.get? b = some u) (heo : ∃ u, h'.get? e = some u)
    (new : ObjOk P w (upd H x o') h' x o') : HOk P w (upd H x o') h' := fun b u q => by
  have nown : ∀ c y, H c = some (.own y) → c ≠ x := fun c y r z => by subst z; rw [r] at mu; exact mu
  have ntup : ∀ c xs, H c = some (.tup xs) → c ≠ x := fun c xs r z => by subst z; rw [r] at mu; exact mu
  by_cases hb : b = x
  · subst hb; rw [upd_same] at q; cases q; exact new
  · rw [upd_ne hb] at q
    by_cases hbe : b = e
    · have q' : H b = some (.own x) := by
        rcases he with z | z
        · exact absurd (hbe.trans z) hb
        · rw [hbe]; exact z
      rw [q] at q'; cases q'
      obtain ⟨v, hv⟩ := heo
      exact ⟨v, by rw [hbe]; exact hv⟩
    · refine (ok b u q).stay (fun c v hc r => k c v ?_ r) (fun c r => by rw [upd_ne (nown c b r)]; exact r) fun c xs r => by rw [upd_ne (ntup c xs r)]; exact r
      rcases hc with rfl | hc
      · exact hbe
      · rintro rfl
        rcases he with z | z
        · exact nown c b hc z
        · rw [hc] at z; cases z; exact hb rfl
end
structure Un (fs ex : List Addr) (H H' : Hp) (h h' : Heap) : Prop where
  keep : ∀ b o, h.get? b = some o → H b = none → b ∉ fs → b ∉ ex → h'.get? b = some o
  slot : ∀ b o, h.get? b = some o → H b = none → b ∈ fs → b ∉ ex → ∃ sl, h'.get? b = some { o with slots := sl }
  free : ∀ b o, h.get? b = some o → H b = none → b ∉ ex → H' b = none
  there : ∀ b o, h.get? b = some o → b ∉ ex → ∃ o', h'.get? b = some o'
  tups : ∀ b xs, H b = some (.tup xs) → H' b = some (.tup xs)
  frzs : ∀ b o u, H b = some (.frz o u) → H' b = some (.frz o u)
  tbls : ∀ b ps, H b = some (.tbl ps) → ∃ more, H' b = some (.tbl (ps ++ more))
section
variable {fs fs' ex ex' : List Addr} {H H1 H2 : Hp} {h h1 h2 h' : Heap} {a x e : Addr} {o : HO}
theorem Un.any (u : Un fs ex H H1 h h1) {b : Addr} {ob : Obj} (q : h.get? b = some ob) (n : H b = none) (hx : b ∉ ex) : ∃ sl, h1.get? b = some { ob with slots := sl } := by
  by_cases hb : b ∈ fs
  · exact u.slot b ob q n hb hx
  · exact ⟨ob.slots, u.keep b ob q n hb hx⟩
theorem Un.kept (k : ∀ b u, h.get? b = some u → h'.get? b = some u) : Un fs ex H H h h' :=
  ⟨fun b ob q _ _ _ => k b ob q, fun b ob q _ _ _ => ⟨ob.slots, k b ob q⟩, fun _ _ _ n _ => n, fun b ob q _ => ⟨ob, k b ob q⟩, fun _ _ q => q, fun _ _ _ q => q, fun _ ps q => ⟨#[], by rw [q]; simp⟩⟩
theorem Un.refl : Un fs ex H H h h := Un.kept fun _ _ q => q
theorem Un.laid (k : ∀ b u, h.get? b = some u → h'.get? b = some u) (hp : h.objs.size ≤ a) (hn : H a = none) : Un fs ex H (upd H a o) h h' where
  keep := fun b u q _ _ _ => k b u q
  slot := fun b u q _ _ _ => ⟨u.slots, k b u q⟩
  free := fun b u q n _ => by rw [upd_ne (Nat.ne_of_lt (Nat.lt_of_lt_of_le (Heap.lt_size q) hp))]; exact n
  there := fun b u q _ => ⟨u, k b u q⟩
  tups := fun b xs q => by rw [upd_ne (ne_of_none q hn)]; exact q
  frzs := fun b u xs q => by rw [upd_ne (ne_of_none q hn)]; exact q
  tbls := fun b ps q => ⟨#[], by rw [upd_ne (ne_of_none q hn), q]; simp⟩
theorem Un.write (mu : Mut (H x)) (he : e = x ∨ H e = some (.own x)) (k : ∀ b u, b ≠ e → h.get? b = some u → h'.get? b = some u) (heo : ∃ u, h'.get? e = some u) : Un fs ex H (upd H x o) h h' := by
  have hx : ∀ b, H b = none → b ≠ x := fun b n z => by subst z; rw [n] at mu; exact mu
  have hb : ∀ b, H b = none → b ≠ e := fun b n z => by
    subst z
    rcases he with r | r
    · exact hx b n r
    · rw [n] at r; cases r
  have hm : ∀ b u, H b = some u → ¬ Mut (some u) → b ≠ x := fun b u q nm z => by subst z; rw [q] at mu; exact nm mu
  refine ⟨fun b u q n _ _ => k b u (hb b n) q, fun b u q n _ _ => ⟨u.slots, k b u (hb b n) q⟩, fun b u q n _ => by rw [upd_ne (hx b n)]; exact n, fun b u q _ => ?_,
    fun b xs q => by rw [upd_ne (hm b _ q fun z => z)]; exact q, fun b u xs q => by rw [upd_ne (hm b _ q fun z => z)]; exact q, fun b ps q => ⟨#[], by rw [upd_ne (hm b _ q fun z => z), q]; simp⟩⟩
  by_cases hbe : b = e
  · subst hbe; exact heo
  · exact ⟨u, k b u hbe q⟩
end
def trk (h : Heap) (H : Hp) : List Addr := (List.range h.objs.size).filter fun a => (H a).isSome
def hidT (h : Heap) (H : Hp) : Heap := PySem.W.hideAll h (trk h H)
theorem hidT_size (h : Heap) (H : Hp) : (hidT h H).objs.size = h.objs.size := PySem.W.hideAll_size _ _
theorem hidT_get {h : Heap} {H : Hp} {b : Addr} {o : Obj} (e : h.get? b = some o) (n : H b = none) : (hidT h H).get? b = some o :=
  PySem.W.hideAll_get _ e fun hm => by
    have q : (H b).isSome = true := (List.mem_filter.mp hm).2
    rw [n] at q; simp at q
theorem of_hidT {h : Heap} {H : Hp} {b : Addr} {o : Obj} (e : (hidT h H).get? b = some o) : h.get? b = some o ∧ H b = none := by
  have e' : h.get? b = some o := PySem.W.of_hideAll (trk h H) e
  refine ⟨e', ?_⟩
  cases q : H b with
  | none => rfl
  | some x =>
    have hm : b ∈ trk h H := List.mem_filter.mpr ⟨List.mem_range.mpr (Heap.lt_size e'), by simp [q]⟩
    have z : (hidT h H).get? b = none := PySem.W.hideAll_none (trk h H) hm
    rw [z] at e; cases e
end L2
namespace L2
open PySem PySem.Spec PyProof.Rows
/-- the module's facts, over the base: the heap at the law's entry without what is tracked there -/
structure Mod (K : PySem.W.Frag) (mg : Str → Option Value) (base : Heap) : Prop where
  kin : K.In base
  glob : base.Ns mainGlobals mg
  blt : ∃ mb, base.Ns builtinsNs mb ∧ ∀ x : Str, x ≠ "__name__" → mb x = bootBuiltins x
  nolimit : base.NoLimit
/-- the context: a def's body (or a comprehension's block) running. base: fixed through the whole law; s₀, H₀: the entry; outer: the frames whose slots others may change (a def's callers); stack: all frames that run;
   ex: iterators that were made ahead of the entry and are walked here (a comprehension's); fn: the names whose cells were made at the entry (a def: all; a comprehension's block: its own); calm: not within an except suite; pn: pins that every state bears; xe: what is wanted of an exception that leaves the code -/
structure Cx where
  prog : Program
  w : World
  K : PySem.W.Frag
  mg : Str → Option Value
  base : Heap
  A : Around
  N : List Str
  s₀ : Shared
  H₀ : Hp
  env : Env
  outer : List Env
  stack : List Env
  ex : List Addr
  fn : Str → Bool
  calm : Bool
  pn : List (Addr × Obj)
  xe : Value → Shared → Prop
/-- the callers' frames -/
def frs (l : List Env) : List Addr := l.filterMap (·.frame)
abbrev Cx.fs (X : Cx) : List Addr := frs X.outer
def Vis (sc : Scope) (x : Str) : Prop := sc.names.lookup x = some .local ∨ sc.names.lookup x = some .cell ∨ sc.names.lookup x = some .free
def Loc (sc : Scope) (x : Str) : Prop := sc.names.lookup x = some .local ∨ sc.names.lookup x = some .cell
def Look (env : Env) (h : Heap) (m : Str → Option Value) (x : Str) (u : Value) : Prop :=
  (env.kindOf x = some .local ∧ m x = some u) ∨ ((env.kindOf x = some .cell ∨ env.kindOf x = some .free) ∧ ∃ c, env.cells.lookup x = some c ∧ h.IsCell c (some u))
structure Cx.Ok (X : Cx) : Prop where
  mod : Mod X.K X.mg X.base
  kind : X.env.scope.kind = .function
  glob : X.env.globals = mainGlobals
  blt : X.env.builtins = builtinsNs
  above : X.s₀.heap.objs.size ≤ X.env.locals
  inj : ∀ x y c, X.env.cells.lookup x = some c → X.env.cells.lookup y = some c → x = y
  has : ∀ x, (X.env.kindOf x = some .cell ∨ X.env.kindOf x = some .free) → ∃ c, X.env.cells.lookup x = some c
  cab : ∀ x c, X.fn x = true → X.env.cells.lookup x = some c → X.s₀.heap.objs.size ≤ c
  hd : X.calm = true → X.A.handled = none
  frames : X.A.frames = some X.stack
  stk : X.stack = X.outer ∨ (X.stack = X.env :: X.outer ∧ X.env.frame = some X.env.locals)
  exf : ∀ b ∈ X.ex, b ≠ X.env.locals ∧ ∀ x c, X.env.cells.lookup x = some c → c ≠ b
  bs : ∀ b o, X.base.get? b = some o → X.s₀.heap.get? b = some o ∧ X.H₀ b = none
  bsz : X.base.objs.size ≤ X.s₀.heap.objs.size
  noex : ∀ b o, X.base.get? b = some o → b ∉ X.ex
  exfs : ∀ b ∈ X.ex, b ∉ X.fs
  funs : X.s₀.heap.FunFrames X.base X.outer
  frf : ∀ b ∈ X.fs, X.H₀ b = none
structure Inv (X : Cx) (pins : List (Addr × Obj)) (σ : List (Option V)) (H : Hp) (s : Shared) : Prop where
  ok : X.Ok
  os : s.os = X.s₀.os
  bare : AllBare s.gens
  base : Un X.fs X.ex X.H₀ H X.s₀.heap s.heap
  loc : ∃ m, s.heap.Ns X.env.locals m ∧ ∀ (i : Nat) (x : Str) (v : V), X.N[i]? = some x → σ[i]? = some (some v) → Vis X.env.scope x → ∃ u, RelV v u ∧ Look X.env s.heap m x u
  cell : ∀ x c, X.env.cells.lookup x = some c → ∃ v, s.heap.IsCell c v
  free : H X.env.locals = none
  freeC : ∀ x c, X.env.cells.lookup x = some c → H c = none
  pin : ∀ p ∈ X.pn ++ pins, s.heap.get? p.1 = some p.2 ∧ H p.1 = none ∧ p.1 ≠ X.env.locals ∧ p.1 ∉ X.fs ∧ ∀ v, p.2.data ≠ .cell v
  hok : HOk X.prog X.w H s.heap
  len : σ.length = X.N.length
section
variable {X : Cx} {pins : List (Addr × Obj)} {σ : List (Option V)} {H H' : Hp} {s : Shared} {h' : Heap}
theorem Cx.Ok.nofr (ok : X.Ok) {b : Addr} {o : Obj} (e : X.base.get? b = some o) : b ∉ X.fs := fun hb => by
  have := (ok.funs.mem hb).1
  rw [e] at this; cases this
theorem Inv.bs (I : Inv X pins σ H s) : ∀ b o, X.base.get? b = some o → s.heap.get? b = some o ∧ H b = none := fun b o e =>
  ⟨I.base.keep b o (I.ok.bs b o e).1 (I.ok.bs b o e).2 (I.ok.nofr e) (I.ok.noex b o e), I.base.free b o (I.ok.bs b o e).1 (I.ok.bs b o e).2 (I.ok.noex b o e)⟩
theorem Inv.bk (I : Inv X pins σ H s) : ∀ b o, X.base.get? b = some o → s.heap.get? b = some o := fun b o e => (I.bs b o e).1
theorem Inv.mod (I : Inv X pins σ H s) : Mod X.K X.mg X.base := I.ok.mod
theorem Inv.kIn (I : Inv X pins σ H s) : X.K.In s.heap := I.ok.mod.kin.keeps I.bk
theorem Inv.lt (I : Inv X pins σ H s) : X.env.locals < s.heap.objs.size := let ⟨_, hn, _⟩ := I.loc; hn.lt
theorem Inv.sz (I : Inv X pins σ H s) : X.s₀.heap.objs.size ≤ s.heap.objs.size := Nat.le_trans I.ok.above (Nat.le_of_lt I.lt)
theorem Inv.nofs (I : Inv X pins σ H s) {a : Addr} (h : s.heap.objs.size ≤ a) : a ∉ X.fs := fun hb => by
  obtain ⟨_, o, ho, _⟩ := I.ok.funs.mem hb
  exact absurd (Nat.lt_of_lt_of_le (Heap.lt_size ho) (Nat.le_trans I.sz h)) (Nat.lt_irrefl _)
theorem Inv.cne (I : Inv X pins σ H s) : ∀ x c, X.env.cells.lookup x = some c → c ≠ X.env.locals := fun x c e z => by
  obtain ⟨v, o, ho, hd⟩ := I.cell x c e
  obtain ⟨m, ⟨o', es, ep, ho', hd', _⟩, _⟩ := I.loc
  rw [z, ho'] at ho; cases ho; rw [hd'] at hd; cases hd
theorem Inv.funs (I : Inv X pins σ H s) : s.heap.FunFrames X.base X.outer := by
  have all : ∀ (l : List Env), (∀ b ∈ frs l, b ∈ X.fs) → X.s₀.heap.FunFrames X.base l → s.heap.FunFrames X.base l := by
    intro l
    induction l with
    | nil => intro _ _; trivial
    | cons env r ih =>
      intro hs hl
      obtain ⟨hk, ⟨L, o, hf, hn, ho, hd⟩, hr⟩ := hl
      have hL : L ∈ X.fs := hs L (by unfold frs; rw [List.filterMap_cons, hf]; exact List.mem_cons_self)
      obtain ⟨sl, e⟩ := I.base.slot L o ho (I.ok.frf L hL) hL fun z => I.ok.exfs L z hL
      exact ⟨hk, ⟨L, _, hf, hn, e, hd⟩, ih (fun b hb => hs b (by unfold frs; rw [List.filterMap_cons, hf]; exact List.mem_cons_of_mem _ hb)) hr⟩
  exact all X.outer (fun _ hb => hb) I.ok.funs
/-- the frames that run, for a call -/
theorem Inv.stack (I : Inv X pins σ H s) : s.heap.FunFrames X.base X.stack := by
  rcases I.ok.stk with e | ⟨e, hf⟩
  · rw [e]; exact I.funs
  · rw [e]
    obtain ⟨m, hn, _⟩ := I.loc
    refine .cons (by rw [I.ok.kind]; decide) hf hn ?_ I.funs
    exact Heap.get?_none_of_le (Nat.le_trans I.ok.bsz I.ok.above)
theorem Inv.stkSub (I : Inv X pins σ H s) : ∀ b ∈ frs X.stack, b ∈ X.env.locals :: X.fs := fun b hb => by
  rcases I.ok.stk with e | ⟨e, hf⟩
  · rw [e] at hb; exact List.mem_cons_of_mem _ hb
  · rw [e] at hb
    unfold frs at hb
    rw [List.filterMap_cons, hf] at hb
    exact hb
theorem Inv.stkFree (I : Inv X pins σ H s) : ∀ b ∈ frs X.stack, H b = none := fun b hb => by
  rcases List.mem_cons.mp (I.stkSub b hb) with e | hb
  · rw [e]; exact I.free
  · obtain ⟨_, o, ho, _⟩ := I.ok.funs.mem hb
    exact I.base.free b o ho (I.ok.frf b hb) fun z => I.ok.exfs b z hb
/-- THE STEP: the untracked objects but the frame and the records at ch are kept (the callers' frames up to slots), the frame's map is kept, the new abstract heap is held -/
theorem Inv.step {g' : Array GenState} {t' : Nat} {d' : Drawn} {ch : List Addr} (I : Inv X pins σ H s)
    (hch : ∀ b ∈ ch, (b ∈ X.ex ∨ X.s₀.heap.objs.size ≤ b) ∧ b ≠ X.env.locals ∧ (∀ x c, X.env.cells.lookup x = some c → c ≠ b) ∧ ∀ p ∈ X.pn ++ pins, p.1 ≠ b)
    (keep : ∀ b o, b ≠ X.env.locals → b ∉ X.fs → b ∉ ch → s.heap.get? b = some o → H b = none → h'.get? b = some o)
    (slot : ∀ b o, b ≠ X.env.locals → b ∈ X.fs → b ∉ ch → s.heap.get? b = some o → H b = none → ∃ sl, h'.get? b = some { o with slots := sl }) (free : ∀ b o, b ∉ ch → s.heap.get? b = some o → H b = none → H' b = none)
    (there : ∀ b o, b ∉ ch → s.heap.get? b = some o → ∃ o', h'.get? b = some o')
    (tups : ∀ b xs, H b = some (.tup xs) → H' b = some (.tup xs)) (frzs : ∀ b o u, H b = some (.frz o u) → H' b = some (.frz o u)) (tbls : ∀ b ps, H b = some (.tbl ps) → ∃ more, H' b = some (.tbl (ps ++ more)))
    (ns : ∀ m, s.heap.Ns X.env.locals m → h'.Ns X.env.locals m) (hok : HOk X.prog X.w H' h') (hg : AllBare g') :
    Inv X pins σ H' { s with heap := h', gens := g', drawn := d', toks := t' } := by
  have neL : ∀ b o, X.s₀.heap.get? b = some o → b ≠ X.env.locals := fun b o e => Nat.ne_of_lt (Nat.lt_of_lt_of_le (Heap.lt_size e) I.ok.above)
  have neC : ∀ b o, X.s₀.heap.get? b = some o → b ∉ X.ex → b ∉ ch := fun b o e hx hb => by
    rcases (hch b hb).1 with z | z
    · exact hx z
    · exact absurd (Nat.lt_of_lt_of_le (Heap.lt_size e) z) (Nat.lt_irrefl _)
  have cellK : ∀ x c, X.env.cells.lookup x = some c → ∀ v, s.heap.IsCell c v → h'.IsCell c v := fun x c e v ⟨o, ho, hd⟩ => by
    have nch : c ∉ ch := fun z => (hch c z).2.2.1 x c e rfl
    by_cases hc : c ∈ X.fs
    · obtain ⟨sl, q⟩ := slot c o (I.cne x c e) hc nch ho (I.freeC x c e)
      exact ⟨_, q, hd⟩
    · exact ⟨o, keep c o (I.cne x c e) hc nch ho (I.freeC x c e), hd⟩
  refine ⟨I.ok, I.os, hg, ⟨fun b o e n hb hx => ?_, fun b o e n hb hx => ?_, fun b o e n hx => ?_, fun b o e hx => ?_, fun b xs e => tups b xs (I.base.tups b xs e), fun b o xs e => frzs b o xs (I.base.frzs b o xs e), fun b ps e => ?_⟩, ?_, fun x c e => ?_, ?_, fun x c e => ?_, fun p hp => ?_, hok, I.len⟩
  · exact keep b o (neL b o e) hb (neC b o e hx) (I.base.keep b o e n hb hx) (I.base.free b o e n hx)
  · obtain ⟨sl, e1⟩ := I.base.slot b o e n hb hx
    obtain ⟨sl', e2⟩ := slot b _ (neL b o e) hb (neC b o e hx) e1 (I.base.free b o e n hx)
    exact ⟨sl', e2⟩
  · obtain ⟨o', e1⟩ := I.base.there b o e hx
    exact free b o' (neC b o e hx) e1 (I.base.free b o e n hx)
  · obtain ⟨o', e1⟩ := I.base.there b o e hx
    exact there b o' (neC b o e hx) e1
  · obtain ⟨m1, e1⟩ := I.base.tbls b ps e
    obtain ⟨m2, e2⟩ := tbls b _ e1
    exact ⟨m1 ++ m2, by rw [e2, Array.append_assoc]⟩
  · obtain ⟨m, hn, hl⟩ := I.loc
    refine ⟨m, ns m hn, fun i x v e1 e2 e3 => ?_⟩
    obtain ⟨u, r, l⟩ := hl i x v e1 e2 e3
    refine ⟨u, r, ?_⟩
    rcases l with l | ⟨k, c, e, z⟩
    · exact .inl l
    · exact .inr ⟨k, c, e, cellK x c e _ z⟩
  · obtain ⟨v, z⟩ := I.cell x c e
    exact ⟨v, cellK x c e v z⟩
  · obtain ⟨m, ⟨o, _, _, ho, _⟩, _⟩ := I.loc
    exact free _ o (fun z => (hch _ z).2.1 rfl) ho I.free
  · obtain ⟨v, o, ho, hd⟩ := I.cell x c e
    exact free c o (fun z => (hch c z).2.2.1 x c e rfl) ho (I.freeC x c e)
  · obtain ⟨e, n, ne, nf, d⟩ := I.pin p hp
    have nch : p.1 ∉ ch := fun z => (hch p.1 z).2.2.2 p hp rfl
    exact ⟨keep p.1 p.2 ne nf nch e n, free p.1 p.2 nch e n, ne, nf, d⟩
/-- .. where the frame's own object is kept too -/
theorem Inv.un {t' : Nat} (I : Inv X pins σ H s) (u : Un X.fs [] H H' s.heap h') (hok : HOk X.prog X.w H' h') : Inv X pins σ H' { s with heap := h', toks := t' } := by
  obtain ⟨m, ⟨o, es, ep, ho, r⟩, _⟩ := id I.loc
  obtain ⟨sl, hL⟩ := u.any ho I.free (by simp)
  exact I.step (g' := s.gens) (d' := s.drawn) (ch := []) (fun _ z => nomatch z) (fun b o _ hb _ e n => u.keep b o e n hb (by simp)) (fun b o _ hb _ e n => u.slot b o e n hb (by simp)) (fun b o _ e n => u.free b o e n (by simp)) (fun b o _ e => u.there b o e (by simp)) u.tups u.frzs u.tbls (fun m' hm => by
    obtain ⟨o', es', ep', ho', r'⟩ := hm
    rw [ho] at ho'; cases ho'
    exact ⟨_, es', ep', hL, r'⟩) hok I.bare
/-- behind a call (or a comprehension's block): the slots of this frame may have changed too, the records at ch may have turned -/
theorem Inv.call {g' : Array GenState} {t' : Nat} {d' : Drawn} {ch : List Addr} (I : Inv X pins σ H s) (u : Un (frs X.stack) ch H H' s.heap h') (hok : HOk X.prog X.w H' h') (hg : AllBare g')
    (hch : ∀ b ∈ ch, (b ∈ X.ex ∨ X.s₀.heap.objs.size ≤ b) ∧ b ≠ X.env.locals ∧ (∀ x c, X.env.cells.lookup x = some c → c ≠ b) ∧ ∀ p ∈ X.pn ++ pins, p.1 ≠ b) :
    Inv X pins σ H' { s with heap := h', gens := g', drawn := d', toks := t' } := by
  obtain ⟨m, ⟨o, es, ep, ho, r⟩, _⟩ := id I.loc
  obtain ⟨sl, hL⟩ := u.any ho I.free fun z => (hch _ z).2.1 rfl
  exact I.step (ch := ch) hch (fun b o hL hb hc e n => u.keep b o e n (fun z => (List.mem_cons.mp (I.stkSub b z)).elim hL hb) hc) (fun b o _ _ hc e n => u.any e n hc) (fun b o hc e n => u.free b o e n hc) (fun b o hc e => u.there b o e hc) u.tups u.frzs u.tbls (fun m' hm => by
    obtain ⟨o', es', ep', ho', r'⟩ := hm
    rw [ho] at ho'; cases ho'
    exact ⟨_, es', ep', hL, r'⟩) hok hg
/-- an untracked record of ours (an iterator) has turned -/
theorem Inv.turned {t' : Nat} {it : Addr} (I : Inv X pins σ H s) (k : ∀ b o, b ≠ it → s.heap.get? b = some o → h'.get? b = some o) (hn : H it = none) (hL : it ≠ X.env.locals)
    (h1 : it ∈ X.ex ∨ X.s₀.heap.objs.size ≤ it) (h2 : ∀ x c, X.env.cells.lookup x = some c → c ≠ it) (h3 : ∀ p ∈ X.pn ++ pins, p.1 ≠ it) : Inv X pins σ H { s with heap := h', toks := t' } := by
  have nit : ∀ b u, H b = some u → b ≠ it := fun b u e z => by rw [z, hn] at e; cases e
  refine I.step (g' := s.gens) (d' := s.drawn) (ch := [it]) (fun b hb => ?_) (fun b o _ _ hc e _ => k b o (fun z => hc (by simp [z])) e) (fun b o _ _ hc e _ => ⟨o.slots, k b o (fun z => hc (by simp [z])) e⟩) (fun _ _ _ _ n => n)
    (fun b o hc e => ⟨o, k b o (fun z => hc (by simp [z])) e⟩) (fun _ _ e => e) (fun _ _ _ e => e) (fun b ps e => ⟨#[], by rw [e]; simp⟩) (fun m hm => ?_) (fun b u e => ?_) I.bare
  · have e : b = it := by simpa using hb
    subst e
    exact ⟨h1, hL, h2, h3⟩
  · obtain ⟨o, es, ep, ho, r⟩ := hm
    exact ⟨o, es, ep, k _ o (Ne.symm hL) ho, r⟩
  · refine (I.hok b u e).stay (fun c v hc q => k c v ?_ q) (fun _ q => q) fun _ _ q => q
    rcases hc with z | z
    · rw [z]; exact nit b u e
    · exact nit c _ z
theorem Inv.tok (I : Inv X pins σ H s) (t : Nat) : Inv X pins σ H { s with toks := t } := I.un (h' := s.heap) (t' := t) Un.refl I.hok
/-- all objects kept -/
theorem Inv.kept {t' : Nat} (I : Inv X pins σ H s) (k : ∀ b u, s.heap.get? b = some u → h'.get? b = some u) : Inv X pins σ H { s with heap := h', toks := t' } := I.un (Un.kept k) (I.hok.kept k)
/-- a new object laid and tracked -/
theorem Inv.laid {a : Addr} {o : HO} {t' : Nat} (I : Inv X pins σ H s) (k : ∀ b u, s.heap.get? b = some u → h'.get? b = some u) (hp : s.heap.objs.size ≤ a) (new : ObjOk X.prog X.w (upd H a o) h' a o) :
    Inv X pins σ (upd H a o) { s with heap := h', toks := t' } := I.un (Un.laid k hp (I.hok.fresh hp)) (I.hok.laid k hp new)
/-- an object written -/
theorem Inv.write {x e : Addr} {o : HO} {t' : Nat} (I : Inv X pins σ H s) (mu : Mut (H x)) (he : e = x ∨ H e = some (.own x)) (k : ∀ b u, b ≠ e → s.heap.get? b = some u → h'.get? b = some u) (heo : ∃ u, h'.get? e = some u)
    (new : ObjOk X.prog X.w (upd H x o) h' x o) : Inv X pins σ (upd H x o) { s with heap := h', toks := t' } := I.un (Un.write mu he k heo) (I.hok.write mu he k heo new)
theorem Inv.pins_of {pins' : List (Addr × Obj)} (I : Inv X pins σ H s) (h : ∀ p ∈ pins', s.heap.get? p.1 = some p.2 ∧ H p.1 = none ∧ p.1 ≠ X.env.locals ∧ p.1 ∉ X.fs ∧ ∀ v, p.2.data ≠ .cell v) : Inv X pins' σ H s :=
  ⟨I.ok, I.os, I.bare, I.base, I.loc, I.cell, I.free, I.freeC, fun p hp => (List.mem_append.mp hp).elim (fun z => I.pin p (List.mem_append_left _ z)) (h p), I.hok, I.len⟩
theorem nodup_ix {N : List Str} (hN : N.Nodup) {i j : Nat} {x : Str} (a : N[i]? = some x) (b : N[j]? = some x) : i = j := by
  obtain ⟨h1, e1⟩ := List.getElem?_eq_some_iff.mp a
  obtain ⟨h2, e2⟩ := List.getElem?_eq_some_iff.mp b
  exact (List.getElem_inj hN).mp (e1.trans e2.symm)
/-- a name is stored; what changed -/
theorem store_ok2 {M : Model} {A : Around} {E : Value → Shared → Prop} {i : Nat} {x : Str} {v : V} {u : Value} {Q : Unit → Shared → Prop} (I : Inv X pins σ H s) (hN : X.N.Nodup) (hi : X.N[i]? = some x) (hx : Loc X.env.scope x) (r : RelV v u)
    (h : ∀ s', Inv X pins (σ.set i (some v)) H s' → (∃ a, Heap.SameBut a s.heap s'.heap ∧ (a = X.env.locals ∨ X.env.cells.lookup x = some a)) → Q () s') (hf : X.fn x = true ∨ X.env.scope.names.lookup x = some .local := by first | exact .inl rfl | exact .inr rfl | assumption) : wpAny M A (storeName X.env x u) Q E s := by
  obtain ⟨m, hn, hl⟩ := id I.loc
  have hcls : (X.env.scope.kind == .class || (X.env.scope.kind == .module && X.env.locals != X.env.globals)) = false := by rw [I.ok.kind]; rfl
  have hiσ : i < σ.length := by rw [I.len]; exact (List.getElem?_eq_some_iff.mp hi).1
  have cne := I.cne
  have tracked : ∀ {a : Addr} {h' : Heap}, (∃ o, s.heap.get? a = some o ∧ H a = none) → Heap.SameBut a s.heap h' → HOk X.prog X.w H h' := fun {a h'} ha hs b ob e => by
    obtain ⟨_, _, hfree⟩ := ha
    refine (I.hok b ob e).stay (fun c w' hc q => (hs.2 c ?_).trans q) (fun _ q => q) fun _ _ q => q
    rintro rfl
    rcases hc with rfl | hc
    · rw [hfree] at e; cases e
    · rw [hfree] at hc; cases hc
  rcases hx with hk | hk
  · refine wpAny_storeName_local hk hn (fun h' hn' hs => ?_) hcls
    obtain ⟨oL, _, _, hoL, _⟩ := id hn
    refine h _ ⟨I.ok, I.os, I.bare, ⟨fun b o e n hb hx => ?_, fun b o e n hb hx => ?_, I.base.free, fun b o e hx => ?_, I.base.tups, I.base.frzs, I.base.tbls⟩, ⟨_, hn', fun j y v' e1 e2 e3 => ?_⟩, fun y c e => ?_, I.free, I.freeC, fun p hp => ?_, tracked ⟨oL, hoL, I.free⟩ hs, by simpa using I.len⟩ ⟨_, hs, .inl rfl⟩
    · exact (hs.2 b (Nat.ne_of_lt (Nat.lt_of_lt_of_le (Heap.lt_size e) I.ok.above))).trans (I.base.keep b o e n hb hx)
    · obtain ⟨sl, e1⟩ := I.base.slot b o e n hb hx
      exact ⟨sl, (hs.2 b (Nat.ne_of_lt (Nat.lt_of_lt_of_le (Heap.lt_size e) I.ok.above))).trans e1⟩
    · obtain ⟨o', e1⟩ := I.base.there b o e hx
      exact ⟨o', (hs.2 b (Nat.ne_of_lt (Nat.lt_of_lt_of_le (Heap.lt_size e) I.ok.above))).trans e1⟩
    · by_cases hj : j = i
      · subst hj
        rw [hi] at e1; cases e1
        rw [List.getElem?_set_self hiσ] at e2
        cases e2
        exact ⟨u, r, .inl ⟨hk, by simp⟩⟩
      · rw [List.getElem?_set_ne (Ne.symm hj)] at e2
        obtain ⟨u', r', q⟩ := hl j y v' e1 e2 e3
        refine ⟨u', r', ?_⟩
        rcases q with ⟨k, e⟩ | ⟨k, c, e, z⟩
        · refine .inl ⟨k, ?_⟩
          have : y ≠ x := fun e => hj (nodup_ix hN e1 (e ▸ hi))
          simp [this, e]
        · exact .inr ⟨k, c, e, z.sameBut hs (cne y c e)⟩
    · obtain ⟨w', z⟩ := I.cell y c e
      exact ⟨w', z.sameBut hs (cne y c e)⟩
    · obtain ⟨e, n, ne, nf, d⟩ := I.pin p hp
      exact ⟨(hs.2 p.1 ne).trans e, n, ne, nf, d⟩
  · have hfn : X.fn x = true := by
      rcases hf with z | z
      · exact z
      · rw [z] at hk; cases hk
    obtain ⟨c, hc⟩ := I.ok.has x (.inl hk)
    obtain ⟨w', z⟩ := I.cell x c hc
    refine wpAny_storeName_cell I.ok.kind hk hc z (fun h' hc' hs => ?_)
    obtain ⟨oc, hoc, hocd⟩ := id z
    refine h { s with heap := h' } ⟨I.ok, I.os, I.bare, ⟨fun b o e n hb hx => ?_, fun b o e n hb hx => ?_, I.base.free, fun b o e hx => ?_, I.base.tups, I.base.frzs, I.base.tbls⟩, ⟨m, hn.sameBut hs (Ne.symm (cne x c hc)), fun j y v' e1 e2 e3 => ?_⟩, fun y c' e => ?_, I.free, I.freeC, fun p hp => ?_, tracked ⟨oc, hoc, I.freeC x c hc⟩ hs, by simpa using I.len⟩ ⟨c, hs, .inr hc⟩
    · exact (hs.2 b (Nat.ne_of_lt (Nat.lt_of_lt_of_le (Heap.lt_size e) (I.ok.cab x c hfn hc)))).trans (I.base.keep b o e n hb hx)
    · obtain ⟨sl, e1⟩ := I.base.slot b o e n hb hx
      exact ⟨sl, (hs.2 b (Nat.ne_of_lt (Nat.lt_of_lt_of_le (Heap.lt_size e) (I.ok.cab x c hfn hc)))).trans e1⟩
    · obtain ⟨o', e1⟩ := I.base.there b o e hx
      exact ⟨o', (hs.2 b (Nat.ne_of_lt (Nat.lt_of_lt_of_le (Heap.lt_size e) (I.ok.cab x c hfn hc)))).trans e1⟩
    · by_cases hj : j = i
      · subst hj
        rw [hi] at e1; cases e1
        rw [List.getElem?_set_self hiσ] at e2
        cases e2
        exact ⟨u, r, .inr ⟨.inl hk, c, hc, hc'⟩⟩
      · rw [List.getElem?_set_ne (Ne.symm hj)] at e2
        obtain ⟨u', r', q⟩ := hl j y v' e1 e2 e3
        refine ⟨u', r', ?_⟩
        rcases q with q | ⟨k, c', e, z'⟩
        · exact .inl q
        · refine .inr ⟨k, c', e, z'.sameBut hs ?_⟩
          rintro rfl
          exact hj (nodup_ix hN e1 (I.ok.inj _ _ _ e hc ▸ hi))
    · by_cases hcc : c' = c
      · subst hcc; exact ⟨_, hc'⟩
      · obtain ⟨w2, z2⟩ := I.cell y c' e
        exact ⟨w2, z2.sameBut hs hcc⟩
    · obtain ⟨e, n, ne, nf, d⟩ := I.pin p hp
      refine ⟨(hs.2 p.1 ?_).trans e, n, ne, nf, d⟩
      intro q
      rw [q, hoc] at e
      have q' : oc = p.2 := Option.some.inj e
      exact d w' (by rw [← q']; exact hocd)
theorem store_ok {M : Model} {A : Around} {E : Value → Shared → Prop} {i : Nat} {x : Str} {v : V} {u : Value} {Q : Unit → Shared → Prop} (I : Inv X pins σ H s) (hN : X.N.Nodup) (hi : X.N[i]? = some x) (hx : Loc X.env.scope x) (r : RelV v u)
    (h : ∀ s', Inv X pins (σ.set i (some v)) H s' → Q () s') (hf : X.fn x = true ∨ X.env.scope.names.lookup x = some .local := by first | exact .inl rfl | exact .inr rfl | assumption) : wpAny M A (storeName X.env x u) Q E s :=
  store_ok2 I hN hi hx r (fun s' I' _ => h s' I') hf
/-- behind a call or a block, the state as it is -/
theorem Inv.call' {s' : Shared} {ch : List Addr} (I : Inv X pins σ H s) (ho : s'.os = s.os) (u : Un (frs X.stack) ch H H' s.heap s'.heap) (hok : HOk X.prog X.w H' s'.heap) (hg : AllBare s'.gens)
    (hch : ∀ b ∈ ch, (b ∈ X.ex ∨ X.s₀.heap.objs.size ≤ b) ∧ b ≠ X.env.locals ∧ (∀ x c, X.env.cells.lookup x = some c → c ≠ b) ∧ ∀ p ∈ X.pn ++ pins, p.1 ≠ b) : Inv X pins σ H' s' := by
  obtain ⟨h', g', d', t', o'⟩ := s'
  have e : o' = s.os := ho
  subst e
  exact I.call (g' := g') (t' := t') (d' := d') u hok hg hch
end
/-- an exception: its class, its own dict's address (where it has one), the abstract heap behind it -/
abbrev XK := Value → Option Addr → Hp → Prop
abbrev St := List (Option V)
abbrev VK := V → Hp → Prop
/-- an expression's reading; a test's; an argument list's -/
abbrev TE := St → Hp → VK → Prop
abbrev TT := St → Hp → (Bool → Hp → Prop) → Prop
abbrev TA := St → Hp → (List V → Hp → Prop) → Prop
/-- what is wanted behind a statement -/
structure Ends where
  nx : St → Hp → Prop
  rt : VK
  bk : St → Hp → Prop := fun _ _ => False
  ct : St → Hp → Prop := fun _ _ => False
abbrev TS := Ends → St → Hp → Prop
inductive EP (X : Cx) (pins : List (Addr × Obj)) (σ : St) (Q : VK) (u : Value) (s' : Shared) : Prop
  | mk : ∀ v H', Inv X pins σ H' s' → RelV v u → Q v H' → EP X pins σ Q u s'
inductive TP (X : Cx) (pins : List (Addr × Obj)) (σ : St) (Q : Bool → Hp → Prop) (b : Bool) (s' : Shared) : Prop
  | mk : ∀ H', Inv X pins σ H' s' → Q b H' → TP X pins σ Q b s'
inductive AP (X : Cx) (pins : List (Addr × Obj)) (σ : St) (Q : List V → Hp → Prop) (us : List Value) (s' : Shared) : Prop
  | mk : ∀ vs H', Inv X pins σ H' s' → Vals vs us → Q vs H' → AP X pins σ Q us s'
inductive SPn (X : Cx) (pins : List (Addr × Obj)) (N : St → Hp → Prop) (s' : Shared) : Prop
  | mk : ∀ σ' H', Inv X pins σ' H' s' → N σ' H' → SPn X pins N s'
inductive SPr (X : Cx) (pins : List (Addr × Obj)) (N : VK) (u : Value) (s' : Shared) : Prop
  | mk : ∀ v σ' H', Inv X pins σ' H' s' → RelV v u → N v H' → SPr X pins N u s'
def SP (X : Cx) (pins : List (Addr × Obj)) (D : Ends) (f : Flow) (s' : Shared) : Prop :=
  match f with
  | .next => SPn X pins D.nx s'
  | .brk => SPn X pins D.bk s'
  | .cont => SPn X pins D.ct s'
  | .ret u => SPr X pins D.rt u s'
def PE (X : Cx) (e : Expr) (t : TE) : Prop :=
  ∀ (pins : List (Addr × Obj)) (s : Shared) (σ : St) (H : Hp) (Q : VK), Inv X pins σ H s → t σ H Q → wpAny (model X.prog X.w) X.A (eval e X.env) (EP X pins σ Q) X.xe s
def PT (X : Cx) (e : Expr) (t : TT) : Prop :=
  ∀ (pins : List (Addr × Obj)) (s : Shared) (σ : St) (H : Hp) (Q : Bool → Hp → Prop), Inv X pins σ H s → t σ H Q → wpAny (model X.prog X.w) X.A (isTrue e X.env (eval e X.env)) (TP X pins σ Q) X.xe s
/-- a test whatever its 'whole' is (and, or) -/
def PW (X : Cx) (e : Expr) (t : TT) : Prop :=
  ∀ (whole : Sem Value) (pins : List (Addr × Obj)) (s : Shared) (σ : St) (H : Hp) (Q : Bool → Hp → Prop), Inv X pins σ H s → t σ H Q → wpAny (model X.prog X.w) X.A (isTrue e X.env whole) (TP X pins σ Q) X.xe s
theorem PW.pt {X : Cx} {e : Expr} {t : TT} (h : PW X e t) : PT X e t := h _
/-- an argument list (no star), from the left -/
def PA (X : Cx) (es : List Expr) (t : TA) : Prop :=
  ∀ (pos : Pos) (pins : List (Addr × Obj)) (s : Shared) (σ : St) (H : Hp) (Q : List V → Hp → Prop), Inv X pins σ H s → t σ H Q → wpAny (model X.prog X.w) X.A (spliced (backTo pos (starEach es X.env))) (AP X pins σ Q) X.xe s
def PS (X : Cx) (st : Stmt) (t : TS) : Prop :=
  ∀ (pins : List (Addr × Obj)) (s : Shared) (σ : St) (H : Hp) (D : Ends), Inv X pins σ H s → t D σ H → wpAny (model X.prog X.w) X.A (exec st X.env) (SP X pins D) X.xe s
def PSs (X : Cx) (st : List Stmt) (t : TS) : Prop :=
  ∀ (pins : List (Addr × Obj)) (s : Shared) (σ : St) (H : Hp) (D : Ends), Inv X pins σ H s → t D σ H → wpAny (model X.prog X.w) X.A (execs st X.env) (SP X pins D) X.xe s
/-- weaken the end -/
theorem thn {α : Type} {t : Sem α} {Q Q' : α → Shared → Prop} {M : Model} {A : Around} {E : Value → Shared → Prop} {s : Shared} (h : wpAny M A t Q E s) (hQ : ∀ a s, Q a s → Q' a s) : wpAny M A t Q' E s := wpAny_mono h hQ fun _ _ x => x
end L2
namespace L2
open PySem PySem.Spec PyProof.Rows
section
variable {X : Cx}
inductive tVar_I (i : Nat) (σ : St) (H : Hp) (Q : VK) : Prop
  | mk : ∀ v, σ[i]? = some (some v) → Q v H → tVar_I i σ H Q
def tVar (i : Nat) : TE := fun σ H Q => tVar_I i σ H Q
def tC (v : V) : TE := fun _ H Q => Q v H
theorem pe_var {i : Nat} {x : Str} {pos : Pos} (hN : X.N[i]? = some x) (hv : Vis X.env.scope x) (hd : (x == ("__debug__" : Str)) = false := by decide) (hcd : (x == ("__classdict__" : Str)) = false := by decide) : PE X (.Name x pos) (tVar i) := by
  intro pins s σ H Q I h
  obtain ⟨v, e, h⟩ := h
  obtain ⟨m, hn, hl⟩ := I.loc
  obtain ⟨u, r, l⟩ := hl i x v hN e hv
  have fin : EP X pins σ Q u s := ⟨v, H, I, r, h⟩
  rcases l with ⟨hk, hm⟩ | ⟨hk, c, hc, hcell⟩
  · exact wpAny_Name (wpAny_loadName_local I.ok.kind hk hn hm fin) hd
  · rcases hk with hk | hk
    · exact wpAny_Name (wpAny_loadName_cell I.ok.kind hk hc hcell fin) hd
    · exact wpAny_Name (wpAny_loadName_free I.ok.kind hk hc hcell fin hcd) hd
theorem pe_int {i j pos} : PE X (.Constant (.int i) j pos) (tC (.int i)) := fun _ _ _ H _ I h => wpAny_Constant_int ⟨.int i, H, I.tok _, ⟨_, rfl⟩, h⟩
theorem pe_bl {b j pos} : PE X (.Constant (.bool b) j pos) (tC (.bl b)) := fun _ _ _ H _ I h => Constant_bool ⟨.bl b, H, I, rfl, h⟩
theorem pe_str {x j pos} : PE X (.Constant (.str x) j pos) (tC (.str x)) := fun _ _ _ H _ I h => Calls.Constant_str ⟨.str x, H, I.tok _, ⟨_, rfl⟩, h⟩
/-- a global name of the def -/
def Gl (X : Cx) (x : Str) : Prop := X.env.kindOf x = some .globalImplicit
theorem ld_glob {E : Value → Shared → Prop} {pins : List (Addr × Obj)} {s : Shared} {σ : St} {H : Hp} {x : Str} {u : Value} {pos : Pos} {Q : Value → Shared → Prop} (I : Inv X pins σ H s) (hg : Gl X x) (hm : X.mg x = some u) (h : Q u s)
    (hd : (x == ("__debug__" : Str)) = false := by decide) : wpAny (model X.prog X.w) X.A (eval (.Name x pos) X.env) Q E s :=
  Calls.Name_function_global I.ok.kind hg (Calls.loadGlobal_global (by rw [I.ok.glob]; exact I.mod.glob.keeps I.bk) hm h) hd
theorem ld_blt {E : Value → Shared → Prop} {pins : List (Addr × Obj)} {s : Shared} {σ : St} {H : Hp} {x : Str} {u : Value} {pos : Pos} {Q : Value → Shared → Prop} (I : Inv X pins σ H s) (hg : Gl X x) (hm : X.mg x = none) (hv : bootBuiltins x = some u) (h : Q u s)
    (hn : x ≠ "__name__" := by decide) (hd : (x == ("__debug__" : Str)) = false := by decide) : wpAny (model X.prog X.w) X.A (eval (.Name x pos) X.env) Q E s := by
  obtain ⟨mb, h1, h2⟩ := I.mod.blt
  exact Calls.Name_function_global I.ok.kind hg (Calls.loadGlobal_builtin (by rw [I.ok.glob]; exact I.mod.glob.keeps I.bk) hm (by rw [I.ok.blt]; exact h1.keeps I.bk) ((h2 x hn).trans hv) h) hd
/-- a module's constant, a class, a function, as a value -/
theorem pe_glob {x : Str} {v : V} {u : Value} {pos : Pos} (hg : Gl X x) (hm : X.mg x = some u) (r : RelV v u) (hd : (x == ("__debug__" : Str)) = false := by decide) : PE X (.Name x pos) (tC v) :=
  fun _ _ _ H _ I h => ld_glob I hg hm ⟨v, H, I, r, h⟩ hd
theorem pe_bltn {x : Str} {v : V} {u : Value} {pos : Pos} (hg : Gl X x) (hm : X.mg x = none) (hv : bootBuiltins x = some u) (r : RelV v u) (hn : x ≠ "__name__" := by decide) (hd : (x == ("__debug__" : Str)) = false := by decide) : PE X (.Name x pos) (tC v) :=
  fun _ _ _ H _ I h => ld_blt I hg hm hv ⟨v, H, I, r, h⟩ hn hd
variable {a b : Expr} {ta tb : TE} {pos : Pos}
/-- a comparison as a value, as a test -/
inductive tB_I (Q : (Bool → Hp → Prop)) (x : V) (H1 : Hp) : Prop
  | mk : ∀ c, x = .bl c → Q c H1 → tB_I Q x H1
def tB (t : TE) : TT := fun σ H Q => t σ H fun x H1 => tB_I Q x H1
/-- an expression whose value is a bool, as a test -/
theorem pt_val {e : Expr} {t : TE} (h : PE X e t) (he : ∀ whole, isTrue e X.env whole = (do let v ← whole; standAt e.pos; holding [v] (truthy v)) := by intro _; rfl) : PT X e (tB t) := by
  intro pins s σ H Q I hw
  refine isTrue_plain (thn (h pins s σ H _ I hw) fun v s1 ⟨x, H1, I1, r1, q1⟩ => ?_) (he _)
  obtain ⟨d, rfl, q⟩ := q1
  cases r1
  exact wpAny_truthy_bool ⟨H1, I1, q⟩
variable {tA tB' : TT} {rest : List Expr}
def tAnd (t u : TT) : TT := fun σ H Q => t σ H fun c H1 => if c = true then u σ H1 Q else Q false H1
def tOr (t u : TT) : TT := fun σ H Q => t σ H fun c H1 => if c = true then Q true H1 else u σ H1 Q
def tNot (t : TT) : TT := fun σ H Q => t σ H fun c H1 => Q (!c) H1
theorem pw_and1 (ha : PT X a tA) : PW X (.BoolOp .And [a] pos) tA := by
  intro wh pins s σ H Q I h
  refine isTrue_and (thn (ha pins s σ H Q I h) fun c s1 e => ?_)
  cases c with
  | true => exact isTrue_and_nil e
  | false => exact e
theorem pw_or1 (ha : PT X a tA) : PW X (.BoolOp .Or [a] pos) tA := by
  intro wh pins s σ H Q I h
  refine isTrue_or (thn (ha pins s σ H Q I h) fun c s1 e => ?_)
  cases c with
  | false => exact isTrue_or_nil e
  | true => exact e
theorem pw_and (ha : PT X a tA) (hb : PW X (.BoolOp .And (b :: rest) pos) tB') : PW X (.BoolOp .And (a :: b :: rest) pos) (tAnd tA tB') := by
  intro wh pins s σ H Q I h
  refine isTrue_and (thn (ha pins s σ H _ I h) fun c s1 ⟨H1, I1, q1⟩ => ?_)
  cases c with
  | true => exact hb wh pins s1 σ H1 Q I1 q1
  | false => exact ⟨H1, I1, q1⟩
theorem pw_or (ha : PT X a tA) (hb : PW X (.BoolOp .Or (b :: rest) pos) tB') : PW X (.BoolOp .Or (a :: b :: rest) pos) (tOr tA tB') := by
  intro wh pins s σ H Q I h
  refine isTrue_or (thn (ha pins s σ H _ I h) fun c s1 ⟨H1, I1, q1⟩ => ?_)
  cases c with
  | true => exact ⟨H1, I1, q1⟩
  | false => exact hb wh pins s1 σ H1 Q I1 q1
theorem pt_not (ha : PT X a tA) : PT X (.UnaryOp .Not a pos) (tNot tA) := by
  intro pins s σ H Q I h
  exact isTrue_not (thn (ha pins s σ H (fun c H1 => Q (!c) H1) I h) fun c s1 ⟨H1, I1, q1⟩ => ⟨H1, I1, q1⟩)
/-- .. as values (bools) -/
inductive tAndV_I (tb : TE) (σ : St) (Q : VK) (x : V) (H1 : Hp) : Prop
  | mk : ∀ c, x = .bl c → (if c = true then tb σ H1 Q else Q (.bl false) H1) → tAndV_I tb σ Q x H1
def tAndV (ta tb : TE) : TE := fun σ H Q => ta σ H fun x H1 => tAndV_I tb σ Q x H1
theorem pe_one {op} {t : TE} (h : PE X a t) : PE X (.BoolOp op [a] pos) t := fun pins s σ H Q I hw => BoolOp_one (h pins s σ H Q I hw)
theorem pe_and (ha : PE X a ta) (hb : PE X (.BoolOp .And (b :: rest) pos) tb) : PE X (.BoolOp .And (a :: b :: rest) pos) (tAndV ta tb) := by
  intro pins s σ H Q I h
  refine BoolOp_and (thn (ha pins s σ H _ I h) fun v s1 ⟨x, H1, I1, r1, q1⟩ => ?_)
  obtain ⟨c, rfl, q1⟩ := q1
  cases r1
  refine wpAny_truthy_bool ?_
  cases c with
  | true => exact hb pins s1 σ H1 Q I1 q1
  | false => exact ⟨.bl false, H1, I1, rfl, q1⟩
/-- a if t else b -/
def tIf (t : TT) (ta tb : TE) : TE := fun σ H Q => t σ H fun c H1 => if c = true then ta σ H1 Q else tb σ H1 Q
theorem pe_ifExp {c : Expr} (hc : PT X c tA) (ha : PE X a ta) (hb : PE X b tb) : PE X (.IfExp c a b pos) (tIf tA ta tb) := by
  intro pins s σ H Q I h
  refine wpAny_IfExp (thn (hc pins s σ H _ I h) fun d s1 ⟨H1, I1, q1⟩ => ?_)
  cases d with
  | true => exact ha pins s1 σ H1 Q I1 q1
  | false => exact hb pins s1 σ H1 Q I1 q1
end
end L2
namespace L2
open PySem PySem.Spec PyProof.Rows
def SqL (K : PySem.W.Frag) (H : Hp) (a : Addr) (xs : List V) : Prop :=
  Rd H a (.lst xs) ∨
    ∃ (o : Obj) (its : Array Value) (n : Nat), K.lookup a = some o ∧ o.cls = .type "list" ∧ o.dict = none ∧ o.data = .seq its n ∧ its.size ≤ sizeLine ∧ Vals xs its.toList
def SqT (K : PySem.W.Frag) (H : Hp) (a : Addr) (xs : List V) : Prop :=
  Rd H a (.tup xs) ∨
    ∃ (o : Obj) (its : Array Value) (n : Nat), K.lookup a = some o ∧ o.cls = .type "tuple" ∧ o.data = .seq its n ∧ its.size ≤ sizeLine ∧ Vals xs its.toList
def absV : Value → Option V
  | .none => some .non
  | .bool b => some (.bl b)
  | .int i _ => some (.int i)
  | .str x _ => some (.str x)
  | .bytes b _ => some (.byt b)
  | .float b _ => some (.flt b)
  | .ref a => some (.ref a)
  | .type n => some (.ty n)
  | _ => none
theorem RelV.abs {x : V} {u : Value} (r : RelV x u) : absV u = some x := by
  cases x with
  | non => cases r; rfl
  | bl _ => cases r; rfl
  | int _ => obtain ⟨t, rfl⟩ := r; rfl
  | str _ => obtain ⟨t, rfl⟩ := r; rfl
  | byt _ => obtain ⟨t, rfl⟩ := r; rfl
  | flt _ => obtain ⟨t, rfl⟩ := r; rfl
  | ref _ => cases r; rfl
  | ty _ => cases r; rfl
theorem RelV.inj {x y : V} {u : Value} (r : RelV x u) (q : RelV y u) : x = y := Option.some.inj (r.abs.symm.trans q.abs)
theorem Vals.inj : ∀ {xs ys : List V} {us : List Value}, Vals xs us → Vals ys us → xs = ys
  | _, _, _, .nil, .nil => rfl
  | _, _, _, .cons r t, .cons r' t' => by rw [r.inj r', Vals.inj t t']
section
variable {X : Cx} {pins : List (Addr × Obj)} {σ : St} {H : Hp} {s : Shared} {a : Addr} {xs ys : List V}
theorem SqL.of {K : PySem.W.Frag} (h : H a = some (.lst xs)) : SqL K H a xs := .inl (.inl h)
theorem SqT.of {K : PySem.W.Frag} (h : H a = some (.tup xs)) : SqT K H a xs := .inl (.inl h)
theorem Inv.list (I : Inv X pins σ H s) (h : SqL X.K H a xs) : ∃ its : List Value, Vals xs its ∧ PlainL s.heap a its.toArray ∧ xs.length ≤ sizeLine := by
  rcases h with h | ⟨o, its, n, hk, hc, hd, hs, hz, r⟩
  · obtain ⟨z, its, n, r, e⟩ := h.ok I.hok
    exact ⟨its, r, ⟨_, n, e, rfl, rfl, rfl⟩, z⟩
  · refine ⟨its.toList, r, ⟨o, n, I.kIn a o hk, hc, hd, by simpa using hs⟩, ?_⟩
    have e := r.length
    simp only [Array.length_toList] at e
    omega
theorem Inv.tuple (I : Inv X pins σ H s) (h : SqT X.K H a xs) : ∃ its : List Value, Vals xs its ∧ IsTup s.heap a its.toArray ∧ xs.length ≤ sizeLine := by
  rcases h with h | ⟨o, its, n, hk, hc, hs, hz, r⟩
  · obtain ⟨z, its, r, p⟩ := h.ok I.hok
    exact ⟨its, r, p, z⟩
  · refine ⟨its.toList, r, ⟨o, I.kIn a o hk, hc, n, by simpa using hs⟩, ?_⟩
    have e := r.length
    simp only [Array.length_toList] at e
    omega
theorem Inv.list_inj (I : Inv X pins σ H s) (h : SqL X.K H a xs) (h' : SqL X.K H a ys) : xs = ys := by
  obtain ⟨its, r, ⟨o, n, e, _, _, d⟩, _⟩ := I.list h
  obtain ⟨its', r', ⟨o', n', e', _, _, d'⟩, _⟩ := I.list h'
  rw [e] at e'; cases e'
  rw [d] at d'
  injection d' with d1 _
  have : its = its' := by simpa using congrArg Array.toList d1
  subst this
  exact r.inj r'
theorem Inv.tuple_inj (I : Inv X pins σ H s) (h : SqT X.K H a xs) (h' : SqT X.K H a ys) : xs = ys := by
  obtain ⟨its, r, ⟨o, e, _, n, d⟩, _⟩ := I.tuple h
  obtain ⟨its', r', ⟨o', e', _, n', d'⟩, _⟩ := I.tuple h'
  rw [e] at e'; cases e'
  rw [d] at d'
  injection d' with d1 _
  have : its = its' := by simpa using congrArg Array.toList d1
  subst this
  exact r.inj r'
end
abbrev Cx.wish (X : Cx) (E : Value → Shared → Prop) : Cx := { X with xe := E }
/-- no exception leaves -/
abbrev Cx.nox (X : Cx) : Cx := X.wish fun _ _ => False
theorem Cx.Ok.wish {X : Cx} (ok : X.Ok) (E : Value → Shared → Prop) : (X.wish E).Ok :=
  ⟨ok.mod, ok.kind, ok.glob, ok.blt, ok.above, ok.inj, ok.has, ok.cab, ok.hd, ok.frames, ok.stk, ok.exf, ok.bs, ok.bsz, ok.noex, ok.exfs, ok.funs, ok.frf⟩
theorem Cx.Ok.unwish {X : Cx} {E : Value → Shared → Prop} (ok : (X.wish E).Ok) : X.Ok :=
  ⟨ok.mod, ok.kind, ok.glob, ok.blt, ok.above, ok.inj, ok.has, ok.cab, ok.hd, ok.frames, ok.stk, ok.exf, ok.bs, ok.bsz, ok.noex, ok.exfs, ok.funs, ok.frf⟩
section
variable {X : Cx} {pins : List (Addr × Obj)} {σ : St} {H : Hp} {s : Shared} {E : Value → Shared → Prop}
theorem Inv.wish (I : Inv X pins σ H s) (E : Value → Shared → Prop) : Inv (X.wish E) pins σ H s := ⟨I.ok.wish E, I.os, I.bare, I.base, I.loc, I.cell, I.free, I.freeC, I.pin, I.hok, I.len⟩
theorem Inv.unwish (I : Inv (X.wish E) pins σ H s) : Inv X pins σ H s := ⟨I.ok.unwish, I.os, I.bare, I.base, I.loc, I.cell, I.free, I.freeC, I.pin, I.hok, I.len⟩
theorem SP.unwish {D : Ends} {f : Flow} {s' : Shared} (h : SP (X.wish E) pins D f s') : SP X pins D f s' := by
  cases f with
  | next => obtain ⟨σ', H', I, q⟩ := h; exact ⟨σ', H', I.unwish, q⟩
  | brk => obtain ⟨σ', H', I, q⟩ := h; exact ⟨σ', H', I.unwish, q⟩
  | cont => obtain ⟨σ', H', I, q⟩ := h; exact ⟨σ', H', I.unwish, q⟩
  | ret u => obtain ⟨v, σ', H', I, r, q⟩ := h; exact ⟨v, σ', H', I.unwish, r, q⟩
theorem PSs.nox {st : List Stmt} {t : TS} (h : PSs X.nox st t) : PSs X st t := fun pins s σ H D I hw =>
  wpAny_mono (h pins s σ H D (I.wish _) hw) (fun _ _ q => q.unwish) fun _ _ z => False.elim z
end
section
variable {X : Cx} {st : Stmt} {rest : List Stmt} {t u : TS} {e : Expr} {te : TE} {pos : Pos}
def tNext : TS := fun D σ H => D.nx σ H
def tSeq (t u : TS) : TS := fun D σ H => t { D with nx := u D } σ H
theorem pss_nil : PSs X [] tNext := fun _ _ σ H _ I h => wpAny_execs_nil ⟨σ, H, I, h⟩
theorem pss_cons (h1 : PS X st t) (h2 : PSs X rest u) : PSs X (st :: rest) (tSeq t u) := by
  intro pins s σ H D I h
  refine wpAny_execs_cons (thn (h1 pins s σ H { D with nx := u D } I h) fun f s1 q => ?_)
  cases f with
  | next =>
    obtain ⟨σ', H', I', q⟩ := q
    exact h2 pins s1 σ' H' D I' q
  | ret v => exact q
  | brk => exact q
  | cont => exact q
theorem pss_one (h1 : PS X st t) : PSs X [st] t := by
  intro pins s σ H D I h
  refine wpAny_execs_cons (thn (h1 pins s σ H D I h) fun f s1 q => ?_)
  cases f with
  | next => exact wpAny_execs_nil q
  | ret v => exact q
  | brk => exact q
  | cont => exact q
/-- in a def's body nothing is shown -/
theorem Inv.quiet {pins : List (Addr × Obj)} {σ : St} {H : Hp} {s : Shared} (I : Inv X pins σ H s) : interactive X.env = false := by simp [interactive, I.ok.kind]
/-- an expression whose value is dropped -/
def tDrop (te : TE) : TS := fun D σ H => te σ H fun _ H1 => D.nx σ H1
theorem ps_expr (he : PE X e te) (hs : swapsWith e none pos.line X.env = pure false := by rfl) : PS X (.Expr e pos) (tDrop te) := by
  intro pins s σ H D I h
  exact wpAny_Expr_any (thn (he pins s σ H _ I h) fun v s1 ⟨x, H1, I1, r1, q1⟩ => ⟨σ, H1, I1, q1⟩) I.quiet hs
def tRet (te : TE) : TS := fun D σ H => te σ H D.rt
theorem ps_ret (he : PE X e te) : PS X (.Return (some e) pos) (tRet te) := by
  intro pins s σ H D I h
  exact wpAny_Return_some (thn (he pins s σ H _ I h) fun v s1 ⟨x, H1, I1, r1, q1⟩ => ⟨x, σ, H1, I1, r1, q1⟩)
def tIfS (c : TT) (t u : TS) : TS := fun D σ H => c σ H fun b H1 => if b = true then t D σ H1 else u D σ H1
theorem ps_if {c : Expr} {a b : List Stmt} {tc : TT} (hc : PT X c tc) (ha : PSs X a t) (hb : PSs X b u) : PS X (.If c a b pos) (tIfS tc t u) := by
  intro pins s σ H D I h
  refine wpAny_If (thn (hc pins s σ H _ I h) fun d s1 ⟨H1, I1, q1⟩ => ?_)
  cases d with
  | true => exact ha pins s1 σ H1 D I1 q1
  | false => exact hb pins s1 σ H1 D I1 q1
end
abbrev TG := V → St → Hp → (St → Hp → Prop) → Prop
def PG (X : Cx) (target : Expr) (t : TG) : Prop :=
  ∀ (pins : List (Addr × Obj)) (s : Shared) (σ : St) (H : Hp) (v : V) (u : Value) (Q : St → Hp → Prop), Inv X pins σ H s → RelV v u → t v σ H Q →
    wpAny (model X.prog X.w) X.A (assign target X.env u) (fun _ s' => ∃ σ' H', Inv X pins σ' H' s' ∧ Q σ' H') X.xe s
/-- a op= b, by values -/
abbrev TIp := V → V → Hp → VK → Prop
def PIp (X : Cx) (op : Operator) (t : TIp) : Prop :=
  ∀ (pins : List (Addr × Obj)) (s : Shared) (σ : St) (H : Hp) (x y : V) (v u : Value) (Q : VK), Inv X pins σ H s → RelV x v → RelV y u → t x y H Q →
    wpAny (model X.prog X.w) X.A (inplaceOp op v u) (EP X pins σ Q) X.xe s
section
variable {X : Cx} {pos : Pos}
def gName (i : Nat) : TG := fun v σ H Q => Q (σ.set i (some v)) H
theorem pg_name {i : Nat} {x : Str} (hN : X.N.Nodup) (hi : X.N[i]? = some x) (hx : Loc X.env.scope x) (hf : X.fn x = true ∨ X.env.scope.names.lookup x = some .local := by first | exact .inl rfl | exact .inr rfl | assumption) : PG X (.Name x pos) (gName i) := by
  intro pins s σ H v u Q I r h
  exact wpAny_assign_Name (store_ok I hN hi hx r (fun s' I' => ⟨_, H, I', h⟩) hf)
/-- target = value -/
def tAsg (te : TE) (g : TG) : TS := fun D σ H => te σ H fun x H1 => g x σ H1 D.nx
/-- name = value -/
theorem ps_set {i : Nat} {x : Str} {e : Expr} {te : TE} {pos' : Pos} (hN : X.N.Nodup) (hi : X.N[i]? = some x) (hx : Loc X.env.scope x) (he : PE X e te) (hs : swapsWith e (some (.Name x pos')) pos.line X.env = pure false := by rfl) (hf : X.fn x = true ∨ X.env.scope.names.lookup x = some .local := by first | exact .inl rfl | exact .inr rfl | assumption) :
    PS X (.Assign [.Name x pos'] e pos) (tAsg te (gName i)) := by
  intro pins s σ H D I h
  refine wpAny_Assign_Name (thn (he pins s σ H _ I h) fun v s1 ⟨y, H1, I1, r1, q1⟩ => ?_) hs
  exact store_ok I1 hN hi hx r1 (fun s2 I2 => ⟨_, H1, I2, q1⟩) hf
/-- name op= e -/
inductive tAug_I (i : Nat) (te : TE) (ti : TIp) (D : Ends) (σ : St) (H : Hp) : Prop
  | mk : ∀ x, σ[i]? = some (some x) → (te σ H fun y H1 => ti x y H1 fun z H2 => D.nx (σ.set i (some z)) H2) → tAug_I i te ti D σ H
def tAug (i : Nat) (te : TE) (ti : TIp) : TS := fun D σ H => tAug_I i te ti D σ H
theorem ps_aug {i : Nat} {x : Str} {e : Expr} {te : TE} {op : Operator} {ti : TIp} {pos' : Pos} (hN : X.N.Nodup) (hi : X.N[i]? = some x) (hx : Loc X.env.scope x) (he : PE X e te) (ho : PIp X op ti) (hf : X.fn x = true ∨ X.env.scope.names.lookup x = some .local := by first | exact .inl rfl | exact .inr rfl | assumption) :
    PS X (.AugAssign (.Name x pos') op e pos) (tAug i te ti) := by
  intro pins s σ H D I h
  obtain ⟨v, e1, h⟩ := h
  obtain ⟨m, hn, hl⟩ := I.loc
  have vis : Vis X.env.scope x := by rcases hx with k | k; exact .inl k; exact .inr (.inl k)
  obtain ⟨u, r, l⟩ := hl i x v hi e1 vis
  refine wpAny_AugAssign_Name ?_
  have go : wpAny (model X.prog X.w) X.A (eval e X.env) (fun w s₂ => wpAny (model X.prog X.w) X.A (inplaceOp op u w) (fun r s₃ => wpAny (model X.prog X.w) X.A (storeName X.env x r) (fun _ => SP X pins D .next) X.xe s₃) X.xe s₂) X.xe s := by
    refine thn (he pins s σ H _ I h) fun w s1 ⟨y, H1, I1, r1, q1⟩ => ?_
    refine thn (ho pins s1 σ H1 v y u w _ I1 r r1 q1) fun z s2 ⟨zv, H2, I2, r2, q2⟩ => ?_
    exact store_ok I2 hN hi hx r2 (fun s3 I3 => ⟨_, H2, I3, q2⟩) hf
  rcases l with ⟨hk, hm⟩ | ⟨hk, c, hc, hcell⟩
  · exact wpAny_loadName_local I.ok.kind hk hn hm go
  · rcases hk with hk | hk
    · exact wpAny_loadName_cell I.ok.kind hk hc hcell go
    · rcases hx with k | k
      · have : X.env.scope.names.lookup x = some .free := hk
        rw [k] at this; cases this
      · have : X.env.scope.names.lookup x = some .free := hk
        rw [k] at this; cases this
/-- ints -/
def ipI (f : Int → Int → Int) : TIp := fun x y H Q => ∃ i j, x = .int i ∧ y = .int j ∧ Q (.int (f i j)) H
theorem ip_add : PIp X .Add (ipI fun i j => i + j) := by
  intro pins s σ H x y v u Q I r1 r2 h
  obtain ⟨i, j, e1, e2, q⟩ := h
  subst e1; subst e2
  obtain ⟨t, rfl⟩ := r1
  obtain ⟨t', rfl⟩ := r2
  exact iadd_int ⟨.int _, H, I.tok _, ⟨_, rfl⟩, q⟩
end
section
variable {X : Cx} {pos : Pos}
/-- the invariant W with its measure -/
inductive tWhile_I (c : TT) (tb : TS) (D : Ends) (σ : St) (H : Hp) : Prop
  | mk : ∀ W : Nat → St → Hp → Prop, (∃ m, W m σ H) → (∀ m σ H, W m σ H → c σ H fun b H1 => if b = true then ∃ N : St → Hp → Prop, (∀ σ' H', N σ' H' → ∃ m', m' < m ∧ W m' σ' H') ∧ tb { D with nx := N, ct := N, bk := D.nx } σ H1 else D.nx σ H1) → tWhile_I c tb D σ H
def tWhile (c : TT) (tb : TS) : TS := fun D σ H => tWhile_I c tb D σ H
theorem ps_while {c : Expr} {body : List Stmt} {tc : TT} {tb : TS} (hp : PassesOwn (model X.prog X.w) X.A X.env X.xe) (hc : PT X c tc) (hb : PSs X body tb) : PS X (.While c body [] pos) (tWhile tc tb) := by
  intro pins s σ H D I h
  obtain ⟨W, ⟨m0, w0⟩, turn⟩ := h
  refine wpAny_While (codeAny_whileLoop (fun n s' => ∃ σ' H', Inv X pins σ' H' s' ∧ W n σ' H') ?_ m0 ⟨σ, H, I, w0⟩)
  rintro n s1 ⟨σ1, H1, I1, w1⟩
  refine wpAny_passesOwn hp (thn (hc pins s1 σ1 H1 _ I1 (turn n σ1 H1 w1)) fun b s2 ⟨H2, I2, q2⟩ => ?_)
  cases b with
  | true =>
    obtain ⟨N, hN, q2⟩ := q2
    rw [if_pos rfl]
    refine wpAny_passesOwn hp (thn (hb pins s2 σ1 H2 _ I2 q2) fun f s3 q3 => ?_)
    cases f with
    | next =>
      obtain ⟨σ3, H3, I3, n3⟩ := q3
      obtain ⟨m', hm, w3⟩ := hN σ3 H3 n3
      exact ⟨m', hm, σ3, H3, I3, w3⟩
    | cont =>
      obtain ⟨σ3, H3, I3, n3⟩ := q3
      obtain ⟨m', hm, w3⟩ := hN σ3 H3 n3
      exact ⟨m', hm, σ3, H3, I3, w3⟩
    | brk => exact q3
    | ret v => exact q3
  | false =>
    rw [if_neg Bool.false_ne_true]
    exact wpAny_execs_nil ⟨σ1, H2, I2, q2⟩
end
/-- at turn i: it yields x (the heap may grow), or it stops -/
structure It where
  go : Nat → Hp → Prop
  yld : Nat → Hp → V → Hp → Prop
  stop : Nat → Hp → Prop
/-- the iterator's own objects may turn: they are not the frame's, not pinned, younger than the entry (or a comprehension's own) -/
def FpOk (X : Cx) (pins : List (Addr × Obj)) (H : Hp) (b : Addr) : Prop :=
  H b = none ∧ b ≠ X.env.locals ∧ b ∉ X.fs ∧ (b ∈ X.ex ∨ X.s₀.heap.objs.size ≤ b) ∧ (∀ x c, X.env.cells.lookup x = some c → c ≠ b) ∧ ∀ p ∈ X.pn ++ pins, p.1 ≠ b
theorem Inv.fpOk {X : Cx} {pins : List (Addr × Obj)} {σ : St} {H H' : Hp} {s : Shared} {b : Addr} (I : Inv X pins σ H s) (hb : s.heap.objs.size ≤ b) (hn : H' b = none) : FpOk X pins H' b := by
  refine ⟨hn, Nat.ne_of_gt (Nat.lt_of_lt_of_le I.lt hb), I.nofs hb, .inr (Nat.le_trans I.sz hb), fun x c e z => ?_, fun p hp z => ?_⟩
  · obtain ⟨v, q⟩ := I.cell x c e
    exact absurd (Nat.lt_of_lt_of_le q.lt (by rw [z]; exact hb)) (Nat.lt_irrefl _)
  · exact absurd (Nat.lt_of_lt_of_le (Heap.lt_size (I.pin p hp).1) (by rw [z]; exact hb)) (Nat.lt_irrefl _)
structure Turn (P : Program) (w : World) (K : PySem.W.Frag) (tg : Expr) (J : It) (fp : List Addr) (it : Addr) (tn : Nat → Heap → Prop) : Prop where
  mem : it ∈ fp
  obj : ∀ i h, tn i h → ∀ b ∈ fp, ∃ o, h.get? b = some o ∧ ∀ v, o.data ≠ .cell v
  keep : ∀ i h h', tn i h → (∀ b ∈ fp, ∀ o, h.get? b = some o → h'.get? b = some o) → tn i h'
  item : ∀ (X : Cx), X.prog = P → X.w = w → X.K = K → X.calm = true → ∀ (i : Nat) (pins : List (Addr × Obj)) (s : Shared) (σ : St) (H : Hp) (E : Value → Shared → Prop), Inv X pins σ H s → (∀ b ∈ fp, FpOk X pins H b) → tn i s.heap → J.go i H →
    wpAny (model P w) X.A (pyNext (.ref it)) (fun r s1 => ∃ u, r = some u ∧
      wpAny (model P w) X.A (letOwnedTupleGo tg (.ref it) u) (fun _ s2 => ∃ x H', Inv X pins σ H' s2 ∧ RelV x u ∧ J.yld i H x H' ∧ tn (i + 1) s2.heap ∧ ∀ b ∈ fp, H' b = none) E s1) E s
  done : ∀ (X : Cx), X.prog = P → X.w = w → X.K = K → X.calm = true → ∀ (i : Nat) (pins : List (Addr × Obj)) (s : Shared) (σ : St) (H : Hp) (E : Value → Shared → Prop), Inv X pins σ H s → (∀ b ∈ fp, FpOk X pins H b) → tn i s.heap → J.stop i H →
    wpAny (model P w) X.A (pyNext (.ref it)) (fun r s1 => r = none ∧ Inv X pins σ H s1) E s
  self : ∀ (A : Around) (i : Nat) (s : Shared) (Q : Value → Shared → Prop) (E : Value → Shared → Prop), tn i s.heap → Q (.ref it) s → wpAny (model P w) A (pyIter (.ref it)) Q E s
abbrev TI := St → Hp → (It → Hp → Prop) → Prop
/-- an iterator has come -/
def PIE (X : Cx) (pins : List (Addr × Obj)) (σ : St) (tg : Expr) (R : It → Hp → Prop) (itv : Value) (s2 : Shared) : Prop :=
  ∃ (it : Addr) (fp : List Addr) (tn : Nat → Heap → Prop) (J : It) (H' : Hp), itv = .ref it ∧ Inv X pins σ H' s2 ∧ Turn X.prog X.w X.K tg J fp it tn ∧ tn 0 s2.heap ∧ (∀ b ∈ fp, FpOk X pins H' b) ∧ R J H'
def PI (X : Cx) (tg iter : Expr) (wi : TI) : Prop :=
  ∀ (pins : List (Addr × Obj)) (s : Shared) (σ : St) (H : Hp) (R : It → Hp → Prop), Inv X pins σ H s → wi σ H R →
    wpAny (model X.prog X.w) X.A (eval iter X.env) (fun v s1 => wpAny (model X.prog X.w) X.A (pyIter v) (PIE X pins σ tg R) X.xe s1) X.xe s
/-- the step ahead of the store is nothing for an iterator that keeps no tuple -/
theorem go_of {M : Model} {A : Around} {E : Value → Shared → Prop} {s : Shared} {tg : Expr} {it : Addr} {u : Value} {o : Obj} {n : String} {vs : Array Value} {Q : Unit → Shared → Prop} (ho : s.heap.get? it = some o) (hc : o.cls = .type n) (hd : o.data = .fields vs)
    (hn : ["enumerate", "zip", "dict_itemiterator", "dict_reverseitemiterator", "odict_iterator", "itertools.zip_longest", "itertools.pairwise"].contains n = false) (hQ : Q () s) : wpAny M A (letOwnedTupleGo tg (.ref it) u) Q E s := by
  unfold letOwnedTupleGo
  cases tg <;> first
    | exact wpAny_pure hQ
    | (cases u <;> first
        | exact wpAny_pure hQ
        | (refine wpAny_bind (wpAny_load ho ?_)
           rw [hc, hd]
           show wpAny M A (if (["enumerate", "zip", "dict_itemiterator", "dict_reverseitemiterator", "odict_iterator", "itertools.zip_longest", "itertools.pairwise"].contains n && vs[0]? == some (rawInt _)) = true then _ else _) Q E s
           rw [if_neg (by intro h; rw [hn, Bool.false_and] at h; cases h)]
           exact wpAny_pure hQ))
/-- the list at a, as it stands at each turn (a loop may append to it) -/
def Itl (K : PySem.W.Frag) (a : Addr) : It :=
  ⟨fun i H => ∃ xs x, SqL K H a xs ∧ xs[i]? = some x, fun i H x H' => H' = H ∧ ∀ xs, SqL K H a xs → xs[i]? = some x, fun i H => ∃ xs, SqL K H a xs ∧ xs.length ≤ i⟩
def Itt (K : PySem.W.Frag) (a : Addr) : It :=
  ⟨fun i H => ∃ xs x, SqT K H a xs ∧ xs[i]? = some x, fun i H x H' => H' = H ∧ ∀ xs, SqT K H a xs → xs[i]? = some x, fun i H => ∃ xs, SqT K H a xs ∧ xs.length ≤ i⟩
/-- lo, lo + 1, .. (n of them) -/
def Itr (lo : Int) (n : Nat) : It := ⟨fun i _ => i < n, fun i H x H' => H' = H ∧ x = .int (lo + i), fun i _ => n ≤ i⟩
theorem turn_list {P : Program} {w : World} {K : PySem.W.Frag} {tg : Expr} (a it : Addr) : Turn P w K tg (Itl K a) [it] it (fun i h => h.IsListIter it a i) where
  mem := by simp
  obj := fun i h st b hb => by
    have e : b = it := by simpa using hb
    subst e
    obtain ⟨o, e, c, d⟩ := st
    exact ⟨o, e, fun v z => by rw [d] at z; cases z⟩
  keep := fun i h h' st k => st.at fun o e => k it (by simp) o e
  item := by
    intro X hP hw hK hc i pins s σ H E I hf st hg
    subst hP hw hK
    obtain ⟨xs, x, hq, hx⟩ := hg
    obtain ⟨its, rv, p, hz⟩ := I.list hq
    obtain ⟨u, hu, ru⟩ := rv.get hx
    obtain ⟨f0, f1, f2, f3, f4, f5⟩ := hf it (by simp)
    refine wpAny_pyNext_list_item st p.isList (x := u) (by simpa using hu) fun h' st' sb => ?_
    have I1 : Inv X pins σ H { s with heap := h' } := I.turned (t' := s.toks) (fun b o hb e => (sb.2 b hb).trans e) f0 f1 f3 f4 f5
    obtain ⟨o, e, c, d⟩ := id st'
    exact ⟨u, rfl, go_of (s := { s with heap := h' }) e c d (by decide) ⟨x, H, I1, ru, ⟨rfl, fun ys hy => by rw [I.list_inj hy hq]; exact hx⟩, st', fun b hb => (hf b hb).1⟩⟩
  done := by
    intro X hP hw hK hc i pins s σ H E I hf st hg
    subst hP hw hK
    obtain ⟨xs, hq, hx⟩ := hg
    obtain ⟨its, rv, p, hz⟩ := I.list hq
    obtain ⟨f0, f1, f2, f3, f4, f5⟩ := hf it (by simp)
    have hl := rv.length
    exact wpAny_pyNext_list_end (I.ok.hd hc) st p.isList (by simp; omega) fun h' eb => ⟨rfl, I.turned (t' := s.toks) (fun b o hb e => eb b o hb e) f0 f1 f3 f4 f5⟩
  self := fun _ _ _ _ _ st h => wpAny_pyIter_listiter st h
theorem turn_tuple {P : Program} {w : World} {K : PySem.W.Frag} {tg : Expr} (a it : Addr) : Turn P w K tg (Itt K a) [it] it (fun i h => h.IsTupleIter it a i) where
  mem := by simp
  obj := fun i h st b hb => by
    have e : b = it := by simpa using hb
    subst e
    obtain ⟨o, e, c, d⟩ := st
    exact ⟨o, e, fun v z => by rw [d] at z; cases z⟩
  keep := fun i h h' st k => st.at fun o e => k it (by simp) o e
  item := by
    intro X hP hw hK hc i pins s σ H E I hf st hg
    subst hP hw hK
    obtain ⟨xs, x, hq, hx⟩ := hg
    obtain ⟨its, rv, p, hz⟩ := I.tuple hq
    obtain ⟨u, hu, ru⟩ := rv.get hx
    obtain ⟨f0, f1, f2, f3, f4, f5⟩ := hf it (by simp)
    refine wpAny_pyNext_tuple_item st (show s.heap.IsTuple a its.toArray from p) (x := u) (by simpa using hu) fun h' st' sb => ?_
    have I1 : Inv X pins σ H { s with heap := h' } := I.turned (t' := s.toks) (fun b o hb e => (sb.2 b hb).trans e) f0 f1 f3 f4 f5
    obtain ⟨o, e, c, d⟩ := id st'
    exact ⟨u, rfl, go_of (s := { s with heap := h' }) e c d (by decide) ⟨x, H, I1, ru, ⟨rfl, fun ys hy => by rw [I.tuple_inj hy hq]; exact hx⟩, st', fun b hb => (hf b hb).1⟩⟩
  done := by
    intro X hP hw hK hc i pins s σ H E I hf st hg
    subst hP hw hK
    obtain ⟨xs, hq, hx⟩ := hg
    obtain ⟨its, rv, p, hz⟩ := I.tuple hq
    obtain ⟨f0, f1, f2, f3, f4, f5⟩ := hf it (by simp)
    have hl := rv.length
    exact wpAny_pyNext_tuple_end (I.ok.hd hc) st (show s.heap.IsTuple a its.toArray from p) (by simp; omega) fun h' eb => ⟨rfl, I.turned (t' := s.toks) (fun b o hb e => eb b o hb e) f0 f1 f3 f4 f5⟩
  self := fun _ _ _ _ _ st h => wpAny_pyIter_tupleiter st h
theorem turn_range {P : Program} {w : World} {K : PySem.W.Frag} {tg : Expr} (it : Addr) (lo : Int) (n : Nat) : Turn P w K tg (Itr lo n) [it] it (fun i h => IsRangeIter h it (lo + (i : Nat) * 1) ((n : Int) - (i : Nat)) 1) where
  mem := by simp
  obj := fun i h st b hb => by
    have e : b = it := by simpa using hb
    subst e
    exact ⟨_, st, fun v z => by
      have z' : Data.fields _ = Data.cell v := z
      cases z'⟩
  keep := fun i h h' st k => k it (by simp) _ st
  item := by
    intro X hP hw hK hc i pins s σ H E I hf st hg
    subst hP hw hK
    obtain ⟨f0, f1, f2, f3, f4, f5⟩ := hf it (by simp)
    have W := Walks.range (prog := X.prog) (w := X.w) (I.ok.hd hc) it lo 1 n
    refine W.item i s _ _ hg st fun v h' tk hv st' kk => ?_
    obtain ⟨t, rfl⟩ := hv
    have I1 : Inv X pins σ H { s with heap := h', toks := tk } := I.turned (fun b o hb e => kk b o (by simpa using hb) e) f0 f1 f3 f4 f5
    refine ⟨_, rfl, go_of (s := { s with heap := h', toks := tk }) (n := "range_iterator") st' rfl rfl (by decide) ⟨.int (lo + i), H, I1, ⟨t, ?_⟩, ⟨rfl, rfl⟩, st', fun b hb => (hf b hb).1⟩⟩
    rw [Int.mul_one]
  done := by
    intro X hP hw hK hc i pins s σ H E I hf st hg
    subst hP hw hK
    obtain ⟨f0, f1, f2, f3, f4, f5⟩ := hf it (by simp)
    exact wpAny_pyNext_range_end (I.ok.hd hc) st (by have : n ≤ i := hg; omega) fun h' eb => ⟨rfl, I.turned (t' := s.toks) (fun b o hb e => eb b o hb e) f0 f1 f3 f4 f5⟩
  self := fun _ _ _ _ _ st h => wpAny_pyIter_rangeiter st h
end L2
namespace L2
open PySem PySem.Spec PyProof.Rows
section
variable {X : Cx} {tg : Expr}
inductive iList_I (K : PySem.W.Frag) (R : (It → Hp → Prop)) (x : V) (H1 : Hp) : Prop
  | mk : ∀ a, x = .ref a → (∃ xs, SqL K H1 a xs) → R (Itl K a) H1 → iList_I K R x H1
def iList (K : PySem.W.Frag) (tl : TE) : TI := fun σ H R => tl σ H fun x H1 => iList_I K R x H1
inductive iTup_I (K : PySem.W.Frag) (R : (It → Hp → Prop)) (x : V) (H1 : Hp) : Prop
  | mk : ∀ a, x = .ref a → (∃ xs, SqT K H1 a xs) → R (Itt K a) H1 → iTup_I K R x H1
def iTup (K : PySem.W.Frag) (tl : TE) : TI := fun σ H R => tl σ H fun x H1 => iTup_I K R x H1
theorem pi_list {l : Expr} {tl : TE} (hl : PE X l tl) : PI X tg l (iList X.K tl) := by
  intro pins s σ H R I h
  refine thn (hl pins s σ H _ I h) fun v s1 ⟨x, H1, I1, r1, q1⟩ => ?_
  obtain ⟨a, e, ⟨xs, hq⟩, q⟩ := q1
  subst e
  cases r1
  obtain ⟨its, rv, p, hz⟩ := I1.list hq
  refine wpAny_pyIter_list p.isList ?_
  refine ⟨s1.heap.objs.size, [s1.heap.objs.size], _, _, H1, rfl, I1.kept (t' := s1.toks) fun b o e => Heap.get?_push_of_some _ e, turn_list a _, ⟨_, Heap.get?_push_size _ rfl, rfl, rfl⟩, fun b hb => ?_, q⟩
  have e : b = s1.heap.objs.size := by simpa using hb
  subst e
  exact I1.fpOk (Nat.le_refl _) (I1.hok.fresh (Nat.le_refl _))
theorem pi_tup {l : Expr} {tl : TE} (hl : PE X l tl) : PI X tg l (iTup X.K tl) := by
  intro pins s σ H R I h
  refine thn (hl pins s σ H _ I h) fun v s1 ⟨x, H1, I1, r1, q1⟩ => ?_
  obtain ⟨a, e, ⟨xs, hq⟩, q⟩ := q1
  subst e
  cases r1
  obtain ⟨its, rv, p, hz⟩ := I1.tuple hq
  refine wpAny_pyIter_tuple (show s1.heap.IsTuple a its.toArray from p) ?_
  refine ⟨s1.heap.objs.size, [s1.heap.objs.size], _, _, H1, rfl, I1.kept (t' := s1.toks) fun b o e => Heap.get?_push_of_some _ e, turn_tuple a _, ⟨_, Heap.get?_push_size _ rfl, rfl, rfl⟩, fun b hb => ?_, q⟩
  have e : b = s1.heap.objs.size := by simpa using hb
  subst e
  exact I1.fpOk (Nat.le_refl _) (I1.hok.fresh (Nat.le_refl _))
/-- a range object just made, walked -/
theorem range_it {pins : List (Addr × Obj)} {σ : St} {H : Hp} {s : Shared} {R : It → Hp → Prop} {E : Value → Shared → Prop} {lo hi : Int} {t u v : Tok} {tk : Nat} (I : Inv X pins σ H s) (h1 : -(2 ^ 62) ≤ lo) (h2 : lo < 2 ^ 62) (h3 : -(2 ^ 62) ≤ hi) (h4 : hi < 2 ^ 62)
    (q : R (Itr lo (hi - lo).toNat) H) : wpAny (model X.prog X.w) X.A (pyIter (.ref s.heap.objs.size)) (PIE X pins σ tg R) E { s with heap := s.heap.push { cls := .type "range", data := .fields #[.int lo t, .int hi u, .int 1 v] }, toks := tk } := by
  refine wpAny_pyIter_range (IsRange.new ..) (small_one h1 h2 h3 h4) ?_
  have I1 : Inv X pins σ H { s with heap := s.heap.push { cls := .type "range", data := .fields #[.int lo t, .int hi u, .int 1 v] }, toks := tk } := I.kept fun b o e => Heap.get?_push_of_some _ e
  refine ⟨(s.heap.push { cls := .type "range", data := .fields #[.int lo t, .int hi u, .int 1 v] }).objs.size, [(s.heap.push { cls := .type "range", data := .fields #[.int lo t, .int hi u, .int 1 v] }).objs.size], _, _, H, rfl,
    I1.kept (t' := tk) fun b o e => Heap.get?_push_of_some _ e, turn_range _ lo (hi - lo).toNat, ?_, fun b hb => ?_, q⟩
  · have e1 : lo + ((0 : Nat) : Int) * 1 = lo := by simp
    have e2 : (((hi - lo).toNat : Nat) : Int) - ((0 : Nat) : Int) = Builtin.Range.rangeSize lo hi 1 := by rw [rangeSize_one]; split <;> omega
    show IsRangeIter _ _ (lo + ((0 : Nat) : Int) * 1) ((((hi - lo).toNat : Nat) : Int) - ((0 : Nat) : Int)) 1
    rw [e1, e2]
    exact Heap.get?_push_size _ rfl
  · have e : b = (s.heap.push { cls := .type "range", data := .fields #[.int lo t, .int hi u, .int 1 v] }).objs.size := by simpa using hb
    subst e
    exact I1.fpOk (Nat.le_refl _) (I1.hok.fresh (Nat.le_refl _))
inductive iRng1_I (R : (It → Hp → Prop)) (vs : List V) (H1 : Hp) : Prop
  | mk : ∀ j : Int, vs = [.int j] → -(2 ^ 62) ≤ j → j < 2 ^ 62 → R (Itr 0 j.toNat) H1 → iRng1_I R vs H1
def iRng1 (ta : TA) : TI := fun σ H R => ta σ H fun vs H1 => iRng1_I R vs H1
theorem pi_range1 {a : Expr} {ta : TA} {p pos : Pos} (hg : Gl X "range") (hm : X.mg "range" = none) (ha : PA X [a] ta) (hs : starEach [a] X.env = [(false, eval a X.env)] := by rfl) : PI X tg (.Call (.Name "range" p) [a] [] pos) (iRng1 ta) := by
  intro pins s σ H R I h
  refine Call_ (ld_blt I hg hm boot_range (PyProof.Rows.callWith_type1 (thn (ha pos pins s σ H _ I h) fun us s1 ⟨vs, H1, I1, r1, q1⟩ => ?_) hs rfl))
  obtain ⟨j, e, q1, q2, q⟩ := q1
  subst e
  cases r1 with
  | cons r rr =>
    cases rr
    obtain ⟨t, rfl⟩ := r
    exact call_range_1 (range_it I1 (by omega) (by omega) q1 q2 (by simpa using q))
/-- W: the invariant by the turn and a measure; N: what the body is to reach -/
inductive tFor_I (g : TG) (tb : TS) (D : Ends) (σ : St) (J : It) (H1 : Hp) : Prop
  | mk : ∀ W : Nat → Nat → St → Hp → Prop, (∃ m, W 0 m σ H1) → (∀ i m σ H, W i m σ H → (J.stop i H ∧ D.nx σ H) ∨ (J.go i H ∧ ∃ N : St → Hp → Prop, (∀ σ' H', N σ' H' → ∃ m', m' < m ∧ W (i + 1) m' σ' H') ∧ ∀ x H', J.yld i H x H' → g x σ H' fun σ2 H2 => tb { D with nx := N, ct := N, bk := D.nx } σ2 H2)) → tFor_I g tb D σ J H1
def tFor (wi : TI) (g : TG) (tb : TS) : TS := fun D σ H => wi σ H fun J H1 => tFor_I g tb D σ J H1
/-- the records at fp as they stand -/
def pinsAt (fp : List Addr) (h : Heap) : List (Addr × Obj) := fp.filterMap fun b => (h.get? b).map fun o => (b, o)
theorem mem_pinsAt {fp : List Addr} {h : Heap} {b : Addr} {o : Obj} (hb : b ∈ fp) (e : h.get? b = some o) : (b, o) ∈ pinsAt fp h := List.mem_filterMap.mpr ⟨b, hb, by rw [e]; rfl⟩
theorem of_pinsAt {fp : List Addr} {h : Heap} {p : Addr × Obj} (hp : p ∈ pinsAt fp h) : p.1 ∈ fp ∧ h.get? p.1 = some p.2 := by
  obtain ⟨b, hb, e⟩ := List.mem_filterMap.mp hp
  cases q : h.get? b with
  | none => rw [q] at e; cases e
  | some o =>
    rw [q] at e
    have e' : (b, o) = p := Option.some.inj e
    subst e'
    exact ⟨hb, q⟩
theorem Inv.pinned {pins : List (Addr × Obj)} {σ : St} {H : Hp} {s : Shared} {fp : List Addr} (I : Inv X pins σ H s) (hf : ∀ b ∈ fp, FpOk X pins H b) (ho : ∀ b ∈ fp, ∃ o, s.heap.get? b = some o ∧ ∀ v, o.data ≠ .cell v) : Inv X (pins ++ pinsAt fp s.heap) σ H s :=
  I.pins_of fun p hp => (List.mem_append.mp hp).elim (fun z => I.pin p (List.mem_append_right _ z)) fun z => by
    obtain ⟨hb, e⟩ := of_pinsAt z
    obtain ⟨f0, f1, f2, _⟩ := hf p.1 hb
    obtain ⟨o, e', d⟩ := ho p.1 hb
    rw [e] at e'; cases e'
    exact ⟨e, f0, f1, f2, d⟩
theorem Inv.unpinned {pins pl : List (Addr × Obj)} {σ : St} {H : Hp} {s : Shared} (I : Inv X (pins ++ pl) σ H s) : Inv X pins σ H s := I.pins_of fun p hp => I.pin p (List.mem_append_right _ (List.mem_append_left _ hp))
theorem ps_for {iter : Expr} {body : List Stmt} {wi : TI} {g : TG} {tb : TS} {pos : Pos} (hp : PassesOwn (model X.prog X.w) X.A X.env X.xe) (hc : X.calm = true) (hi : PI X tg iter wi) (hg : PG X tg g) (hb : PSs X body tb)
    (hs : ∀ x, foldedSetIterable iter X.env x = pure x := by intro _; rfl) : PS X (.For tg iter body [] pos) (tFor wi g tb) := by
  intro pins s σ H D I h
  refine wpAny_For (thn (hi pins s σ H _ I h) fun v s1 h1 => thn h1 fun itv s2 h2 => ?_) hs
  obtain ⟨it, fp, tn, J, H2, e, I2, T, st2, f2, W, ⟨m0, w0⟩, turn⟩ := h2
  subst e
  -- what stays true of the iterator's objects through the loop
  have stat : ∀ {H' : Hp}, (∀ b ∈ fp, H' b = none) → ∀ b ∈ fp, FpOk X pins H' b := fun hn b hb => ⟨hn b hb, (f2 b hb).2⟩
  refine codeAny_forLoop_any (fun n s' => ∃ i σ' H', Inv X pins σ' H' s' ∧ tn i s'.heap ∧ (∀ b ∈ fp, H' b = none) ∧ W i n σ' H') ?_ m0 ⟨0, σ, H2, I2, st2, fun b hb => (f2 b hb).1, w0⟩
  rintro n s3 ⟨i, σ3, H3, I3, st3, fr3, w3⟩
  rcases turn i n σ3 H3 w3 with ⟨stop, qn⟩ | ⟨go, N, hN, step⟩
  · refine wpAny_passesOwn hp (thn (T.done X rfl rfl rfl hc i pins s3 σ3 H3 X.xe I3 (stat fr3) st3 stop) fun r s4 ⟨hr, I4⟩ => ?_)
    subst hr
    exact wpAny_execs_nil ⟨σ3, H3, I4, qn⟩
  · refine wpAny_passesOwn hp (thn (T.item X rfl rfl rfl hc i pins s3 σ3 H3 X.xe I3 (stat fr3) st3 go) fun r s4 ⟨u, hr, h4⟩ => ?_)
    subst hr
    refine wpAny_passesOwn hp (thn h4 fun _ s5 ⟨x, H5, I5, r5, y5, st5, fr5⟩ => ?_)
    have I5' := I5.pinned (stat fr5) (T.obj _ _ st5)
    refine wpAny_passesOwn hp (thn (hg _ s5 σ3 H5 x u _ I5' r5 (step x H5 y5)) fun _ s6 ⟨σ6, H6, I6, q6⟩ => ?_)
    refine wpAny_passesOwn hp (thn (hb _ s6 σ6 H6 _ I6 q6) fun f s7 q7 => ?_)
    have again : ∀ {σ7 : St} {H7 : Hp}, Inv X (pins ++ pinsAt fp s5.heap) σ7 H7 s7 → N σ7 H7 → ∃ m, m < n ∧ ∃ i σ' H', Inv X pins σ' H' s7 ∧ tn i s7.heap ∧ (∀ b ∈ fp, H' b = none) ∧ W i m σ' H' := fun {σ7 H7} I7 n7 => by
      obtain ⟨m', hm, w7⟩ := hN σ7 H7 n7
      refine ⟨m', hm, i + 1, σ7, H7, I7.unpinned, T.keep _ _ _ st5 fun b hb o e => (I7.pin (b, o) (List.mem_append_right _ (List.mem_append_right _ (mem_pinsAt hb e)))).1, fun b hb => ?_, w7⟩
      obtain ⟨o, e, d⟩ := T.obj _ _ st5 b hb
      exact (I7.pin (b, o) (List.mem_append_right _ (List.mem_append_right _ (mem_pinsAt hb e)))).2.1
    cases f with
    | next => obtain ⟨σ7, H7, I7, n7⟩ := q7; exact again I7 n7
    | cont => obtain ⟨σ7, H7, I7, n7⟩ := q7; exact again I7 n7
    | brk => obtain ⟨σ7, H7, I7, q7⟩ := q7; exact ⟨σ7, H7, I7.unpinned, q7⟩
    | ret v => obtain ⟨x7, σ7, H7, I7, r7, q7⟩ := q7; exact ⟨x7, σ7, H7, I7.unpinned, r7, q7⟩
end
/-- over a list that the body leaves as it is -/
theorem for_list {K : PySem.W.Frag} {a : Addr} {xs : List V} {g : TG} {tb : TS} {D : Ends} {σ : St} {H : Hp} (Pv : Nat → St → Hp → Prop) (h0 : Pv 0 σ H) (hl : ∀ i σ H, i ≤ xs.length → Pv i σ H → SqL K H a xs)
    (hs : ∀ i x σ H, xs[i]? = some x → Pv i σ H → g x σ H fun σ2 H2 => tb { D with nx := Pv (i + 1), ct := Pv (i + 1), bk := D.nx } σ2 H2) (hd : ∀ σ H, Pv xs.length σ H → D.nx σ H) :
    tFor_I g tb D σ (Itl K a) H := by
  refine ⟨fun i m σ H => m = xs.length - i ∧ i ≤ xs.length ∧ Pv i σ H, ⟨xs.length, by simp, Nat.zero_le _, h0⟩, ?_⟩
  rintro i m σ H ⟨rfl, hi, p⟩
  have q := hl i σ H hi p
  by_cases hlt : i < xs.length
  · refine .inr ⟨⟨xs, xs[i], q, by simp [hlt]⟩, Pv (i + 1), fun σ' H' p' => ⟨xs.length - (i + 1), by omega, rfl, hlt, p'⟩, fun x H' y => ?_⟩
    obtain ⟨e, y⟩ := y
    subst e
    exact hs i x σ _ (y xs q) p
  · have e : i = xs.length := by omega
    subst e
    exact .inl ⟨⟨xs, q, Nat.le_refl _⟩, hd σ H p⟩
theorem for_tup {K : PySem.W.Frag} {a : Addr} {xs : List V} {g : TG} {tb : TS} {D : Ends} {σ : St} {H : Hp} (Pv : Nat → St → Hp → Prop) (h0 : Pv 0 σ H) (hl : ∀ i σ H, i ≤ xs.length → Pv i σ H → SqT K H a xs)
    (hs : ∀ i x σ H, xs[i]? = some x → Pv i σ H → g x σ H fun σ2 H2 => tb { D with nx := Pv (i + 1), ct := Pv (i + 1), bk := D.nx } σ2 H2) (hd : ∀ σ H, Pv xs.length σ H → D.nx σ H) :
    tFor_I g tb D σ (Itt K a) H := by
  refine ⟨fun i m σ H => m = xs.length - i ∧ i ≤ xs.length ∧ Pv i σ H, ⟨xs.length, by simp, Nat.zero_le _, h0⟩, ?_⟩
  rintro i m σ H ⟨rfl, hi, p⟩
  have q := hl i σ H hi p
  by_cases hlt : i < xs.length
  · refine .inr ⟨⟨xs, xs[i], q, by simp [hlt]⟩, Pv (i + 1), fun σ' H' p' => ⟨xs.length - (i + 1), by omega, rfl, hlt, p'⟩, fun x H' y => ?_⟩
    obtain ⟨e, y⟩ := y
    subst e
    exact hs i x σ _ (y xs q) p
  · have e : i = xs.length := by omega
    subst e
    exact .inl ⟨⟨xs, q, Nat.le_refl _⟩, hd σ H p⟩
theorem for_range {lo : Int} {n : Nat} {g : TG} {tb : TS} {D : Ends} {σ : St} {H : Hp} (Pv : Nat → St → Hp → Prop) (h0 : Pv 0 σ H)
    (hs : ∀ i σ H, i < n → Pv i σ H → g (.int (lo + i)) σ H fun σ2 H2 => tb { D with nx := Pv (i + 1), ct := Pv (i + 1), bk := D.nx } σ2 H2) (hd : ∀ σ H, Pv n σ H → D.nx σ H) :
    tFor_I g tb D σ (Itr lo n) H := by
  refine ⟨fun i m σ H => m = n - i ∧ i ≤ n ∧ Pv i σ H, ⟨n, by simp, Nat.zero_le _, h0⟩, ?_⟩
  rintro i m σ H ⟨rfl, hi, p⟩
  by_cases hlt : i < n
  · refine .inr ⟨hlt, Pv (i + 1), fun σ' H' p' => ⟨n - (i + 1), by omega, rfl, hlt, p'⟩, fun x H' y => ?_⟩
    obtain ⟨e, y⟩ := y
    subst e y
    exact hs i σ _ hlt p
  · have e : i = n := by omega
    subst e
    exact .inl ⟨Nat.le_refl _, hd σ H p⟩
/-- while, by a word and a measure of the state -/
theorem while_by {c : TT} {tb : TS} {D : Ends} {σ : St} {H : Hp} (Pv : St → Hp → Prop) (μ : St → Hp → Nat) (h0 : Pv σ H)
    (hs : ∀ σ H, Pv σ H → c σ H fun b H1 => if b = true then tb { D with nx := fun σ' H' => Pv σ' H' ∧ μ σ' H' < μ σ H, ct := fun σ' H' => Pv σ' H' ∧ μ σ' H' < μ σ H, bk := D.nx } σ H1 else D.nx σ H1)
    (mono : ∀ σ H Q Q', (∀ b H1, Q b H1 → Q' b H1) → c σ H Q → c σ H Q') : tWhile c tb D σ H := by
  refine ⟨fun m σ H => m = μ σ H ∧ Pv σ H, ⟨_, rfl, h0⟩, ?_⟩
  rintro m σ H ⟨rfl, p⟩
  refine mono σ H _ _ (fun b H1 q => ?_) (hs σ H p)
  cases b with
  | true => exact ⟨_, fun σ' H' ⟨p', l⟩ => ⟨_, l, rfl, p'⟩, q⟩
  | false => exact q
end L2
namespace L2
open PySem PySem.Spec PyProof.Rows
abbrev R2 := V → V → Hp → VK → Prop
/-- a two-place operation on values: f is binaryOp op, inplaceOp op or compareOp op -/
def OpR (X : Cx) (f : Value → Value → Sem Value) (r : R2) : Prop :=
  ∀ (pins : List (Addr × Obj)) (s : Shared) (σ : St) (H : Hp) (x y : V) (v u : Value) (Q : VK), Inv X pins σ H s → RelV x v → RelV y u → r x y H Q →
    wpAny (model X.prog X.w) X.A (f v u) (EP X pins σ Q) X.xe s
/-- a one-place operation -/
def UnR (X : Cx) (f : Value → Sem Value) (r : V → Hp → VK → Prop) : Prop :=
  ∀ (pins : List (Addr × Obj)) (s : Shared) (σ : St) (H : Hp) (x : V) (v : Value) (Q : VK), Inv X pins σ H s → RelV x v → r x H Q →
    wpAny (model X.prog X.w) X.A (f v) (EP X pins σ Q) X.xe s
/-- a call of a value that is known (a builtin, a type) with values -/
def CallR (X : Cx) (f : Value) (r : List V → Hp → VK → Prop) : Prop :=
  ∀ (pins : List (Addr × Obj)) (s : Shared) (σ : St) (H : Hp) (xs : List V) (us : List Value) (Q : VK), Inv X pins σ H s → Vals xs us → r xs H Q →
    wpAny (model X.prog X.w) X.A (call f us) (EP X pins σ Q) X.xe s
def tOp (r : R2) (ta tb : TE) : TE := fun σ H Q => ta σ H fun x H1 => tb σ H1 fun y H2 => r x y H2 Q
def tUn (r : V → Hp → VK → Prop) (ta : TE) : TE := fun σ H Q => ta σ H fun x H1 => r x H1 Q
/-- ints in, under C, and a value out -/
inductive rI_I (C : Int → Int → Prop) (g : Int → Int → V) (x : V) (y : V) (H : Hp) (Q : VK) : Prop
  | mk : ∀ i j, x = .int i → y = .int j → C i j → Q (g i j) H → rI_I C g x y H Q
def rI (C : Int → Int → Prop) (g : Int → Int → V) : R2 := fun x y H Q => rI_I C g x y H Q
inductive rI0_I (g : Int → Int → V) (x : V) (y : V) (H : Hp) (Q : VK) : Prop
  | mk : ∀ i j, x = .int i → y = .int j → Q (g i j) H → rI0_I g x y H Q
def rI0 (g : Int → Int → V) : R2 := fun x y H Q => rI0_I g x y H Q
inductive rU_I (g : Int → V) (x : V) (H : Hp) (Q : VK) : Prop
  | mk : ∀ i, x = .int i → Q (g i) H → rU_I g x H Q
def rU (g : Int → V) : V → Hp → VK → Prop := fun x H Q => rU_I g x H Q
section
variable {X : Cx} {a b c : Expr} {ta tb tc : TE} {pos : Pos}
theorem binT (ha : PE X a ta) (hb : PE X b tb) {pins : List (Addr × Obj)} {s : Shared} {σ : St} {H : Hp} {R : V → V → Hp → Prop} (I : Inv X pins σ H s)
    (h : ta σ H fun x H1 => tb σ H1 fun y H2 => R x y H2) {Q : Value → Shared → Prop} {f : Value → Value → Sem Value}
    (hf : ∀ v u s2 x y H2, Inv X pins σ H2 s2 → RelV x v → RelV y u → R x y H2 → wpAny (model X.prog X.w) X.A (f v u) Q X.xe s2) :
    wpAny (model X.prog X.w) X.A (eval a X.env) (fun v s₁ => wpAny (model X.prog X.w) X.A (eval b X.env) (fun u s₂ => wpAny (model X.prog X.w) X.A (f v u) Q X.xe s₂) X.xe s₁) X.xe s := by
  refine thn (ha pins s σ H _ I h) fun v s1 ⟨x, H1, I1, r1, q1⟩ => ?_
  refine thn (hb pins s1 σ H1 _ I1 q1) fun u s2 ⟨y, H2, I2, r2, q2⟩ => ?_
  exact hf v u s2 x y H2 I2 r1 r2 q2
theorem pe_op {op : Operator} {r : R2} (ho : OpR X (binaryOp op) r) (ha : PE X a ta) (hb : PE X b tb) : PE X (.BinOp a op b pos) (tOp r ta tb) := by
  intro pins s σ H Q I h
  exact wpAny_BinOp (binT ha hb I h fun v u s2 x y H2 I2 rx ry q => ho pins s2 σ H2 x y v u Q I2 rx ry q)
theorem pe_un {op : UnaryOp} {r : V → Hp → VK → Prop} (ho : UnR X (unaryOp op) r) (ha : PE X a ta) : PE X (.UnaryOp op a pos) (tUn r ta) := by
  intro pins s σ H Q I h
  exact UnaryOp_ (thn (ha pins s σ H _ I h) fun v s1 ⟨x, H1, I1, r1, q1⟩ => ho pins s1 σ H1 x v Q I1 r1 q1)
theorem opI {f : Value → Value → Sem Value} {C : Int → Int → Prop} {g : Int → Int → Int}
    (rule : ∀ (i j : Int) (t u : Tok) (s : Shared) (Q : Value → Shared → Prop) (E : Value → Shared → Prop), C i j → Q (.int (g i j) s.toks) { s with toks := s.toks + 1 } → wpAny (model X.prog X.w) X.A (f (.int i t) (.int j u)) Q E s) :
    OpR X f (rI C fun i j => .int (g i j)) := by
  intro pins s σ H x y v u Q I rx ry h
  obtain ⟨i, j, rfl, rfl, hc, q⟩ := h
  obtain ⟨t, rfl⟩ := rx
  obtain ⟨t', rfl⟩ := ry
  exact rule i j t t' s _ _ hc ⟨.int (g i j), H, I.tok _, ⟨_, rfl⟩, q⟩
theorem opI0 {f : Value → Value → Sem Value} {g : Int → Int → Int}
    (rule : ∀ (i j : Int) (t u : Tok) (s : Shared) (Q : Value → Shared → Prop) (E : Value → Shared → Prop), Q (.int (g i j) s.toks) { s with toks := s.toks + 1 } → wpAny (model X.prog X.w) X.A (f (.int i t) (.int j u)) Q E s) :
    OpR X f (rI0 fun i j => .int (g i j)) := by
  intro pins s σ H x y v u Q I rx ry h
  obtain ⟨i, j, rfl, rfl, q⟩ := h
  obtain ⟨t, rfl⟩ := rx
  obtain ⟨t', rfl⟩ := ry
  exact rule i j t t' s _ _ ⟨.int (g i j), H, I.tok _, ⟨_, rfl⟩, q⟩
theorem opB0 {f : Value → Value → Sem Value} {g : Int → Int → Bool}
    (rule : ∀ (i j : Int) (t u : Tok) (s : Shared) (Q : Value → Shared → Prop) (E : Value → Shared → Prop), Q (.bool (g i j)) s → wpAny (model X.prog X.w) X.A (f (.int i t) (.int j u)) Q E s) :
    OpR X f (rI0 fun i j => .bl (g i j)) := by
  intro pins s σ H x y v u Q I rx ry h
  obtain ⟨i, j, rfl, rfl, q⟩ := h
  obtain ⟨t, rfl⟩ := rx
  obtain ⟨t', rfl⟩ := ry
  exact rule i j t t' s _ _ ⟨.bl (g i j), H, I, rfl, q⟩
def CDiv (i j : Int) : Prop := 0 < j ∧ j < 1073741824
def CMul (i j : Int) : Prop := (-(2 ^ 64) < i ∧ i < 2 ^ 64) ∨ (-(2 ^ 64) < j ∧ j < 2 ^ 64)
theorem CMul.ok {i j : Int} (h : CMul i j) : IntMulOk i j := by
  rcases h with ⟨h1, h2⟩ | ⟨h1, h2⟩
  · exact .of_left (intBits_le_64 h1 h2)
  · exact .of_right (intBits_le_64 h1 h2)
theorem op_add : OpR X (binaryOp .Add) (rI0 fun i j => .int (i + j)) := opI0 fun _ _ _ _ _ _ _ q => add_int q
theorem op_sub : OpR X (binaryOp .Sub) (rI0 fun i j => .int (i - j)) := opI0 fun _ _ _ _ _ _ _ q => sub_int q
theorem op_mul : OpR X (binaryOp .Mult) (rI CMul fun i j => .int (i * j)) := opI fun _ _ _ _ _ _ _ hc q => mul_int q hc.ok
/-- // by a positive divisor -/
theorem op_fdiv : OpR X (binaryOp .FloorDiv) (rI CDiv fun i j => .int (i / j)) := opI fun i j _ _ _ _ _ hc q => by
  have h1 : (0 : Int) < j := hc.1
  have h2 : j < 1073741824 := hc.2
  exact floordiv_int (by omega) (by rw [Int.fdiv_eq_ediv_of_nonneg i (by omega)]; exact q) (.inl (PyProof.noPylong_small (by omega)))
/-- % by a positive divisor of any size -/
theorem op_mod : OpR X (binaryOp .Mod) (rI (fun _ j => 0 < j) fun i j => .int (i % j)) := opI fun i j _ _ _ _ _ hc q => by
  have h1 : (0 : Int) < j := hc
  exact mod_int' (by omega) (by rw [Int.fmod_eq_emod_of_nonneg i (by omega)]; exact q)
theorem unI {f : Value → Sem Value} {g : Int → Int}
    (rule : ∀ (i : Int) (t : Tok) (s : Shared) (Q : Value → Shared → Prop) (E : Value → Shared → Prop), Q (.int (g i) s.toks) { s with toks := s.toks + 1 } → wpAny (model X.prog X.w) X.A (f (.int i t)) Q E s) :
    UnR X f (rU fun i => .int (g i)) := by
  intro pins s σ H x v Q I rx h
  obtain ⟨i, rfl, q⟩ := h
  obtain ⟨t, rfl⟩ := rx
  exact rule i t s _ _ ⟨.int (g i), H, I.tok _, ⟨_, rfl⟩, q⟩
theorem un_neg : UnR X (unaryOp .USub) (rU fun i => .int (-i)) := unI fun _ _ _ _ _ q => neg_int q
end
/-- the scalars that == tells apart as data does -/
def scal : V → V → Bool
  | .non, .non => true | .non, .int _ => true | .int _, .non => true | .non, .bl _ => true | .bl _, .non => true | .non, .str _ => true | .str _, .non => true
  | .int _, .int _ => true | .bl _, .bl _ => true | .str _, .str _ => true | .byt _, .byt _ => true
  | .int _, .str _ => true | .str _, .int _ => true | .bl _, .str _ => true | .str _, .bl _ => true
  | _, _ => false
def rEq : R2 := fun x y H Q => scal x y = true ∧ Q (.bl (decide (x = y))) H
def rNe : R2 := fun x y H Q => scal x y = true ∧ Q (.bl (!decide (x = y))) H
theorem dec_int {i j : Int} : decide (V.int i = V.int j) = (i == j) := by
  rw [Bool.eq_iff_iff]
  simp
theorem dec_bl {i j : Bool} : decide (V.bl i = V.bl j) = (i == j) := by
  rw [Bool.eq_iff_iff]
  simp
theorem dec_str {i j : Str} : decide (V.str i = V.str j) = (i == j) := by
  rw [Bool.eq_iff_iff]
  simp
theorem dec_byt {i j : Array UInt8} : decide (V.byt i = V.byt j) = (i.toList == j.toList) := by
  rw [Bool.eq_iff_iff]
  cases i
  cases j
  simp
section
variable {X : Cx} {a b c : Expr} {ta tb tc : TE} {pos : Pos}
theorem fin_bl {pins : List (Addr × Obj)} {σ : St} {H : Hp} {s : Shared} {Q : VK} {k k' : Bool} (I : Inv X pins σ H s) (q : Q (.bl k) H) (e : k = k') : EP X pins σ Q (.bool k') s := by
  subst e
  exact ⟨.bl k, H, I, rfl, q⟩
theorem op_eq : OpR X (compareOp .Eq) rEq := by
  intro pins s σ H x y v u Q I rx ry h
  obtain ⟨hs, q⟩ := h
  cases x with
  | non =>
    cases rx
    cases y with
    | non => cases ry; exact PySem.EqNone.eq_none_none (fin_bl I q (by simp))
    | bl j => cases ry; exact PySem.EqNone.eq_none_bool (fin_bl I q (by simp))
    | int j => obtain ⟨t', rfl⟩ := ry; exact PySem.EqNone.eq_none_int (fin_bl I q (by simp))
    | str j => obtain ⟨t', rfl⟩ := ry; exact PySem.EqNone.eq_none_str (fin_bl I q (by simp))
    | _ => exact absurd (show false = true from hs) Bool.false_ne_true
  | bl i =>
    cases rx
    cases y with
    | non => cases ry; exact PySem.EqNone.eq_bool_none (fin_bl I q (by simp))
    | bl j => cases ry; exact eq_bool (fin_bl I q dec_bl)
    | str j => obtain ⟨t', rfl⟩ := ry; exact PySem.EqMixed.eq_bool_str (fin_bl I q (by simp))
    | _ => exact absurd (show false = true from hs) Bool.false_ne_true
  | int i =>
    obtain ⟨t, rfl⟩ := rx
    cases y with
    | non => cases ry; exact PySem.EqNone.eq_int_none (fin_bl I q (by simp))
    | int j => obtain ⟨t', rfl⟩ := ry; exact eq_int (fin_bl I q dec_int)
    | str j => obtain ⟨t', rfl⟩ := ry; exact PySem.EqMixed.eq_int_str (fin_bl I q (by simp))
    | _ => exact absurd (show false = true from hs) Bool.false_ne_true
  | str i =>
    obtain ⟨t, rfl⟩ := rx
    cases y with
    | non => cases ry; exact PySem.EqNone.eq_str_none (fin_bl I q (by simp))
    | bl j => cases ry; exact PySem.EqMixed.eq_str_bool (fin_bl I q (by simp))
    | int j => obtain ⟨t', rfl⟩ := ry; exact PySem.EqMixed.eq_str_int (fin_bl I q (by simp))
    | str j => obtain ⟨t', rfl⟩ := ry; exact eq_str (fin_bl I q dec_str)
    | _ => exact absurd (show false = true from hs) Bool.false_ne_true
  | byt i =>
    obtain ⟨t, rfl⟩ := rx
    cases y with
    | byt j => obtain ⟨t', rfl⟩ := ry; exact PySem.W.eq_bytes (fin_bl I q dec_byt)
    | _ => exact absurd (show false = true from hs) Bool.false_ne_true
  | _ => cases y <;> exact absurd (show false = true from hs) Bool.false_ne_true
theorem op_ne : OpR X (compareOp .NotEq) rNe := by
  intro pins s σ H x y v u Q I rx ry h
  obtain ⟨hs, q⟩ := h
  cases x with
  | non =>
    cases rx
    cases y with
    | non => cases ry; exact PySem.EqNone.ne_none_none (fin_bl I q (by simp))
    | bl j => cases ry; exact PySem.EqNone.ne_none_bool (fin_bl I q (by simp))
    | int j => obtain ⟨t', rfl⟩ := ry; exact PySem.EqNone.ne_none_int (fin_bl I q (by simp))
    | str j => obtain ⟨t', rfl⟩ := ry; exact PySem.EqNone.ne_none_str (fin_bl I q (by simp))
    | _ => exact absurd (show false = true from hs) Bool.false_ne_true
  | bl i =>
    cases rx
    cases y with
    | non => cases ry; exact PySem.EqNone.ne_bool_none (fin_bl I q (by simp))
    | bl j => cases ry; exact ne_bool (fin_bl I q (congrArg not dec_bl))
    | str j => obtain ⟨t', rfl⟩ := ry; exact PySem.EqMixed.ne_bool_str (fin_bl I q (by simp))
    | _ => exact absurd (show false = true from hs) Bool.false_ne_true
  | int i =>
    obtain ⟨t, rfl⟩ := rx
    cases y with
    | non => cases ry; exact PySem.EqNone.ne_int_none (fin_bl I q (by simp))
    | int j => obtain ⟨t', rfl⟩ := ry; exact ne_int (fin_bl I q (congrArg not dec_int))
    | str j => obtain ⟨t', rfl⟩ := ry; exact PySem.EqMixed.ne_int_str (fin_bl I q (by simp))
    | _ => exact absurd (show false = true from hs) Bool.false_ne_true
  | str i =>
    obtain ⟨t, rfl⟩ := rx
    cases y with
    | non => cases ry; exact PySem.EqNone.ne_str_none (fin_bl I q (by simp))
    | bl j => cases ry; exact PySem.EqMixed.ne_str_bool (fin_bl I q (by simp))
    | int j => obtain ⟨t', rfl⟩ := ry; exact PySem.EqMixed.ne_str_int (fin_bl I q (by simp))
    | str j => obtain ⟨t', rfl⟩ := ry; exact ne_str (fin_bl I q (congrArg not dec_str))
    | _ => exact absurd (show false = true from hs) Bool.false_ne_true
  | byt i =>
    obtain ⟨t, rfl⟩ := rx
    cases y with
    | byt j => obtain ⟨t', rfl⟩ := ry; exact PySem.W.ne_bytes (fin_bl I q (congrArg not dec_byt))
    | _ => exact absurd (show false = true from hs) Bool.false_ne_true
  | _ => cases y <;> exact absurd (show false = true from hs) Bool.false_ne_true
theorem op_lt : OpR X (compareOp .Lt) (rI0 fun i j => .bl (decide (i < j))) := opB0 fun _ _ _ _ _ _ _ q => lt_int q
theorem op_le : OpR X (compareOp .LtE) (rI0 fun i j => .bl (decide (i ≤ j))) := opB0 fun _ _ _ _ _ _ _ q => le_int q
theorem op_gt : OpR X (compareOp .Gt) (rI0 fun i j => .bl (decide (j < i))) := opB0 fun _ _ _ _ _ _ _ q => gt_int q
/-- the one string within the other -/
theorem op_in_str : OpR X (compareOp .In) (fun x y H Q => ∃ i j, x = .str i ∧ y = .str j ∧ Q (.bl (!(Builtin.Str.occurrences j i 0 j.length 1).isEmpty)) H) := by
  intro pins s σ H x y v u Q I rx ry h
  obtain ⟨i, j, rfl, rfl, q⟩ := h
  obtain ⟨t, rfl⟩ := rx
  obtain ⟨t', rfl⟩ := ry
  exact in_str (fin_bl I q rfl)
theorem nomark (b : Expr) {op : CmpOp} (h : op ≠ .In := by decide) (h2 : op ≠ .NotIn := by decide) : behindInMarks op b = false := by
  have e1 : (op == CmpOp.In) = false := by cases op <;> first | rfl | exact absurd rfl h
  have e2 : (op == CmpOp.NotIn) = false := by cases op <;> first | rfl | exact absurd rfl h2
  cases b <;> simp [behindInMarks, e1, e2]
/-- a comparison as a value; hm: nomark b, or (for in, not in) by with_unfolding_all rfl -/
theorem pe_cmpR {op : CmpOp} {r : R2} (ho : OpR X (compareOp op) r) (ha : PE X a ta) (hb : PE X b tb) (hm : behindInMarks op b = false) : PE X (.Compare a [op] [b] pos) (tOp r ta tb) := by
  intro pins s σ H Q I h
  exact wpAny_Compare1 (binT ha hb I h fun v u s2 x y H2 I2 rx ry q => ho pins s2 σ H2 x y v u Q I2 rx ry q) hm
/-- a reading of a value as a test -/
inductive tTest_I (Q : (Bool → Hp → Prop)) (x : V) (H' : Hp) : Prop
  | mk : ∀ k, x = .bl k → Q k H' → tTest_I Q x H'
def tTest (t : TE) : TT := fun σ H Q => t σ H fun x H' => tTest_I Q x H'
theorem pt_cmpR {op : CmpOp} {r : R2} (ho : OpR X (compareOp op) r) (ha : PE X a ta) (hb : PE X b tb) (hm : behindInMarks op b = false) : PT X (.Compare a [op] [b] pos) (tTest (tOp r ta tb)) := by
  intro pins s σ H Q I h
  refine wpAny_isTrue_Compare1 (thn (ha pins s σ H _ I h) fun v s1 ⟨x, H1, I1, r1, q1⟩ => thn (hb pins s1 σ H1 _ I1 q1) fun u s2 ⟨y, H2, I2, r2, q2⟩ =>
    thn (ho pins s2 σ H2 x y v u _ I2 r1 r2 q2) fun c s3 ⟨z, H3, I3, r3, k, e, q3⟩ => ?_) hm
  subst e
  cases r3
  exact wpAny_truthy_bool ⟨H3, I3, q3⟩
/-- a op1 b op2 c -/
def tChain (r r' : R2) (ta tb tc : TE) : TE := fun σ H Q => ta σ H fun x H1 => tb σ H1 fun y H2 => r x y H2 fun z H3 => ∃ k, z = .bl k ∧
  (if k = true then tc σ H3 fun w' H4 => r' y w' H4 Q else Q (.bl false) H3)
theorem pe_chain {op op' : CmpOp} {r r' : R2} (ho : OpR X (compareOp op) r) (ho' : OpR X (compareOp op') r') (ha : PE X a ta) (hb : PE X b tb) (hc : PE X c tc)
    (hm : lastMarks [op, op'] [b, c] = false := by with_unfolding_all rfl) : PE X (.Compare a [op, op'] [b, c] pos) (tChain r r' ta tb tc) := by
  intro pins s σ H Q I h
  refine Compare_chain (thn (ha pins s σ H _ I h) fun v s1 ⟨x, H1, I1, r1, q1⟩ => chain_link (thn (hb pins s1 σ H1 _ I1 q1) fun u s2 ⟨y, H2, I2, r2, q2⟩ =>
    thn (ho pins s2 σ H2 x y v u _ I2 r1 r2 q2) fun d s3 ⟨z, H3, I3, r3, k, e, q3⟩ => ?_)) hm
  subst e
  cases r3
  refine wpAny_truthy_bool ?_
  cases k with
  | false => exact ite_ff ⟨.bl false, H3, I3, rfl, q3⟩
  | true => exact ite_tt (chain_last (thn (hc pins s3 σ H3 _ I3 q3) fun w' s4 ⟨z', H4, I4, r4, q4⟩ => ho' pins s4 σ H4 y z' u w' Q I4 r2 r4 q4))
theorem pt_chain {op op' : CmpOp} {r r' : R2} (ho : OpR X (compareOp op) r) (ho' : OpR X (compareOp op') r') (ha : PE X a ta) (hb : PE X b tb) (hc : PE X c tc)
    (hm : lastMarks [op, op'] [b, c] = false := by with_unfolding_all rfl) : PT X (.Compare a [op, op'] [b, c] pos) (tTest (tChain r r' ta tb tc)) := by
  intro pins s σ H Q I h
  refine isTrue_chain (thn (ha pins s σ H _ I h) fun v s1 ⟨x, H1, I1, r1, q1⟩ => test_link (thn (hb pins s1 σ H1 _ I1 q1) fun u s2 ⟨y, H2, I2, r2, q2⟩ =>
    thn (ho pins s2 σ H2 x y v u _ I2 r1 r2 q2) fun d s3 ⟨z, H3, I3, r3, k, e, q3⟩ => ?_)) hm
  subst e
  cases r3
  refine wpAny_truthy_bool ?_
  cases k with
  | false =>
    obtain ⟨k', e', q'⟩ := q3
    cases e'
    exact ite_ff ⟨H3, I3, q'⟩
  | true =>
    refine ite_tt (test_last (thn (hc pins s3 σ H3 _ I3 q3) fun w' s4 ⟨z', H4, I4, r4, q4⟩ => thn (ho' pins s4 σ H4 y z' u w' _ I4 r2 r4 q4) fun d' s5 ⟨z2, H5, I5, r5, k2, e2, q5⟩ => ?_))
    subst e2
    cases r5
    exact wpAny_truthy_bool ⟨H5, I5, q5⟩
theorem line63 : (sizeLine : Nat) < 2 ^ 63 := by rw [sizeLine_eq]; decide
theorem op_add_str : OpR X (binaryOp .Add) (fun x y H Q => ∃ i j, x = .str i ∧ y = .str j ∧ i.length + j.length ≤ sizeLine ∧ Q (.str (i ++ j)) H) := by
  intro pins s σ H x y v u Q I rx ry h
  obtain ⟨i, j, rfl, rfl, hz, q⟩ := h
  obtain ⟨t, rfl⟩ := rx
  obtain ⟨t', rfl⟩ := ry
  exact add_str (fun t' tk => ⟨.str (i ++ j), H, I.tok _, ⟨_, rfl⟩, q⟩) hz
theorem vals1 {x : V} {us : List Value} (r : Vals [x] us) : ∃ u, us = [u] ∧ RelV x u := by
  cases r with
  | cons r1 r2 => cases r2; exact ⟨_, rfl, r1⟩
theorem vals2 {x y : V} {us : List Value} (r : Vals [x, y] us) : ∃ u w', us = [u, w'] ∧ RelV x u ∧ RelV y w' := by
  cases r with
  | cons r1 r2 =>
    cases r2 with
    | cons r3 r4 => cases r4; exact ⟨_, _, rfl, r1, r3⟩
theorem call_max2 (hc : X.calm = true) : CallR X (.builtin "max") (fun xs H Q => ∃ i j, xs = [.int i, .int j] ∧ Q (.int (if j > i then j else i)) H) := by
  intro pins s σ H xs us Q I r h
  obtain ⟨i, j, rfl, q⟩ := h
  obtain ⟨u, w', rfl, ⟨t, rfl⟩, ⟨t', rfl⟩⟩ := vals2 r
  refine max_two_ints (I.ok.hd hc) fun h' tk k => ⟨_, H, I.kept k, ?_, q⟩
  by_cases hj : j > i
  · rw [if_pos hj, if_pos hj]; exact ⟨_, rfl⟩
  · rw [if_neg hj, if_neg hj]; exact ⟨_, rfl⟩
theorem call_int1 : CallR X (.type "int") (fun xs H Q => (∃ i, xs = [.int i] ∧ Q (.int i) H) ∨ ∃ k, xs = [.bl k] ∧ Q (.int (if k then 1 else 0)) H) := by
  intro pins s σ H xs us Q I r h
  rcases h with ⟨i, rfl, q⟩ | ⟨k, rfl, q⟩
  · obtain ⟨u, rfl, t, rfl⟩ := vals1 r
    exact call_int_int ⟨.int i, H, I, ⟨_, rfl⟩, q⟩
  · obtain ⟨u, rfl, r1⟩ := vals1 r
    cases r1
    exact call_int_bool ⟨.int (if k then 1 else 0), H, I.tok _, ⟨_, rfl⟩, q⟩
theorem call_str_int : CallR X (.type "str") (fun xs H Q => ∃ i, xs = [.int i] ∧ i.natAbs.log2 < 1920 ∧ Q (.str (toString i)) H) := by
  intro pins s σ H xs us Q I r h
  obtain ⟨i, rfl, hz, q⟩ := h
  obtain ⟨u, rfl, t, rfl⟩ := vals1 r
  exact PySem.P.str_of_int hz ⟨.str _, H, I.tok _, ⟨_, rfl⟩, q⟩
end
end L2
namespace L2
open PySem PySem.Spec PyProof.Rows
structure ObjM (h : Heap) (x dx C : Addr) (mA : Str → Option Value) : Prop where
  obj : h.get? x = some (PySem.W.instObj C dx)
  ns : h.Ns1 dx mA
  ne : dx ≠ x
theorem lookIn_ns {h : Heap} {dx : Addr} {mA : Str → Option Value} (n : h.Ns1 dx mA) : ∃ od, h.get? dx = some od ∧ ∀ name, PySem.W.lookIn name od = some (mA name) := by
  obtain ⟨o, es, ep, ho, hd, hk, _, hm⟩ := n
  refine ⟨o, ho, fun name => ?_⟩
  have e := hm name
  unfold nsFind findBy at e
  rw [← Array.find?_toList] at e
  unfold PySem.W.lookIn
  rw [hd]
  dsimp only
  split
  · rename_i y q
    rw [q] at e
    exact congrArg some e
  · rename_i q
    rw [q] at e
    have a : es.toList.any (·.refKey) = false := by
      rw [List.any_eq_false]
      intro y hy
      obtain ⟨z, t, hkey⟩ := hk y (Array.mem_toList_iff.mp hy)
      simp [DictEntry.refKey, hkey]
    have a' : ¬ es.toList.any (·.refKey) = true := by rw [a]; exact Bool.false_ne_true
    rw [if_neg a']
    exact congrArg some e
theorem ObjM.look {h : Heap} {x dx C : Addr} {mA : Str → Option Value} (I : ObjM h x dx C mA) : ∃ od, PySem.W.InstAt h x (PySem.W.instObj C dx) C (some od) ∧ ∀ name, PySem.W.lookIn name od = some (mA name) :=
  let ⟨od, ho, hl⟩ := lookIn_ns I.ns
  ⟨od, ⟨I.obj, rfl, rfl, ho⟩, hl⟩
section
variable {prog : Program} {w : World} {A : Around} {E : Value → Shared → Prop} {s : Shared} {K : PySem.W.Frag} {x dx C f : Addr} {mA : Str → Option Value} {name : Str} {v : Value}
theorem get_map {expr : Bool} {Q : Value → Shared → Prop} (X : K.In s.heap) (I : ObjM s.heap x dx C mA) (hg : PySem.W.plainGet K C name = true) (hh : PySem.W.hasDictIn K C = true)
    (ha : PySem.W.findIn K (.ref C) name = some none) (hv : mA name = some v) (hv' : PySem.W.handedIn v = true) (h : Q v { s with toks := s.toks + 1 }) :
    wpAny (model prog w) A (getAttr (.ref x) name expr) Q E s := by
  obtain ⟨od, J, hl⟩ := I.look
  exact PySem.W.get_value X J (PySem.W.plainGet_of hg).1 (PySem.W.findObj_own hh ha rfl (by rw [hl, hv])) hv' h
theorem get_meth {pl : Sem Bool} {Q : Value × List Value → Shared → Prop} (X : K.In s.heap) (I : ObjM s.heap x dx C mA) (hg : PySem.W.plainGet K C name = true)
    (hf : PySem.W.findIn K (.ref C) name = some (some (.ref f))) (ht : PySem.W.isFn K (.ref f) = true) (hv : mA name = none) (h : Q (.ref f, [.ref x]) s) :
    wpAny (model prog w) A (getMethod (.ref x) name pl) Q E s := by
  obtain ⟨od, J, hl⟩ := I.look
  exact PySem.W.method_fn X J (PySem.W.plainGet_of hg).1 (PySem.W.plainGet_of hg).2 hf (beq_iff_eq.mp ht) (by show (PySem.W.lookIn name od).map (·.isSome) = some false; rw [hl, hv]; rfl) h
theorem set_map {ns : List Str} {Q : Unit → Shared → Prop} (X : K.In s.heap) (I : ObjM s.heap x dx C mA)
    (hs : PySem.W.findIn K (.ref C) "__setattr__" = some (some (.builtin "object.__setattr__"))) (hp : PySem.W.plainOver K C = true) (ht : PySem.W.takerIn K C name = some none) (hh : PySem.W.hasDictIn K C = true)
    (hw : PySem.Within mA ns) (hsz : ns.length ≤ sizeLine)
    (h : ∀ h', ObjM h' x dx C (fun y => if y = name then some v else mA y) → Heap.SameBut dx s.heap h' → Q () { s with heap := h', toks := s.toks + 2 }) :
    wpAny (model prog w) A (setAttr (.ref x) name v) Q E s := by
  obtain ⟨od, J, hl⟩ := I.look
  refine PySem.W.set_plain X J hs (PySem.W.osa_open (s := { s with toks := s.toks + 1 }) (r := none) X J hp ht fun b => ?_)
  obtain ⟨cd, hc, hd'⟩ := PySem.W.any_some hh
  have hx : s.heap.get? x = some ⟨.ref C, some dx, .plain, #[]⟩ := I.obj
  refine wpAny_bind (wpAny_pure (wpAny_bind (wpAny_bind (wpAny_loadPart hx (wpAny_bind (PySem.W.Looks.here (s := { s with toks := s.toks + 1 }) (PySem.W.looks_clsIn X hc) ?_))))))
  rw [hd']
  refine wpAny_pure (a := some dx) (wpAny_bind (wpAny_pure (wpAny_bind ?_)))
  refine wpAny_nsSet1 (s := { s with toks := s.toks + 1 }) I.ns fun h' hn2 hs2 => ?_
  obtain ⟨oD, esD, epD, hoD, hdD, hcD⟩ := hn2.count (PySem.Within.cons name v hw)
  refine wpAny_bind (wpAny_lookBehind hoD (by rw [hdD]; exact pastItsLine_dict (Nat.le_trans hcD (by rw [List.length_cons]; omega))) ?_)
  exact wpAny_pure (h _ ⟨(hs2.2 _ (Ne.symm I.ne)).trans I.obj, hn2, I.ne⟩ hs2)
/-- C(..): the dict at the heap's end, the instance behind it; then its __init__ -/
theorem make_map {R : Result → Shared → Prop} {vs : List Value} {kw : List (Str × Value)} (X : K.In s.heap) (hm : PySem.W.makesIn K C = true)
    (hi : PySem.W.findIn K (.ref C) "__init__" = some (some (.ref f))) (hf : PySem.W.typeIn K (.ref f) = some (.type "function"))
    (h : codeAny (model prog w) (A.under (.builtin "type.__call__" ⟨.ref C :: vs, kw⟩)) (.call (.ref f) ⟨.ref (s.heap.objs.size + 1) :: vs, kw⟩) (PySem.W.InitBack (s.heap.objs.size + 1) R)
      { s with heap := (s.heap.push PySem.W.emptyDict).push (PySem.W.instObj C s.heap.objs.size) }) :
    codeAny (model prog w) A (.call (.ref C) ⟨vs, kw⟩) R s := by
  obtain ⟨hh, g, d, t, os⟩ := s
  exact PySem.W.make_core (PySem.W.makes_of X hm) (PySem.W.looks_findIn X hi) (fun self => PySem.W.bind_fn X self hf) (.inl rfl) h
end
def putF (f : Str) (v : V) : List (Str × V) → List (Str × V)
  | [] => [(f, v)]
  | (g, x) :: r => if g = f then (g, v) :: r else (g, x) :: putF f v r
theorem lookup_putF (f g : Str) (v : V) : ∀ fs : List (Str × V), (putF f v fs).lookup g = if g = f then some v else fs.lookup g
  | [] => by
    show List.lookup g [(f, v)] = _
    by_cases h : g = f
    · have hb : (g == f) = true := beq_iff_eq.mpr h
      simp only [List.lookup, hb, if_pos h]
    · have hb : (g == f) = false := beq_eq_false_iff_ne.mpr h
      simp only [List.lookup, hb, if_neg h]
  | (k, x) :: r => by
    have ih := lookup_putF f g v r
    rw [show putF f v ((k, x) :: r) = (if k = f then (k, v) :: r else (k, x) :: putF f v r) from rfl]
    by_cases hk : k = f
    · rw [if_pos hk]
      by_cases h : g = k
      · have hb : (g == k) = true := beq_iff_eq.mpr h
        simp only [List.lookup, hb, if_pos (h.trans hk)]
      · have hb : (g == k) = false := beq_eq_false_iff_ne.mpr h
        simp only [List.lookup, hb, if_neg (fun e : g = f => h (e.trans hk.symm))]
    · rw [if_neg hk]
      by_cases h : g = k
      · have hb : (g == k) = true := beq_iff_eq.mpr h
        simp only [List.lookup, hb, if_neg (fun e : g = f => hk (h.symm.trans e))]
      · have hb : (g == k) = false := beq_eq_false_iff_ne.mpr h
        simp only [List.lookup, hb]
        exact ih
theorem keys_putF (f : Str) (v : V) : ∀ fs : List (Str × V), f ∈ (putF f v fs).map (·.1) ∧ ∀ g, g ∈ fs.map (·.1) → g ∈ (putF f v fs).map (·.1)
  | [] => ⟨by simp [putF], fun g h => by simp at h⟩
  | (k, x) :: r => by
    obtain ⟨i1, i2⟩ := keys_putF f v r
    rw [show putF f v ((k, x) :: r) = (if k = f then (k, v) :: r else (k, x) :: putF f v r) from rfl]
    by_cases hk : k = f
    · rw [if_pos hk]
      subst hk
      exact ⟨by simp, fun g h => by simpa using h⟩
    · rw [if_neg hk]
      refine ⟨?_, fun g h => ?_⟩
      · rw [List.map_cons]
        exact List.mem_cons_of_mem _ i1
      · rw [List.map_cons] at h ⊢
        rcases List.mem_cons.mp h with e | e
        · exact List.mem_cons.mpr (.inl e)
        · exact List.mem_cons_of_mem _ (i2 g e)
theorem length_putF (f : Str) (v : V) : ∀ fs : List (Str × V), (putF f v fs).length ≤ fs.length + 1
  | [] => by simp [putF]
  | (k, x) :: r => by
    have ih := length_putF f v r
    rw [show putF f v ((k, x) :: r) = (if k = f then (k, v) :: r else (k, x) :: putF f v r) from rfl]
    by_cases hk : k = f
    · rw [if_pos hk, List.length_cons, List.length_cons]; omega
    · rw [if_neg hk, List.length_cons, List.length_cons]; omega
theorem RelO.some_of {v : V} {o : Option Value} (r : RelO (some v) o) : ∃ u, o = some u ∧ RelV v u := by
  cases o with
  | none => exact (show False from r).elim
  | some u => exact ⟨u, rfl, r⟩
theorem RelO.none_of {o : Option Value} (r : RelO none o) : o = none := by
  cases o with
  | none => rfl
  | some u => exact (show False from r).elim
theorem handed_of {v : V} {u : Value} (r : RelV v u) : PySem.W.handedIn u = true := by
  cases v with
  | non => cases (show u = Value.none from r); rfl
  | bl b => cases (show u = Value.bool b from r); rfl
  | int i => obtain ⟨t, e⟩ := (show ∃ t, u = Value.int i t from r); cases e; rfl
  | str x => obtain ⟨t, e⟩ := (show ∃ t, u = Value.str x t from r); cases e; rfl
  | byt b => obtain ⟨t, e⟩ := (show ∃ t, u = Value.bytes b t from r); cases e; rfl
  | flt b => obtain ⟨t, e⟩ := (show ∃ t, u = Value.float b t from r); cases e; rfl
  | ref a => cases (show u = Value.ref a from r); rfl
  | ty n => cases (show u = Value.type n from r); rfl
section
variable {P : Program} {w : World} {H H' : Hp} {h h' : Heap} {a C dx : Addr} {fs fs' : List (Str × V)}
theorem ins_get (hok : HOk P w H h) (e : H a = some (.ins C dx fs)) : ∃ mA, ObjM h a dx C mA ∧ (∀ f, RelO (fs.lookup f) (mA f)) ∧ PySem.Within mA (fs.map (·.1)) ∧ fs.length ≤ 1000 ∧ H dx = some (.own a) := by
  obtain ⟨d, z, ne, ob, mA, n, r, q⟩ := (show ObjOk P w H h a (.ins C dx fs) from hok a _ e)
  exact ⟨mA, ⟨ob, n, ne⟩, r, q, z, d⟩
end
structure Cls (K : PySem.W.Frag) (C : Addr) : Prop where
  pg : PySem.W.plainGet K C Str.empty = true
  hd : PySem.W.hasDictIn K C = true
  po : PySem.W.plainOver K C = true
  sa : PySem.W.findIn K (.ref C) "__setattr__" = some (some (.builtin "object.__setattr__"))
theorem Cls.get {K : PySem.W.Frag} {C : Addr} (c : Cls K C) (f : Str) : PySem.W.plainGet K C f = true := c.pg
/-- no class of it has the name -/
def NoAttr (K : PySem.W.Frag) (C : Addr) (f : Str) : Prop := PySem.W.findIn K (.ref C) f = some none
theorem NoAttr.taker {K : PySem.W.Frag} {C : Addr} {f : Str} (n : NoAttr K C f) : PySem.W.takerIn K C f = some none := by
  unfold PySem.W.takerIn
  rw [show PySem.W.findIn K (.ref C) f = some none from n]
  rfl
/-- a method: a plain def of the class or of one above it -/
structure Meth (K : PySem.W.Frag) (C : Addr) (m : Str) (f : Addr) : Prop where
  at_ : PySem.W.findIn K (.ref C) m = some (some (.ref f))
  fn : PySem.W.isFn K (.ref f) = true
  kp : PySem.W.keepIn K (.ref f) = true
section
variable {X : Cx} {pins : List (Addr × Obj)} {σ : St} {H : Hp} {s : Shared} {a C dx : Addr} {fs : List (Str × V)} {f : Str} {v : V} {A : Around} {E : Value → Shared → Prop}
theorem getattr_ok {b : Bool} {Q : Value → Shared → Prop} (I : Inv X pins σ H s) (e : H a = some (.ins C dx fs)) (c : Cls X.K C) (n : NoAttr X.K C f) (l : fs.lookup f = some v)
    (h : ∀ u s', Inv X pins σ H s' → RelV v u → Q u s') : wpAny (model X.prog X.w) A (getAttr (.ref a) f b) Q E s := by
  obtain ⟨mA, O, r, _, _, _⟩ := ins_get I.hok e
  obtain ⟨u, hu, ru⟩ := RelO.some_of (v := v) (o := mA f) (by rw [← l]; exact r f)
  exact get_map I.kIn O (c.get f) c.hd n hu (handed_of ru) (h u _ (I.tok _) ru)
theorem getmeth_ok {m : Str} {g : Addr} {pl : Sem Bool} {Q : Value × List Value → Shared → Prop} (I : Inv X pins σ H s) (e : H a = some (.ins C dx fs)) (c : Cls X.K C) (k : Meth X.K C m g) (l : fs.lookup m = none)
    (h : Q (.ref g, [.ref a]) s) : wpAny (model X.prog X.w) A (getMethod (.ref a) m pl) Q E s := by
  obtain ⟨mA, O, r, _, _, _⟩ := ins_get I.hok e
  have hn : mA m = none := RelO.none_of (by rw [← l]; exact r m)
  exact get_meth I.kIn O (c.get m) k.at_ k.fn hn h
theorem setattr_ok {y : V} {u : Value} {Q : Unit → Shared → Prop} (I : Inv X pins σ H s) (e : H a = some (.ins C dx fs)) (c : Cls X.K C) (n : NoAttr X.K C f) (hl : fs.length < 1000) (ry : RelV y u)
    (h : ∀ s', Inv X pins σ (upd H a (.ins C dx (putF f y fs))) s' → Q () s') : wpAny (model X.prog X.w) A (setAttr (.ref a) f u) Q E s := by
  obtain ⟨mA, O, r, wi, _, ho⟩ := ins_get I.hok e
  have hz : (fs.map (·.1)).length ≤ sizeLine := by rw [List.length_map, sizeLine_eq]; omega
  refine set_map I.kIn O c.sa c.po n.taker c.hd wi hz fun h' O' sb => h _ ?_
  have hd : ∃ o, h'.get? dx = some o := let ⟨o, _, _, e', _⟩ := O'.ns; ⟨o, e'⟩
  refine I.write (x := a) (e := dx) (by rw [e]; exact True.intro) (.inr ho) (fun b q hb z => (sb.2 b hb).trans z) hd ?_
  refine ⟨by rw [upd_ne O.ne]; exact ho, ?_, O.ne, O'.obj, _, O'.ns, fun g => ?_, fun g hg => ?_⟩
  · have := length_putF f y fs; omega
  · show RelO ((putF f y fs).lookup g) (if g = f then some u else mA g)
    rw [lookup_putF]
    by_cases q : g = f
    · rw [if_pos q, if_pos q]; exact ry
    · rw [if_neg q, if_neg q]; exact r g
  · by_cases q : g = f
    · rw [q]; exact (keys_putF f y fs).1
    · refine (keys_putF f y fs).2 g (wi g fun z => hg ?_)
      show (if g = f then some u else mA g) = none
      rw [if_neg q]; exact z
/-- a new instance, tracked, without attributes -/
theorem Inv.made (I : Inv X pins σ H s) : Inv X pins σ (upd (upd H s.heap.objs.size (.own (s.heap.objs.size + 1))) (s.heap.objs.size + 1) (.ins C s.heap.objs.size []))
    { s with heap := (s.heap.push PySem.W.emptyDict).push (PySem.W.instObj C s.heap.objs.size) } := by
  have e1 : (s.heap.push PySem.W.emptyDict).get? s.heap.objs.size = some PySem.W.emptyDict := Heap.get?_push_size s.heap rfl
  have e2 : ((s.heap.push PySem.W.emptyDict).push (PySem.W.instObj C s.heap.objs.size)).get? (s.heap.objs.size + 1) = some (PySem.W.instObj C s.heap.objs.size) := by
    have := Heap.get?_push_size (s.heap.push PySem.W.emptyDict) (o := PySem.W.instObj C s.heap.objs.size) rfl
    rwa [Heap.size_push] at this
  have e3 : (s.heap.push PySem.W.emptyDict).Ns s.heap.objs.size (fun _ => none) := ⟨PySem.W.emptyDict, #[], _, e1, rfl, (fun e he => absurd he (by simp)), fun _ => rfl⟩
  have I1 := I.laid (a := s.heap.objs.size) (o := .own (s.heap.objs.size + 1)) (h' := s.heap.push PySem.W.emptyDict) (t' := s.toks) (fun b u q => Heap.get?_push_of_some _ q) (Nat.le_refl _) ⟨_, e1⟩
  refine I1.laid (a := s.heap.objs.size + 1) (o := .ins C s.heap.objs.size []) (t' := s.toks) (fun b u q => Heap.get?_push_of_some _ q) (Nat.le_of_eq (Heap.size_push _ _)) ?_
  have ne : s.heap.objs.size ≠ s.heap.objs.size + 1 := Nat.ne_of_lt (Nat.lt_succ_self _)
  refine ⟨by rw [upd_ne ne, upd_same], Nat.zero_le _, ne, e2, fun _ => none, (Heap.Ns1.of_empty e3).at fun o q => Heap.get?_push_of_some _ q, fun _ => True.intro, fun y hy => absurd rfl hy⟩
/-- e.f where nothing but the object is asked: through attributeBase (super) and the last hold -/
theorem attr_of {prog : Program} {w : World} {env : Env} {e : Expr} {f : Str} {pos : Pos} {s : Shared} {Q : Value → Shared → Prop} (hb : attributeBase e f env (eval e env) = eval e env)
    (h : wpAny (model prog w) A (eval e env) (fun o s₁ => wpAny (model prog w) A (getAttr o f true) Q E s₁) E s) : wpAny (model prog w) A (eval (.Attribute e f pos) env) Q E s :=
  Attribute_any_ h (by rw [arm_eval_Attribute, hb])
end
/-- e.f, an attribute of the instance -/
inductive tFld_I (K : PySem.W.Frag) (f : Str) (Q : VK) (x : V) (H1 : Hp) : Prop
  | mk : ∀ a C dx fs v, x = .ref a → H1 a = some (.ins C dx fs) → Cls K C → NoAttr K C f → fs.lookup f = some v → Q v H1 → tFld_I K f Q x H1
def tFld (K : PySem.W.Frag) (ta : TE) (f : Str) : TE := fun σ H Q => ta σ H fun x H1 => tFld_I K f Q x H1
/-- e.f = value -/
inductive sFld_I (K : PySem.W.Frag) (f : Str) (D : Ends) (σ : St) (y : V) (x : V) (H2 : Hp) : Prop
  | mk : ∀ a C dx fs, x = .ref a → H2 a = some (.ins C dx fs) → Cls K C → NoAttr K C f → fs.length < 1000 → D.nx σ (upd H2 a (.ins C dx (putF f y fs))) → sFld_I K f D σ y x H2
def sFld (K : PySem.W.Frag) (ta tv : TE) (f : Str) : TS := fun D σ H => tv σ H fun y H1 => ta σ H1 fun x H2 => sFld_I K f D σ y x H2
/-- an augmented operator on two values -/
def InOp (X : Cx) (op : Operator) (rd : V → V → Hp → VK → Prop) : Prop :=
  ∀ (pins : List (Addr × Obj)) (s : Shared) (σ : St) (H : Hp) (x y : V) (u v : Value) (Q : VK), Inv X pins σ H s → RelV x u → RelV y v → rd x y H Q → wpAny (model X.prog X.w) X.A (inplaceOp op u v) (EP X pins σ Q) X.xe s
/-- e.f op= value -/
inductive sFldAug_I (K : PySem.W.Frag) (tv : TE) (rd : V → V → Hp → VK → Prop) (f : Str) (D : Ends) (σ : St) (x : V) (H1 : Hp) : Prop
  | mk : ∀ a C dx fs v, x = .ref a → H1 a = some (.ins C dx fs) → Cls K C → NoAttr K C f → fs.lookup f = some v → (tv σ H1 fun y H2 => rd v y H2 fun z H3 => ∃ dx' fs', H3 a = some (.ins C dx' fs') ∧ fs'.length < 1000 ∧ D.nx σ (upd H3 a (.ins C dx' (putF f z fs')))) → sFldAug_I K tv rd f D σ x H1
def sFldAug (K : PySem.W.Frag) (ta tv : TE) (rd : V → V → Hp → VK → Prop) (f : Str) : TS := fun D σ H => ta σ H fun x H1 => sFldAug_I K tv rd f D σ x H1
section
variable {X : Cx} {o e value : Expr} {f : Str} {pos pos' tpos : Pos} {ta tv : TE}
theorem pe_fld (he : PE X e ta) (hb : attributeBase e f X.env (eval e X.env) = eval e X.env) : PE X (.Attribute e f pos) (tFld X.K ta f) := by
  intro pins s σ H Q I h
  refine attr_of hb (thn (he pins s σ H _ I h) fun u s1 ⟨x, H1, I1, rx, a, C, dx, fs, v, ex, ea, c, n, l, q⟩ => ?_)
  subst ex
  obtain rfl : u = Value.ref a := rx
  exact getattr_ok I1 ea c n l fun u' s2 I2 ru => ⟨v, H1, I2, ru, q⟩
theorem ps_fld (ha : PE X o ta) (hv : PE X value tv) (hs : swapsWith value (some (.Attribute o f pos')) pos.line X.env = pure false) : PS X (.Assign [.Attribute o f pos'] value pos) (sFld X.K ta tv f) := by
  intro pins s σ H D I h
  refine plainObj_wpAny_Assign_Attribute (thn (hv pins s σ H _ I h) fun u s1 ⟨y, H1, I1, ry, q⟩ => thn (ha pins s1 σ H1 _ I1 q) fun ov s2 ⟨x, H2, I2, rx, a, C, dx, fs, ex, ea, c, n, l, q2⟩ => ?_) hs
  subst ex
  obtain rfl : ov = Value.ref a := rx
  exact setattr_ok I2 ea c n l ry fun s3 I3 => ⟨σ, _, I3, q2⟩
theorem ps_fldaug {op : Operator} {rd : V → V → Hp → VK → Prop} (ha : PE X o ta) (hv : PE X value tv) (hop : InOp X op rd) : PS X (.AugAssign (.Attribute o f tpos) op value pos) (sFldAug X.K ta tv rd f) := by
  intro pins s σ H D I h
  refine wpAny_AugAssign_AttributeAny (thn (ha pins s σ H _ I h) fun ov s1 ⟨x, H1, I1, rx, a, C, dx, fs, v, ex, ea, c, n, l, q⟩ => ?_)
  subst ex
  obtain rfl : ov = Value.ref a := rx
  refine getattr_ok I1 ea c n l fun u s2 I2 ru => thn (hv pins s2 σ H1 _ I2 q) fun w3 s3 ⟨y, H2, I3, ry, q3⟩ => thn (hop pins s3 σ H2 v y u w3 _ I3 ru ry q3) fun w4 s4 ⟨z, H3, I4, rz, dx', fs', ea', l', q4⟩ => ?_
  exact setattr_ok I4 ea' c n l' rz fun s5 I5 => ⟨σ, _, I5, q4⟩
inductive rAdd_I (x : V) (y : V) (H : Hp) (Q : VK) : Prop
  | mk : ∀ i j, x = .int i → y = .int j → Q (.int (i + j)) H → rAdd_I x y H Q
def rAdd : V → V → Hp → VK → Prop := fun x y H Q => rAdd_I x y H Q
theorem in_add : InOp X .Add rAdd := by
  rintro pins s σ H x y u v Q I rx ry ⟨i, j, rfl, rfl, q⟩
  obtain ⟨t, rfl⟩ := (show ∃ t, u = Value.int i t from rx)
  obtain ⟨t', rfl⟩ := (show ∃ t', v = Value.int j t' from ry)
  exact PyProof.Rows.iadd_int ⟨.int (i + j), H, I.tok _, ⟨_, rfl⟩, q⟩
end
section
variable {X : Cx} {pins : List (Addr × Obj)} {σ : St} {H : Hp} {s : Shared} {A : Around} {E : Value → Shared → Prop} {Q : Value → Shared → Prop} {c : Value} {b : Bool}
/-- the type of a value, as the fragment's deciders take it; for an instance its class -/
inductive TyOf (K : PySem.W.Frag) (H : Hp) : V → Value → Prop where
  | non : TyOf K H .non (.type "NoneType")
  | bl (x : Bool) : TyOf K H (.bl x) (.type "bool")
  | int (i : Int) : TyOf K H (.int i) (.type "int")
  | str (x : Str) : TyOf K H (.str x) (.type "str")
  | flt (x : UInt64) : TyOf K H (.flt x) (.type "float")
  | lst {a : Addr} {xs : List V} (e : H a = some (.lst xs)) : TyOf K H (.ref a) (.type "list")
  | frz {a : Addr} {o : Obj} {xs : List V} (e : H a = some (.frz o (.lst xs))) : TyOf K H (.ref a) (.type "list")
  | tup {a : Addr} {xs : List V} (e : H a = some (.tup xs)) : TyOf K H (.ref a) (.type "tuple")
  | dK {a : Addr} {kvs : List (Key × V)} (e : H a = some (.dK kvs)) : TyOf K H (.ref a) (.type "dict")
  | dT {a : Addr} {kvs : List (List Key × V)} (e : H a = some (.dT kvs)) : TyOf K H (.ref a) (.type "dict")
  | ins {a C dx : Addr} {fs : List (Str × V)} (e : H a = some (.ins C dx fs)) (cl : Cls K C) (ha : PySem.W.findIn K (.ref C) "__class__" = some (some (.builtin "object.__class__")))
      (hn : PySem.W.specialIn K (.builtin "object.__class__") "__get__" = some (some (.builtin "getset_descriptor.__get__"))) (htk : PySem.W.takesIn K (.builtin "object.__class__") = some true)
      (hm : PySem.W.mroIn K C (.type "object") = some true) : TyOf K H (.ref a) (.ref C)
/-- isinstance(x, c) for one class c, a built-in or an own one: kitOne's answer -/
theorem isinst_ok {x : V} {u t : Value} (I : Inv X pins σ H s) (rx : RelV x u) (ty : TyOf X.K H x t) (e : PySem.W.kitOne X.K t c = some b) (h : ∀ tk, Q (.bool b) { s with toks := tk }) :
    wpAny (model X.prog X.w) A (call (.builtin "isinstance") [u, c]) Q E s := by
  cases ty with
  | non => cases (show u = Value.none from rx); exact PySem.W.kia_one PySem.W.kitx_none I.kIn True.intro e (fun z => nomatch z) h
  | bl y => cases (show u = Value.bool y from rx); exact PySem.W.kia_one PySem.W.kitx_bool I.kIn True.intro e (fun z => nomatch z) h
  | int i => obtain ⟨t, q⟩ := (show ∃ t, u = Value.int i t from rx); cases q; exact PySem.W.kia_one PySem.W.kitx_int I.kIn True.intro e (fun z => nomatch z) h
  | str y => obtain ⟨t, q⟩ := (show ∃ t, u = Value.str y t from rx); cases q; exact PySem.W.kia_one PySem.W.kitx_str I.kIn True.intro e (fun z => nomatch z) h
  | flt y => obtain ⟨t, q⟩ := (show ∃ t, u = Value.float y t from rx); cases q; exact PySem.W.kia_one PySem.W.kitx_float I.kIn True.intro e (fun z => nomatch z) h
  | @lst a xs ea =>
    cases (show u = Value.ref a from rx)
    obtain ⟨_, _, n, _, h1⟩ := (show ObjOk X.prog X.w H s.heap a (.lst xs) from I.hok a _ ea)
    exact PySem.W.kia_one PySem.W.kitx_list I.kIn ⟨_, h1, rfl⟩ e (fun z => nomatch z) h
  | @frz a ob xs ea =>
    cases (show u = Value.ref a from rx)
    obtain ⟨_, _, _, n, _, h1⟩ := (show ObjOk X.prog X.w H s.heap a (.frz ob (.lst xs)) from I.hok a _ ea)
    exact PySem.W.kia_one PySem.W.kitx_list I.kIn ⟨_, h1, rfl⟩ e (fun z => nomatch z) h
  | @tup a xs ea =>
    cases (show u = Value.ref a from rx)
    obtain ⟨_, _, _, p⟩ := (show ObjOk X.prog X.w H s.heap a (.tup xs) from I.hok a _ ea)
    obtain ⟨o, h1, h2, _⟩ := p
    exact PySem.W.kia_one PySem.W.kitx_tuple I.kIn ⟨o, h1, h2⟩ e (fun z => nomatch z) h
  | @dK a kvs ea =>
    cases (show u = Value.ref a from rx)
    obtain ⟨_, _, vs, _, p⟩ := (show ObjOk X.prog X.w H s.heap a (.dK kvs) from I.hok a _ ea)
    obtain ⟨o, es, ep, h1, h2, _⟩ := p
    exact PySem.W.kia_one PySem.W.kitx_dict I.kIn ⟨o, h1, h2.1⟩ e (fun z => nomatch z) h
  | @dT a kvs ea =>
    cases (show u = Value.ref a from rx)
    obtain ⟨_, _, xs, _, o, es, ep, h1, h2, _⟩ := (show ObjOk X.prog X.w H s.heap a (.dT kvs) from I.hok a _ ea)
    exact PySem.W.kia_one PySem.W.kitx_dict I.kIn ⟨o, h1, h2.1⟩ e (fun z => nomatch z) h
  | @ins a C dx fs ea cl ha hn htk hm =>
    cases (show u = Value.ref a from rx)
    obtain ⟨mA, O, _⟩ := ins_get I.hok ea
    obtain ⟨od, J, _⟩ := O.look
    exact PySem.W.kia_one (PySem.W.kitx_own (cl.get _) cl.hd ha hn htk hm) I.kIn J e (fun z => nomatch z) h
end
end L2
namespace L2
open PySem PySem.Spec PyProof.Rows
structure Room (k : Nat) (A : Around) : Prop where
  hd : A.handled = none
  dp : A.depth + 3 * k + 5 < recursionLimit
  un : A.units + 16 * k + 200 < cLine
  gd : A.guards = some []
theorem Room.mono {j k : Nat} {A : Around} (r : Room k A) (h : j ≤ k) : Room j A := ⟨r.hd, by have := r.dp; omega, by have := r.un; omega, r.gd⟩
theorem Room.deeper {k : Nat} {A : Around} (r : Room (k + 1) A) (env : Env) : Room k (A.deeper env) :=
  ⟨r.hd, by have := r.dp; show A.depth + 1 + 3 * k + 5 < _; omega, by have := r.un; show A.units + 3 + 16 * k + 200 < _; omega, r.gd⟩
theorem make_depth {A : Around} {C : Addr} {us : List Value} {kw : List (Str × Value)} : (A.under (.builtin "type.__call__" ⟨.ref C :: us, kw⟩)).depth = A.depth + 1 := by
  first | rfl | simp [Around.under, Code.weight, Code.isCreation, Code.isGuard, Code.isCaller, Code.frames, Code.isFrame, guardIds]
theorem make_units {A : Around} {C : Addr} {us : List Value} {kw : List (Str × Value)} : (A.under (.builtin "type.__call__" ⟨.ref C :: us, kw⟩)).units = A.units + 1 := by
  first | rfl | simp [Around.under, Code.cUnits, Code.frames, Code.isFrame]
theorem make_guards {A : Around} {C : Addr} {us : List Value} {kw : List (Str × Value)} (h : A.guards = some []) : (A.under (.builtin "type.__call__" ⟨.ref C :: us, kw⟩)).guards = some [] := by
  first | exact h | simp [Around.under, Code.guards, Code.isGuard, pushGuards, guardIds, h]
theorem Room.make {k : Nat} {A : Around} (r : Room (k + 1) A) (C : Addr) (us : List Value) (kw : List (Str × Value)) : Room k (A.under (.builtin "type.__call__" ⟨.ref C :: us, kw⟩)) :=
  ⟨r.hd, by have := r.dp; rw [make_depth]; omega, by have := r.un; rw [make_units]; omega, make_guards r.gd⟩
theorem Room.depth {k : Nat} {A : Around} (r : Room k A) : A.depth < recursionLimit := by have := r.dp; omega
theorem Room.units {k : Nat} {A : Around} (r : Room k A) : A.units + 64 < cLine := by have := r.un; omega
def tNil : TA := fun _ H Q => Q [] H
def tCons (ta : TE) (tr : TA) : TA := fun σ H Q => ta σ H fun x H1 => tr σ H1 fun xs H2 => Q (x :: xs) H2
section
variable {X : Cx} {e : Expr} {es : List Expr} {te : TE} {t : TA} {pos : Pos}
theorem pa_nil : PA X [] tNil := fun _ _ _ _ H Q I h => Calls.spliced_nil ⟨[], H, I, .nil, h⟩
theorem pa_cons (ha : PE X e te) (hr : PA X es t) (hs : starEach (e :: es) X.env = (false, eval e X.env) :: starEach es X.env := by rfl) : PA X (e :: es) (tCons te t) := by
  intro pos pins s σ H Q I h
  rw [hs]
  show wpAny _ _ (spliced ((false, eval e X.env) :: backTo pos (starEach es X.env))) _ _ s
  refine Calls.spliced_cons (thn (ha pins s σ H _ I h) fun u s1 ⟨x, H1, I1, r1, q1⟩ => ?_)
  exact thn (hr pos pins s1 σ H1 _ I1 q1) fun us s2 ⟨xs, H2, I2, r2, q2⟩ => ⟨x :: xs, H2, I2, .cons r1 r2, q2⟩
def tLst (t : TA) : TE := fun σ H Q => t σ H fun xs H1 => xs.length ≤ sizeLine ∧ ∀ p, H1 p = none → Q (.ref p) (upd H1 p (.lst xs))
theorem pe_lst (h : PA X es t) : PE X (.List es pos) (tLst t) := by
  intro pins s σ H Q I hq
  refine wpAny_List_spliced (thn (h pos pins s σ H _ I hq) fun us s1 ⟨xs, H1, I1, r, z, q⟩ => ⟨by rw [← r.length]; exact z, ?_⟩)
  have hf : H1 s1.heap.objs.size = none := I1.hok.fresh (Nat.le_refl _)
  refine ⟨.ref s1.heap.objs.size, upd H1 s1.heap.objs.size (.lst xs), I1.laid (t' := s1.toks) (fun b u e => Heap.get?_push_of_some _ e) (Nat.le_refl _) ?_, rfl, q _ hf⟩
  exact ⟨z, us, 0, r, Heap.get?_push_size _ rfl⟩
end
/-- a def's promise: the bound arguments in the parameters' order, the heap, the wanted end, the wanted exception -/
abbrev Sp := List V → Hp → VK → XK → Prop
/-- how an exception lies behind a call (file 08 gives it): the callers' frames, abstract heap and state ahead of the call, the wish, the exception, the state -/
abbrev CXT := List Env → Hp → Shared → XK → Value → Shared → Prop
/-- the state at a call -/
structure Env0 (P : Program) (w : World) (K : PySem.W.Frag) (mg : Str → Option Value) (base : Heap) (A : Around) (outer : List Env) (s : Shared) (H : Hp) : Prop where
  frames : A.frames = some outer
  mod : Mod K mg base
  bs : ∀ b o, base.get? b = some o → s.heap.get? b = some o ∧ H b = none
  bsz : base.objs.size ≤ s.heap.objs.size
  funs : s.heap.FunFrames base outer
  frf : ∀ b ∈ frs outer, H b = none
  hok : HOk P w H s.heap
  bare : AllBare s.gens
/-- a call's end -/
def CE (outer : List Env) (P : Program) (w : World) (H : Hp) (s : Shared) (Q : VK) (u : Value) (s' : Shared) : Prop :=
  ∃ v H', s'.os = s.os ∧ AllBare s'.gens ∧ Un (frs outer) [] H H' s.heap s'.heap ∧ HOk P w H' s'.heap ∧ RelV v u ∧ Q v H'
def CR (CX : CXT) (outer : List Env) (P : Program) (w : World) (H : Hp) (s : Shared) (Q : VK) (E : XK) (r : Result) (s' : Shared) : Prop :=
  match r with
  | .ok (.ret u) => CE outer P w H s Q u s'
  | .ok _ => False
  | .error e => CX outer H s E e s'
structure FnOk (P : Program) (w : World) (K : PySem.W.Frag) (mg : Str → Option Value) (base : Heap) (CX : CXT) (k : Nat) (f : Addr) (fd : FuncData) (ps : List Str) (sp : Sp) : Prop where
  len : ∀ vs H Q E, sp vs H Q E → vs.length = ps.length
  run : ∀ (A : Around) (outer : List Env) (s : Shared) (H : Hp) (args : Args) (us : List Value) (vs : List V) (Q : VK) (E : XK), Room k A → Env0 P w K mg base A outer s H → BindsTo s fd args (ps.zip us) → Vals vs us → sp vs H Q E →
    codeAny (model P w) A (.call (.ref f) args) (CR CX outer P w H s Q E) s
theorem FnOk.mono {P : Program} {w : World} {K : PySem.W.Frag} {mg : Str → Option Value} {base : Heap} {CX : CXT} {j k : Nat} {f : Addr} {fd : FuncData} {ps : List Str} {sp : Sp} (F : FnOk P w K mg base CX j f fd ps sp) (h : j ≤ k) :
    FnOk P w K mg base CX k f fd ps sp := ⟨F.len, fun A outer s H args us vs Q E hr => F.run A outer s H args us vs Q E (hr.mono h)⟩
theorem Env0.make {P : Program} {w : World} {K : PySem.W.Frag} {mg : Str → Option Value} {base : Heap} {A : Around} {outer : List Env} {s : Shared} {H : Hp} (e : Env0 P w K mg base A outer s H) (C : Addr) (us : List Value) (kw : List (Str × Value)) :
    Env0 P w K mg base (A.under (.builtin "type.__call__" ⟨.ref C :: us, kw⟩)) outer s H := ⟨by first | exact e.frames | (simpa [Around.under, Code.envs, Code.isFrame, pushEnvs] using e.frames), e.mod, e.bs, e.bsz, e.funs, e.frf, e.hok, e.bare⟩
section
variable {X : Cx} {pins : List (Addr × Obj)} {σ : St} {H : Hp} {s s' : Shared}
/-- from a body: what a callee wants -/
theorem Inv.env0 (I : Inv X pins σ H s) : Env0 X.prog X.w X.K X.mg X.base X.A X.stack s H :=
  ⟨I.ok.frames, I.ok.mod, I.bs, Nat.le_trans I.ok.bsz I.sz, I.stack, I.stkFree, I.hok, I.bare⟩
/-- behind a call -/
theorem Inv.after {Q : VK} {u : Value} (I : Inv X pins σ H s) (h : CE X.stack X.prog X.w H s Q u s') : EP X pins σ Q u s' := by
  obtain ⟨v, H', os, bare, un, hok, r, q⟩ := h
  obtain ⟨hh, g, d, t, os'⟩ := s'
  obtain rfl : os' = s.os := os
  exact ⟨v, H', I.call (h' := hh) (g' := g) (d' := d) (t' := t) (ch := []) un hok bare (fun b z => absurd z (by simp)), r, q⟩
end
/-- f(..): the written arguments, then the defaults dvs; E: what is wanted of an exception -/
def tCall (sp : Sp) (dvs : List V) (E : XK) (t : TA) : TE := fun σ H Q => t σ H fun vs H1 => sp (vs ++ dvs) H1 Q E
/-- o.m(..) of an instance of the class at C -/
inductive tMeth_I (C : Addr) (m : Str) (sp : Sp) (dvs : List V) (E : XK) (t : TA) (σ : St) (Q : VK) (x : V) (H1 : Hp) : Prop
  | mk : ∀ a dx fs, x = .ref a → H1 a = some (.ins C dx fs) → fs.lookup m = none → (t σ H1 fun vs H2 => sp (x :: (vs ++ dvs)) H2 Q E) → tMeth_I C m sp dvs E t σ Q x H1
def tMeth (C : Addr) (m : Str) (sp : Sp) (dvs : List V) (E : XK) (ta : TE) (t : TA) : TE := fun σ H Q => ta σ H fun x H1 => tMeth_I C m sp dvs E t σ Q x H1
/-- C(..): a new instance and its dict, then __init__ -/
def tMake (C : Addr) (sp : Sp) (dvs : List V) (E : XK) (t : TA) : TE := fun σ H Q => t σ H fun vs H1 => ∀ x dx, H1 x = none → H1 dx = none → dx ≠ x →
  sp (.ref x :: (vs ++ dvs)) (upd (upd H1 dx (.own x)) x (.ins C dx [])) (fun v H2 => v = .non ∧ Q (.ref x) H2) E
/-- how the parameters are bound: us the positional arguments, kw the keywords' values by name, ds the defaults that fill up -/
def Binds (K : PySem.W.Frag) (fd : FuncData) (ps : List Str) (ds : List Value) : Prop :=
  ∀ (s : Shared) (us : List Value), K.In s.heap → (us ++ ds).length = ps.length → BindsTo s fd ⟨us, []⟩ (ps.zip (us ++ ds))
/-- every parameter is given -/
theorem Binds.all {K : PySem.W.Frag} {fd : FuncData} {ps : List Str} (h : ∀ us : List Value, us.length = ps.length → bindArgs fd ⟨us, []⟩ = pure (ps.zip us)) : Binds K fd ps [] := fun s us _ hl => by
  rw [List.append_nil] at hl ⊢
  exact .of_eq (h us hl)
/-- an exception of a callee reaches what this body wants of exceptions -/
def Passes (CX : CXT) (X : Cx) (E : XK) : Prop := ∀ (pins : List (Addr × Obj)) (σ : St) (H : Hp) (s : Shared) (e : Value) (s' : Shared), Inv X pins σ H s → CX X.stack H s E e s' → X.xe e s'
section
variable {X : Cx} {CX : CXT} {k : Nat} {f C : Addr} {fd : FuncData} {ps : List Str} {sp : Sp} {dvs : List V} {ds : List Value} {E : XK} {x m : Str} {p pos apos : Pos} {e o : Expr} {es : List Expr} {ta : TE} {t : TA}
/-- the callee runs -/
theorem run_fn {pins : List (Addr × Obj)} {σ : St} {H : Hp} {s : Shared} {Q : VK} {us : List Value} {vs : List V} (F : FnOk X.prog X.w X.K X.mg X.base CX k f fd ps sp) (hr : Room k X.A) (hb : Binds X.K fd ps ds) (hd : Vals dvs ds) (hx : Passes CX X E)
    (I : Inv X pins σ H s) (r : Vals vs us) (h : sp (vs ++ dvs) H Q E) : wpAny (model X.prog X.w) X.A (call (.ref f) us) (EP X pins σ Q) X.xe s := by
  have r2 : Vals (vs ++ dvs) (us ++ ds) := r.append hd
  have hl : (us ++ ds).length = ps.length := by rw [← r2.length]; exact F.len _ _ _ _ h
  refine wpAny_call (codeAny_mono (F.run X.A X.stack s H ⟨us, []⟩ (us ++ ds) (vs ++ dvs) Q E hr I.env0 (hb s us I.kIn hl) r2 h) fun r s' hq => ?_)
  cases r with
  | error e => exact hx pins σ H s e s' I hq
  | ok fl =>
    cases fl with
    | ret u => exact I.after hq
    | next => exact False.elim hq
    | brk => exact False.elim hq
    | cont => exact False.elim hq
theorem pe_call (F : FnOk X.prog X.w X.K X.mg X.base CX k f fd ps sp) (hr : Room k X.A) (hg : Gl X x) (hm : X.mg x = some (.ref f)) (hk : PySem.W.keepIn X.K (.ref f) = true) (hb : Binds X.K fd ps ds) (hd : Vals dvs ds) (hx : Passes CX X E)
    (ha : PA X (e :: es) t) (hdb : (x == ("__debug__" : Str)) = false := by decide) (he : starEach (e :: es) X.env = (false, eval e X.env) :: starEach es X.env := by rfl) (hpl : (backTo pos (starEach es X.env)).any (·.1) = false := by rfl) :
    PE X (.Call (.Name x p) (e :: es) [] pos) (tCall sp dvs E t) := by
  intro pins s σ H Q I h
  refine wpAny_Call_Name_kw (ld_glob I hg hm ?_ hdb)
  refine PySem.W.callWith_K (h₀ := X.base) I.ok.mod.kin hk (thn (ha pos pins s σ H _ I h) fun us s1 ⟨vs, H1, I1, r, q⟩ => ⟨I1.kIn, ?_⟩) he hpl
  exact run_fn F hr hb hd hx I1 r q
/-- o.m(e, ..) -/
theorem pe_meth {pl : Sem Bool} (he : PE X o ta) (c : Cls X.K C) (hm : Meth X.K C m f) (F : FnOk X.prog X.w X.K X.mg X.base CX k f fd ps sp) (hr : Room k X.A) (hb : Binds X.K fd ps ds) (hd : Vals dvs ds) (hx : Passes CX X E) (ha : PA X (e :: es) t)
    (hst : starEach (e :: es) X.env = (false, eval e X.env) :: starEach es X.env := by rfl) (hpl : (backTo pos (starEach es X.env)).any (·.1) = false := by rfl)
    (ht : eval (.Call (.Attribute o m apos) (e :: es) [] pos) X.env = (do
      let ov ← eval o X.env
      standAt apos.atName
      let (f, first) ← holding [ov] (getMethod ov m pl)
      callWith pos f first (backTo pos (starEach (e :: es) X.env)) (backToKw pos (keywordEach [] X.env))) := by rfl) :
    PE X (.Call (.Attribute o m apos) (e :: es) [] pos) (tMeth C m sp dvs E ta t) := by
  intro pins s σ H Q I h
  refine PySem.W.methodCall_KW (pl := pl) (thn (he pins s σ H _ I h) fun u s1 ⟨x, H1, I1, rx, a, dx, fs, ex, ea, l, q⟩ => ?_) ht
  subst ex
  obtain rfl : u = Value.ref a := rx
  refine getmeth_ok I1 ea c hm l ?_
  refine PySem.W.callWith_K (first := [.ref a]) (h₀ := X.base) I.ok.mod.kin hm.kp (thn (ha pos pins s1 σ H1 _ I1 q) fun us s2 ⟨vs, H2, I2, r, q2⟩ => ⟨I2.kIn, ?_⟩) hst hpl
  exact run_fn (us := .ref a :: us) (vs := .ref a :: vs) F hr hb hd hx I2 (.cons rfl r) q2
/-- o.m() -/
theorem pe_meth0 {pl : Sem Bool} (he : PE X o ta) (c : Cls X.K C) (hm : Meth X.K C m f) (F : FnOk X.prog X.w X.K X.mg X.base CX k f fd ps sp) (hr : Room k X.A) (hb : Binds X.K fd ps ds) (hd : Vals dvs ds) (hx : Passes CX X E)
    (ht : eval (.Call (.Attribute o m apos) [] [] pos) X.env = (do
      let ov ← eval o X.env
      standAt apos.atName
      let (f, first) ← holding [ov] (getMethod ov m pl)
      callWith pos f first (backTo pos (starEach [] X.env)) (backToKw pos (keywordEach [] X.env))) := by rfl) :
    PE X (.Call (.Attribute o m apos) [] [] pos) (tMeth C m sp dvs E ta tNil) := by
  intro pins s σ H Q I h
  refine PySem.W.methodCall_KW (pl := pl) (thn (he pins s σ H _ I h) fun u s1 ⟨x, H1, I1, rx, a, dx, fs, ex, ea, l, q⟩ => ?_) ht
  subst ex
  obtain rfl : u = Value.ref a := rx
  refine getmeth_ok I1 ea c hm l ?_
  exact PySem.W.callWith_K0 (first := [.ref a]) I1.kIn hm.kp (run_fn (us := [.ref a]) (vs := [.ref a]) F hr hb hd hx I1 (.cons rfl .nil) q)
/-- what a class must have to be made -/
structure Mk (K : PySem.W.Frag) (C f : Addr) : Prop where
  makes : PySem.W.makesIn K C = true
  init : PySem.W.findIn K (.ref C) "__init__" = some (some (.ref f))
  fn : PySem.W.isFn K (.ref f) = true
  kp : PySem.W.keepIn K (.ref C) = true
theorem run_make {pins : List (Addr × Obj)} {σ : St} {H : Hp} {s : Shared} {Q : VK} {us : List Value} {vs : List V} (M : Mk X.K C f) (F : FnOk X.prog X.w X.K X.mg X.base CX k f fd ps sp) (hr : Room (k + 1) X.A) (hb : Binds X.K fd ps ds) (hd : Vals dvs ds)
    (hx : Passes CX X E) (I : Inv X pins σ H s) (r : Vals vs us)
    (h : ∀ x dx, H x = none → H dx = none → dx ≠ x → sp (.ref x :: (vs ++ dvs)) (upd (upd H dx (.own x)) x (.ins C dx [])) (fun v H2 => v = .non ∧ Q (.ref x) H2) E) :
    wpAny (model X.prog X.w) X.A (call (.ref C) us) (EP X pins σ Q) X.xe s := by
  have hq := h (s.heap.objs.size + 1) s.heap.objs.size (I.hok.fresh (Nat.le_succ _)) (I.hok.fresh (Nat.le_refl _)) (Nat.ne_of_lt (Nat.lt_succ_self _))
  have I2 := Inv.made (C := C) I
  have r2 : Vals (V.ref (s.heap.objs.size + 1) :: (vs ++ dvs)) (Value.ref (s.heap.objs.size + 1) :: (us ++ ds)) := .cons rfl (r.append hd)
  have hl : (Value.ref (s.heap.objs.size + 1) :: us ++ ds).length = ps.length := by
    have e := r2.length
    rw [F.len _ _ _ _ hq] at e
    exact e.symm
  refine wpAny_call (make_map (f := f) I.kIn M.makes M.init (beq_iff_eq.mp M.fn) (codeAny_mono (F.run _ X.stack _ _ ⟨Value.ref (s.heap.objs.size + 1) :: us, []⟩ (Value.ref (s.heap.objs.size + 1) :: (us ++ ds)) _ _ E (hr.make C us [])
    (I2.env0.make C us []) (hb _ (Value.ref (s.heap.objs.size + 1) :: us) I2.kIn hl) r2 hq) fun r s' hq' => ?_))
  cases r with
  | error e => exact hx pins σ _ _ e s' I2 hq'
  | ok fl =>
    cases fl with
    | ret u =>
      obtain ⟨v, H', I3, rv, ev, q3⟩ := I2.after hq'
      subst ev
      exact ⟨rv, ⟨V.ref (s.heap.objs.size + 1), H', I3, rfl, q3⟩⟩
    | next => exact False.elim hq'
    | brk => exact False.elim hq'
    | cont => exact False.elim hq'
theorem pe_make (M : Mk X.K C f) (F : FnOk X.prog X.w X.K X.mg X.base CX k f fd ps sp) (hr : Room (k + 1) X.A) (hg : Gl X x) (hm : X.mg x = some (.ref C)) (hb : Binds X.K fd ps ds) (hd : Vals dvs ds) (hx : Passes CX X E)
    (ha : PA X (e :: es) t) (hdb : (x == ("__debug__" : Str)) = false := by decide) (he : starEach (e :: es) X.env = (false, eval e X.env) :: starEach es X.env := by rfl) (hpl : (backTo pos (starEach es X.env)).any (·.1) = false := by rfl) :
    PE X (.Call (.Name x p) (e :: es) [] pos) (tMake C sp dvs E t) := by
  intro pins s σ H Q I h
  refine wpAny_Call_Name_kw (ld_glob I hg hm ?_ hdb)
  refine PySem.W.callWith_K (h₀ := X.base) I.ok.mod.kin M.kp (thn (ha pos pins s σ H _ I h) fun us s1 ⟨vs, H1, I1, r, q⟩ => ⟨I1.kIn, ?_⟩) he hpl
  exact run_make M F hr hb hd hx I1 r q
end
section
variable {X : Cx} {CX : CXT} {k : Nat} {f C : Addr} {fd : FuncData} {ps ks : List Str} {sp : Sp} {E : XK} {x m : Str} {p pos apos kpos : Pos} {e o : Expr} {es : List Expr} {kws : List Keyword} {te ta : TE} {t tk : TA} {nm : Option Str}
variable {g : List Value → List Value → List Value} {gV : List V → List V → List V}
end
/-- names: the parameters first -/
structure FnScope (N P : List Str) (sc : Scope) : Prop where
  kind : sc.kind = .function
  co : sc.isCoroutine = false
  gen : sc.isGenerator = false
  nd : N.Nodup
  pre : N.take P.length = P
  par : ∀ x ∈ P, sc.names.lookup x = some .local ∨ sc.names.lookup x = some .cell
  nofree : ∀ y ∈ sc.names, y.2 ≠ .free
theorem bindL_out {kindOf : Str → Option NameKind} {x : Str} : ∀ {binds : List (Str × Value)} {m : Str → Option Value}, (∀ v, (x, v) ∉ binds) → bindL kindOf binds m x = m x
  | [], _, _ => rfl
  | (n, v) :: r, m, h => by
    unfold bindL
    rw [bindL_out fun w hw => h w (List.mem_cons_of_mem _ hw)]
    split
    · have : x ≠ n := by rintro rfl; exact h v List.mem_cons_self
      simp [this]
    · rfl
theorem bindC_out {kindOf : Str → Option NameKind} {x : Str} : ∀ {binds : List (Str × Value)} {m : Str → Option Value}, (∀ v, (x, v) ∉ binds) → bindC kindOf binds m x = m x
  | [], _, _ => rfl
  | (n, v) :: r, m, h => by
    unfold bindC
    rw [bindC_out fun w hw => h w (List.mem_cons_of_mem _ hw)]
    split
    · rfl
    · have : x ≠ n := by rintro rfl; exact h v List.mem_cons_self
      simp [this]
theorem bindL_get {kindOf : Str → Option NameKind} {x : Str} {v : Value} : ∀ {P : List Str} {vs : List Value} {i : Nat} {m : Str → Option Value}, P.Nodup → P[i]? = some x → vs[i]? = some v → kindOf x = some .local →
    bindL kindOf (P.zip vs) m x = some v
  | [], _, _, _, _, h, _, _ => by simp at h
  | _ :: _, [], _, _, _, _, h, _ => by simp at h
  | p :: P, w :: vs, 0, m, nd, h1, h2, hk => by
    simp at h1 h2; subst h1; subst h2
    show bindL kindOf ((p, w) :: P.zip vs) m p = _
    unfold bindL
    rw [bindL_out fun v hv => (List.nodup_cons.mp nd).1 (List.of_mem_zip hv).1, if_pos hk]
    simp
  | p :: P, w :: vs, i + 1, m, nd, h1, h2, hk => by
    show bindL kindOf ((p, w) :: P.zip vs) m x = _
    unfold bindL
    exact bindL_get (i := i) (List.nodup_cons.mp nd).2 (by simpa using h1) (by simpa using h2) hk
theorem bindC_get {kindOf : Str → Option NameKind} {x : Str} {v : Value} : ∀ {P : List Str} {vs : List Value} {i : Nat} {m : Str → Option Value}, P.Nodup → P[i]? = some x → vs[i]? = some v → kindOf x ≠ some .local →
    bindC kindOf (P.zip vs) m x = some v
  | [], _, _, _, _, h, _, _ => by simp at h
  | _ :: _, [], _, _, _, _, h, _ => by simp at h
  | p :: P, w :: vs, 0, m, nd, h1, h2, hk => by
    simp at h1 h2; subst h1; subst h2
    show bindC kindOf ((p, w) :: P.zip vs) m p = _
    unfold bindC
    rw [bindC_out fun v hv => (List.nodup_cons.mp nd).1 (List.of_mem_zip hv).1, if_neg hk]
    simp
  | p :: P, w :: vs, i + 1, m, nd, h1, h2, hk => by
    show bindC kindOf ((p, w) :: P.zip vs) m x = _
    unfold bindC
    exact bindC_get (i := i) (List.nodup_cons.mp nd).2 (by simpa using h1) (by simpa using h2) hk
/-- the names' values at the entry -/
def start (N : List Str) (vs : List V) : St := vs.map some ++ List.replicate (N.length - vs.length) none
/-- the context of a def's body, at its entry; an exception leaves the frame, then lies as CX says -/
def cxOf (CX : CXT) (P : Program) (w : World) (K : PySem.W.Frag) (mg : Str → Option Value) (base : Heap) (N : List Str) (qual : Str) (scope : Scope) (f : Addr) (cd : Value) (A : Around) (outer : List Env) (s : Shared) (H : Hp) (E : XK) : Cx where
  prog := P
  w := w
  K := K
  mg := mg
  base := base
  A := A.deeper (envOfC qual scope s.heap.objs.size f cd)
  N := N
  s₀ := s
  H₀ := H
  env := envOfC qual scope s.heap.objs.size f cd
  outer := outer
  stack := envOfC qual scope s.heap.objs.size f cd :: outer
  ex := []
  calm := true
  fn := fun _ => true
  pn := []
  xe := fun e s' => wpAny (model P w) (A.deeper (envOfC qual scope s.heap.objs.size f cd)) (leaving (envOfC qual scope s.heap.objs.size f cd) e) (fun _ s'' => CX outer H s E e s'') (fun e' s'' => CX outer H s E e' s'') s'
theorem cell_has {sc : Scope} {n : Nat} {x : Str} (h : sc.names.lookup x = some .cell) : ∃ c, (cellsFrom n sc.names []).lookup x = some c := by
  have q := PySem.W.cellsFrom_some sc.names n [] (.inl h)
  exact Option.isSome_iff_exists.mp q
theorem inv_start {CX : CXT} {P : Program} {w : World} {K : PySem.W.Frag} {mg : Str → Option Value} {base : Heap} {N ps : List Str} {qual : Str} {scope : Scope} {f : Addr} {cd : Value} {A : Around} {outer : List Env} {s s1 : Shared} {H : Hp} {E : XK} {us : List Value} {vs : List V}
    (S : FnScope N ps scope) (hd : A.handled = none) (e0 : Env0 P w K mg base A outer s H) (hl : vs.length = ps.length) (r : Vals vs us)
    (x : InCallC s s.heap.objs.size (bindL (envOfC qual scope s.heap.objs.size f cd).kindOf (ps.zip us) fun _ => none) (cellsFrom (s.heap.objs.size + 1) scope.names []) (bindC (envOfC qual scope s.heap.objs.size f cd).kindOf (ps.zip us) fun _ => none) s1) :
    Inv (cxOf CX P w K mg base N qual scope f cd A outer s H E) [] (start N vs) H s1 := by
  have hpl : ps.length ≤ N.length := by have := congrArg List.length S.pre; rw [List.length_take] at this; omega
  obtain ⟨h1, tk, rfl, hk⟩ := x.done
  have noA : ∀ b : Addr, b ∉ (cxOf CX P w K mg base N qual scope f cd A outer s H E).ex := fun b z => absurd (show b ∈ ([] : List Addr) from z) (by simp)
  refine ⟨⟨e0.mod, S.kind, rfl, rfl, Nat.le_refl _, fun y z c h1 h2 => ?_, fun y hy => ?_, fun y c _ h => ?_, fun _ => hd, Around.frames_deeper e0.frames, .inr ⟨rfl, rfl⟩, fun b z => absurd z (noA b), e0.bs, e0.bsz, fun b _ _ => noA b, fun b z => absurd z (noA b), e0.funs, e0.frf⟩,
    rfl, e0.bare, Un.kept hk, ⟨_, x.toInCall.ns, fun i y v h1 h2 h3 => ?_⟩, fun y c h => ⟨_, x.cell y c h⟩, e0.hok.fresh (Nat.le_refl _), fun y c h => ?_, fun p hp => absurd (show p ∈ ([] : List (Addr × Obj)) from hp) (by simp), e0.hok.kept hk, ?_⟩
  · exact name_of_addr x.apart (PySem.mem_of_lookup h1) (PySem.mem_of_lookup h2)
  · have hy : scope.names.lookup y = some .cell ∨ scope.names.lookup y = some .free := hy
    rcases hy with hy | hy
    · exact cell_has hy
    · exact absurd rfl (S.nofree _ (PySem.mem_of_lookup hy))
  · exact Nat.le_of_lt (x.above y c (PySem.mem_of_lookup h))
  · have hi : i < vs.length := by
      unfold start at h2
      by_cases hi : i < vs.length
      · exact hi
      · rw [List.getElem?_append_right (by simpa using hi)] at h2
        rw [List.getElem?_replicate] at h2
        split at h2 <;> cases h2
    have ha : vs[i]? = some v := by
      unfold start at h2
      rw [List.getElem?_append_left (by simpa using hi), List.getElem?_map] at h2
      cases e : vs[i]? with
      | none => rw [e] at h2; cases h2
      | some a => rw [e] at h2; cases h2; rfl
    obtain ⟨u, hu, rv⟩ := r.get ha
    have hp : ps[i]? = some y := by
      rw [← S.pre, List.getElem?_take_of_lt (by omega)]; exact h1
    have ndP : ps.Nodup := by rw [← S.pre]; exact S.nd.sublist (List.take_sublist _ _)
    refine ⟨u, rv, ?_⟩
    rcases S.par y (List.mem_of_getElem? hp) with k | k
    · exact .inl ⟨k, bindL_get ndP hp hu k⟩
    · obtain ⟨c, e⟩ := cell_has (n := s.heap.objs.size + 1) k
      refine .inr ⟨.inl k, c, e, ?_⟩
      have q := x.cell y c e
      rw [bindC_get ndP hp hu (by show scope.names.lookup y ≠ _; rw [k]; decide)] at q
      exact q
  · exact e0.hok.fresh (Nat.le_of_lt (x.above y c (PySem.mem_of_lookup h)))
  · unfold start
    show _ = N.length
    rw [List.length_append, List.length_map, List.length_replicate]
    omega
/-- THE RULE: a def (or a method) of the text, by its body. The body's reading t is chosen for each entry; it is run at the parameters' values -/
theorem fn_of {CX : CXT} {P : Program} {w : World} {K : PySem.W.Frag} {mg : Str → Option Value} {base : Heap} {k : Nat} {f : Addr} {name qual : Str} {params : Arguments} {body : List Stmt} {scope : Scope} {dV kV doc pm cdv ct oc : Value} {an od : Option Addr}
    {osl : Array (Option Value)} {N ps : List Str} {sp : Sp} (lk : K.lookup f = some ⟨oc, od, .func (PySem.W.fnOf name qual params body scope dV kV doc pm an cdv ct), osl⟩) (hcd : PySem.W.codeIn K cdv qual = true) (S : FnScope N ps scope)
    (len : ∀ vs H Q E, sp vs H Q E → vs.length = ps.length)
    (hbody : ∀ (A : Around) (outer : List Env) (s : Shared) (H : Hp) (vs : List V) (Q : VK) (E : XK), Room k (A.deeper (envOfC qual scope s.heap.objs.size f cdv)) → sp vs H Q E →
      ∃ t, PSs (cxOf CX P w K mg base N qual scope f cdv A outer s H E) body t ∧ t { nx := fun _ H' => Q .non H', rt := Q } (start N vs) H) :
    FnOk P w K mg base CX (k + 1) f (PySem.W.fnOf name qual params body scope dV kV doc pm an cdv ct) ps sp := by
  refine ⟨len, fun A outer s H args us vs Q E hr e0 hb r hsp => ?_⟩
  have hl := len _ _ _ _ hsp
  have KX : K.In s.heap := e0.mod.kin.keeps fun b o e => (e0.bs b o e).1
  have lim : s.heap.NoLimit := e0.mod.nolimit.keeps fun b o e => (e0.bs b o e).1
  have hkind : ∀ y ∈ ps.zip us, scope.names.lookup y.1 = some .local ∨ (scope.names.lookup y.1 = some .cell ∧ ((cellsFrom (s.heap.objs.size + 1) scope.names []).lookup y.1).isSome = true) := fun ⟨n, v⟩ hy => by
    rcases S.par n (List.of_mem_zip hy).1 with q | q
    · exact .inl q
    · exact .inr ⟨q, PySem.W.cellsFrom_some _ _ _ (.inl q)⟩
  refine codeAny_call_function hr.depth (KX _ _ lk) rfl S.co S.gen rfl (PySem.W.codeRec_of KX hcd) (hb _ _ _ _ ?_)
  refine wpAny_newFunctionEnv_cells S.kind hkind fun env he s1 x => ?_
  subst he
  refine ⟨lim.keeps x.toInCall.keep, codeAny_func ?_⟩
  obtain ⟨t, ht, hq⟩ := hbody A outer s H vs Q E (hr.deeper _) hsp
  have I : Inv (cxOf CX P w K mg base N qual scope f cdv A outer s H E) [] (start N vs) H s1 := inv_start S hr.hd e0 hl r x
  refine wpAny_mono (ht [] s1 (start N vs) H _ I hq) (fun fl s' hs => ?_) fun e s' hs => hs
  have fin : ∀ {σ' : St} {H' : Hp} {v : V} {u : Value}, Inv (cxOf CX P w K mg base N qual scope f cdv A outer s H E) [] σ' H' s' → RelV v u → Q v H' → CE outer P w H s Q u s' :=
    fun {σ' H' v u} J rv q => ⟨v, H', J.os, J.bare, J.base, J.hok, rv, q⟩
  cases fl with
  | ret u =>
    obtain ⟨v, σ', H', J, rv, q⟩ := hs
    exact fin J rv q
  | next =>
    obtain ⟨σ', H', J, q⟩ := hs
    exact fin (v := V.non) (u := Value.none) J rfl q
  | brk =>
    obtain ⟨_, _, _, q⟩ := hs
    exact False.elim q
  | cont =>
    obtain ⟨_, _, _, q⟩ := hs
    exact False.elim q
end L2
namespace L2
open PySem PySem.Spec PyProof.Rows
section
variable {X : Cx} {x : Str} {p pos : Pos} {e : Expr} {es : List Expr} {t : TA} {id T : String} {r : List V → Hp → VK → Prop}
def tCB (r : List V → Hp → VK → Prop) (t : TA) : TE := fun σ H Q => t σ H fun vs H1 => r vs H1 Q
/-- f(e, ..), f a built-in function -/
theorem pe_callB (hc : CallR X (.builtin id) r) (hg : Gl X x) (hm : X.mg x = none) (hv : bootBuiltins x = some (.builtin id)) (ha : PA X (e :: es) t) (hn : x ≠ "__name__" := by decide) (hdb : (x == ("__debug__" : Str)) = false := by decide)
    (he : starEach (e :: es) X.env = (false, eval e X.env) :: starEach es X.env := by rfl) (hpl : (backTo pos (starEach es X.env)).any (·.1) = false := by rfl) : PE X (.Call (.Name x p) (e :: es) [] pos) (tCB r t) := by
  intro pins s σ H Q I h
  refine wpAny_Call_Name_kw (ld_blt I hg hm hv ?_ hn hdb)
  exact PyProof.Rows.callWith_builtin1 (thn (ha pos pins s σ H _ I h) fun us s1 ⟨vs, H1, I1, r1, q1⟩ => hc pins s1 σ H1 vs us Q I1 r1 q1) he hpl
/-- T(e, ..), T a built-in type -/
theorem pe_callTy (hc : CallR X (.type T) r) (hg : Gl X x) (hm : X.mg x = none) (hv : bootBuiltins x = some (.type T)) (ha : PA X (e :: es) t) (hn : x ≠ "__name__" := by decide) (hdb : (x == ("__debug__" : Str)) = false := by decide)
    (he : starEach (e :: es) X.env = (false, eval e X.env) :: starEach es X.env := by rfl) (hpl : (backTo pos (starEach es X.env)).any (·.1) = false := by rfl) : PE X (.Call (.Name x p) (e :: es) [] pos) (tCB r t) := by
  intro pins s σ H Q I h
  refine wpAny_Call_Name_kw (ld_blt I hg hm hv ?_ hn hdb)
  exact PyProof.Rows.callWith_type1 (thn (ha pos pins s σ H _ I h) fun us s1 ⟨vs, H1, I1, r1, q1⟩ => hc pins s1 σ H1 vs us Q I1 r1 q1) he hpl
end
end L2
namespace HT
open PySem PyProof.Rows
section
open PySem.SeqAt
open PySem.AutoSeq1 (wpAny_loadPart')
open PySem.MeetsSeq PySem.MeetsSeq2 PySem.MeetsSeq3
end
section
variable {prog : Program} {w : World} {A : Around} {E : Value → Shared → Prop} {s : Shared}
/-- a slice's bound as a place among n (d where it is left out) -/
def sIx (n d : Nat) : Option Int → Nat
  | none => d
  | some v => if v < 0 then (v + (n : Int)).toNat else min v.toNat n
theorem sIx_le (n d : Nat) (hd : d ≤ n) (o : Option Int) : sIx n d o ≤ n := by
  cases o with
  | none => exact hd
  | some v =>
    show (if v < 0 then (v + (n : Int)).toNat else min v.toNat n) ≤ n
    by_cases hv : v < 0
    · rw [if_pos hv]; omega
    · rw [if_neg hv]; exact Nat.min_le_right _ _
theorem clip_eq (v : Int) (n d : Nat) : (if v < 0 then max (v + (n : Int)) 0 else min v (n : Int)) = ((sIx n d (some v) : Nat) : Int) := by
  show (if v < 0 then max (v + (n : Int)) 0 else min v (n : Int)) = (((if v < 0 then (v + (n : Int)).toNat else min v.toNat n) : Nat) : Int)
  by_cases hv : v < 0
  · simp only [if_pos hv]; omega
  · simp only [if_neg hv]; omega
theorem adjust_gen (lo hi : Option Int) (n : Nat) : Builtin.Slice.sliceAdjust lo hi 1 (n : Int) = (((sIx n 0 lo : Nat) : Int), ((sIx n n hi : Nat) : Int)) := by
  have h1 : ¬ ((1 : Int) < 0) := by omega
  unfold Builtin.Slice.sliceAdjust
  simp only [h1, if_false]
  refine Prod.ext ?_ ?_
  · cases lo with
    | none => rfl
    | some v => exact clip_eq v n 0
  · cases hi with
    | none => rfl
    | some v => exact clip_eq v n n
theorem places_gen (i j : Nat) : Builtin.Slice.slicePlaces (i : Int) (j : Int) 1 = j - i := by
  unfold Builtin.Slice.slicePlaces
  have h1 : (1 : Int) > 0 := by omega
  simp only [h1, if_true, Int.ediv_one]
  split <;> omega
theorem slicePart_ {v : Value} {o : Option Int} {Q : Option Int → Shared → Prop} (p : IsPart v o) (h : Q o s) : wpAny (model prog w) A (Builtin.Slice.slicePartIndex v) Q E s := by
  cases p with
  | none => exact slicePart_none h
  | int i t => exact slicePart_int h
theorem sliceApplied_gen {sl : Addr} {vl vu : Value} {lo hi : Option Int} {n : Nat} {Q : Int × Int × Nat → Shared → Prop} (hs : s.heap.IsSliceOf sl vl vu .none) (pl : IsPart vl lo) (pu : IsPart vu hi)
    (h : Q (((sIx n 0 lo : Nat) : Int), 1, sIx n n hi - sIx n 0 lo) s) : wpAny (model prog w) A (Builtin.Slice.sliceApplied (.ref sl) (pure (n : Int))) Q E s := by
  obtain ⟨os, hos, hcs, hds⟩ := id hs
  unfold Builtin.Slice.sliceApplied Builtin.Slice.sliceFields
  refine wpAny_bind (wpAny_bind (wpAny_field hos hds (x := vl) rfl (wpAny_bind (wpAny_field hos hds (x := vu) rfl (wpAny_bind (wpAny_field hos hds (x := .none) rfl (wpAny_pure ?_)))))))
  refine wpAny_bind (slicePart_none ?_)
  show wpAny _ _ (if ((1 : Int) == 0) = true then _ else _) _ _ s
  rw [if_neg (by decide)]
  refine wpAny_bind (slicePart_ pl (wpAny_bind (slicePart_ pu (wpAny_bind (wpAny_pure ?_)))))
  show wpAny _ _ (match Builtin.Slice.sliceAdjust lo hi 1 (n : Int) with | (lo, hi) => pure (lo, (1 : Int), Builtin.Slice.slicePlaces lo hi 1)) _ _ s
  rw [adjust_gen lo hi n]
  show wpAny _ _ (pure (((sIx n 0 lo : Nat) : Int), (1 : Int), Builtin.Slice.slicePlaces ((sIx n 0 lo : Nat) : Int) ((sIx n n hi : Nat) : Int) 1)) _ _ s
  rw [places_gen]
  exact wpAny_pure h
theorem pick_gen (xs : Array Value) (i k : Nat) : ((List.range k).filterMap fun (m : Nat) => xs[((i : Int) + (m : Int) * 1).toNat]?).toArray = ((xs.toList.drop i).take k).toArray := by
  have e : (fun (m : Nat) => xs[((i : Int) + (m : Int) * 1).toNat]?) = fun m => xs[i + m]? := by
    funext m
    have : ((i : Int) + (m : Int) * 1).toNat = i + m := by omega
    rw [this]
  rw [e]
  have := pick_run xs i k
  rw [List.filterMap_map] at this
  have e2 : ((fun x => xs[x]?) ∘ fun x => i + x) = fun m => xs[i + m]? := rfl
  rw [e2] at this
  rw [this]
theorem getItem_tuple_cut {t sl : Addr} {items : Array Value} {vl vu : Value} {lo hi : Option Int} {Q : Value → Shared → Prop} (ht : IsTup s.heap t items) (hs : s.heap.IsSliceOf sl vl vu .none) (pl : IsPart vl lo) (pu : IsPart vu hi)
    (hw : ¬ (sIx items.size 0 lo = 0 ∧ sIx items.size items.size hi = items.size))
    (h : Q (.ref s.heap.objs.size) { s with heap := s.heap.push { cls := .type "tuple", data := .seq ((items.toList.drop (sIx items.size 0 lo)).take (sIx items.size items.size hi - sIx items.size 0 lo)).toArray } })
    (hsz : items.size ≤ sizeLine) : wpAny (model prog w) A (getItem (.ref t) (.ref sl)) Q E s := by
  have htake : sizeOk (.seq ((items.toList.drop (sIx items.size 0 lo)).take (sIx items.size items.size hi - sIx items.size 0 lo)).toArray) := by
    show ((items.toList.drop (sIx items.size 0 lo)).take (sIx items.size items.size hi - sIx items.size 0 lo)).toArray.size ≤ sizeLine
    rw [List.size_toArray, List.length_take, List.length_drop, Array.length_toList]
    omega
  have hj : sIx items.size items.size hi ≤ items.size := sIx_le _ _ (Nat.le_refl _) hi
  obtain ⟨os, hos, hcs, hds⟩ := id hs
  have hTs : s.TypeIs (.ref sl) "slice" := ⟨os, hos, hcs⟩
  unfold getItem
  try with_reducible refine wpAny_holding ?_
  first | refine wpAny_bind (wpAny_pure ?_) | skip
  refine wpAny_bind (wpAny_sequenceKey ht.typeIs (by decide) ?_)
  refine wpAny_bind (wpAny_callSpecial?_slot (name := Str.ofString "__getitem__") ht.typeIs PyProof.Rows.slot_tuple_getitem
    (wpAny_call_entry PyProof.Rows.slot_tuple_getitem ht.typeIs entry_tuple_getitem ?_ (args_tuple_getitem _ _)))
  show wpAny _ _ (Builtin.Tuple.tupleItemsOf (.ref t) >>= _) _ _ s
  refine wpAny_bind (tupleItemsOf_ ht ?_)
  refine wpAny_bind (wpAny_typeOf hTs ?_)
  rw [if_pos (by decide)]
  refine wpAny_bind (sliceApplied_gen hs pl pu ?_)
  have hno : ¬ ((((sIx items.size 0 lo : Nat) : Int) == 0 && (1 : Int) == 1 && (sIx items.size items.size hi - sIx items.size 0 lo) == items.size) = true) := by
    intro q
    rw [Bool.and_eq_true, Bool.and_eq_true] at q
    have q1 : ((sIx items.size 0 lo : Nat) : Int) = 0 := eq_of_beq q.1.1
    have q2 : sIx items.size items.size hi - sIx items.size 0 lo = items.size := eq_of_beq q.2
    exact hw ⟨by omega, by omega⟩
  show wpAny _ _ (if (((sIx items.size 0 lo : Nat) : Int) == 0 && (1 : Int) == 1 && (sIx items.size items.size hi - sIx items.size 0 lo) == items.size) = true then _ else _) _ _ s
  rw [if_neg hno, pick_gen]
  first
    | exact wpAny_bind (m := Builtin.Tuple.tupleExact _) (wpAny_newObj_type (wpAny_pure ⟨_, rfl, wpAny_pure h⟩) htake)
    | exact wpAny_bind (m := Builtin.Tuple.tupleExact _) (wpAny_newObj_type (wpAny_bind (wpAny_pure (wpAny_pure ⟨_, rfl, wpAny_pure h⟩))) htake)
    | exact wpAny_bind (wpAny_bind (m := Builtin.Tuple.tupleExact _) (wpAny_newObj_type (wpAny_pure (wpAny_pure ⟨_, rfl, wpAny_pure h⟩)) htake))
    | exact wpAny_bind (wpAny_bind (m := Builtin.Tuple.tupleExact _) (wpAny_newObj_type (wpAny_pure ⟨_, rfl, wpAny_pure h⟩) htake))
end
end HT
namespace L2
open PySem PySem.Spec PyProof.Rows
abbrev TO := St → Hp → (Option Int → Hp → Prop) → Prop
/-- a slice's part (left out, or an int) -/
def PO (X : Cx) (e : Option Expr) (t : TO) : Prop :=
  ∀ (pins : List (Addr × Obj)) (s : Shared) (σ : St) (H : Hp) (Q : Option Int → Hp → Prop), Inv X pins σ H s → t σ H Q →
    wpAny (model X.prog X.w) X.A (evalPart e X.env) (fun u s' => ∃ o H', Inv X pins σ H' s' ∧ IsPart u o ∧ Q o H') X.xe s
def tNoPart : TO := fun _ H Q => Q none H
inductive tPart_I (Q : (Option Int → Hp → Prop)) (x : V) (H1 : Hp) : Prop
  | mk : ∀ i, x = .int i → Q (some i) H1 → tPart_I Q x H1
def tPart (t : TE) : TO := fun σ H Q => t σ H fun x H1 => tPart_I Q x H1
section
variable {X : Cx} {e : Expr} {te : TE} {lo hi : Option Expr} {tl th : TO} {pos p2 : Pos}
theorem po_none : PO X none tNoPart := by
  intro pins s σ H Q I h
  rw [evalPart_none]
  exact wpAny_pure ⟨none, H, I, .none, h⟩
theorem po_some (h : PE X e te) : PO X (some e) (tPart te) := by
  intro pins s σ H Q I hw
  rw [evalPart_some]
  refine thn (h pins s σ H _ I hw) fun u s1 ⟨x, H1, I1, r1, q1⟩ => ?_
  obtain ⟨i, rfl, q⟩ := q1
  obtain ⟨t, rfl⟩ := r1
  exact ⟨some i, H1, I1, .int i t, q⟩
/-- what a slice of a value is, by values: the slice object stands at sl -/
def SlR (X : Cx) (r : V → Option Int → Option Int → Hp → VK → Prop) : Prop :=
  ∀ (pins : List (Addr × Obj)) (s : Shared) (σ : St) (H : Hp) (x : V) (v vl vu : Value) (lo hi : Option Int) (sl : Addr) (Q : VK), Inv X pins σ H s → RelV x v → s.heap.IsSliceOf sl vl vu .none → IsPart vl lo → IsPart vu hi → r x lo hi H Q →
    ∃ T id, typeLookup (.type T) "__getitem__" = pure (some (.builtin id)) ∧ s.TypeIs v T ∧ wpAny (model X.prog X.w) X.A (getItem v (.ref sl)) (EP X pins σ Q) X.xe s
def tSl (r : V → Option Int → Option Int → Hp → VK → Prop) (te : TE) (tl th : TO) : TE := fun σ H Q => te σ H fun x H1 => tl σ H1 fun l H2 => th σ H2 fun u H3 => r x l u H3 Q
/-- a[lo:hi], any a -/
theorem pe_slice {r : V → Option Int → Option Int → Hp → VK → Prop} (hr : SlR X r) (he : PE X e te) (hl : PO X lo tl) (hu : PO X hi th) : PE X (.Subscript e (.Slice lo hi none p2) pos) (tSl r te tl th) := by
  intro pins s σ H Q I h
  refine Subscript_ (thn (he pins s σ H _ I h) fun v s1 ⟨x, H1, I1, r1, q1⟩ => ?_)
  refine wpAny_Slice (thn (hl pins s1 σ H1 _ I1 q1) fun vl s2 ⟨l, H2, I2, pl, q2⟩ => thn (hu pins s2 σ H2 _ I2 q2) fun vu s3 ⟨u, H3, I3, pu, q3⟩ => ?_)
  rw [evalPart_none]
  refine wpAny_pure ?_
  have I4 : Inv X pins σ H3 { s3 with heap := s3.heap.push { cls := .type "slice", data := .fields #[vl, vu, .none] } } := I3.kept (t' := s3.toks) fun b ob q => Heap.get?_push_of_some _ q
  obtain ⟨T, id, hT, ht, hg⟩ := hr pins { s3 with heap := s3.heap.push { cls := .type "slice", data := .fields #[vl, vu, .none] } } σ H3 x v vl vu l u s3.heap.objs.size Q I4 r1 (Heap.IsSliceOf.new ..) pl pu q3
  show wpAny (model X.prog X.w) X.A (subscriptTail e (.Slice lo hi none p2) v (.ref s3.heap.objs.size)) (EP X pins σ Q) X.xe { s3 with heap := s3.heap.push { cls := .type "slice", data := .fields #[vl, vu, .none] } }
  exact tail_any (ops := [.ref s3.heap.objs.size, v]) ht hT hg (by with_unfolding_all rfl)
/-- the items of xs[lo:hi] -/
def cutV (xs : List V) (lo hi : Option Int) : List V := (xs.drop (HT.sIx xs.length 0 lo)).take (HT.sIx xs.length xs.length hi - HT.sIx xs.length 0 lo)
theorem cutV_length (xs : List V) (lo hi : Option Int) : (cutV xs lo hi).length ≤ xs.length := by
  unfold cutV
  rw [List.length_take, List.length_drop]
  omega
/-- t[lo:hi], not the whole of it (the whole would be t itself) -/
inductive rSlT_I (K : PySem.W.Frag) (x : V) (lo : Option Int) (hi : Option Int) (H : Hp) (Q : VK) : Prop
  | mk : ∀ a xs, x = .ref a → SqT K H a xs → ¬ (HT.sIx xs.length 0 lo = 0 ∧ HT.sIx xs.length xs.length hi = xs.length) → (∀ p, H p = none → Q (.ref p) (upd H p (.tup (cutV xs lo hi)))) → rSlT_I K x lo hi H Q
def rSlT (K : PySem.W.Frag) : V → Option Int → Option Int → Hp → VK → Prop := fun x lo hi H Q => rSlT_I K x lo hi H Q
theorem sl_tup : SlR X (rSlT X.K) := by
  intro pins s σ H x v vl vu lo hi sl Q I rx hs pl pu h
  obtain ⟨a, xs, rfl, hx, hw, q⟩ := h
  cases rx
  obtain ⟨its, r, ht, hz⟩ := I.tuple hx
  have hlen : its.toArray.size = xs.length := by rw [List.size_toArray]; exact r.length.symm
  refine ⟨"tuple", _, PyProof.Rows.slot_tuple_getitem.lookup, ht.typeIs, ?_⟩
  refine HT.getItem_tuple_cut ht hs pl pu (by rw [hlen]; exact hw) ?_ (by rw [hlen]; exact hz)
  rw [hlen]
  refine ⟨.ref s.heap.objs.size, _, I.laid (t' := s.toks) (o := .tup (cutV xs lo hi)) (fun b ob q => Heap.get?_push_of_some _ q) (Nat.le_refl _) ?_, rfl, q _ (I.hok.fresh (Nat.le_refl _))⟩
  exact ⟨Nat.le_trans (cutV_length xs lo hi) hz, _, (r.drop (HT.sIx xs.length 0 lo)).take (HT.sIx xs.length xs.length hi - HT.sIx xs.length 0 lo), IsTup.new _ _⟩
end
end L2
namespace L2
open PySem PySem.Spec PyProof.Rows
/-- the place that an index of any sign means -/
def ixN (n : Nat) (i : Int) : Option Nat := if 0 ≤ i then (if i < n then some i.toNat else none) else if -(n : Int) ≤ i then some (i + n).toNat else none
def atI {α : Type} (xs : List α) (i : Int) : Option α := (ixN xs.length i).bind fun j => xs[j]?
theorem ixN_seq {n : Nat} {i : Int} {j : Nat} (h : ixN n i = some j) : seqIndex? i n = some j ∧ j < n ∧ -(n : Int) ≤ i ∧ i < n := by
  unfold ixN at h
  by_cases h0 : 0 ≤ i
  · rw [if_pos h0] at h
    by_cases h1 : i < n
    · rw [if_pos h1] at h
      have e : i.toNat = j := Option.some.inj h
      exact ⟨by rw [seqIndex_of h0 h1, e], by omega, by omega, h1⟩
    · rw [if_neg h1] at h; cases h
  · rw [if_neg h0] at h
    by_cases h1 : -(n : Int) ≤ i
    · rw [if_pos h1] at h
      have e : (i + n).toNat = j := Option.some.inj h
      exact ⟨by rw [seqIndex_neg (by omega) h1, e], by omega, h1, by omega⟩
    · rw [if_neg h1] at h; cases h
theorem atI_get {α : Type} {xs : List α} {i : Int} {v : α} (h : atI xs i = some v) : ∃ j, seqIndex? i xs.length = some j ∧ xs[j]? = some v ∧ j < xs.length ∧ -(xs.length : Int) ≤ i ∧ i < xs.length := by
  unfold atI at h
  cases e : ixN xs.length i with
  | none => rw [e] at h; cases h
  | some j =>
    rw [e] at h
    obtain ⟨h1, h2, h3, h4⟩ := ixN_seq e
    exact ⟨j, h1, h, h2, h3, h4⟩
theorem atI_nat {α : Type} {xs : List α} {j : Nat} {v : α} (h : xs[j]? = some v) : atI xs (j : Int) = some v := by
  have hj : j < xs.length := (List.getElem?_eq_some_iff.mp h).1
  have e : ixN xs.length (j : Int) = some j := by
    unfold ixN
    rw [if_pos (by omega), if_pos (by omega)]; simp
  unfold atI; rw [e]; exact h
theorem atI_last {α : Type} (xs : List α) (v : α) : atI (xs ++ [v]) (-1) = some v := by
  have hl : (xs ++ [v]).length = xs.length + 1 := by simp
  have e : ixN (xs ++ [v]).length (-1) = some xs.length := by
    unfold ixN
    rw [hl, if_neg (by decide), if_pos (by omega)]
    congr 1
    omega
  unfold atI
  rw [e]
  show (xs ++ [v])[xs.length]? = some v
  simp
/-- what stands as an index of a plain subscript -/
def PlainIx (b : Expr) : Prop := ∀ o i, subscripted b false o i = operate [o, i] (getItem o i)
/-- a subscript by values -/
def IxR (X : Cx) (r : R2) : Prop :=
  ∀ (value slice : Expr) (pins : List (Addr × Obj)) (s : Shared) (σ : St) (H : Hp) (x y : V) (v u : Value) (Q : VK), Inv X pins σ H s → RelV x v → RelV y u → r x y H Q →
    subscripted slice false v u = operate [v, u] (getItem v u) → wpAny (model X.prog X.w) X.A (subscriptTail value slice v u) (EP X pins σ Q) X.xe s
/-- a call of a builtin's method by values: the receiver, the arguments -/
def MtR (X : Cx) (id : String) (r : V → List V → Hp → VK → Prop) : Prop :=
  ∀ (pins : List (Addr × Obj)) (s : Shared) (σ : St) (H : Hp) (x : V) (xs : List V) (v : Value) (us : List Value) (Q : VK), Inv X pins σ H s → RelV x v → Vals xs us → r x xs H Q →
    wpAny (model X.prog X.w) X.A (call (.builtin id) (v :: us)) (EP X pins σ Q) X.xe s
section
variable {X : Cx} {a b : Expr} {ta tb : TE} {pos : Pos}
/-- a[b] -/
theorem pe_ix {r : R2} (hr : IxR X r) (ha : PE X a ta) (hb : PE X b tb) (hs : PlainIx b) : PE X (.Subscript a b pos) (tOp r ta tb) := by
  intro pins s σ H Q I h
  exact Subscript_ (binT ha hb I h fun v u s2 x y H2 I2 rx ry q => hr a b pins s2 σ H2 x y v u Q I2 rx ry q (hs _ _))
inductive rIxL_I (K : PySem.W.Frag) (x : V) (y : V) (H : Hp) (Q : VK) : Prop
  | mk : ∀ p xs i v, x = .ref p → y = .int i → SqL K H p xs → atI xs i = some v → Q v H → rIxL_I K x y H Q
def rIxL (K : PySem.W.Frag) : R2 := fun x y H Q => rIxL_I K x y H Q
inductive rIxT_I (K : PySem.W.Frag) (x : V) (y : V) (H : Hp) (Q : VK) : Prop
  | mk : ∀ p xs i v, x = .ref p → y = .int i → SqT K H p xs → atI xs i = some v → Q v H → rIxT_I K x y H Q
def rIxT (K : PySem.W.Frag) : R2 := fun x y H Q => rIxT_I K x y H Q
inductive rIxS_I (x : V) (y : V) (H : Hp) (Q : VK) : Prop
  | mk : ∀ z i c, x = .str z → y = .int i → z.length ≤ sizeLine → atI z.cps.toList i = some c → Q (.str ⟨#[c]⟩) H → rIxS_I x y H Q
def rIxS : R2 := fun x y H Q => rIxS_I x y H Q
theorem ix_list : IxR X (rIxL X.K) := by
  intro value slice pins s σ H x y v u Q I rx ry h hs
  obtain ⟨p, xs, i, z, rfl, rfl, hq, he, q⟩ := h
  cases rx
  obtain ⟨t, rfl⟩ := ry
  obtain ⟨its, r, pl, hz⟩ := I.list hq
  obtain ⟨j, h1, h2, h3, h4, h5⟩ := atI_get he
  obtain ⟨w, ew, rw'⟩ := r.get h2
  have hl := r.length
  have hn := line63
  have fin : EP X pins σ Q w s := ⟨z, H, I, rw', q⟩
  by_cases h0 : 0 ≤ i
  · have hj : i.toNat = j := by
      rw [seqIndex_of h0 h5] at h1
      exact Option.some.inj h1
    exact item_listR pl.isList h0 (by omega) (by rw [hj]; simpa using ew) fin hs
  · have hj : (i + (its.toArray.size : Int)).toNat = j := by
      rw [seqIndex_neg (by omega) h4] at h1
      rw [List.size_toArray, ← hl]
      exact Option.some.inj h1
    exact subscriptTail_builtinR (x := w) pl.isList.typeIs slot_list_getitem.lookup
      (wpAny_getItem_list_neg (Q := fun r s' => r = w ∧ EP X pins σ Q r s') pl.isList (by omega) (by rw [List.size_toArray] <;> omega) (by omega) (by rw [hj]; simpa using ew) ⟨rfl, fin⟩) hs
theorem ix_tup : IxR X (rIxT X.K) := by
  intro value slice pins s σ H x y v u Q I rx ry h hs
  obtain ⟨p, xs, i, z, rfl, rfl, hq, he, q⟩ := h
  cases rx
  obtain ⟨t, rfl⟩ := ry
  obtain ⟨its, r, pl, hz⟩ := I.tuple hq
  obtain ⟨j, h1, h2, h3, h4, h5⟩ := atI_get he
  obtain ⟨w, ew, rw'⟩ := r.get h2
  have hl := r.length
  have hn := line63
  have fin : EP X pins σ Q w s := ⟨z, H, I, rw', q⟩
  exact subscriptTail_builtinR (x := w) pl.typeIs slot_tuple_getitem.lookup
    (getItem_tuple (j := j) (Q := fun r s' => r = w ∧ EP X pins σ Q r s') pl (by omega) (by omega) (by rw [List.size_toArray, ← hl]; exact h1) (by simpa using ew) ⟨rfl, fin⟩) hs
theorem ix_str : IxR X rIxS := by
  intro value slice pins s σ H x y v u Q I rx ry h hs
  obtain ⟨z, i, c, rfl, rfl, hz, he, q⟩ := h
  obtain ⟨t, rfl⟩ := rx
  obtain ⟨t', rfl⟩ := ry
  obtain ⟨j, h1, h2, h3, h4, h5⟩ := atI_get he
  have hl : z.cps.toList.length = z.length := by simp [Str.length]
  rw [hl] at h1 h4 h5
  have hn := line63
  exact tail_any (typeIs_str s z t) slot_str_getitem.lookup (getItem_str (c := c) (by
    have e1 : decide (i < -(2 ^ 63 : Int)) = false := decide_eq_false (by omega)
    have e2 : decide (i ≥ 2 ^ 63) = false := decide_eq_false (by omega)
    rw [e1, e2, Bool.or_false]) (by rw [h1]; simpa using h2) ⟨.str ⟨#[c]⟩, H, I.tok _, ⟨_, rfl⟩, q⟩) hs
theorem slice_bounds (lo hi : Option Int) (n : Nat) : (sliceBounds lo hi none n).1 = ((HT.sIx n 0 lo : Nat) : Int) ∧ (sliceBounds lo hi none n).2.1 = ((HT.sIx n n hi : Nat) : Int) ∧ (sliceBounds lo hi none n).2.2 = 1 := by
  refine ⟨?_, ?_, rfl⟩
  · cases lo with
    | none => simp [sliceBounds, HT.sIx]
    | some i =>
      simp only [sliceBounds, HT.sIx, Option.getD_none, show (1 : Int) > 0 by decide, if_true]
      by_cases h : i < 0
      · simp only [h, if_true] <;> omega
      · simp only [h, if_false] <;> omega
  · cases hi with
    | none => simp [sliceBounds, HT.sIx]
    | some i =>
      simp only [sliceBounds, HT.sIx, Option.getD_none, show (1 : Int) > 0 by decide, if_true]
      by_cases h : i < 0
      · simp only [h, if_true] <;> omega
      · simp only [h, if_false] <;> omega
theorem slicePick_cut (its : List Value) (lo hi : Option Int) : slicePick its.toArray lo hi none = ((its.drop (HT.sIx its.length 0 lo)).take (HT.sIx its.length its.length hi - HT.sIx its.length 0 lo)).toArray := by
  obtain ⟨h1, h2, h3⟩ := slice_bounds lo hi its.toArray.size
  unfold slicePick
  rw [h1, h2, h3]
  simp only [sliceRange_one, pick_run, List.size_toArray] <;> rfl
/-- xs[lo:hi] of a list: a new list -/
inductive rSlL_I (K : PySem.W.Frag) (x : V) (lo : Option Int) (hi : Option Int) (H : Hp) (Q : VK) : Prop
  | mk : ∀ a xs, x = .ref a → SqL K H a xs → (∀ p, H p = none → Q (.ref p) (upd H p (.lst (cutV xs lo hi)))) → rSlL_I K x lo hi H Q
def rSlL (K : PySem.W.Frag) : V → Option Int → Option Int → Hp → VK → Prop := fun x lo hi H Q => rSlL_I K x lo hi H Q
theorem sl_list : SlR X (rSlL X.K) := by
  intro pins s σ H x v vl vu lo hi sl Q I rx hs pl pu h
  obtain ⟨a, xs, rfl, hx, q⟩ := h
  cases rx
  obtain ⟨its, r, ht, hz⟩ := I.list hx
  have hlen := r.length
  refine ⟨"list", _, slot_list_getitem.lookup, ht.isList.typeIs, ?_⟩
  refine wpAny_getItem_list_slice ht.isList hs pl pu .none (by simp) ?_ (by rw [List.size_toArray] <;> omega)
  rw [slicePick_cut, ← hlen]
  refine ⟨.ref s.heap.objs.size, _, I.laid (t' := s.toks) (o := .lst (cutV xs lo hi)) (fun b ob q => Heap.get?_push_of_some _ q) (Nat.le_refl _) ?_, rfl, q _ (I.hok.fresh (Nat.le_refl _))⟩
  exact ⟨Nat.le_trans (cutV_length xs lo hi) hz, _, 0, (r.drop (HT.sIx xs.length 0 lo)).take (HT.sIx xs.length xs.length hi - HT.sIx xs.length 0 lo), Heap.get?_push_size _ rfl⟩
def flatV : V → Bool
  | .non => true
  | .bl _ => true
  | .int _ => true
  | .str _ => true
  | _ => false
/-- == of flat values -/
def eqV : V → V → Bool
  | .non, .non => true
  | .bl a, .bl b => a == b
  | .bl a, .int b => (if a then 1 else 0) == b
  | .int a, .bl b => a == (if b then 1 else 0)
  | .int a, .int b => a == b
  | .str a, .str b => a == b
  | _, _ => false
theorem eqAt_V {A : Around} {s : Shared} {y x : V} {u v : Value} (ry : RelV y u) (rx : RelV x v) (fy : flatV y = true) (fx : flatV x = true) : SeqAt.EqAt A s u v (eqV y x) := by
  cases y with
  | non =>
    cases ry
    cases x with
    | non => cases rx; exact SeqAt.EqAt.same _
    | bl b => cases rx; exact SeqAt.EqAt.none_bool b
    | int b => obtain ⟨t, rfl⟩ := rx; exact SeqAt.EqAt.none_int b t
    | str b => obtain ⟨t, rfl⟩ := rx; exact SeqAt.EqAt.none_str b t
    | _ => exact absurd (show false = true from fx) Bool.false_ne_true
  | bl a =>
    cases ry
    cases x with
    | non => cases rx; exact SeqAt.EqAt.bool_none a
    | bl b => cases rx; exact SeqAt.EqAt.bool_bool a b
    | int b => obtain ⟨t, rfl⟩ := rx; exact SeqAt.EqAt.bool_int a b t
    | str b => obtain ⟨t, rfl⟩ := rx; exact SeqAt.EqAt.bool_str a b t
    | _ => exact absurd (show false = true from fx) Bool.false_ne_true
  | int a =>
    obtain ⟨t', rfl⟩ := ry
    cases x with
    | non => cases rx; exact SeqAt.EqAt.int_none a t'
    | bl b => cases rx; exact SeqAt.EqAt.int_bool a t' b
    | int b => obtain ⟨t, rfl⟩ := rx; exact SeqAt.EqAt.int_int a t' b t
    | str b => obtain ⟨t, rfl⟩ := rx; exact SeqAt.EqAt.int_str a t' b t
    | _ => exact absurd (show false = true from fx) Bool.false_ne_true
  | str a =>
    obtain ⟨t', rfl⟩ := ry
    cases x with
    | non => cases rx; exact SeqAt.EqAt.str_none a t'
    | bl b => cases rx; exact SeqAt.EqAt.str_bool a t' b
    | int b => obtain ⟨t, rfl⟩ := rx; exact SeqAt.EqAt.str_int a t' b t
    | str b => obtain ⟨t, rfl⟩ := rx; exact SeqAt.EqAt.str_str a t' b t
    | _ => exact absurd (show false = true from fx) Bool.false_ne_true
  | _ => exact absurd (show false = true from fy) Bool.false_ne_true
/-- the items' answers, read off the values (a value's own answer does not lean on its token) -/
def eqU (x : V) (u : Value) : Bool := match u with
  | .none => eqV .non x
  | .bool b => eqV (.bl b) x
  | .int i _ => eqV (.int i) x
  | .str z _ => eqV (.str z) x
  | _ => false
theorem eqU_of {x y : V} {u : Value} (r : RelV y u) (f : flatV y = true) : eqU x u = eqV y x := by
  cases y with
  | non => cases r; rfl
  | bl b => cases r; rfl
  | int i => obtain ⟨t, rfl⟩ := r; rfl
  | str z => obtain ⟨t, rfl⟩ := r; rfl
  | _ => exact absurd (show false = true from f) Bool.false_ne_true
theorem any_eqU {x : V} : ∀ {xs : List V} {us : List Value}, Vals xs us → xs.all flatV = true → us.any (eqU x) = xs.any fun y => eqV y x
  | _, _, .nil, _ => rfl
  | y :: xs, u :: us, .cons r t, f => by
    rw [List.all_cons, Bool.and_eq_true] at f
    rw [List.any_cons, List.any_cons, eqU_of r f.1, any_eqU t f.2]
theorem mem_eqAt {A : Around} {s : Shared} {x : V} {v : Value} (rx : RelV x v) (fx : flatV x = true) : ∀ {xs : List V} {us : List Value}, Vals xs us → xs.all flatV = true → ∀ u ∈ us, SeqAt.EqAt A s u v (eqU x u)
  | _, _, .nil, _ => fun u hu => by cases hu
  | y :: xs, u :: us, .cons r t, f => fun u' hu => by
    rw [List.all_cons, Bool.and_eq_true] at f
    rcases List.mem_cons.mp hu with rfl | hu
    · rw [eqU_of r f.1]; exact eqAt_V r rx f.1 fx
    · exact mem_eqAt rx fx t f.2 u' hu
def inV (x : V) (xs : List V) : Bool := xs.any fun y => eqV y x
/-- x in a list or tuple of flat items -/
inductive rIn_I (K : PySem.W.Frag) (neg : Bool) (x : V) (y : V) (H : Hp) (Q : VK) : Prop
  | mk : ∀ p xs, y = .ref p → (SqL K H p xs ∨ SqT K H p xs) → flatV x = true → xs.all flatV = true → Q (.bl (if neg then !inV x xs else inV x xs)) H → rIn_I K neg x y H Q
def rIn (K : PySem.W.Frag) (neg : Bool) : R2 := fun x y H Q => rIn_I K neg x y H Q
theorem op_in_seq : OpR X (compareOp .In) (rIn X.K false) := by
  intro pins s σ H x y v u Q I rx ry h
  obtain ⟨p, xs, rfl, hq, fx, fs, q⟩ := h
  cases ry
  rcases hq with hq | hq
  · obtain ⟨its, r, pl, hz⟩ := I.list hq
    refine SeqAt.in_listAt (eqU x) pl.isList (fun w hw => mem_eqAt rx fx r fs w (by simpa using hw)) ⟨.bl _, H, I, rfl, ?_⟩
    rw [show its.toArray.any (eqU x) = its.any (eqU x) by simp, any_eqU r fs]
    exact q
  · obtain ⟨its, r, pl, hz⟩ := I.tuple hq
    refine SeqAt.in_tupleAt (eqU x) pl (fun w hw => mem_eqAt rx fx r fs w (by simpa using hw)) ⟨.bl _, H, I, rfl, ?_⟩
    rw [show its.toArray.any (eqU x) = its.any (eqU x) by simp, any_eqU r fs]
    exact q
theorem op_notIn_seq : OpR X (compareOp .NotIn) (rIn X.K true) := by
  intro pins s σ H x y v u Q I rx ry h
  obtain ⟨p, xs, rfl, hq, fx, fs, q⟩ := h
  cases ry
  rcases hq with hq | hq
  · obtain ⟨its, r, pl, hz⟩ := I.list hq
    refine SeqAt.notIn_listAt (eqU x) pl.isList (fun w hw => mem_eqAt rx fx r fs w (by simpa using hw)) ⟨.bl _, H, I, rfl, ?_⟩
    rw [show its.toArray.any (eqU x) = its.any (eqU x) by simp, any_eqU r fs]
    exact q
  · obtain ⟨its, r, pl, hz⟩ := I.tuple hq
    refine SeqAt.notIn_tupleAt (eqU x) pl (fun w hw => mem_eqAt rx fx r fs w (by simpa using hw)) ⟨.bl _, H, I, rfl, ?_⟩
    rw [show its.toArray.any (eqU x) = its.any (eqU x) by simp, any_eqU r fs]
    exact q
theorem call_len_seq : CallR X (.builtin "len") (fun xs H Q => ∃ p ys, xs = [.ref p] ∧ (SqL X.K H p ys ∨ SqT X.K H p ys) ∧ Q (.int ys.length) H) := by
  intro pins s σ H xs us Q I r h
  obtain ⟨p, ys, rfl, hq, q⟩ := h
  obtain ⟨u, rfl, rx⟩ := vals1 r
  cases rx
  have hn := line63
  rcases hq with hq | hq
  · obtain ⟨its, r', pl, hz⟩ := I.list hq
    have hlen := r'.length
    exact Calls.call_len_list pl.isList (by simp only [List.size_toArray] <;> omega) ⟨.int ys.length, H, I.tok _, ⟨s.toks + 1, by rw [List.size_toArray, hlen]⟩, q⟩
  · obtain ⟨its, r', pl, hz⟩ := I.tuple hq
    have hlen := r'.length
    exact len_tuple pl (by simp only [List.size_toArray] <;> omega) ⟨.int ys.length, H, I.tok _, ⟨s.toks + 1, by rw [List.size_toArray, hlen]⟩, q⟩
theorem call_len_str : CallR X (.builtin "len") (fun xs H Q => ∃ z, xs = [.str z] ∧ z.length ≤ sizeLine ∧ Q (.int z.length) H) := by
  intro pins s σ H xs us Q I r h
  obtain ⟨z, rfl, hz, q⟩ := h
  obtain ⟨u, rfl, t, rfl⟩ := vals1 r
  have hn := line63
  exact len_str (by omega) ⟨.int z.length, H, I.tok _, ⟨_, rfl⟩, q⟩
/-- the value is of that builtin type -/
def tyV (K : PySem.W.Frag) (T : String) (x : V) (H : Hp) : Prop := match x with
  | .str _ => T = "str"
  | .int _ => T = "int"
  | .ref p => (T = "list" ∧ ∃ xs, SqL K H p xs) ∨ (T = "tuple" ∧ ∃ o, K.lookup p = some o ∧ o.cls = .type "tuple" ∧ o.dict = none) ∨
      (T = "dict" ∧ ((∃ kvs, H p = some (.dK kvs)) ∨ ∃ kvs, H p = some (.dT kvs))) ∨ (T = "set" ∧ ∃ S n, H p = some (.set S n))
  | _ => False
theorem tyV_is {pins : List (Addr × Obj)} {σ : St} {H : Hp} {s : Shared} {T : String} {x : V} {v : Value} (I : Inv X pins σ H s) (r : RelV x v) (ty : tyV X.K T x H) :
    s.TypeIs v T ∧ ∀ a, v = .ref a → ∃ ob, s.heap.get? a = some ob ∧ ob.dict = none := by
  cases x with
  | str z =>
    obtain ⟨t, rfl⟩ := r
    cases (show T = "str" from ty)
    exact ⟨typeIs_str s z t, fun _ e => nomatch e⟩
  | int i =>
    obtain ⟨t, rfl⟩ := r
    cases (show T = "int" from ty)
    exact ⟨typeIs_int s i t, fun _ e => nomatch e⟩
  | ref p =>
    cases r
    rcases ty with ⟨rfl, xs, hq⟩ | ⟨rfl, o, hk, hc, hd⟩ | ⟨rfl, hk⟩ | ⟨rfl, S, n, hk⟩
    · obtain ⟨its, _, pl, _⟩ := I.list hq
      refine ⟨pl.isList.typeIs, fun a e => ?_⟩
      cases e
      obtain ⟨o, n, e, c, hd, _⟩ := pl
      exact ⟨o, e, hd⟩
    · refine ⟨⟨o, I.kIn p o hk, hc⟩, fun a e => ?_⟩
      cases e
      exact ⟨o, I.kIn _ o hk, hd⟩
    · have z : ∃ o, s.heap.get? p = some o ∧ o.ExactDict := by
        rcases hk with ⟨kvs, hk⟩ | ⟨kvs, hk⟩
        · obtain ⟨_, _, _, _, o, _, _, e, ex, _⟩ := I.hok p _ hk
          exact ⟨o, e, ex⟩
        · obtain ⟨_, _, _, _, o, _, _, e, ex, _⟩ := I.hok p _ hk
          exact ⟨o, e, ex⟩
      obtain ⟨o, e, ex⟩ := z
      refine ⟨⟨o, e, ex.1⟩, fun a e2 => ?_⟩
      cases e2
      exact ⟨o, e, ex.2.1⟩
    · obtain ⟨o, _, _, _, e, ex, _⟩ := I.hok p _ hk
      refine ⟨⟨o, e, ex.1⟩, fun a e2 => ?_⟩
      cases e2
      exact ⟨o, e, ex.2.1⟩
  | _ => exact False.elim ty
def tBM (K : PySem.W.Frag) (T : String) (r : V → List V → Hp → VK → Prop) (to : TE) (t : TA) : TE := fun σ H Q => to σ H fun x H1 => tyV K T x H1 ∧ t σ H1 fun xs H2 => r x xs H2 Q
variable {o e : Expr} {es : List Expr} {to : TE} {t : TA} {name : Str} {apos cpos : Pos} {T id : String} {r : V → List V → Hp → VK → Prop}
theorem pe_bm (pa : PlainAttrs T) (slot : Slot T name id) (hty : typeOf (.builtin id) = pure (.type "method_descriptor")) (hm : MtR X id r) (ho : PE X o to) (ha : PA X (e :: es) t)
    (hbase : attributeBase o name X.env (eval o X.env) = eval o X.env := by rfl)
    (hfew : ((backTo cpos (starEach (e :: es) X.env)).all (fun x => !x.1) && (backToKw cpos (keywordEach [] X.env)).all (fun x => x.1.isSome)
      && decide ((e :: es).length + ([] : List Keyword).length + (if ([] : List Keyword).isEmpty then 0 else 1) < 30)) = true := by rfl)
    (hline : (apos.endLine == cpos.line) = true := by rfl) (hs : starEach (e :: es) X.env = (false, eval e X.env) :: starEach es X.env := by rfl) (hplain : (backTo cpos (starEach es X.env)).any (·.1) = false := by rfl) :
    PE X (.Call (.Attribute o name apos) (e :: es) [] cpos) (tBM X.K T r to t) := by
  intro pins s σ H Q I h
  refine wpAny_Call_method_late hbase hfew hline rfl (thn (ho pins s σ H _ I h) fun v s1 ⟨x, H1, I1, r1, ty, q1⟩ => ?_)
  obtain ⟨h1, h2⟩ := tyV_is I1 r1 ty
  refine ⟨T, id, pa, slot, hty, h1, h2, ?_⟩
  have hA := ha cpos pins s1 σ H1 _ I1 q1
  rw [hs] at hA ⊢
  refine Calls.callWith_builtin (by show (false || (backTo cpos (starEach es X.env)).any (·.1)) = false; rw [hplain] <;> rfl) (Calls.evalArgs_plain ?_)
  exact thn hA fun us s2 ⟨vs, H2, I2, r2, q2⟩ => hm pins s2 σ H2 x vs v us Q I2 r1 r2 q2
/- xs.append(e), list.index on a module's tuple .. are MtR facts of 06m -/
end
end L2
namespace L2
open PySem PySem.Spec PyProof.Rows
def MtM (X : Cx) (id : String) (r : V → List V → Hp → VK → Prop) : Prop :=
  ∀ (pins : List (Addr × Obj)) (s : Shared) (σ : St) (H : Hp) (x : V) (xs : List V) (v : Value) (us : List Value) (Q : VK), Inv X pins σ H s → RelV x v → Vals xs us → r x xs H Q →
    wpAny (model X.prog X.w) X.A (call (.builtin id) (v :: us)) (EP X pins σ Q) X.xe s
theorem Vals.one : ∀ {x : V} {us : List Value}, Vals [x] us → ∃ u, us = [u] ∧ RelV x u
  | _, _, .cons r .nil => ⟨_, rfl, r⟩
section
variable {X : Cx} {pins : List (Addr × Obj)} {σ : St} {H : Hp} {s : Shared} {l b : Addr} {xs ys zs : List V}
theorem Inv.lset {its its' : List Value} {n : Nat} {f : Array Value → Array Value} {t' : Nat} (I : Inv X pins σ H s) (hH : H l = some (.lst xs))
    (e : s.heap.get? l = some { cls := .type "list", data := .seq its.toArray n }) (hf : f its.toArray = its'.toArray) (hv : Vals ys its') (hz : ys.length ≤ sizeLine) :
    Inv X pins σ (upd H l (.lst ys)) { s with heap := s.heap.update l (Obj.mapSeq f), toks := t' } := by
  have q := PySem.IsL.update e f
  rw [hf] at q
  refine I.write (x := l) (e := l) (by rw [hH]; exact trivial) (.inl rfl) (fun b' u hb hu => (Heap.get?_update_other s.heap (Obj.mapSeq f) (Ne.symm hb)).trans hu) ⟨_, q⟩ ?_
  exact ⟨hz, its', _, hv, q⟩
theorem Inv.lnew {its : List Value} {t' : Nat} (I : Inv X pins σ H s) (hv : Vals ys its) (hz : ys.length ≤ sizeLine) :
    Inv X pins σ (upd H s.heap.objs.size (.lst ys)) { s with heap := s.heap.push { cls := .type "list", data := .seq its.toArray }, toks := t' } :=
  I.laid (fun _ _ q => Heap.get?_push_of_some _ q) (Nat.le_refl _) ⟨hz, its, 0, hv, Heap.get?_push_size _ rfl⟩
theorem Inv.fresh (I : Inv X pins σ H s) : H s.heap.objs.size = none := I.hok.fresh (Nat.le_refl _)
theorem Inv.lstM (I : Inv X pins σ H s) (hH : H l = some (.lst xs)) : xs.length ≤ sizeLine ∧ ∃ (its : List Value) (n : Nat), Vals xs its ∧ xs.length = its.length ∧ s.heap.get? l = some { cls := .type "list", data := .seq its.toArray n } := by
  obtain ⟨z, its, n, r, e⟩ := I.hok l _ hH
  exact ⟨z, its, n, r, r.length, e⟩
end
section
variable {X : Cx}
inductive rAppend_I (x : V) (vs : List V) (H : Hp) (Q : VK) : Prop
  | mk : ∀ l xs y, x = .ref l → vs = [y] → H l = some (.lst xs) → xs.length < sizeLine → Q .non (upd H l (.lst (xs ++ [y]))) → rAppend_I x vs H Q
def rAppend : V → List V → Hp → VK → Prop := fun x vs H Q => rAppend_I x vs H Q
theorem mt_append : MtM X "list.append" rAppend := by
  intro pins s σ H x vs v us Q I rx rv h
  obtain ⟨l, xs, y, rfl, rfl, hH, hz, q⟩ := h
  cases rx
  obtain ⟨u, rfl, ru⟩ := rv.one
  obtain ⟨z, its, n, r, hl, e⟩ := I.lstM hH
  refine call_meets F.slot_list_append ⟨_, e, rfl⟩ F.entry_list_append (F.args_list_append_2 _ _) (PySem.list_append l its.toArray n u (by rw [List.size_toArray]; omega)) ⟨e, ?_⟩
  refine ⟨.non, _, I.lset (its' := its ++ [u]) hH e (by simp) (r.append (.cons ru .nil)) ?_, rfl, q⟩
  rw [List.length_append, List.length_singleton]
  omega
inductive rCat_I (x : V) (y : V) (H : Hp) (Q : VK) : Prop
  | mk : ∀ l b xs zs, x = .ref l → y = .ref b → H l = some (.lst xs) → H b = some (.lst zs) → xs.length + zs.length ≤ sizeLine → (∀ p, H p = none → Q (.ref p) (upd H p (.lst (xs ++ zs)))) → rCat_I x y H Q
def rCat : R2 := fun x y H Q => rCat_I x y H Q
theorem op_cat : OpR X (binaryOp .Add) rCat := by
  intro pins s σ H x y v u Q I rx ry h
  obtain ⟨l, b, xs, zs, rfl, rfl, hH, hB, hz, q⟩ := h
  cases rx
  cases ry
  obtain ⟨z, its, n, r, hl, e⟩ := I.lstM hH
  obtain ⟨z2, its2, n2, r2, hl2, e2⟩ := I.lstM hB
  refine PySem.P.add_list e e2 ?_ (by rw [List.size_toArray, List.size_toArray]; omega)
  have ea : its.toArray ++ its2.toArray = (its ++ its2).toArray := by simp
  rw [ea]
  exact ⟨.ref _, _, I.lnew (t' := s.toks) (r.append r2) (by rw [List.length_append]; omega), rfl, q _ I.fresh⟩
end
section
variable {prog : Program} {w : World} {A : Around} {E : Value → Shared → Prop} {s : Shared}
end
section
variable {X : Cx}
end
end L2
namespace L2
open PySem PySem.Spec PyProof.Rows
section
variable {κ : Type} [DecidableEq κ]
end
section
variable {P : Program} {w : World} {H : Hp} {h : Heap} {a : Addr}
end
section
variable {X : Cx} {pins : List (Addr × Obj)} {σ : St} {H : Hp} {s : Shared} {a : Addr} {y v : V} {u r : Value} {o : Option V} {A : Around} {E : Value → Shared → Prop}
end
section
variable {X : Cx} {pins : List (Addr × Obj)} {σ : St} {H : Hp} {s : Shared} {a : Addr} {kvs : List (Key × V)} {k : Key} {u : Value} {A : Around} {E : Value → Shared → Prop}
end
section
variable {X : Cx} {o i e value : Expr} {pos pos' tpos : Pos} {td ty tv : TE}
end
section
variable {X : Cx} {pos : Pos}
end
section
variable {X : Cx} {pins : List (Addr × Obj)} {σ : St} {H : Hp} {s : Shared} {a : Addr} {y d : V} {u r : Value} {o : Option V} {A : Around} {E : Value → Shared → Prop}
end
section
variable {X : Cx} {o e f : Expr} {apos cpos : Pos} {td ty tx : TE}
end
section
variable {X : Cx} {pins : List (Addr × Obj)} {σ : St} {H : Hp} {s : Shared} {a : Addr} {kvs : List (Key × V)} {A : Around} {E : Value → Shared → Prop}
end
section
variable {X : Cx} {pins : List (Addr × Obj)} {σ : St} {H : Hp} {s : Shared} {a : Addr} {y : V} {u : Value} {A : Around} {E : Value → Shared → Prop}
end
end L2
namespace Att
open PySem PySem.W PySem.Calls PyProof.Rows
theorem ints_of_wellAll {P : Params} {h : Heap} : ∀ (ns : List Int) (vs : List Value), WellAll P h vs (ns.map WData.int) → IntsAre vs ns := by
  intro ns
  induction ns with
  | nil =>
    intro vs w
    rw [List.map_nil] at w
    cases w
    exact .nil
  | cons n ns ih =>
    intro vs w
    rw [List.map_cons] at w
    cases w with
    | cons a b =>
      cases a
      exact .cons _ _ (ih _ b)
theorem script_of {l : OpenLaw} {n : Nat} (hn : l.most = some n) {P : Params} {h : Heap} {args : List WData} {vals : List Value}
    (hpre : l.row.toRowW.claim.pre args = true) (hwl : WellAll P h vals args) :
    ∃ a vs ns, vals = [Value.ref a] ∧ args = [WData.list (ns.map WData.int)] ∧ h.get? a = some { cls := .type "list", data := .seq vs.toArray } ∧ IntsAre vs ns ∧ ns.length ≤ n := by
  have hsh : WShape.hasAll [] args [.list .int] = true := (pre_splitW hpre).1
  have hc : l.pre.holds [] { args := args } = true := (pre_splitW hpre).2
  obtain ⟨d, r, rfl, h1, h2⟩ := hasAllW_cons hsh
  obtain rfl := hasAllW_nil h2
  obtain ⟨xs, rfl, h3⟩ := hasW_list h1
  obtain ⟨ns, rfl⟩ := items_int h3
  have hlen : ns.length ≤ n := by
    unfold OpenLaw.pre at hc
    have h4 : (WTm.not (.lt (.lit (.int (n : Int))) (.len (.arg 0)))).holds [] { args := [.list (ns.map .int)] } = true := by
      have h4 := (holds_andW hc).1
      rw [hn] at h4
      exact h4
    have h5 := condW_of h4 (w_not (w_lt w_lit (w_len_list (w_arg rfl))))
    rw [List.length_map] at h5
    refine Nat.le_of_not_lt fun q => ?_
    have q' : (n : Int) < ((ns.length : Nat) : Int) := by omega
    first
      | (rw [decide_eq_true q'] at h5; exact absurd h5 (by decide))
      | (simp at h5; omega)
  cases hwl with
  | cons w1 w2 =>
    cases w2
    cases w1 with
    | list ho hall => exact ⟨_, _, ns, rfl, rfl, ho, ints_of_wellAll ns _ hall, hlen⟩
theorem post_true (l : OpenLaw) (args : List WData) : l.row.toRowW.claim.post args (.bool true) args = true :=
  postW_of (r := l.row.toRowW) (X := (true == true))
    (show WShape.has [] (.bool true) .bool = true by first | rfl | decide | simp [WShape.has, WShape.arms, WShape.armsAll])
    (show (WTm.eq .res (.lit (.bool true))).value [] { args := args, res := some (.bool true), after := args } = some (.bool (true == true)) from w_eq_bool (w_res rfl) w_lit) rfl
/-- the same from a codeAny of the CALL (for a layer whose function contracts speak of calls) -/
theorem attach_call {l : OpenLaw} {n : Nat} {q : Program} {loose : List Str} {XP : (Str → Option Value) → Heap → Prop} {YP : World → Heap → Prop} {d : DefRec}
    (hn : l.most = some n) (hdf : d.params.defaults = [])
    (call : ∀ (w : World) (s₀ s₁ : Shared) (mg mb : Str → Option Value) (fa : Addr) (o : Obj) (pm cd doc : Value) (a : Addr) (vs : List Value) (ns : List Int),
      Ground q loose [] XP w s₀ mg mb s₁.heap → YP w s₁.heap →
      s₁.heap.get? fa = some o → o.data = .func (docDef d.name d.params d.body d.scope pm cd doc) → s₁.heap.CodeRec cd d.name → mg d.name = some (.ref fa) →
      s₁.heap.get? a = some { cls := .type "list", data := .seq vs.toArray } → IntsAre vs ns → ns.length ≤ n → s₁.gens = #[] →
      codeAny (model l.prog w) callerA (.call (.ref fa) ⟨[.ref a], []⟩) (fun r s' => r = .ok (.ret (.bool true)) ∧ OldK s₁.heap s'.heap ∧ s'.os = s₁.os ∧ AllBare s'.gens) s₁) :
    WalkO q loose XP YP l.row.toRowW d [] (fun f vs => PySem.call f vs) := by
  intro w s₀ s₁ mg mb G Y fa o pm cd doc dV kV ho hd hcd hD hmg hg args vals as hpre hlay hrd hwl hlo
  obtain rfl : dV = .none := Dflts.none hD hdf
  obtain rfl : kV = .none := Dflts.noKw hD
  obtain ⟨a, vs, ns, rfl, rfl, hobj, hints, hlen⟩ := script_of hn hpre hwl
  refine enter_call (codeAny_mono (call w s₀ s₁ mg mb fa o pm cd doc a vs ns G Y ho (fd_plain hd) hcd hmg hobj hints hlen hg) fun r s' hq => ?_)
  obtain ⟨rfl, h2, h3, h4⟩ := hq
  exact ⟨.inl ⟨.bool true, .bool true, [], rfl, fun _ => rfl, .bool true, post_true l _, fun _ => ⟨List.Pairwise.nil, fun _ hm => (nomatch hm)⟩⟩, h2, h3, h4⟩
section
variable {prog : Program} {w : World} {A : Around} {E : Value → Shared → Prop} {s : Shared} {K : Frag}
end
end Att
namespace L2
open PySem PySem.Spec PyProof.Rows
theorem vals_ints : ∀ {vs : List Value} {ns : List Int}, IntsAre vs ns → Vals (ns.map V.int) vs
  | _, _, .nil => .nil
  | _, _, .cons n t h => .cons ⟨t, rfl⟩ (vals_ints h)
/-- nothing is tracked but the script, known to the object (or it is an object of the module) -/
def Only (H : Hp) : Prop := ∀ b, H b = none ∨ ∃ o xs, H b = some (.frz o (.lst xs))
/-- THE HEAD: the law's promise, at the heap behind the top. F, the promise of the law's def, may use that base is part of the heap (so K.In base, base.Ns mainGlobals mg stand in Mod) -/
theorem law_call {P : Program} {w : World} {K : PySem.W.Frag} {mg mb : Str → Option Value} {CX : CXT} {k : Nat} {fa a : Addr} {fd : FuncData} {x : Str} {sp : Sp} {s₁ : Shared} {vs : List Value} {ns : List Int}
    (KX : K.In s₁.heap) (hns : s₁.heap.Ns mainGlobals mg) (hb : s₁.heap.Ns builtinsNs mb) (hbb : ∀ x : Str, x ≠ "__name__" → mb x = bootBuiltins x) (hlim : s₁.heap.NoLimit) (hg : s₁.gens = #[])
    (ha : s₁.heap.get? a = some { cls := .type "list", data := .seq vs.toArray }) (hi : IntsAre vs ns) (hl : ns.length ≤ sizeLine) (hr : Room k callerA)
    (F : ∀ base : Heap, K.In base → base.Ns mainGlobals mg → FnOk P w K mg base CX k fa fd [x] sp) (hbind : ∀ (s : Shared) (u : Value), BindsTo s fd ⟨[u], []⟩ [(x, u)])
    (hsp : ∀ H : Hp, Only H → SqL K H a (ns.map V.int) → sp [.ref a] H (fun v _ => v = .bl true) fun _ _ _ => False)
    (hCX : ∀ H e s', CX [] H s₁ (fun _ _ _ => False) e s' → False) :
    codeAny (model P w) callerA (.call (.ref fa) ⟨[.ref a], []⟩) (fun r s' => r = .ok (.ret (.bool true)) ∧ OldK s₁.heap s'.heap ∧ s'.os = s₁.os ∧ AllBare s'.gens) s₁ := by
  have rv := vals_ints hi
  have lenV := hi.length
  -- from an abstract heap in which nothing but the script may be tracked
  have core : ∀ H : Hp, Only H → SqL K H a (ns.map V.int) → HOk P w H s₁.heap → (∀ b, H b ≠ none → b = a) → (H a ≠ none → K.lookup a = none) →
      codeAny (model P w) callerA (.call (.ref fa) ⟨[.ref a], []⟩) (fun r s' => r = .ok (.ret (.bool true)) ∧ OldK s₁.heap s'.heap ∧ s'.os = s₁.os ∧ AllBare s'.gens) s₁ := by
    intro H hO hS hok hA hK
    have base_of : ∀ {b : Addr} {o : Obj}, s₁.heap.get? b = some o → H b = none → (hidT s₁.heap H).get? b = some o := fun e n => hidT_get e n
    have noA : ∀ {b : Addr} {o : Obj} {es : Array DictEntry} {ep : Nat}, s₁.heap.get? b = some o → o.data = .dict es ep → H b = none := fun {b o es ep} e d => by
      cases q : H b with
      | none => rfl
      | some u =>
        have e' : b = a := hA b (by rw [q]; simp)
        subst e'
        rw [ha] at e; cases e
        have d' : Data.seq vs.toArray _ = Data.dict es ep := d
        cases d'
    have nsK : ∀ {b : Addr} {m : Str → Option Value}, s₁.heap.Ns b m → (hidT s₁.heap H).Ns b m := fun {b m} ⟨o, es, ep, e, d, r⟩ => ⟨o, es, ep, base_of e (noA e d), d, r⟩
    have hKb : K.In (hidT s₁.heap H) := fun b o e => base_of (KX b o e) (by
      cases q : H b with
      | none => rfl
      | some u =>
        have e' : b = a := hA b (by rw [q]; simp)
        subst e'
        rw [hK (by rw [q]; simp)] at e; cases e)
    have hM : Mod K mg (hidT s₁.heap H) := ⟨hKb, nsK hns, ⟨mb, nsK hb, hbb⟩, let ⟨mc, h1, h2⟩ := hlim; ⟨mc, nsK h1, h2⟩⟩
    have e0 : Env0 P w K mg (hidT s₁.heap H) callerA [] s₁ H := ⟨rfl, hM, fun b o e => of_hidT e, Nat.le_of_eq (hidT_size _ _), trivial, fun b hb => absurd (show b ∈ ([] : List Addr) from hb) (by simp), hok, .of_eq hg⟩
    refine codeAny_mono ((F _ hKb (nsK hns)).run callerA [] s₁ H ⟨[.ref a], []⟩ [.ref a] [.ref a] _ _ hr e0 (hbind s₁ (.ref a)) (.cons rfl .nil) (hsp H hO hS)) fun r s' h => ?_
    cases r with
    | error e => exact (hCX H e s' h).elim
    | ok fl =>
      cases fl with
      | next => exact False.elim h
      | brk => exact False.elim h
      | cont => exact False.elim h
      | ret u =>
        obtain ⟨v, H', os, bare, un, hok', r', q⟩ := h
        have q' : v = .bl true := q
        subst q'
        obtain rfl : u = Value.bool true := r'
        refine ⟨rfl, OldK.of_keep fun b o e => ?_, os, bare⟩
        cases q : H b with
        | none => exact un.keep b o e q (by intro z; exact absurd (show b ∈ ([] : List Addr) from z) (by simp)) (by simp)
        | some u =>
          rcases hO b with z | ⟨ob, xs, z⟩
          · rw [q] at z; cases z
          · have z2 := un.frzs b ob _ z
            obtain ⟨e1, _⟩ := hok b _ z
            obtain ⟨e2, _⟩ := hok' b _ z2
            rw [e] at e1; cases e1
            exact e2
  cases hk : K.lookup a with
  | some o =>
    -- the script is one of the module's own objects
    have e := KX a o hk
    rw [ha] at e
    cases e
    refine core (fun _ => none) (fun _ => .inl rfl) (.inr ⟨_, vs.toArray, _, hk, rfl, rfl, rfl, by rw [List.size_toArray, lenV]; exact hl, by simpa using rv⟩) (fun b u z => by have z' : (none : Option HO) = some u := z; cases z') (fun b z => absurd rfl z) fun z => absurd rfl z
  | none =>
    refine core (fun b => if b = a then some (.frz { cls := .type "list", data := .seq vs.toArray } (.lst (ns.map V.int))) else none) (fun b => ?_) (.inl (.inr ⟨{ cls := .type "list", data := .seq vs.toArray }, if_pos rfl⟩)) (fun b u z => ?_) (fun b z => ?_) fun _ => hk
    · by_cases hb : b = a
      · exact .inr ⟨_, _, if_pos hb⟩
      · exact .inl (if_neg hb)
    · by_cases hb : b = a
      · have z' := (if_pos hb).symm.trans z
        cases z'
        subst hb
        exact ⟨ha, by rw [List.length_map]; exact hl, vs, _, rv, ha⟩
      · have z' := (if_neg hb).symm.trans z
        cases z'
    · by_cases hb : b = a
      · exact hb
      · exact absurd (if_neg hb) z
end L2
namespace L2
open PySem PySem.Spec PyProof.Rows
end L2
namespace L2
open PySem PySem.Spec PyProof.Rows
/-- the j-th statement of a class's body -/
def inClass (s : Stmt) (j : Nat) : Stmt := match s with
  | .ClassDef _ _ _ body _ _ _ _ _ _ _ => body.getD j (.Pass ⟨0, 0, 0, 0⟩)
  | _ => .Pass ⟨0, 0, 0, 0⟩
def defArgs (s : Stmt) : Arguments := match s with
  | .FunctionDef _ a _ _ _ _ _ _ _ _ => a
  | _ => { posonlyargs := [], args := [], vararg := none, kwonlyargs := [], kw_defaults := [], kwarg := none, defaults := [] }
def defBody (s : Stmt) : List Stmt := match s with
  | .FunctionDef _ _ b _ _ _ _ _ _ _ => b
  | _ => []
def defScope (s : Stmt) : Scope := match s with
  | .FunctionDef _ _ _ _ _ _ sc _ _ _ => sc
  | _ => { kind := .function, names := [], isGenerator := false, isCoroutine := false }
abbrev CX0 : CXT := fun _ _ _ _ _ _ => False
abbrev E0 : XK := fun _ _ _ => False
theorem pass0 {X : Cx} : Passes CX0 X E0 := fun _ _ _ _ _ _ _ h => h.elim
structure Fun (K : PySem.W.Frag) (x qual : Str) (st : Stmt) (f : Addr) (fd : FuncData) : Prop where
  ex : ∃ (oc : Value) (od : Option Addr) (kV doc pm : Value) (an : Option Addr) (cdv ct : Value) (osl : Array (Option Value)),
    fd = PySem.W.fnOf x qual (defArgs st) (defBody st) (defScope st) .none kV doc pm an cdv ct ∧ K.lookup f = some ⟨oc, od, .func fd, osl⟩ ∧ PySem.W.codeIn K cdv qual = true
  kp : PySem.W.keepIn K (.ref f) = true
section
variable {P : Program} {w : World} {K : PySem.W.Frag} {mg : Str → Option Value} {base : Heap}
/-- THE RULE for a def: its body as a term of rules, and the reading of that term -/
theorem Fun.ok {x qual : Str} {st : Stmt} {f : Addr} {fd : FuncData} {N ps : List Str} {k : Nat} {sp : Sp} (F : Fun K x qual st f fd) (S : FnScope N ps (defScope st)) (len : ∀ vs H Q E, sp vs H Q E → vs.length = ps.length)
    (hbody : ∀ (cdv : Value) (A : Around) (outer : List Env) (s : Shared) (H : Hp) (vs : List V) (Q : VK) (E : XK), Room k (A.deeper (envOfC qual (defScope st) s.heap.objs.size f cdv)) → sp vs H Q E →
      ∃ t, PSs (cxOf CX0 P w K mg base N qual (defScope st) f cdv A outer s H E).nox (defBody st) t ∧ t { nx := fun _ H' => Q .non H', rt := Q } (start N vs) H) : FnOk P w K mg base CX0 (k + 1) f fd ps sp := by
  obtain ⟨oc, od, kV, doc, pm, an, cdv, ct, osl, rfl, lk, hcd⟩ := F.ex
  refine fn_of lk hcd S len fun A outer s H vs Q E hr hsp => ?_
  obtain ⟨t, h, q⟩ := hbody cdv A outer s H vs Q E hr hsp
  exact ⟨t, h.nox, q⟩
/-- how its arguments bind (no defaults): h is «fun _ _ _ _ _ _ us hl => match us, hl with | [_, _], _ => rfl», one _ a parameter -/
theorem Fun.binds {x qual : Str} {st : Stmt} {f : Addr} {fd : FuncData} {ps : List Str} (F : Fun K x qual st f fd)
    (h : ∀ (kV doc pm : Value) (an : Option Addr) (cdv ct : Value) (us : List Value), us.length = ps.length → bindArgs (PySem.W.fnOf x qual (defArgs st) (defBody st) (defScope st) .none kV doc pm an cdv ct) ⟨us, []⟩ = pure (ps.zip us)) : Binds K fd ps [] := by
  obtain ⟨oc, od, kV, doc, pm, an, cdv, ct, osl, rfl, lk, hcd⟩ := F.ex
  exact .all (h kV doc pm an cdv ct)
theorem fun_mk {x qual : Str} {st : Stmt} {f : Addr} {oc : Value} {od an : Option Addr} {osl : Array (Option Value)} {kV doc pm cdv ct : Value} (l : K.lookup f = some ⟨oc, od, .func (PySem.W.fnOf x qual (defArgs st) (defBody st) (defScope st) .none kV doc pm an cdv ct), osl⟩)
    (c : PySem.W.codeIn K cdv qual = true) (k : PySem.W.keepIn K (.ref f) = true) : Fun K x qual st f (PySem.W.fnOf x qual (defArgs st) (defBody st) (defScope st) .none kV doc pm an cdv ct) := ⟨⟨oc, od, kV, doc, pm, an, cdv, ct, osl, rfl, l, c⟩, k⟩
end
theorem small1000 {n : Nat} (h : n ≤ 1000) : n < sizeLine := Nat.lt_of_le_of_lt h (by decide)
section
variable {X : Cx}
theorem pv (i : Nat) {x : Str} {pos : Pos} (hN : X.N[i]? = some x := by rfl) (hv : Vis X.env.scope x := by first | exact Or.inl rfl | exact Or.inr (Or.inl rfl) | exact Or.inr (Or.inr rfl)) (hd : (x == ("__debug__" : Str)) = false := by decide)
    (hcd : (x == ("__classdict__" : Str)) = false := by decide) : PE X (.Name x pos) (tVar i) := pe_var hN hv hd hcd
end
theorem iteF {A B : Prop} (h : B) : if false = true then A else B := by
  rw [if_neg Bool.false_ne_true]
  exact h
theorem iteT {A B : Prop} (h : A) : if true = true then A else B := by
  rw [if_pos rfl]
  exact h
theorem ite2 {c A B : Prop} [Decidable c] (h1 : c → A) (h2 : ¬ c → B) : if c then A else B := by
  by_cases h : c
  · rw [if_pos h]
    exact h1 h
  · rw [if_neg h]
    exact h2 h
/-- all that was tracked is as it was -/
def Same (H H' : Hp) : Prop := ∀ b o, H b = some o → H' b = some o
theorem Same.refl (H : Hp) : Same H H := fun _ _ h => h
theorem Same.trans {H H1 H2 : Hp} (a : Same H H1) (b : Same H1 H2) : Same H H2 := fun c o h => b c o (a c o h)
theorem Same.free {H H' : Hp} (e : Same H H') {l : Addr} (h : H' l = Option.none) : H l = Option.none := by
  cases q : H l with
  | none => rfl
  | some o =>
    rw [e l o q] at h
    cases h
theorem Same.seq {K : PySem.W.Frag} {H H' : Hp} {a : Addr} {xs : List V} (e : Same H H') (h : SqL K H a xs) : SqL K H' a xs := by
  rcases h with (h | ⟨o, h⟩) | h
  · exact .inl (.inl (e _ _ h))
  · exact .inl (.inr ⟨o, e _ _ h⟩)
  · exact .inr h
end L2
namespace L2
open PySem PySem.Spec PyProof.Rows
section
variable {X : Cx}
end
section
variable {κ : Type} [DecidableEq κ]
end
end L2
set_option Elab.async false
set_option linter.all false
set_option maxRecDepth 100000
set_option maxHeartbeats 4000000
namespace L2
open PySem PySem.Spec PyProof.Rows
/-- the signs of a text, one by one -/
def Its (x : Str) : It := ⟨fun i _ => i < x.cps.size, fun i H y H' => H' = H ∧ ∃ c, x.cps[i]? = some c ∧ y = .str ⟨#[c]⟩, fun i _ => i = x.cps.size⟩
theorem turn_strG {P : Program} {w : World} {K : PySem.W.Frag} {tg : Expr} {x : Str} {t : Tok} {it : Addr} {ty : String}
    (hn : ["enumerate", "zip", "dict_itemiterator", "dict_reverseitemiterator", "odict_iterator", "itertools.zip_longest", "itertools.pairwise"].contains ty = false)
    (W : ∀ A' : Around, A'.handled = none → Walks P w A' it [it] [it] x.cps.size (SignAt x) (fun i h => h.IsStrIter it ty x t i))
    (hself : ∀ (A : Around) (i : Nat) (s : Shared) (Q : Value → Shared → Prop) (E : Value → Shared → Prop), s.heap.IsStrIter it ty x t i → Q (.ref it) s → wpAny (model P w) A (pyIter (.ref it)) Q E s) :
    Turn P w K tg (Its x) [it] it (fun i h => h.IsStrIter it ty x t i) where
  mem := List.mem_singleton.mpr rfl
  obj := fun i h st b hb => by
    cases List.mem_singleton.mp hb
    obtain ⟨o, q, _, d⟩ := st
    exact ⟨o, q, fun v z => by rw [d] at z; cases z⟩
  keep := fun i h h' st k => by
    obtain ⟨o, q, r⟩ := st
    exact ⟨o, k it (List.mem_singleton.mpr rfl) o q, r⟩
  item := by
    intro X e1 e2 e3 hc i pins s σ H E I hf st hg
    subst e1 e2 e3
    have F := hf it (List.mem_singleton.mpr rfl)
    refine (W X.A (I.ok.hd hc)).item i s _ _ hg st fun v h' tk hv st' kk => ?_
    obtain ⟨c, u, hx, rfl⟩ := hv
    have J : Inv X pins σ H { s with heap := h', toks := tk } := I.turned (fun b o hb q => kk b o (fun z => hb (List.mem_singleton.mp z)) q) F.1 F.2.1 F.2.2.2.1 F.2.2.2.2.1 F.2.2.2.2.2
    obtain ⟨o, q, cc, d⟩ := id st'
    exact ⟨_, rfl, go_of (s := { s with heap := h', toks := tk }) q cc d hn ⟨.str ⟨#[c]⟩, H, J, ⟨u, rfl⟩, ⟨rfl, c, hx, rfl⟩, st', fun b hb => (hf b hb).1⟩⟩
  done := by
    intro X e1 e2 e3 hc i pins s σ H E I hf st hg
    subst e1 e2 e3
    have F := hf it (List.mem_singleton.mpr rfl)
    have g : i = x.cps.size := hg
    subst g
    exact (W X.A (I.ok.hd hc)).done s _ _ st fun h' tk kk => ⟨rfl, I.turned (fun b o hb q => kk b o (fun z => hb (List.mem_singleton.mp z)) q) F.1 F.2.1 F.2.2.2.1 F.2.2.2.2.1 F.2.2.2.2.2⟩
  self := hself
inductive iStr_I (R : (It → Hp → Prop)) (x : V) (H1 : Hp) : Prop
  | mk : ∀ y, x = .str y → R (Its y) H1 → iStr_I R x H1
def iStr (te : TE) : TI := fun σ H R => te σ H fun x H1 => iStr_I R x H1
theorem pi_str {X : Cx} {tg l : Expr} {tl : TE} (hl : PE X l tl) : PI X tg l (iStr tl) := by
  intro pins s σ H R I h
  refine thn (hl pins s σ H _ I h) fun v s1 ⟨x, H1, I1, r1, y, e, q⟩ => ?_
  subst e
  obtain ⟨t, rfl⟩ := r1
  have fp : ∀ b ∈ [s1.heap.objs.size], FpOk X pins H1 b := fun b hb => by
    cases List.mem_singleton.mp hb
    exact I1.fpOk (Nat.le_refl _) (I1.hok.fresh (Nat.le_refl _))
  cases ha : y.cps.all (· < 128)
  · refine wpAny_pyIter_wide ha ?_
    exact ⟨s1.heap.objs.size, [s1.heap.objs.size], _, _, H1, rfl, I1.kept (t' := s1.toks) fun b o z => Heap.get?_push_of_some _ z,
      turn_strG (x := y) (t := t) (ty := "str_iterator") (by decide) (fun A' hA => Walks.strWide hA _ y t) (fun _ _ _ _ _ st hq => wpAny_pyIter_striter_wide st hq), ⟨_, Heap.get?_push_size _ rfl, rfl, rfl⟩, fp, q⟩
  · refine wpAny_pyIter_ascii ha ?_
    exact ⟨s1.heap.objs.size, [s1.heap.objs.size], _, _, H1, rfl, I1.kept (t' := s1.toks) fun b o z => Heap.get?_push_of_some _ z,
      turn_strG (x := y) (t := t) (ty := "str_ascii_iterator") (by decide) (fun A' hA => Walks.strAscii hA _ y t) (fun _ _ _ _ _ st hq => wpAny_pyIter_striter_ascii st hq), ⟨_, Heap.get?_push_size _ rfl, rfl, rfl⟩, fp, q⟩
/-- the cells that a comprehension takes from around it -/
def closOf (cells : List (Str × Addr)) : List (Str × NameKind) → List (Str × Addr) → List (Str × Addr)
  | [], cs => cs
  | (n, k) :: r, cs => closOf cells r (if k == .free then (match cells.lookup n with | some c => (n, c) :: cs | none => cs) else cs)
theorem closureFor_of {scope : Scope} {env : Env} (h : ∀ y ∈ scope.names, y.2 = .free → ∃ c, env.cells.lookup y.1 = some c) : closureFor scope env = pure (closOf env.cells scope.names []) := by
  unfold closureFor
  generalize ([] : List (Str × Addr)) = cs
  revert cs
  generalize scope.names = names at h
  induction names with
  | nil => intro cs; rfl
  | cons p r ih =>
    obtain ⟨n, k⟩ := p
    intro cs
    have ih' := ih fun y hy => h y (List.mem_cons_of_mem _ hy)
    by_cases hk : k = .free
    · subst hk
      obtain ⟨c, hc⟩ := h (n, .free) List.mem_cons_self rfl
      have e : cellOf env n = pure c := by unfold cellOf; rw [hc] <;> rfl
      dsimp only at hc ⊢
      rw [List.forIn_cons]
      simp only [beq_self_eq_true, if_true, closOf, hc]
      rw [e]
      exact ih' _
    · have hb : (k == NameKind.free) = false := by simpa using hk
      dsimp only
      rw [List.forIn_cons]
      simp only [hb, Bool.false_eq_true, if_false, closOf]
      exact ih' _
theorem closOf_sub {cells : List (Str × Addr)} : ∀ (names : List (Str × NameKind)) (cs : List (Str × Addr)) {y : Str} {c : Addr}, (closOf cells names cs).lookup y = some c → cells.lookup y = some c ∨ cs.lookup y = some c
  | [], cs, y, c, h => .inr h
  | (n, k) :: r, cs, y, c, h => by
    rcases closOf_sub r _ (show (closOf cells r _).lookup y = some c from h) with h1 | h1
    · exact .inl h1
    · split at h1
      · split at h1
        · rename_i c' hc'
          rw [List.lookup_cons] at h1
          split at h1
          · rename_i e
            cases h1
            exact .inl (by rw [eq_of_beq e]; exact hc')
          · exact .inr h1
        · exact .inr h1
      · exact .inr h1
theorem closOf_keep {cells : List (Str × Addr)} : ∀ (names : List (Str × NameKind)) (cs : List (Str × Addr)) {y : Str}, (∃ c, cs.lookup y = some c) → ∃ c, (closOf cells names cs).lookup y = some c
  | [], cs, y, h => h
  | (n, k) :: r, cs, y, h => by
    refine closOf_keep r _ ?_
    split
    · split
      · rw [List.lookup_cons]
        split
        · exact ⟨_, rfl⟩
        · exact h
      · exact h
    · exact h
theorem closOf_has {cells : List (Str × Addr)} : ∀ (names : List (Str × NameKind)) (cs : List (Str × Addr)) {y : Str}, (y, NameKind.free) ∈ names → (∃ c, cells.lookup y = some c) → ∃ c, (closOf cells names cs).lookup y = some c
  | (n, k) :: r, cs, y, hy, hc => by
    rcases List.mem_cons.mp hy with e | hy
    · cases e
      refine closOf_keep r _ ?_
      obtain ⟨c, hc⟩ := hc
      simp only [beq_self_eq_true, if_true, hc]
      exact ⟨c, by simp [List.lookup_cons]⟩
    · exact closOf_has r _ hy hc
def relF (env : Env) (p : Str × NameKind) : Str × NameKind := if (p.2 == NameKind.free && env.scope.kind == .function && env.kindOf p.1 == some .cell) = true then (p.1, NameKind.cell) else (p.1, p.2)
theorem relF_free {env : Env} : ∀ {names : List (Str × NameKind)} {x : Str}, names.lookup x = some .free → (names.map (relF env)).lookup x = some .cell ∨ (names.map (relF env)).lookup x = some .free
  | [], _, h => by simp at h
  | (n, k) :: r, x, h => by
    have ih := @relF_free env r x
    rw [List.map_cons]
    unfold relF
    cases hx : x == n with
    | true =>
      rw [List.lookup_cons, hx] at h
      cases h
      by_cases hc : (NameKind.free == NameKind.free && env.scope.kind == .function && env.kindOf n == some .cell) = true
      · left; rw [if_pos hc, List.lookup_cons, hx]
      · right; rw [if_neg hc, List.lookup_cons, hx]
    | false =>
      rw [List.lookup_cons, hx] at h
      by_cases hc : (k == NameKind.free && env.scope.kind == .function && env.kindOf n == some .cell) = true
      · rw [if_pos hc, List.lookup_cons, hx]; exact ih h
      · rw [if_neg hc, List.lookup_cons, hx]; exact ih h
theorem lookup_relabel_free {scope : Scope} {env : Env} {x : Str} (h : scope.names.lookup x = some .free) : (relabel scope env).names.lookup x = some .cell ∨ (relabel scope env).names.lookup x = some .free :=
  relF_free (env := env) h
theorem relabel_kind {scope : Scope} {env : Env} (nc : ∀ y ∈ scope.names, y.2 ≠ .cell) {y : Str} (h : (relabel scope env).names.lookup y = some .cell ∨ (relabel scope env).names.lookup y = some .free) : (y, NameKind.free) ∈ scope.names := by
  have key : ∀ k, (relabel scope env).names.lookup y = some k → k = .cell ∨ k = .free → (y, NameKind.free) ∈ scope.names := fun k e hk => by
    have m := PySem.mem_of_lookup e
    obtain ⟨⟨n, k'⟩, hm, q⟩ := List.mem_map.mp m
    dsimp only at q
    split at q
    · rename_i c
      have c1 : (k' == NameKind.free) = true := by
        simp only [Bool.and_eq_true] at c
        exact c.1.1
      have c2 : k' = .free := eq_of_beq c1
      cases q
      rw [c2] at hm
      exact hm
    · cases q
      rcases hk with z | z
      · exact absurd z (nc _ hm)
      · rw [z] at hm; exact hm
  rcases h with h | h
  · exact key _ h (.inl rfl)
  · exact key _ h (.inr rfl)
/-- what of a comprehension's scope is asked: sc the scope around it, N the names around it, x its own name, fr the slots and names that it takes from around -/
structure CompScope (sc scope : Scope) (N : List Str) (x : Str) (fr : List (Nat × Str)) : Prop where
  kind : scope.kind = .function
  loc : scope.names.lookup x = some .local
  names : ∀ y ∈ scope.names, y.2 = .local → scope.names.lookup y.1 = some .local
  nocell : ∀ y ∈ scope.names, y.2 ≠ .cell
  free : ∀ y ∈ scope.names, y.2 = .free → sc.names.lookup y.1 = some .cell ∨ sc.names.lookup y.1 = some .free
  frk : ∀ p ∈ fr, N[p.1]? = some p.2 ∧ scope.names.lookup p.2 = some .free
  nd : (x :: fr.map (·.2)).Nodup
/-- the context of a comprehension's block -/
def cxComp (X : Cx) (scope : Scope) (C : Addr) (N : List Str) (s : Shared) (H : Hp) (fp : List Addr) : Cx where
  prog := X.prog
  w := X.w
  K := X.K
  mg := X.mg
  base := X.base
  A := X.A
  N := N
  s₀ := s
  H₀ := H
  env := compEnvC scope (closOf X.env.cells scope.names []) C X.env
  outer := X.stack
  stack := X.stack
  ex := fp
  fn := fun _ => false
  calm := X.calm
  pn := []
  xe := fun _ _ => False
def frV (σ : St) (fr : List (Nat × Str)) : St := fr.map fun p => (σ[p.1]?).join
/-- the tests of a comprehension -/
def PTs (X : Cx) (ifs : List Expr) (t : TT) : Prop :=
  ∀ (pins : List (Addr × Obj)) (s : Shared) (σ : St) (H : Hp) (Q : Bool → Hp → Prop), Inv X pins σ H s → t σ H Q →
    wpAny (model X.prog X.w) X.A (forIn ifs true fun c r => if r = true then do let ok ← isTrue c X.env (eval c X.env); pure (ForInStep.yield ok) else pure (ForInStep.yield r)) (TP X pins σ Q) X.xe s
def tTrue : TT := fun _ H Q => Q true H
theorem tTrue_go {σ : St} {H : Hp} {Q : Bool → Hp → Prop} (h : Q true H) : tTrue σ H Q := h
theorem pts_nil {X : Cx} : PTs X [] tTrue := fun _ _ _ H _ I h => wpAny_tests_nil ⟨H, I, h⟩
theorem pts_one {X : Cx} {c : Expr} {t : TT} (hc : PT X c t) : PTs X [c] t := fun pins s σ H Q I h => wpAny_tests_one (hc pins s σ H Q I h)
/-- [elt for x in iter if ..]: the list D grows by the turn; W its invariant with a measure -/
def compGoal (J : It) (fr : List (Nat × Str)) (tt : TT) (te : TE) (σ : St) (H1 : Hp) (Q : VK) : Prop := ∀ D, H1 D = none →
  ∃ W : Nat → Nat → List V → Hp → Prop, (∃ m, W 0 m [] (upd H1 D (.lst []))) ∧ ∀ i m ys H2, W i m ys H2 → H2 D = some (.lst ys) ∧
    ((J.stop i H2 ∧ Q (.ref D) H2) ∨ (J.go i H2 ∧ ∀ v H3, J.yld i H2 v H3 → tt (some v :: frV σ fr) H3 fun b H4 =>
      if b = true then te (some v :: frV σ fr) H4 fun y H5 => H5 D = some (.lst ys) ∧ ys.length < sizeLine ∧ ∃ m', m' < m ∧ W (i + 1) m' (ys ++ [y]) (upd H5 D (.lst (ys ++ [y])))
      else ∃ m', m' < m ∧ W (i + 1) m' ys H4))
def tComp (wi : TI) (fr : List (Nat × Str)) (tt : TT) (te : TE) : TE := fun σ H Q => wi σ H fun J H1 => compGoal J fr tt te σ H1 Q
/-- what is known of the block's own namespace from outside -/
structure FreshC (X : Cx) (pins : List (Addr × Obj)) (H : Hp) (C : Addr) : Prop where
  hn : H C = none
  hL : C ≠ X.env.locals
  h1 : C ∈ X.ex ∨ X.s₀.heap.objs.size ≤ C
  h2 : ∀ x c, X.env.cells.lookup x = some c → c ≠ C
  h3 : ∀ p ∈ X.pn ++ pins, p.1 ≠ C
theorem comp_run {X : Cx} {x : Str} {px : Pos} {iter elt : Expr} {ifs : List Expr} {scope sc : Scope} {pos pos' : Pos} {N : List Str} {fr : List (Nat × Str)} {wi : TI} {tt : TT} {te : TE}
    {pins : List (Addr × Obj)} {s : Shared} {σ : St} {H : Hp} {Q : VK} {Q' : Value → Shared → Prop} {use : Option (Value → Sem Unit)}
    (S : CompScope sc scope N x fr) (hsc : X.env.scope = sc) (hN : X.N = N) (hc : X.calm = true) (hi : PI X (.Name x px) iter wi)
    (ht : ∀ (C : Addr) (s : Shared) (H : Hp) (fp : List Addr), PTs (cxComp X scope C (x :: fr.map (·.2)) s H fp) ifs tt)
    (he : ∀ (C : Addr) (s : Shared) (H : Hp) (fp : List Addr), PE (cxComp X scope C (x :: fr.map (·.2)) s H fp) elt te)
    (hs : ∀ z, foldedSetIterable iter X.env z = pure z) (I : Inv X pins σ H s) (h : tComp wi fr tt te σ H Q)
    (hfin : ∀ (D C : Addr) (H' : Hp) (s' : Shared) (m : Str → Option Value), Inv X pins σ H' s' → s'.heap.Ns C m → FreshC X pins H' C → Q (.ref D) H' → compPost (model X.prog X.w) X.A X.xe use Q' (.ref D) C (.ok .next) s') :
    wpAny (model X.prog X.w) X.A (comprehension (.ListComp elt [⟨.Name x px, iter, ifs, 0⟩] scope pos) scope X.env pos' (newList []) false (eval iter X.env) use) Q' X.xe s := by
  have kin : ∀ y, scope.names.lookup y = some .free → X.env.kindOf y = some .cell ∨ X.env.kindOf y = some .free := fun y hy => by
    show X.env.scope.names.lookup y = _ ∨ X.env.scope.names.lookup y = _
    rw [hsc]
    exact S.free (y, .free) (PySem.mem_of_lookup hy) rfl
  have kin' : ∀ y ∈ scope.names, y.2 = .free → X.env.kindOf y.1 = some .cell ∨ X.env.kindOf y.1 = some .free := fun y hy hf => by
    show X.env.scope.names.lookup y.1 = _ ∨ X.env.scope.names.lookup y.1 = _
    rw [hsc]
    exact S.free y hy hf
  have hkc : ∀ y ∈ scope.names, y.2 = .free → ∃ c, X.env.cells.lookup y.1 = some c := fun y hy hf => I.ok.has y.1 (kin' y hy hf)
  refine wpAny_comprehension_free (use := use) rfl hs (closureFor_of hkc) S.kind S.names ?_
  refine thn (hi pins s σ H _ I h) fun xv s1 h1 => thn h1 fun itv s2 h2 => ?_
  obtain ⟨it, fp, tn, J, H2, rfl, I2, T, st2, f2, q2⟩ := h2
  refine wpAny_newObj_type (wpAny_newFunctionEnv S.nocell (by intro y hy; simp at hy) (fun h₁ hns₁ hsb₁ => ?_) S.kind)
  dsimp only at hns₁ hsb₁ ⊢
  have I3 : Inv X pins σ (upd H2 s2.heap.objs.size (.lst [])) { s2 with heap := s2.heap.push { cls := .type "list", data := .seq ([] : List Value).toArray } } :=
    I2.lnew (its := []) (t' := s2.toks) .nil (Nat.zero_le _)
  unfold compGoal at q2
  obtain ⟨W, ⟨m0, w0⟩, turn⟩ := q2 s2.heap.objs.size (I2.hok.fresh (Nat.le_refl _))
  generalize hG : s2.heap.push { cls := .type "list", dict := none, data := .seq ([] : List Value).toArray } = G at hns₁ hsb₁ I3 ⊢
  generalize hD : s2.heap.objs.size = D at I3 turn w0 ⊢
  generalize hH3 : upd H2 D (.lst []) = H3 at I3 w0
  have neG : ∀ b o, G.get? b = some o → b ≠ G.objs.size := fun b o e => Nat.ne_of_lt (Heap.lt_size e)
  have old : ∀ b o, G.get? b = some o → h₁.get? b = some o := fun b o e => (hsb₁.2 b (neG b o e)).trans (Heap.get?_push_of_some _ e)
  have up2 : ∀ b o, s2.heap.get? b = some o → G.get? b = some o := fun b o e => by rw [← hG]; exact Heap.get?_push_of_some _ e
  have fpG : ∀ b ∈ fp, b < G.objs.size := fun b hb => by
    obtain ⟨o, e, _⟩ := T.obj _ _ st2 b hb
    exact Heap.lt_size (up2 b o e)
  have sub : ∀ {y : Str} {c : Addr}, (closOf X.env.cells scope.names []).lookup y = some c → X.env.cells.lookup y = some c := fun {y c} e => by
    rcases closOf_sub _ _ e with z | z
    · exact z
    · simp at z
  have stat0 : ∀ b ∈ fp, (b ∈ X.ex ∨ X.s₀.heap.objs.size ≤ b) ∧ b ≠ X.env.locals ∧ (∀ x c, X.env.cells.lookup x = some c → c ≠ b) ∧ ∀ p ∈ X.pn ++ pins, p.1 ≠ b := fun b hb =>
    ⟨(f2 b hb).2.2.2.1, (f2 b hb).2.1, (f2 b hb).2.2.2.2.1, (f2 b hb).2.2.2.2.2⟩
  have hCL : G.objs.size ≠ X.env.locals := Nat.ne_of_gt I3.lt
  have hC1 : X.s₀.heap.objs.size ≤ G.objs.size := I3.sz
  have hC2 : ∀ x c, X.env.cells.lookup x = some c → c ≠ G.objs.size := fun x c e => by
    obtain ⟨v, o, ho, _⟩ := I3.cell x c e
    exact neG c o ho
  have hC3 : ∀ p ∈ X.pn ++ pins, p.1 ≠ G.objs.size := fun p hp => neG p.1 p.2 (I3.pin p hp).1
  have okB : (cxComp X scope G.objs.size (x :: fr.map (·.2)) { s2 with heap := G } H3 fp).Ok := by
    refine ⟨I2.ok.mod, S.kind, I2.ok.glob, I2.ok.blt, Nat.le_refl _, fun y z c e1 e2 => I2.ok.inj y z c (sub e1) (sub e2), fun y hy => ?_, fun y c z => Bool.noConfusion z, I2.ok.hd, I2.ok.frames, .inl rfl, fun b hb => ⟨Nat.ne_of_lt (fpG b hb), fun y c e => (stat0 b hb).2.2.1 y c (sub e)⟩,
      fun b o e => I3.bs b o e, Nat.le_trans I2.ok.bsz I3.sz, fun b o e hb => ?_, fun b hb hf => ?_, I3.stack, I3.stkFree⟩
    · have m := relabel_kind S.nocell hy
      exact closOf_has _ _ m (hkc _ m rfl)
    · rcases (stat0 b hb).1 with z | z
      · exact I2.ok.noex b o e z
      · exact absurd (Nat.lt_of_lt_of_le (Heap.lt_size e) (Nat.le_trans I2.ok.bsz z)) (Nat.lt_irrefl _)
    · rcases List.mem_cons.mp (I2.stkSub b hf) with z | z
      · exact (stat0 b hb).2.1 z
      · exact (f2 b hb).2.2.1 z
  have I4 : ∀ tk : Nat, Inv (cxComp X scope G.objs.size (x :: fr.map (·.2)) { s2 with heap := G } H3 fp) [] (none :: frV σ fr) H3 { s2 with heap := h₁, toks := tk } := fun tk => by
    refine ⟨okB, rfl, I2.bare, Un.kept old, ⟨_, hns₁, fun i y v e1 e2 _ => ?_⟩, fun y c e => ?_, I3.hok.fresh (Nat.le_refl _), fun y c e => I3.freeC y c (sub e), fun p hp => absurd (show p ∈ ([] : List (Addr × Obj)) from hp) (by simp), I3.hok.kept old, ?_⟩
    · cases i with
      | zero => simp at e2
      | succ i =>
        have e1' : (fr.map (·.2))[i]? = some y := e1
        have e2' : (fr.map fun p => (σ[p.1]?).join)[i]? = some (some v) := e2
        rw [List.getElem?_map] at e1' e2'
        cases hp : fr[i]? with
        | none => rw [hp] at e1'; cases e1'
        | some p =>
          rw [hp] at e1' e2'
          have ey : p.2 = y := Option.some.inj e1'
          have ev : (σ[p.1]?).join = some v := Option.some.inj e2'
          have ev' : σ[p.1]? = some (some v) := by
            cases q : σ[p.1]? with
            | none => rw [q] at ev; cases ev
            | some o => rw [q] at ev; simp only [Option.join] at ev; exact congrArg some ev
          have hf := S.frk p (List.mem_of_getElem? hp)
          rw [ey] at hf
          have hk := kin y hf.2
          obtain ⟨m, _, hl⟩ := I2.loc
          obtain ⟨u, ru, l⟩ := hl p.1 y v (by rw [hN]; exact hf.1) ev' (.inr hk)
          refine ⟨u, ru, .inr ⟨lookup_relabel_free hf.2, ?_⟩⟩
          rcases l with ⟨k, _⟩ | ⟨_, c, e, z⟩
          · rcases hk with hk | hk
            · rw [hk] at k; cases k
            · rw [hk] at k; cases k
          · obtain ⟨c', ec⟩ := closOf_has (cells := X.env.cells) scope.names [] (PySem.mem_of_lookup hf.2) ⟨c, e⟩
            have := sub ec
            rw [e] at this
            cases this
            obtain ⟨o, ho, hd⟩ := z
            exact ⟨c, ec, o, old c o (up2 c o ho), hd⟩
    · obtain ⟨v, o, ho, hd⟩ := I2.cell y c (sub e)
      exact ⟨v, o, old c o (up2 c o ho), hd⟩
    · show (none :: frV σ fr).length = (x :: fr.map (·.2)).length
      simp [frV]
  have locX : (cxComp X scope G.objs.size (x :: fr.map (·.2)) { s2 with heap := G } H3 fp).env.scope.names.lookup x = some .local := lookup_relabel_local S.loc
  generalize hX : cxComp X scope G.objs.size (x :: fr.map (·.2)) { s2 with heap := G } H3 fp = Y at I4 locX
  have eP : Y.prog = X.prog := by rw [← hX]; rfl
  have eW : Y.w = X.w := by rw [← hX]; rfl
  have eK : Y.K = X.K := by rw [← hX]; rfl
  have eA : Y.A = X.A := by rw [← hX]; rfl
  have eC : Y.calm = true := by rw [← hX]; exact hc
  have eE : Y.env = compEnvC scope (closOf X.env.cells scope.names []) G.objs.size X.env := by rw [← hX]; rfl
  have eN : Y.N = x :: fr.map (·.2) := by rw [← hX]; rfl
  have eX : Y.xe = fun _ _ => False := by rw [← hX]; rfl
  have eB : ∀ {σ' : St} {H' : Hp} {s' : Shared} {pins' : List (Addr × Obj)}, Inv Y pins' σ' H' s' → s'.os = s2.os ∧ Un (frs X.stack) fp H3 H' G s'.heap := fun {σ' H' s' pins'} J => by
    subst hX
    exact ⟨J.os, J.base⟩
  have hT := ht G.objs.size { s2 with heap := G } H3 fp
  have hE := he G.objs.size { s2 with heap := G } H3 fp
  rw [hX] at hT hE
  have fpY : ∀ {H' : Hp}, (∀ b ∈ fp, H' b = none) → ∀ b ∈ fp, FpOk Y [] H' b := fun {H'} hn b hb => by
    subst hX
    refine ⟨hn b hb, Nat.ne_of_lt (fpG b hb), okB.exfs b hb, .inl hb, fun y c e => (okB.exf b hb).2 y c e, fun p hp => absurd (show p ∈ ([] : List (Addr × Obj)) from hp) (by simp)⟩
  have loop : ∀ s3 : Shared, (∃ tk, s3 = { s2 with heap := h₁, toks := tk }) →
      codeAny (model X.prog X.w) X.A (.compLoop (.ListComp elt [⟨.Name x px, iter, ifs, 0⟩] scope pos) 0 (.ref it) (.ref D) Y.env)
        (compPost (model X.prog X.w) X.A X.xe use Q' (.ref D) G.objs.size) s3 := by
    rintro s3 ⟨tk, rfl⟩
    refine codeAny_compLoop_tests (fun n s' => ∃ i ys o H', Inv Y [] (o :: frV σ fr) H' s' ∧ tn i s'.heap ∧ (∀ b ∈ fp, H' b = none) ∧ W i n ys H') ?_ m0
      ⟨0, [], none, H3, I4 tk, T.keep _ _ _ st2 fun b hb o e => old b o (up2 b o e), fun b hb => ?_, w0⟩
    · rintro n s' ⟨i, ys, o, H', J', st', fr', w'⟩
      obtain ⟨hD', hgo⟩ := turn i n ys H' w'
      rcases hgo with ⟨stop, qn⟩ | ⟨go, step⟩
      · have Q1 := T.done Y eP eW eK eC i [] s' (o :: frV σ fr) H' (notedBy (model X.prog X.w) X.A Y.env fun e s'' => compPost (model X.prog X.w) X.A X.xe use Q' (.ref D) G.objs.size (.error e) s'') J' (fpY fr') st' stop
        rw [eA] at Q1
        refine thn Q1 fun r s4 ⟨hr, J4⟩ => ?_
        subst hr
        obtain ⟨m, hn, _⟩ := J4.loc
        rw [eE] at hn
        obtain ⟨os4, u4⟩ := eB J4
        have free4 : H' G.objs.size = none := by have := J4.free; rw [eE] at this; exact this
        have hok4 : HOk X.prog X.w H' s4.heap := by have := J4.hok; rw [eP, eW] at this; exact this
        exact hfin D G.objs.size H' s4 m (I3.call' (ch := fp) (s' := s4) os4 u4 hok4 J4.bare stat0) hn ⟨free4, hCL, .inr hC1, hC2, hC3⟩ qn
      · have Q1 := T.item Y eP eW eK eC i [] s' (o :: frV σ fr) H' (notedBy (model X.prog X.w) X.A Y.env fun e s'' => compPost (model X.prog X.w) X.A X.xe use Q' (.ref D) G.objs.size (.error e) s'') J' (fpY fr') st' go
        rw [eA] at Q1
        refine thn Q1 fun r s4 ⟨u, hr, h4⟩ => ?_
        subst hr
        show wpAny _ _ (letOwnedTupleGo (.Name x px) (.ref it) u >>= fun _ => assign (.Name x px) Y.env u) _ _ s4
        refine wpAny_bind (thn h4 fun _ s5 ⟨v, H5, J5, r5, y5, st5, fr5⟩ => ?_)
        have J5' := J5.pinned (fpY fr5) (T.obj _ _ st5)
        have G5 := pg_name (X := Y) (i := 0) (x := x) (pos := px) (by rw [eN]; exact S.nd) (by rw [eN]; rfl) (.inl locX) (.inr locX) ([] ++ pinsAt fp s5.heap) s5 (o :: frV σ fr) H5 v u (fun σ6 H6 => σ6 = some v :: frV σ fr ∧ H6 = H5) J5' r5 ⟨rfl, rfl⟩
        rw [eP, eW, eA, eX] at G5
        refine wpAny_mono G5 (fun _ s6 ⟨σ6, H6, J6, e6, e6'⟩ => ?_) fun _ _ z => z.elim
        subst e6 e6'
        have T6 := hT _ s6 _ _ _ J6 (step v _ y5)
        rw [eP, eW, eA, eX] at T6
        have again : ∀ {s7 : Shared} {H7 : Hp} {zs : List V}, Inv Y ([] ++ pinsAt fp s5.heap) (some v :: frV σ fr) H7 s7 → (∃ m', m' < n ∧ W (i + 1) m' zs H7) → ∃ m, m < n ∧ ∃ i ys o H', Inv Y [] (o :: frV σ fr) H' s7 ∧ tn i s7.heap ∧ (∀ b ∈ fp, H' b = none) ∧ W i m ys H' := fun {s7 H7 zs} J7 ⟨m', hm, w7⟩ => by
          refine ⟨m', hm, i + 1, zs, some v, H7, J7.unpinned, T.keep _ _ _ st5 fun b hb o e => (J7.pin (b, o) (List.mem_append_right _ (List.mem_append_right _ (mem_pinsAt hb e)))).1, fun b hb => ?_, w7⟩
          obtain ⟨o, e, d⟩ := T.obj _ _ st5 b hb
          exact (J7.pin (b, o) (List.mem_append_right _ (List.mem_append_right _ (mem_pinsAt hb e)))).2.1
        refine wpAny_mono T6 (fun ok s7 ⟨H7, J7, q7⟩ => ?_) fun _ _ z => z.elim
        cases ok with
        | false => exact again J7 q7
        | true =>
          have E7 := hE _ s7 _ _ _ J7 q7
          rw [eP, eW, eA, eX] at E7
          show wpAny _ _ (eval elt Y.env) _ _ s7
          refine wpAny_mono E7 (fun u8 s8 ⟨y8, H8, J8, r8, hD8, hz8, w8⟩ => ?_) fun _ _ z => z.elim
          have A8 := mt_append (X := Y) _ s8 _ H8 (.ref D) [y8] (.ref D) [u8] (fun z H9 => H9 = upd H8 D (.lst (ys ++ [y8]))) J8 rfl (.cons r8 .nil) ⟨D, ys, y8, rfl, rfl, hD8, hz8, rfl⟩
          rw [eP, eW, eA, eX] at A8
          refine wpAny_mono A8 (fun _ s9 ⟨z9, H9, J9, _, e9⟩ => ?_) fun _ _ z => z.elim
          subst e9
          exact again J9 w8
    · rw [← hH3]
      have hbD : b ≠ D := by
        rw [← hD]
        obtain ⟨o, e, _⟩ := T.obj _ _ st2 b hb
        exact Nat.ne_of_lt (Heap.lt_size e)
      rw [upd_ne hbD]
      exact (f2 b hb).1
  rw [eE] at loop
  exact codeAny_compStart_list (loop _ ⟨_, rfl⟩) (T.self _ 0 _ _ _ (T.keep _ _ _ st2 fun b hb o e => old b o (up2 b o e)) (loop _ ⟨_, rfl⟩))
theorem pe_comp {X : Cx} {x : Str} {px : Pos} {iter elt : Expr} {ifs : List Expr} {scope sc : Scope} {pos : Pos} {N : List Str} {fr : List (Nat × Str)} {wi : TI} {tt : TT} {te : TE}
    (S : CompScope sc scope N x fr) (hsc : X.env.scope = sc) (hN : X.N = N) (hc : X.calm = true) (hi : PI X (.Name x px) iter wi)
    (ht : ∀ (C : Addr) (s : Shared) (H : Hp) (fp : List Addr), PTs (cxComp X scope C (x :: fr.map (·.2)) s H fp) ifs tt)
    (he : ∀ (C : Addr) (s : Shared) (H : Hp) (fp : List Addr), PE (cxComp X scope C (x :: fr.map (·.2)) s H fp) elt te)
    (hs : ∀ z, foldedSetIterable iter X.env z = pure z := by intro _; rfl) :
    PE X (.ListComp elt [⟨.Name x px, iter, ifs, 0⟩] scope pos) (tComp wi fr tt te) := by
  intro pins s σ H Q I h
  rw [eval_ListComp]
  refine comp_run (use := none) S hsc hN hc hi ht he hs I h fun D C H' s' m J hn fc q => ?_
  exact ⟨m, hn, fun h' hs' => ⟨.ref D, H', J.turned (t' := s'.toks) (fun b o hb e => (hs'.2 b hb).trans e) fc.hn fc.hL fc.h1 fc.h2 fc.h3, rfl, q⟩⟩
theorem all_range {bs : List Bool} : (List.range bs.length).all (fun i => bs.getD i true) = bs.all id := by
  rw [Bool.eq_iff_iff, List.all_eq_true, List.all_eq_true]
  constructor
  · intro h b hb
    obtain ⟨i, hi, e⟩ := List.mem_iff_getElem.mp hb
    have q := h i (List.mem_range.mpr hi)
    simp only [List.getD_eq_getElem?_getD, List.getElem?_eq_getElem hi, Option.getD_some] at q
    rw [← e]; exact q
  · intro h i hi
    have hi' := List.mem_range.mp hi
    simp only [List.getD_eq_getElem?_getD, List.getElem?_eq_getElem hi', Option.getD_some]
    exact h _ (List.getElem_mem hi')
theorem call_all {X : Cx} (hc : X.calm = true) : CallR X (.builtin "all") (fun xs H Q => ∃ (p : Addr) (bs : List Bool), xs = [.ref p] ∧ SqL X.K H p (bs.map V.bl) ∧ Q (.bl (bs.all id)) H) := by
  intro pins s σ H xs us Q I r h
  obtain ⟨p, bs, rfl, hq, q⟩ := h
  obtain ⟨u, rfl, rx⟩ := vals1 r
  cases rx
  obtain ⟨its, rv, pl, hz⟩ := I.list hq
  have hlen := rv.length
  rw [List.length_map] at hlen
  have hpl : p < s.heap.objs.size := by obtain ⟨o, e, _⟩ := pl.isList; exact Heap.lt_size e
  refine call_all_walk (wpAny_pyIter_list pl.isList ?_)
  refine ⟨s.heap.objs.size, _, [s.heap.objs.size], its.toArray.size, _, _, fun i => bs.getD i true, rfl, Walks.list (A := X.A.in1) (I.ok.hd hc) s.heap.objs.size p (Nat.ne_of_lt hpl) its.toArray, ⟨⟨_, Heap.get?_push_size _ rfl, rfl, rfl⟩, pl.isList.push _⟩, ?_, ?_⟩
  · intro i v s' Q' E' hv hq'
    have hv' : its[i]? = some v := by simpa using hv
    have hi : i < its.length := (List.getElem?_eq_some_iff.mp hv').1
    have hb : (bs.map V.bl)[i]? = some (V.bl (bs.getD i true)) := by
      rw [List.getElem?_map, List.getElem?_eq_getElem (by omega)]
      simp [List.getD_eq_getElem?_getD, List.getElem?_eq_getElem (show i < bs.length by omega)]
    obtain ⟨u, e1, e2⟩ := rv.get hb
    rw [hv'] at e1
    cases e1
    cases e2
    exact wpAny_truthy_bool hq'
  · intro h' tk hk
    have hsz : its.toArray.size = bs.length := by rw [List.size_toArray]; exact hlen.symm
    rw [hsz, all_range]
    exact ⟨.bl (bs.all id), H, I.kept (t' := tk) fun b o e => hk b o (fun z => absurd (Heap.lt_size e) (by rw [List.mem_singleton.mp z]; exact Nat.lt_irrefl _)) (Heap.get?_push_of_some _ e), rfl, q⟩
def clsV : V → Option Value
  | .ty n => some (.type n)
  | .ref a => some (.ref a)
  | _ => none
theorem call_isinst {X : Cx} : CallR X (.builtin "isinstance") (fun xs H Q => ∃ x c cv t b, xs = [x, c] ∧ clsV c = some cv ∧ TyOf X.K H x t ∧ PySem.W.kitOne X.K t cv = some b ∧ Q (.bl b) H) := by
  intro pins s σ H xs us Q I r h
  obtain ⟨x, c, cv, t, b, rfl, hcv, ty, hk, q⟩ := h
  obtain ⟨u, u', rfl, rx, rc⟩ := vals2 r
  have e : u' = cv := by
    cases c with
    | ty n => cases hcv; exact rc
    | ref a => cases hcv; exact rc
    | _ => cases hcv
  subst e
  exact isinst_ok I rx ty hk fun tk => ⟨.bl b, H, I.tok tk, rfl, q⟩
theorem strsAre_of {xs : List Str} : ∀ {us : List Value}, Vals (xs.map V.str) us → StrsAre us xs := by
  induction xs with
  | nil => intro us r; rw [List.map_nil] at r; cases r; exact .nil
  | cons y ys ih =>
    intro us r
    rw [List.map_cons] at r
    cases r with
    | cons r1 r2 =>
      obtain ⟨t, e⟩ := r1
      subst e
      exact .cons y t (ih r2)
mutual
inductive RD (K : PySem.W.Frag) (H : Hp) : V → PyData → Prop
  | non : RD K H .non .none
  | bl (b : Bool) : RD K H (.bl b) (.bool b)
  | int (i : Int) : RD K H (.int i) (.int i)
  | str (x : Str) : RD K H (.str x) (.str x)
  | lst {a : Addr} {xs : List V} {ds : List PyData} : SqL K H a xs → RDs K H xs ds → RD K H (.ref a) (.list ds)
  | tup {a : Addr} {xs : List V} {ds : List PyData} : SqT K H a xs → RDs K H xs ds → RD K H (.ref a) (.tuple ds)
inductive RDs (K : PySem.W.Frag) (H : Hp) : List V → List PyData → Prop
  | nil : RDs K H [] []
  | cons {x : V} {xs : List V} {d : PyData} {ds : List PyData} : RD K H x d → RDs K H xs ds → RDs K H (x :: xs) (d :: ds)
end
mutual
theorem RD.reads {X : Cx} {pins : List (Addr × Obj)} {σ : St} {H : Hp} {s : Shared} (I : Inv X pins σ H s) : ∀ {x : V} {d : PyData} {u : Value}, RD X.K H x d → RelV x u → ∃ as, Reads s.heap u d as
  | _, _, _, .non, r => by cases (show _ = Value.none from r); exact ⟨_, .none⟩
  | _, _, _, .bl b, r => by cases (show _ = Value.bool b from r); exact ⟨_, .bool b⟩
  | _, _, _, .int i, r => by obtain ⟨t, e⟩ := r; subst e; exact ⟨_, .int i t⟩
  | _, _, _, .str x, r => by obtain ⟨t, e⟩ := r; subst e; exact ⟨_, .str x t⟩
  | _, _, _, .lst (a := a) hq hs, r => by
    cases (show _ = Value.ref a from r)
    obtain ⟨its, rv, pl, _⟩ := I.list hq
    obtain ⟨as, ra⟩ := RDs.reads I hs rv
    obtain ⟨o, e, c, n, d⟩ := pl.isList
    exact ⟨_, .list e c d (by simpa using ra)⟩
  | _, _, _, .tup (a := a) hq hs, r => by
    cases (show _ = Value.ref a from r)
    obtain ⟨its, rv, pl, _⟩ := I.tuple hq
    obtain ⟨as, ra⟩ := RDs.reads I hs rv
    obtain ⟨o, e, c, n, d⟩ := pl
    exact ⟨_, .tuple e c d (by simpa using ra)⟩
theorem RDs.reads {X : Cx} {pins : List (Addr × Obj)} {σ : St} {H : Hp} {s : Shared} (I : Inv X pins σ H s) : ∀ {xs : List V} {ds : List PyData} {us : List Value}, RDs X.K H xs ds → Vals xs us → ∃ as, ReadsAll s.heap us ds as
  | _, _, _, .nil, r => by cases r; exact ⟨_, .nil⟩
  | _, _, _, .cons h1 h2, r => by
    cases r with
    | cons r1 r2 =>
      obtain ⟨as, a1⟩ := RD.reads I h1 r1
      obtain ⟨bs, a2⟩ := RDs.reads I h2 r2
      exact ⟨_, .cons a1 a2⟩
end
inductive rEqD_I (K : PySem.W.Frag) (x : V) (y : V) (H : Hp) (Q : VK) : Prop
  | mk : ∀ d e, RD K H x d → RD K H y e → SeqAt.shaped d = true → SeqAt.shaped e = true → Q (.bl (PyData.eqv d e)) H → rEqD_I K x y H Q
def rEqD (K : PySem.W.Frag) : R2 := fun x y H Q => rEqD_I K x y H Q
inductive rNeD_I (K : PySem.W.Frag) (x : V) (y : V) (H : Hp) (Q : VK) : Prop
  | mk : ∀ d e, RD K H x d → RD K H y e → SeqAt.shaped d = true → SeqAt.shaped e = true → Q (.bl (!PyData.eqv d e)) H → rNeD_I K x y H Q
def rNeD (K : PySem.W.Frag) : R2 := fun x y H Q => rNeD_I K x y H Q
theorem op_eqD {X : Cx} (hu : X.A.units + 64 < cLine) : OpR X (compareOp .Eq) (rEqD X.K) := by
  intro pins s σ H x y v u Q I rx ry h
  obtain ⟨d, e, hd, he, sd, se, q⟩ := h
  obtain ⟨as, ra⟩ := hd.reads I rx
  obtain ⟨bs, rb⟩ := he.reads I ry
  exact eq_dataH ra rb sd se hu ⟨.bl _, H, I, rfl, q⟩
theorem op_neD {X : Cx} (hu : X.A.units + 64 < cLine) : OpR X (compareOp .NotEq) (rNeD X.K) := by
  intro pins s σ H x y v u Q I rx ry h
  obtain ⟨d, e, hd, he, sd, se, q⟩ := h
  obtain ⟨as, ra⟩ := hd.reads I rx
  obtain ⟨bs, rb⟩ := he.reads I ry
  exact ne_dataH ra rb sd se hu ⟨.bl _, H, I, rfl, q⟩
theorem us_s {n : Nat} {P : List Value → Prop} (h : ∀ a us, us.length = n → P (a :: us)) : ∀ us : List Value, us.length = n + 1 → P us := fun us e => by
  cases us with
  | nil => exact absurd e (Nat.succ_ne_zero n).symm
  | cons a us => exact h a us (Nat.succ.inj e)
theorem us_0 {P : List Value → Prop} (h : P []) : ∀ us : List Value, us.length = 0 → P us := fun us e => by rw [List.eq_nil_of_length_eq_zero e]; exact h
theorem us_1 {P : List Value → Prop} (h : ∀ a, P [a]) : ∀ us : List Value, us.length = 1 → P us := us_s fun a => us_0 (P := fun us => P (a :: us)) (h a)
theorem us_2 {P : List Value → Prop} (h : ∀ a b, P [a, b]) : ∀ us : List Value, us.length = 2 → P us := us_s fun a => us_1 (P := fun us => P (a :: us)) (fun b => h a b)
theorem us_3 {P : List Value → Prop} (h : ∀ a b c, P [a, b, c]) : ∀ us : List Value, us.length = 3 → P us := us_s fun a => us_2 (P := fun us => P (a :: us)) (fun b c => h a b c)
end L2
set_option Elab.async false
set_option linter.all false
set_option maxRecDepth 100000
set_option maxHeartbeats 4000000
namespace L2
open PySem PySem.Spec PyProof.Rows
theorem atI_some {α : Type} {xs : List α} {i : Int} (h0 : 0 ≤ i) (h1 : i < (xs.length : Int)) : ∃ v, atI xs i = some v ∧ v ∈ xs ∧ xs[i.toNat]? = some v := by
  have hn : i.toNat < xs.length := by omega
  refine ⟨xs[i.toNat], ?_, List.getElem_mem hn, List.getElem?_eq_getElem hn⟩
  have e : ((i.toNat : Nat) : Int) = i := by omega
  have q := atI_nat (xs := xs) (j := i.toNat) (List.getElem?_eq_getElem hn)
  rw [e] at q
  exact q
theorem mem_map_int {ns : List Int} {v : V} (h : v ∈ ns.map V.int) : ∃ z, v = .int z ∧ z ∈ ns := by
  obtain ⟨z, hz, e⟩ := List.mem_map.mp h
  exact ⟨z, e.symm, hz⟩
theorem Same.upd_new {H : Hp} {p : Addr} {o : HO} (h : H p = none) : Same H (upd H p o) := fun b u e => by rw [upd_ne (ne_of_none e h)]; exact e
theorem Same.upd_of {H H' : Hp} {p : Addr} {o : HO} (s : Same H H') (h : H p = none) : Same H (upd H' p o) := fun b u e => by rw [upd_ne (ne_of_none e h)]; exact s b u e
theorem Same.tup {K : PySem.W.Frag} {H H' : Hp} {a : Addr} {xs : List V} (e : Same H H') (h : SqT K H a xs) : SqT K H' a xs := by
  rcases h with (h | ⟨o, h⟩) | h
  · exact .inl (.inl (e _ _ h))
  · exact .inl (.inr ⟨o, e _ _ h⟩)
  · exact .inr h
/-- a global that holds a plain value -/
theorem pe_gl {X : Cx} {x : Str} {v : V} {pos : Pos} (hg : Gl X x) (h : ∃ u, X.mg x = some u ∧ RelV v u) (hd : (x == ("__debug__" : Str)) = false := by decide) : PE X (.Name x pos) (tC v) := by
  obtain ⟨u, hm, r⟩ := h
  exact pe_glob hg hm r hd
section
variable {X : Cx} {o e : Expr} {es : List Expr} {to : TE} {t : TA} {name : Str} {apos cpos : Pos} {T id : String} {r : V → List V → Hp → VK → Prop}
end
def plainE : Expr → Bool
  | .Starred .. => false
  | _ => true
theorem starEach_plain {e : Expr} {es : List Expr} {env : Env} (h : plainE e = true) : starEach (e :: es) env = (false, eval e env) :: starEach es env := by
  cases e <;> first | rfl | (cases h)
/-- an item of a written list, tuple or argument list (no star) -/
theorem pac {X : Cx} {e : Expr} {es : List Expr} {te : TE} {t : TA} (ha : PE X e te) (hr : PA X es t) (h : plainE e = true := by rfl) : PA X (e :: es) (tCons te t) := pa_cons ha hr (starEach_plain h)
/-- an item list, not to be looked into by the elaborator (its unfolding is paid for item by item, twice each) -/
structure PAs (X : Cx) (es : List Expr) (t : TA) : Prop where
  h : PA X es t
theorem pas_nil {X : Cx} : PAs X [] tNil := ⟨pa_nil⟩
theorem pas_cons {X : Cx} {e : Expr} {es : List Expr} {te : TE} {t : TA} (ha : PE X e te) (hr : PAs X es t) (h : plainE e = true := by rfl) : PAs X (e :: es) (tCons te t) := ⟨pac ha hr.h h⟩
theorem pe_lstS {X : Cx} {es : List Expr} {t : TA} {pos : Pos} (h : PAs X es t) : PE X (.List es pos) (tLst t) := pe_lst h.h
structure QE (X : Cx) (e : Expr) (t : TE) : Prop where
  h : PE X e t
structure QS (X : Cx) (st : Stmt) (t : TS) : Prop where
  h : PS X st t
structure QSs (X : Cx) (st : List Stmt) (t : TS) : Prop where
  h : PSs X st t
theorem qe_lst {X : Cx} {es : List Expr} {t : TA} {pos : Pos} (h : PAs X es t) : QE X (.List es pos) (tLst t) := ⟨pe_lst h.h⟩
theorem qs_of {X : Cx} {st : Stmt} {t : TS} (h : PS X st t) : QS X st t := ⟨h⟩
theorem qs_set {X : Cx} {i : Nat} {x : Str} {e : Expr} {te : TE} {pos pos' : Pos} (hN : X.N.Nodup) (hi : X.N[i]? = some x) (hx : Loc X.env.scope x) (he : QE X e te) (hs : swapsWith e (some (.Name x pos')) pos.line X.env = pure false := by rfl) (hf : X.fn x = true ∨ X.env.scope.names.lookup x = some .local := by first | exact .inl rfl | exact .inr rfl | assumption) :
    QS X (.Assign [.Name x pos'] e pos) (tAsg te (gName i)) := ⟨ps_set hN hi hx he.h hs hf⟩
theorem qs_if {X : Cx} {c : Expr} {a b : List Stmt} {tc : TT} {t u : TS} {pos : Pos} (hc : PT X c tc) (ha : QSs X a t) (hb : PSs X b u) : QS X (.If c a b pos) (tIfS tc t u) := ⟨ps_if hc ha.h hb⟩
theorem qss_cons {X : Cx} {st : Stmt} {rest : List Stmt} {t u : TS} (h1 : QS X st t) (h2 : QSs X rest u) : QSs X (st :: rest) (tSeq t u) := ⟨pss_cons h1.h h2.h⟩
theorem qss_one {X : Cx} {st : Stmt} {t : TS} (h1 : QS X st t) : QSs X [st] t := ⟨pss_one h1.h⟩
/-- a comprehension over a text whose elements leave the heap as it is -/
theorem comp_str {x : Str} {fr : List (Nat × Str)} {te : TE} {σ : St} {H1 : Hp} {Q : VK} (f : Nat → V) (hz : x.cps.size ≤ sizeLine)
    (hte : ∀ (c : Nat) (H3 : Hp) (Q' : VK), c ∈ x.cps.toList → Q' (f c) H3 → te (some (.str ⟨#[c]⟩) :: frV σ fr) H3 Q')
    (hQ : ∀ D, H1 D = none → Q (.ref D) (upd H1 D (.lst (x.cps.toList.map f)))) :
    compGoal (Its x) fr tTrue te σ H1 Q := by
  unfold compGoal
  intro D hD
  refine ⟨fun i m ys H2 => m = x.cps.size - i ∧ i ≤ x.cps.size ∧ ys = (x.cps.toList.take i).map f ∧ H2 = upd H1 D (.lst ys), ⟨x.cps.size, by simp, Nat.zero_le _, by simp, rfl⟩, ?_⟩
  rintro i m ys H2 ⟨rfl, hi, rfl, rfl⟩
  refine ⟨upd_same, ?_⟩
  by_cases hlt : i < x.cps.size
  · refine .inr ⟨hlt, ?_⟩
    rintro v H3 ⟨rfl, c, hc, rfl⟩
    refine tTrue_go (iteT ?_)
    have hcl : x.cps.toList[i]? = some c := by simpa using hc
    refine hte c _ _ (List.mem_of_getElem? hcl) ⟨upd_same, ?_, x.cps.size - (i + 1), by omega, rfl, hlt, ?_, upd_upd⟩
    · rw [List.length_map, List.length_take]
      simp only [Array.length_toList]
      omega
    · rw [List.take_add_one, hcl]
      simp
  · have e : i = x.cps.size := by omega
    subst e
    have e2 : x.cps.toList.take x.cps.size = x.cps.toList := List.take_of_length_le (by simp)
    refine .inl ⟨rfl, ?_⟩
    rw [e2]
    exact hQ D hD
theorem one_len (c : Nat) : (⟨#[c]⟩ : Str).length = 1 := rfl
end L2
set_option Elab.async false
set_option linter.all false
set_option maxRecDepth 100000
set_option maxHeartbeats 4000000
namespace L2
open PySem PySem.Spec PyProof.Rows
/-- only plain signs -/
def Asc (x : Str) : Prop := ∀ c ∈ x.cps.toList, c < 128
theorem Asc.ok {x : Str} (h : Asc x) : PyData.strOk x = true := by
  unfold PyData.strOk
  rw [Array.all_eq_true']
  intro c hc
  have := h c (Array.mem_toList_iff.mpr hc)
  exact decide_eq_true (by omega)
/-- text.split(): the words between blanks -/
theorem vals_strValues : ∀ l : List (Str × Tok), Vals ((l.map (·.1)).map V.str) (strValues l)
  | [] => .nil
  | p :: r => .cons ⟨p.2, rfl⟩ (vals_strValues r)
end L2
set_option Elab.async false
set_option linter.all false
set_option maxRecDepth 100000
set_option maxHeartbeats 4000000
namespace L2
open PySem PySem.Spec PyProof.Rows
theorem inV_strs {xs : List Str} {t : Str} : inV (.str t) (xs.map V.str) = decide (t ∈ xs) := by
  unfold inV
  rw [List.any_map, Bool.eq_iff_iff, List.any_eq_true, decide_eq_true_eq]
  constructor
  · rintro ⟨x, hx, e⟩
    have : x = t := eq_of_beq (show (x == t) = true from e)
    rw [← this]; exact hx
  · intro h
    exact ⟨t, h, show (t == t) = true from beq_self_eq_true t⟩
theorem flat_strs (xs : List Str) : (xs.map V.str).all flatV = true := by
  rw [List.all_map, List.all_eq_true]; intro x _; rfl
/-- a cut from the front -/
theorem cut_front {α : Type} (f : α → V) (xs : List α) (v : Int) (h : 0 ≤ v) : cutV (xs.map f) none (some v) = (xs.take v.toNat).map f := by
  have hv : ¬ v < 0 := by omega
  simp only [cutV, HT.sIx, if_neg hv, List.drop_zero, List.length_map, Nat.sub_zero, ← List.map_take]
  congr 1
  by_cases h2 : v.toNat ≤ xs.length
  · rw [Nat.min_eq_left h2]
  · rw [Nat.min_eq_right (by omega), List.take_of_length_le (Nat.le_refl _), List.take_of_length_le (by omega)]
theorem cut_last {α : Type} (f : α → V) (xs : List α) (x : α) : cutV ((xs ++ [x]).map f) none (some (-1)) = xs.map f := by
  have h1 : (-1 : Int) < 0 := by decide
  simp only [cutV, HT.sIx, if_pos h1, List.drop_zero, List.length_map, List.length_append, List.length_singleton, Nat.sub_zero, ← List.map_take]
  congr 1
  have e : (-1 + ((xs.length + 1 : Nat) : Int)).toNat = xs.length := by omega
  rw [e, List.take_left]
end L2
namespace L2
open PySem PySem.Spec PyProof.Rows
abbrev aZ : Str := "abcdefghijklmnopqrstuvwxyz0123456789"
theorem aZ_len : aZ.cps.toList.length = 36 := by decide +kernel
theorem aZ_asc : Asc aZ := by
  have h : (aZ.cps.toList.all fun c => decide (c < 128)) = true := by decide +kernel
  intro c hc
  exact of_decide_eq_true (List.all_eq_true.mp h c hc)
theorem aZ_small : aZ.length ≤ sizeLine := by
  have : aZ.length = 36 := by decide +kernel
  rw [this]; decide
/-- 1 to 20 signs, each a small letter or a figure -/
structure WordS (x : Str) : Prop where
  lo : 1 ≤ x.length
  hi : x.length ≤ 20
  in_ : ∀ c ∈ x.cps.toList, c ∈ aZ.cps.toList
theorem WordS.asc {x : Str} (h : WordS x) : Asc x := fun c hc => aZ_asc c (h.in_ c hc)
theorem len_list (x : Str) : x.length = x.cps.toList.length := by simp [Str.length]
theorem cat_list (x y : Str) : (x ++ y).cps.toList = x.cps.toList ++ y.cps.toList := by show (x.cps ++ y.cps).toList = _; simp
theorem pick_sign {z : Str} {i : Int} (h0 : 0 ≤ i) (h1 : i < (z.cps.toList.length : Int)) : ∃ c, atI z.cps.toList i = some c ∧ c ∈ z.cps.toList := by
  obtain ⟨c, a, b, _⟩ := atI_some h0 h1
  exact ⟨c, a, b⟩
end L2
set_option Elab.async false
set_option linter.all false
set_option maxRecDepth 100000
set_option maxHeartbeats 4000000
namespace L2
open PySem PySem.Spec PyProof.Rows
theorem big1 : 1000002 ≤ sizeLine := by decide
end L2
set_option Elab.async false
set_option linter.all false
set_option maxRecDepth 100000
set_option maxHeartbeats 4000000
namespace L2
open PySem PySem.Spec PyProof.Rows
theorem qe_op {X : Cx} {a b : Expr} {ta tb : TE} {pos : Pos} {op : Operator} {r : R2} (ho : OpR X (binaryOp op) r) (ha : PE X a ta) (hb : QE X b tb) : QE X (.BinOp a op b pos) (tOp r ta tb) := ⟨pe_op ho ha hb.h⟩
theorem qss_of {X : Cx} {st : List Stmt} {t : TS} (h : PSs X st t) : QSs X st t := ⟨h⟩
theorem atI_map {α β : Type} (f : α → β) (xs : List α) (i : Int) : atI (xs.map f) i = (atI xs i).map f := by
  unfold atI
  rw [List.length_map]
  cases ixN xs.length i with
  | none => rfl
  | some j => simp
abbrev abS : Str := "abcde1"
theorem ab_len : abS.cps.toList.length = 6 := by decide +kernel
theorem ab_small : abS.length ≤ sizeLine := by decide +kernel
def ownWords : List Str := ["and", "or", "not", "then", "if", "thread", "to", "any", "day", "stop", "place", "answers", "before", "after", "word", "title", "from", "in", "marked", "mark", "unmark"]
theorem own_len : ownWords.length = 21 := rfl
def wordSign (b i : Int) (j : Nat) : Nat := if (j : Int) = b / 4 % 6 then (atI abS.cps.toList i).getD 0 else (atI aZ.cps.toList ((b / 500 + 7 * (j : Int)) % 36)).getD 0
def wordBy (b i : Int) : Str := if b % 4 = 1 then (atI ownWords ((b / 4 + 5 * i) % 21)).getD "" else ⟨((List.range (b / 4 % 6 + 1 + b / 24 % (20 - b / 4 % 6)).toNat).map (wordSign b i)).toArray⟩
theorem own_ok : (ownWords.all fun w => decide (1 ≤ w.length) && decide (w.length ≤ 20) && w.cps.toList.all fun c => decide (c ∈ aZ.cps.toList)) = true := by decide +kernel
theorem ab_ok : (abS.cps.toList.all fun c => decide (c ∈ aZ.cps.toList)) = true := by decide +kernel
theorem wordBy_ok {b i : Int} (hi0 : 0 ≤ i) (hi1 : i < 6) : WordS (wordBy b i) := by
  unfold wordBy
  split
  · obtain ⟨v, hv, hvm, _⟩ := atI_some (xs := ownWords) (i := (b / 4 + 5 * i) % 21) (Int.emod_nonneg _ (by decide)) (by rw [own_len]; exact Int.emod_lt_of_pos _ (by decide))
    rw [hv]
    have q := List.all_eq_true.mp own_ok v hvm
    rw [Bool.and_eq_true, Bool.and_eq_true] at q
    exact ⟨of_decide_eq_true q.1.1, of_decide_eq_true q.1.2, fun c hc => of_decide_eq_true (List.all_eq_true.mp q.2 c hc)⟩
  · have p0 : 0 ≤ b / 4 % 6 := Int.emod_nonneg _ (by decide)
    have p1 : b / 4 % 6 < 6 := Int.emod_lt_of_pos _ (by decide)
    have q0 : 0 ≤ b / 24 % (20 - b / 4 % 6) := Int.emod_nonneg _ (by omega)
    have q1 : b / 24 % (20 - b / 4 % 6) < 20 - b / 4 % 6 := Int.emod_lt_of_pos _ (by omega)
    have hl : (⟨((List.range (b / 4 % 6 + 1 + b / 24 % (20 - b / 4 % 6)).toNat).map (wordSign b i)).toArray⟩ : Str).length = (b / 4 % 6 + 1 + b / 24 % (20 - b / 4 % 6)).toNat := by
      rw [len_list, List.toList_toArray, List.length_map, List.length_range]
    refine ⟨by rw [hl]; omega, by rw [hl]; omega, fun c hc => ?_⟩
    have hc' : c ∈ (List.range (b / 4 % 6 + 1 + b / 24 % (20 - b / 4 % 6)).toNat).map (wordSign b i) := hc
    obtain ⟨j, _, rfl⟩ := List.mem_map.mp hc'
    unfold wordSign
    split
    · obtain ⟨c, hc, hcm⟩ := pick_sign (z := abS) (i := i) hi0 (by rw [ab_len]; exact hi1)
      rw [hc]
      exact of_decide_eq_true (List.all_eq_true.mp ab_ok c hcm)
    · obtain ⟨c, hc, hcm⟩ := pick_sign (z := aZ) (i := (b / 500 + 7 * (j : Int)) % 36) (Int.emod_nonneg _ (by decide)) (by rw [aZ_len]; exact Int.emod_lt_of_pos _ (by decide))
      rw [hc]
      exact hcm
end L2
set_option Elab.async false
set_option linter.all false
set_option maxRecDepth 100000
set_option maxHeartbeats 4000000
namespace L2
open PySem PySem.Spec PyProof.Rows
theorem ne_refl {K : PySem.W.Frag} {H : Hp} {x y : V} {d : PyData} {Q : VK} (hx : RD K H x d) (hy : RD K H y d) (h : SeqAt.shaped d = true) (q : Q (.bl false) H) : rNeD K x y H Q :=
  ⟨d, d, hx, hy, h, h, by rw [SeqAt.eqv_refl d (SeqAt.canLay_of_shaped h)]; exact q⟩
theorem eq_refl {K : PySem.W.Frag} {H : Hp} {x y : V} {d : PyData} {Q : VK} (hx : RD K H x d) (hy : RD K H y d) (h : SeqAt.shaped d = true) (q : Q (.bl true) H) : rEqD K x y H Q :=
  ⟨d, d, hx, hy, h, h, by rw [SeqAt.eqv_refl d (SeqAt.canLay_of_shaped h)]; exact q⟩
end L2
set_option Elab.async false
set_option linter.all false
set_option maxRecDepth 100000
set_option maxHeartbeats 4000000
namespace L2
open PySem PySem.Spec PyProof.Rows
theorem str_ext {x y : Str} (h : x.cps.toList = y.cps.toList) : x = y := by
  cases x; cases y
  have := Array.toList_inj.mp h
  simp only at this
  rw [this]
/-- a row of drawn numbers: what stands at a place -/
theorem row_pick {rs : List Int} {m : Int} (hb : ∀ r ∈ rs, 0 ≤ r ∧ r < m) (i : Int) (h0 : 0 ≤ i) (h1 : i < (rs.length : Int)) : ∃ z, atI (rs.map V.int) i = some (V.int z) ∧ 0 ≤ z ∧ z < m := by
  obtain ⟨v, hv, hvm, _⟩ := atI_some (xs := rs.map V.int) h0 (by rw [List.length_map]; exact h1)
  obtain ⟨z, hz, rfl⟩ := List.mem_map.mp hvm
  exact ⟨z, hv, hb z hz⟩
end L2
set_option Elab.async false
set_option linter.all false
set_option maxRecDepth 100000
set_option maxHeartbeats 4000000
namespace L2
open PySem PySem.Spec PyProof.Rows
inductive rSplit1_I (x : V) (xs : List V) (H : Hp) (Q : VK) : Prop
  | mk : ∀ (z y : Str), x = .str z → xs = [.str y] → (y.length == 0) = false → z.length ≤ 1000000 → (∀ l, H l = none → Q (.ref l) (upd H l (.lst ((Txt.split z y).map V.str)))) → rSplit1_I x xs H Q
def rSplit1 : V → List V → Hp → VK → Prop := fun x xs H Q => rSplit1_I x xs H Q
theorem parts_le (x y : Str) : (Builtin.Str.partsBetween x (Builtin.Str.occurrences x y 0 x.length (x.length + 1)) y.length).length ≤ x.length + 2 := by
  rw [StrLaws.partsBetween_eq]
  have h := StrLaws.occ_length_le_len x y 0 x.length (x.length + 1)
  have e : ∀ (cuts : List Nat) (w a : Nat), (StrLaws.partsFrom x w a cuts).length ≤ cuts.length + 1 := by
    intro cuts
    induction cuts with
    | nil => intro w a; simp [StrLaws.partsFrom]
    | cons c r ih =>
      intro w a
      have := ih w (c + w)
      simp only [StrLaws.partsFrom, List.length_cons]
      omega
  have := e (Builtin.Str.occurrences x y 0 x.length (x.length + 1)) y.length 0
  omega
theorem mt_split1 {X : Cx} : MtR X "str.split" rSplit1 := by
  intro pins s σ H x xs v us Q I rx rv h
  obtain ⟨x, y, rfl, rfl, hy, hz, q⟩ := h
  obtain ⟨t, rfl⟩ := rx
  obtain ⟨u, rfl, ru⟩ := vals1 rv
  obtain ⟨t', rfl⟩ := ru
  have hb := big1
  have hp := parts_le x y
  have hsl := split_le x y
  have fin : ∀ (l : List (Str × Tok)) (k : Nat), l.map (·.1) = Txt.split x y → EP X pins σ Q (.ref s.heap.objs.size) { s with toks := k, heap := s.heap.push { cls := .type "list", data := .seq (strValues l).toArray } } := fun l k e => by
    have hv := vals_strValues l
    rw [e] at hv
    exact ⟨.ref s.heap.objs.size, _, I.lnew (t' := k) hv (by rw [List.length_map]; omega), rfl, q _ I.fresh⟩
  cases h1 : (decide (x.length < y.length) || decide (Builtin.Str.strKind x < Builtin.Str.strKind y))
  · cases hf : (Builtin.Str.occurrences x y 0 x.length (x.length + 1)).isEmpty
    · refine call_meets F.slot_str_split (typeIs_str _ _ _) F.entry_str_split (F.args_str_split_2 _ _) (meets_str_split_sep x y t t' h1 hy hf (by omega) (by omega)) ?_
      show wants _ _ _ { s with toks := _, heap := s.heap.push { cls := .type "list", data := .seq (strsFrom s.toks (Builtin.Str.partsBetween x (Builtin.Str.occurrences x y 0 x.length (x.length + 1)) y.length)).toArray } }
      rw [strsFrom_eq]
      exact fin (numbered s.toks _) _ ((numbered_texts _ _).trans ((if_neg (ne_true_of_eq_false h1)).trans (if_neg (ne_true_of_eq_false hf))).symm)
    · exact call_meets F.slot_str_split (typeIs_str _ _ _) F.entry_str_split (F.args_str_split_2 _ _) (meets_str_split_not_found x y t t' h1 hy hf) (fin [(x, t)] _ ((if_neg (ne_true_of_eq_false h1)).trans (if_pos hf)).symm)
  · exact call_meets F.slot_str_split (typeIs_str _ _ _) F.entry_str_split (F.args_str_split_2 _ _) (meets_str_split_cannot_occur x y t t' h1) (fin [(x, t)] _ (if_pos h1).symm)
theorem call_int_text {X : Cx} : CallR X (.type "int") (fun xs H Q => ∃ (x : Str) (n : Int), xs = [.str x] ∧ x.length ≤ 640 ∧ PySem.intText? x = some n ∧ Q (.int n) H) := by
  intro pins s σ H xs us Q I r h
  obtain ⟨x, n, rfl, hl, hn, q⟩ := h
  obtain ⟨u, rfl, t, rfl⟩ := vals1 r
  exact PySem.W.KIN.call_text hn hl ⟨.int n, H, I.tok _, ⟨_, rfl⟩, q⟩
end L2
set_option Elab.async false
set_option linter.all false
set_option maxRecDepth 100000
set_option maxHeartbeats 4000000
namespace L2
open PySem PySem.Spec PyProof.Rows
theorem cut_at {c : Nat} : ∀ {p q X Y : List Nat}, ¬ c ∈ p → ¬ c ∈ q → p ++ c :: X = q ++ c :: Y → p = q ∧ X = Y
  | [], [], _, _, _, _, h => ⟨rfl, (List.cons.inj h).2⟩
  | [], b :: q, _, _, _, hq, h => absurd (by rw [(List.cons.inj h).1]; exact List.mem_cons_self) hq
  | a :: p, [], _, _, hp, _, h => absurd (by rw [← (List.cons.inj h).1]; exact List.mem_cons_self) hp
  | a :: p, b :: q, X, Y, hp, hq, h => by
    obtain ⟨h1, h2⟩ := List.cons.inj h
    obtain ⟨e1, e2⟩ := cut_at (fun z => hp (List.mem_cons_of_mem _ z)) (fun z => hq (List.mem_cons_of_mem _ z)) h2
    exact ⟨by rw [h1, e1], e2⟩
end L2
set_option Elab.async false
set_option linter.all false
set_option maxRecDepth 100000
set_option maxHeartbeats 4000000
namespace L2
open PySem PySem.Spec PyProof.Rows
theorem num_digits {d : Int} (h0 : 0 ≤ d) : PySem.NumText.AllDigits (Str.ofString (toString d)).cps.toList := by
  obtain ⟨m, rfl⟩ := Int.eq_ofNat_of_zero_le h0
  intro c hc
  rw [PySem.W.KIN.signs_num] at hc
  obtain ⟨ch, hch, e⟩ := List.mem_map.mp hc
  have r := digit_range (Nat.isDigit_of_mem_toDigits (by decide) (by decide) hch)
  rw [← e]
  exact r
theorem num_val {d : Int} (h0 : 0 ≤ d) : ((PySem.NumText.digitsVal (Str.ofString (toString d)).cps.toList : Nat) : Int) = d := by
  obtain ⟨m, rfl⟩ := Int.eq_ofNat_of_zero_le h0
  rw [PySem.W.KIN.signs_num, PySem.W.KIN.val_back]
theorem num_le4 {d : Int} (h0 : 0 ≤ d) (h1 : d ≤ 9999) : (Str.ofString (toString d)).length ≤ 4 := toString_length_le h0 (by decide) (by omega)
theorem num_ge1 {d : Int} (h0 : 0 ≤ d) : 1 ≤ (Str.ofString (toString d)).length := by
  obtain ⟨m, rfl⟩ := Int.eq_ofNat_of_zero_le h0
  rw [len_list, PySem.W.KIN.signs_num, List.length_map]
  exact toDigits_len_ge 10 m
end L2
set_option Elab.async false
set_option linter.all false
set_option maxRecDepth 100000
set_option maxHeartbeats 4000000
namespace L2
open PySem PySem.Spec PyProof.Rows
end L2
set_option Elab.async false
set_option linter.all false
set_option maxRecDepth 100000
set_option maxHeartbeats 4000000
namespace L2
open PySem PySem.Spec PyProof.Rows
end L2
set_option Elab.async false
set_option linter.all false
set_option maxRecDepth 100000
set_option maxHeartbeats 4000000
namespace L2
open PySem PySem.Spec PyProof.Rows
end L2
set_option Elab.async false
set_option linter.all false
set_option maxRecDepth 100000
set_option maxHeartbeats 4000000
namespace L2
open PySem PySem.Spec PyProof.Rows
end L2
set_option Elab.async false
set_option linter.all false
set_option maxRecDepth 100000
set_option maxHeartbeats 4000000
namespace L2
open PySem PySem.Spec PyProof.Rows
theorem rep_list (x : Str) : ∀ (n : Nat) (acc : Array Nat), ((List.replicate n x.cps).foldl (· ++ ·) acc).toList = acc.toList ++ (List.replicate n x.cps.toList).flatten
  | 0, acc => by simp
  | n + 1, acc => by
    rw [List.replicate_succ, List.foldl_cons, rep_list x n (acc ++ x.cps), List.replicate_succ, List.flatten_cons, Array.toList_append, List.append_assoc]
theorem mul_signs (x : Str) (n : Int) : (Txt.mul x n).cps.toList = (List.replicate n.toNat x.cps.toList).flatten := by
  unfold Txt.mul
  by_cases h : n < 1
  · rw [if_pos h, show n.toNat = 0 by omega]; rfl
  · rw [if_neg h]
    split
    · rename_i h2
      rw [Bool.or_eq_true] at h2
      rcases h2 with h2 | h2
      · have : n = 1 := by simpa using h2
        rw [this]
        show _ = (List.replicate 1 x.cps.toList).flatten
        simp
      · have h3 : x.cps.toList = [] := List.eq_nil_of_length_eq_zero (by rw [← len_list]; simpa using h2)
        rw [h3]
        simp
    · show ((List.replicate n.toNat x.cps).foldl (· ++ ·) #[]).toList = _
      rw [rep_list]; rfl
theorem mul_len (x : Str) (n : Int) : (Txt.mul x n).length = n.toNat * x.length := by
  rw [len_list, mul_signs, len_list, List.length_flatten]
  simp
inductive rMulS_I (x : V) (y : V) (H : Hp) (Q : VK) : Prop
  | mk : ∀ (s : Str) (n : Int), x = .str s → y = .int n → s.length ≤ 100 → -1000 ≤ n → n ≤ 1000 → Q (.str (Txt.mul s n)) H → rMulS_I x y H Q
def rMulS : R2 := fun x y H Q => rMulS_I x y H Q
theorem op_mul_str {X : Cx} : OpR X (binaryOp .Mult) rMulS := by
  intro pins s σ H x y v u Q I rx ry h
  obtain ⟨z, n, rfl, rfl, hz, h0, h1, q⟩ := h
  obtain ⟨t, rfl⟩ := rx
  obtain ⟨t', rfl⟩ := ry
  refine SB.mul ⟨?_, fun hn _ => ?_, fun hn _ => ?_⟩ fun t' k => ⟨.str _, H, I.tok _, ⟨_, rfl⟩, q⟩
  · rw [Bool.or_eq_false_iff]
    exact ⟨decide_eq_false (by omega), decide_eq_false (by omega)⟩
  · have h4 : (z.length : Int) * n ≤ 100 * 1000 := Int.mul_le_mul (by omega) h1 (by omega) (by decide)
    have h5 : (z.length : Int) ≤ (2 ^ 63 - 1) / n := Int.le_ediv_of_mul_le (by omega) (Int.le_trans h4 (by decide))
    omega
  · have h2 : z.length * n.toNat ≤ 100 * 1000 := Nat.mul_le_mul hz (by omega)
    have h3 : 100 * 1000 ≤ sizeLine := by decide
    unfold Builtin.Str.tooLong
    exact decide_eq_false (by omega)
end L2
set_option Elab.async false
set_option linter.all false
set_option maxRecDepth 100000
set_option maxHeartbeats 4000000
namespace L2
open PySem PySem.Spec PyProof.Rows
end L2
set_option Elab.async false
set_option linter.all false
set_option maxRecDepth 100000
set_option maxHeartbeats 4000000
namespace L2
open PySem PySem.Spec PyProof.Rows
section
variable {X : Cx} {pins : List (Addr × Obj)} {σ : St} {H : Hp} {s : Shared} {a : Addr} {oa : Obj} {kvs : List (Key × V)}
end
end L2
set_option Elab.async false
set_option linter.all false
set_option maxRecDepth 100000
set_option maxHeartbeats 4000000
namespace L2
open PySem PySem.Spec PyProof.Rows
end L2
set_option Elab.async false
set_option linter.all false
set_option maxRecDepth 100000
set_option maxHeartbeats 4000000
namespace L2
open PySem PySem.Spec PyProof.Rows
section
variable {prs S : List PRow} {n : Str} {k : Nat}
end
end L2
set_option Elab.async false
set_option linter.all false
namespace L2
open PySem PySem.Spec
section
variable {X : Cx} {pins : List (Addr × Obj)} {σ : St} {H : Hp} {s : Shared} {a : Addr} {kvs : List (Key × V)} {k : Key} {z : V} {u r : Value} {A : Around} {E : Value → Shared → Prop}
end
section
variable {X : Cx} {o e f : Expr} {apos cpos : Pos} {td ty tx : TE}
end
def nIns : HO → Bool
  | .ins _ _ _ => false
  | _ => true
end L2
set_option Elab.async false
set_option linter.all false
set_option maxRecDepth 100000
set_option maxHeartbeats 4000000
namespace L2
open PySem PySem.Spec PyProof.Rows
section
variable {prog : Program} {w : World} {A : Around} {E : Value → Shared → Prop} {s : Shared}
end
end L2
set_option Elab.async false
set_option linter.all false
set_option maxRecDepth 100000
set_option maxHeartbeats 4000000
namespace L2
open PySem PySem.Spec PyProof.Rows
section
variable {prog : Program} {w : World} {A : Around} {E : Value → Shared → Prop} {s : Shared}
end
end L2
set_option Elab.async false
set_option linter.all false
set_option maxRecDepth 100000
set_option maxHeartbeats 4000000
namespace L2
open PySem PySem.Spec PyProof.Rows
section
variable {prog : Program} {w : World} {A : Around} {E : Value → Shared → Prop} {s : Shared} {a it : Addr} {es : Array (Int × Value)} {ep : Nat} {t : SetTable}
end
end L2
set_option Elab.async false
set_option linter.all false
set_option maxRecDepth 100000
set_option maxHeartbeats 4000000
namespace L2
open PySem PySem.Spec PyProof.Rows
section
variable {prog : Program} {w : World} {A : Around} {E : Value → Shared → Prop} {s : Shared} {a it : Addr} {es : Array (Int × Value)} {ep : Nat} {t : SetTable}
end
end L2
set_option Elab.async false
set_option linter.all false
set_option maxRecDepth 100000
set_option maxHeartbeats 4000000
namespace L2
open PySem PySem.Spec PyProof.Rows
section
variable {prog : Program} {w : World} {A : Around} {E : Value → Shared → Prop} {s : Shared}
end
end L2
set_option Elab.async false
set_option linter.all false
set_option maxRecDepth 100000
set_option maxHeartbeats 4000000
namespace L2
open PySem PySem.Spec PyProof.Rows
end L2
set_option Elab.async false
set_option linter.all false
set_option maxRecDepth 100000
set_option maxHeartbeats 4000000
namespace L2
open PySem PySem.Spec PyProof.Rows
end L2
set_option Elab.async false
set_option linter.all false
set_option maxRecDepth 100000
set_option maxHeartbeats 4000000
namespace L2
open PySem PySem.Spec PyProof.Rows
section
variable {prog : Program} {w : World} {A : Around} {E : Value → Shared → Prop} {s : Shared}
end
end L2
set_option Elab.async false
set_option linter.all false
set_option maxRecDepth 100000
set_option maxHeartbeats 4000000
namespace L2
open PySem PySem.Spec PyProof.Rows
end L2
set_option Elab.async false
set_option linter.all false
set_option maxRecDepth 100000
set_option maxHeartbeats 4000000
namespace L2
open PySem PySem.Spec PyProof.Rows
end L2
set_option Elab.async false
set_option linter.all false
set_option maxRecDepth 100000
set_option maxHeartbeats 4000000
namespace L2
open PySem PySem.Spec PyProof.Rows
theorem comp_listFG {K : PySem.W.Frag} {a : Addr} {α : Type} {xs : List α} {fr : List (Nat × Str)} {tt : TT} {te : TE} {σ : St} {H1 : Hp} {Q : VK} (g : α → V) (pr : α → Bool) (f : α → V) (hz : xs.length ≤ sizeLine) (hS : SqL K H1 a (xs.map g))
    (htt : ∀ (x : α) (H3 : Hp) (Q' : Bool → Hp → Prop), x ∈ xs → Same H1 H3 → (∀ H4, Same H3 H4 → Q' (pr x) H4) → tt (some (g x) :: frV σ fr) H3 Q')
    (hte : ∀ (x : α) (H3 : Hp) (Q' : VK), x ∈ xs → Same H1 H3 → pr x = true → (∀ H4, Same H3 H4 → Q' (f x) H4) → te (some (g x) :: frV σ fr) H3 Q')
    (hQ : ∀ D H2, H1 D = none → Same H1 H2 → H2 D = some (.lst ((xs.filter pr).map f)) → Q (.ref D) H2) :
    compGoal (Itl K a) fr tt te σ H1 Q := by
  intro D hD
  refine ⟨fun i m ys H2 => m = xs.length - i ∧ i ≤ xs.length ∧ ys = ((xs.take i).filter pr).map f ∧ Same H1 H2 ∧ H2 D = some (.lst ys), ⟨xs.length, by simp, Nat.zero_le _, by simp, Same.upd_new hD, upd_same⟩, ?_⟩
  rintro i m ys H2 ⟨rfl, hi, rfl, s2, d2⟩
  refine ⟨d2, ?_⟩
  have hS2 := s2.seq hS
  by_cases hlt : i < xs.length
  · have hx0 : (xs.map g)[i]? = some (g xs[i]) := by rw [List.getElem?_map, List.getElem?_eq_getElem hlt]; rfl
    refine .inr ⟨⟨xs.map g, g xs[i], hS2, hx0⟩, ?_⟩
    rintro v H3 ⟨rfl, hv⟩
    have hx : (xs.map g)[i]? = some v := hv _ hS2
    rw [hx0] at hx
    cases hx
    have hm : xs[i] ∈ xs := List.getElem_mem hlt
    have et : xs.take (i + 1) = xs.take i ++ [xs[i]] := by rw [List.take_add_one, List.getElem?_eq_getElem hlt]; rfl
    refine htt xs[i] _ _ hm s2 fun H4 s4 => ?_
    cases hp : pr xs[i] with
    | false =>
      refine iteF ⟨xs.length - (i + 1), by omega, rfl, hlt, ?_, s2.trans s4, s4 _ _ d2⟩
      rw [et, List.filter_append, List.filter_cons, hp]
      simp
    | true =>
      refine iteT (hte xs[i] _ _ hm (s2.trans s4) hp fun H5 s5 => ⟨s5 _ _ (s4 _ _ d2), ?_, xs.length - (i + 1), by omega, rfl, hlt, ?_, ((s2.trans s4).trans s5).upd_of hD, upd_same⟩)
      · have := List.length_filter_le pr (xs.take i)
        rw [List.length_take] at this
        rw [List.length_map]
        omega
      · rw [et, List.filter_append, List.filter_cons, hp]
        simp
  · have e : i = xs.length := by omega
    subst e
    have e2 : xs.take xs.length = xs := List.take_of_length_le (Nat.le_refl _)
    rw [e2] at d2
    exact .inl ⟨⟨xs.map g, hS2, by rw [List.length_map]; exact Nat.le_refl _⟩, hQ D H2 hD s2 d2⟩
end L2
set_option Elab.async false
set_option linter.all false
set_option maxRecDepth 100000
set_option maxHeartbeats 4000000
namespace L2
open PySem PySem.Spec PyProof.Rows
section
variable {X : Cx} {pins : List (Addr × Obj)} {σ : St} {Hc H' : Hp} {sc : Shared}
end
section
variable {P : Program} {w : World} {K : PySem.W.Frag} {mg : Str → Option Value} {base : Heap} {N : List Str} {qual : Str} {scope : Scope} {f : Addr} {cd : Value} {A : Around} {outer : List Env} {s : Shared} {H : Hp} {E : XK}
end
section
variable {P : Program} {w : World} {K : PySem.W.Frag} {mg : Str → Option Value} {base : Heap} {N : List Str} {qual : Str} {scope : Scope} {f : Addr} {cd : Value} {A : Around} {outer : List Env} {s : Shared} {H : Hp} {E : XK}
end
section
variable {X : Cx} {CX : CXT} {k : Nat} {f C : Addr} {fd : FuncData} {ps : List Str} {sp : Sp} {dvs : List V} {ds : List Value} {R : St → XK} {x m : Str} {p pos apos : Pos} {e o : Expr} {es : List Expr} {ta : TE} {t : TA}
end
section
variable {X : Cx} {pins pins' : List (Addr × Obj)} {σ : St} {H : Hp} {s : Shared} {R : St → XK}
end
end L2
set_option Elab.async false
set_option linter.all false
set_option maxRecDepth 100000
set_option maxHeartbeats 4000000
namespace L2
open PySem PySem.Spec PyProof.Rows
end L2
set_option Elab.async false
set_option linter.all false
set_option maxRecDepth 100000
set_option maxHeartbeats 400000
namespace L2
open PySem PySem.Spec PyProof.Rows
open PySem.Builtin PySem.Builtin.ObjectAttr PySem.Builtin.Getset_descriptor
section
variable {prog : Program} {w : World} {A : Around} {E : Value → Shared → Prop} {K : PySem.W.Frag} {x C : Addr} {h : Heap} {g : Array GenState} {d : Drawn} {t : Nat} {os : OsState}
end
end L2
set_option Elab.async false
set_option linter.all false
set_option maxRecDepth 100000
set_option maxHeartbeats 4000000
namespace L2
open PySem PySem.Spec PyProof.Rows
section
variable {X : Cx} {pins : List (Addr × Obj)} {σ : St} {H : Hp} {s : Shared}
end
end L2
set_option Elab.async false
set_option linter.all false
set_option maxRecDepth 100000
set_option maxHeartbeats 400000
namespace L2
open PySem PySem.Spec PyProof.Rows
end L2
set_option Elab.async false
set_option linter.all false
set_option maxRecDepth 100000
set_option maxHeartbeats 400000
namespace L2
open PySem PySem.Spec PyProof.Rows
end L2
set_option Elab.async false
set_option linter.all false
set_option maxRecDepth 100000
set_option maxHeartbeats 400000
namespace L2
open PySem PySem.Spec PyProof.Rows
section
variable {X : Cx} {k : Nat} {f : Addr} {fd : FuncData} {ps : List Str} {sp : Sp} {dvs : List V} {ds : List Value} {E : XK} {x : Str} {p pos : Pos} {e : Expr} {es : List Expr} {t : TA}
end
end L2
set_option Elab.async false
set_option linter.all false
set_option maxRecDepth 100000
set_option maxHeartbeats 400000
namespace L2
open PySem PySem.Spec PyProof.Rows
section
variable {X : Cx} {o e : Expr} {es : List Expr} {to : TE} {t : TA} {name : Str} {apos cpos : Pos} {T id : String} {r : V → List V → Hp → VK → Prop}
end
end L2
set_option Elab.async false
set_option linter.all false
set_option maxRecDepth 100000
set_option maxHeartbeats 4000000
namespace L2
open PySem PySem.Spec PyProof.Rows
end L2
set_option Elab.async false
set_option linter.all false
set_option maxRecDepth 100000
set_option maxHeartbeats 4000000
namespace L2
open PySem PySem.Spec PyProof.Rows
end L2
set_option Elab.async false
set_option linter.all false
set_option maxRecDepth 100000
set_option maxHeartbeats 4000000
namespace L2
open PySem PySem.Spec PyProof.Rows
def runT {α : Type} (lt : Nat → Nat → Bool) : W.KasT α → α
  | .ret a => a
  | .ask i j k => runT lt (k (lt i j))
section
variable {n : Nat}
end
end L2
set_option Elab.async false
set_option linter.all false
set_option maxRecDepth 100000
set_option maxHeartbeats 4000000
namespace L2
open PySem PySem.Spec PyProof.Rows
section
variable {X : Cx} {pins : List (Addr × Obj)} {σ : St} {H : Hp} {s : Shared} {h' : Heap}
end
end L2
set_option Elab.async false
set_option linter.all false
set_option maxRecDepth 100000
set_option maxHeartbeats 4000000
namespace HT
open PySem PyProof.Rows
section
open PySem.SeqAt
open PySem.AutoSeq1 (wpAny_loadPart')
open PySem.MeetsSeq PySem.MeetsSeq2 PySem.MeetsSeq3
end
end HT
namespace L2
open PySem PySem.Spec PyProof.Rows
end L2
set_option Elab.async false
set_option linter.all false
set_option maxRecDepth 100000
set_option maxHeartbeats 4000000
namespace L2
open PySem PySem.Spec PyProof.Rows
section
variable {prog : Program} {w : World} {A : Around} {E : Value → Shared → Prop} {s : Shared} {d it : Addr} {es : Array DictEntry} {ep i : Nat}
end
end L2
set_option Elab.async false
set_option linter.all false
set_option maxRecDepth 100000
set_option maxHeartbeats 4000000
namespace L2
open PySem PySem.Spec PyProof.Rows
end L2
set_option Elab.async false
set_option linter.all false
set_option maxRecDepth 100000
set_option maxHeartbeats 4000000
namespace HT
open PySem PyProof.Rows
variable {prog : Program} {w : World} {A : Around} {E : Value → Shared → Prop} {s : Shared}
theorem getItem_tuple_whole {t sl : Addr} {items : Array Value} {vl vu : Value} {lo hi : Option Int} {Q : Value → Shared → Prop} (ht : IsTup s.heap t items) (hs : s.heap.IsSliceOf sl vl vu .none) (pl : IsPart vl lo) (pu : IsPart vu hi)
    (hw : sIx items.size 0 lo = 0 ∧ sIx items.size items.size hi = items.size) (h : Q (.ref t) s) : wpAny (model prog w) A (getItem (.ref t) (.ref sl)) Q E s := by
  have hTs : s.TypeIs (.ref sl) "slice" := let ⟨os, hos, hcs, _⟩ := hs; ⟨os, hos, hcs⟩
  unfold getItem
  try with_reducible refine wpAny_holding ?_
  first | refine wpAny_bind (wpAny_pure ?_) | skip
  refine wpAny_bind (wpAny_sequenceKey ht.typeIs (by decide) ?_)
  refine wpAny_bind (wpAny_callSpecial?_slot (name := Str.ofString "__getitem__") ht.typeIs PyProof.Rows.slot_tuple_getitem
    (wpAny_call_entry PyProof.Rows.slot_tuple_getitem ht.typeIs entry_tuple_getitem ?_ (args_tuple_getitem _ _)))
  show wpAny _ _ (Builtin.Tuple.tupleItemsOf (.ref t) >>= _) _ _ s
  refine wpAny_bind (tupleItemsOf_ ht (wpAny_bind (wpAny_typeOf hTs ?_)))
  rw [if_pos (by decide)]
  refine wpAny_bind (sliceApplied_gen hs pl pu ?_)
  show wpAny _ _ (if (((sIx items.size 0 lo : Nat) : Int) == 0 && (1 : Int) == 1 && (sIx items.size items.size hi - sIx items.size 0 lo) == items.size) = true then _ else _) _ _ s
  rw [if_pos (by rw [hw.1, hw.2]; simp)]
  show wpAny _ _ (Builtin.Tuple.tupleIsExact (.ref t) >>= _) _ _ s
  unfold Builtin.Tuple.tupleIsExact
  refine wpAny_bind ?_
  refine wpAny_bind (wpAny_typeOf ht.typeIs (wpAny_pure ?_))
  show wpAny _ _ (if (Value.type "tuple" == Value.type "tuple") = true then _ else _) _ _ s
  rw [if_pos (by decide)]
  refine wpAny_bind (wpAny_rule ?_)
  exact wpAny_pure ⟨_, rfl, wpAny_pure h⟩
end HT
namespace L2
open PySem PySem.Spec PyProof.Rows
/-- t[lo:hi]: a new tuple, or t itself where it is the whole -/
inductive rSlA_I (K : PySem.W.Frag) (x : V) (lo : Option Int) (hi : Option Int) (H : Hp) (Q : VK) : Prop
  | mk : ∀ a xs, x = .ref a → SqT K H a xs → ((HT.sIx xs.length 0 lo = 0 ∧ HT.sIx xs.length xs.length hi = xs.length) → Q (.ref a) H) → (∀ p, H p = none → Q (.ref p) (upd H p (.tup (cutV xs lo hi)))) → rSlA_I K x lo hi H Q
def rSlA (K : PySem.W.Frag) : V → Option Int → Option Int → Hp → VK → Prop := fun x lo hi H Q => rSlA_I K x lo hi H Q
theorem sl_tupA {X : Cx} : SlR X (rSlA X.K) := by
  intro pins s σ H x v vl vu lo hi sl Q I rx hs pl pu h
  obtain ⟨a, xs, rfl, hx, q1, q2⟩ := h
  by_cases hw : HT.sIx xs.length 0 lo = 0 ∧ HT.sIx xs.length xs.length hi = xs.length
  · cases rx
    obtain ⟨its, r, ht, hz⟩ := I.tuple hx
    have hlen : its.toArray.size = xs.length := by rw [List.size_toArray]; exact r.length.symm
    exact ⟨"tuple", _, PyProof.Rows.slot_tuple_getitem.lookup, ht.typeIs, HT.getItem_tuple_whole ht hs pl pu (by rw [hlen]; exact hw) ⟨.ref a, H, I, rfl, q1 hw⟩⟩
  · exact sl_tup pins s σ H (.ref a) v vl vu lo hi sl Q I rx hs pl pu ⟨a, xs, rfl, hx, hw, q2⟩
section
variable {X : Cx} {pins : List (Addr × Obj)} {σ : St} {H : Hp} {s : Shared} {a : Addr} {oa : Obj} {kvs : List (List Key × V)}
end
end L2
set_option Elab.async false
set_option maxRecDepth 100000
namespace Hd
open PySem PySem.W PySem.Calls PyProof.Rows L2
/-- the top's run over a tree of objects, to its end -/
noncomputable def runT (st : SharedT → Thread → Option (SharedT × Thread)) (ok : Thread → Bool) (n : Nat) : SharedT → Thread → Option SharedT :=
  @Nat.rec (fun _ => SharedT → Thread → Option SharedT) (fun _ _ => none) (fun _ ih s t => match through t with
    | true => some s
    | false => match ok t with
      | false => none
      | true => match st s t with
        | some (s', t') => ih s' t'
        | none => none) n
theorem runT_succ (st : SharedT → Thread → Option (SharedT × Thread)) (ok : Thread → Bool) (n : Nat) (s : SharedT) (t : Thread) : runT st ok (n + 1) s t = (match through t with
    | true => some s
    | false => match ok t with
      | false => none
      | true => match st s t with
        | some (s', t') => runT st ok n s' t'
        | none => none) := rfl
theorem runT_of {tb : String → Option Builtin} {p : Program} {w : World} {n₀ : Nat} {ann : Option Value} : ∀ (n : Nat) (s : SharedT) (t : Thread) (s' : SharedT),
    runT (stepT (denote tb) p w) (stepOk n₀ ann) n s t = some s' → topRun tb p w n₀ ann n s.abs t = some s'.abs
  | 0, _, _, _, h => nomatch (h : none = some _)
  | n + 1, s, t, s', h => by
    rw [runT_succ] at h
    unfold topRun
    cases ht : through t with
    | true => rw [ht] at h; cases h; rfl
    | false =>
      rw [ht] at h
      cases hk : stepOk n₀ ann t with
      | false => rw [hk] at h; cases h
      | true =>
        rw [hk] at h
        dsimp only at h ⊢
        cases hs : stepT (denote tb) p w s t with
        | none => rw [hs] at h; cases h
        | some x =>
          obtain ⟨s₂, t₂⟩ := x
          rw [hs] at h
          rw [stepT_spec hs]
          exact runT_of n s₂ t₂ s' h
def btFrom (t : BT) (n : Nat) : List Obj → BT
  | [] => t
  | o :: r => btFrom (t.ins n o) (n + 1) r
noncomputable def bootT (P : Params) : BT := btFrom .nil 0 (boot_heap P).objs.toList
theorem boot_size (P : Params) : ((boot_heap P).isNs mainGlobals, (boot_heap P).objs.size, (boot_heap P).nsMap mainGlobals "__annotations__") = (true, 11, some (.ref 6)) := by kernel_rfl
theorem boot_abs (P : Params) : absHeap (bootT P) 11 {} = boot_heap P := by kernel_rfl
/-- what stands when the top begins -/
noncomputable def S0 (w : World) (os : OsState) : SharedT := ⟨bootT w.params, 11, {}, #[], boot_drawn, boot_toks, os⟩
theorem S0_abs (w : World) (os : OsState) : (S0 w os).abs = ⟨boot_heap w.params, #[], boot_drawn, boot_toks, os⟩ := congrArg (fun h => (⟨h, #[], boot_drawn, boot_toks, os⟩ : Shared)) (boot_abs w.params)
noncomputable def chk (p : Program) (P : Params) (s : Shared) : Bool := staticsOk (importedModules p.main.body) (boot_heap P) s.heap && namesBound p s.heap && gensDone s && laidKept (boot_heap P) s.heap
noncomputable abbrev stepQ : (Code → Sem Fin) → Program → World → SharedT → Thread → Option (SharedT × Thread) := PySem.W.Fast.tw10156331382660048174
noncomputable abbrev denQ : Code → Sem Fin := PySem.W.Fast.tw11892475500146522536 PySem.W.Fast.tw14364793385576792824
noncomputable abbrev okQ : Nat → Option Value → Thread → Bool := PySem.W.Fast.tw6613529449190102663
noncomputable abbrev seenQ := @PySem.W.Fast.tw4187177175401517315
theorem left {p q : Program} {loose : List Str} {Xt : Shared → Bool} {α : Type} {Yf : Shared → α} {Ya : World → α} {N : Nat} (e : opening p = plainProg p.main.scope.names) (hN : Nat.ble 600 N = true) (f : ∀ s, fenceModules? p s = some s)
    (h : ∀ (w : World) (os : OsState), (runT (stepQ denQ p w) (okQ 11 (some (.ref 6))) N (S0 w os) (topStub p)).map (fun s => (chk p w.params s.abs, seenQ q loose (importedModules p.main.body) Xt true s.abs, Yf s.abs)) = some (true, openGood q loose, Ya w)) :
    LeftO p q loose Xt Yf Ya N := fun w => by
  obtain ⟨⟨hh, gs, d, k, os⟩, e1, e'⟩ := Option.map_eq_some_iff.mp (boot_open e hN f w)
  obtain ⟨rfl, rfl, rfl, rfl⟩ : hh = boot_heap w.params ∧ gs = #[] ∧ d = boot_drawn ∧ k = boot_toks := by simpa using e'
  have h := h w os
  unfold stepQ denQ okQ seenQ at h
  rw [← PySem.W.Fast.te10156331382660048174, ← PySem.W.Fast.te11892475500146522536, ← PySem.W.Fast.te14364793385576792824, ← PySem.W.Fast.te6613529449190102663, ← PySem.W.Fast.te4187177175401517315] at h
  obtain ⟨s, r, l⟩ := Option.map_eq_some_iff.mp h
  obtain ⟨l1, l2, l3⟩ : _ ∧ _ ∧ _ := by simpa only [Prod.mk.injEq] using l
  have r := runT_of N _ _ _ r
  rw [S0_abs] at r
  obtain ⟨z1, z2, z3⟩ : _ ∧ _ ∧ _ := by simpa only [Prod.mk.injEq] using boot_size w.params
  have t : topFrom treeTable p w N ⟨boot_heap w.params, #[], boot_drawn, boot_toks, os⟩ = some s.abs := by
    unfold topFrom
    dsimp only
    rw [z1, z2, z3, r]
    show (match staticsOk (importedModules p.main.body) (boot_heap w.params) s.abs.heap && namesBound p s.abs.heap && gensDone s.abs && laidKept (boot_heap w.params) s.abs.heap with | true => _ | false => _) = _
    rw [show (staticsOk (importedModules p.main.body) (boot_heap w.params) s.abs.heap && namesBound p s.abs.heap && gensDone s.abs && laidKept (boot_heap w.params) s.abs.heap) = true from l1]
  unfold openEnds
  rw [e1]
  show (topFrom treeTable p w N _).map _ = _
  rw [t]
  exact congrArg some (Prod.ext l2 l3)
def fragH (h : Heap) : Frag := (List.range h.objs.size).filterMap fun a => (h.get? a).map fun o => (a, o)
theorem look_map (f : Nat → Option Obj) (a : Addr) (o : Obj) : ∀ l : List Nat, (l.filterMap fun a => (f a).map fun o => (a, o)).lookup a = some o → f a = some o
  | [], e => nomatch e
  | b :: l, e => by
    cases hb : f b with
    | none => rw [List.filterMap_cons_none (by rw [hb]; rfl)] at e; exact look_map f a o l e
    | some x =>
      rw [List.filterMap_cons_some (by rw [hb]; rfl), List.lookup_cons] at e
      split at e
      · rename_i q; cases e; rw [beq_iff_eq.mp q]; exact hb
      · exact look_map f a o l e
theorem frag_in (h : Heap) : (fragH h).In h := fun a o e => look_map h.get? a o _ e
def fragT (s : SharedT) : Frag := (List.range s.n).filterMap fun a => (match Nat.blt a s.n with | true => alive ((s.tree.get a).getD default) | false => none).map fun o => (a, o)
theorem fragT_eq (s : SharedT) : fragT s = fragH s.abs.heap := by
  unfold fragT fragH
  show _ = (List.range (absHeap s.tree s.n s.life).objs.size).filterMap fun a => ((absHeap s.tree s.n s.life).get? a).map fun o => (a, o)
  rw [absHeap_size]
  congr 1
  funext a
  congr 1
  unfold Heap.get?
  rw [absHeap_at]
  cases h : Nat.blt a s.n with
  | true =>
    rw [if_pos (show a < s.n from Nat.le_of_ble_eq_true h)]
    dsimp only
    cases (s.tree.get a).getD default with
    | mk c d dt sl => cases dt <;> rfl
  | false =>
    rw [if_neg (fun q => by rw [show Nat.blt a s.n = true from Nat.ble_eq_true_of_le q] at h; cases h)]
/-- what the walk asks of it -/
def says {α : Type} (obs : Frag → α) (good : α) (_ : World) (h : Heap) : Prop := ∃ K : Frag, K.In h ∧ obs K = good
theorem close {l : OpenLaw} {q : Program} {loose : List Str} {d : DefRec} {α : Type} {obs : Frag → α} {good : α} {N : Nat}
    (look : PySem.W.Fast.tw9446332074065402090 l = true) (e : opening l.prog = plainProg l.prog.main.scope.names) (hN : Nat.ble 600 N = true) (f : ∀ s, fenceModules? l.prog s = some s)
    (h : ∀ (w : World) (os : OsState), (runT (stepQ denQ l.prog w) (okQ 11 (some (.ref 6))) N (S0 w os) (topStub l.prog)).map (fun s => (chk l.prog w.params s.abs, seenQ q loose (importedModules l.prog.main.body) (fun s => recOk [] s) true s.abs, obs (fragT s))) = some (true, openGood q loose, good))
    (hdef : defOf q l.name = some (d, [])) (hp : l.prog.theDef l.name = some (d.params, d.body, d.scope)) (hk : kwWritten? d.params.kwonlyargs d.params.kw_defaults = some []) (hwr : (!l.writes || ([] : WRecords).isEmpty) = true)
    (ok : (chainsOk q && opensWell l.prog && (frees l.row.toRowW && l.row.within.isEmpty)) = true) (hb : l.prog.bare) (hw : l.row.toRowW.promised)
    (call : WalkO q loose (fun _ _ => True) (says obs good) l.row.toRowW d [] fun f vs => PySem.call f vs) : l.Holds := by
  rw [← PySem.W.Fast.te9446332074065402090] at look
  refine holds_law look fun said => ?_
  have lf : LeftO l.prog q loose (fun s => recOk [] s) (fun s => obs (fragH s.heap)) (fun _ => good) N := left e hN f fun w os => by
    have := h w os
    rw [show (fun s : SharedT => (chk l.prog w.params s.abs, seenQ q loose (importedModules l.prog.main.body) (fun s => recOk [] s) true s.abs, obs (fragT s))) = fun s => (chk l.prog w.params s.abs, seenQ q loose (importedModules l.prog.main.body) (fun s => recOk [] s) true s.abs, obs (fragH s.abs.heap)) from funext fun s => by rw [fragT_eq]] at this
    exact this
  exact holds_open (r := l.row) (q := q) (loose := loose) (Xt := fun s => recOk [] s) (XP := fun _ _ => True) (YP := says obs good) lf (fun _ s y => ⟨fragH s.heap, frag_in _, y⟩) (fun _ _ _ ⟨K, X, y⟩ k => ⟨K, X.keeps k, y⟩) (fun _ _ => trivial) (fun _ _ _ _ _ => trivial) hdef hp hk (fun _ e => recFacts_of e) hwr said ok hb hw call
def bareV : Value → Value
  | .int n _ => .int n 0
  | .str x _ => .str x 0
  | v => v
def dflOf (K : Frag) : Value → Option (List Value)
  | .none => none
  | .ref D => (match K.lookup D with
    | some ⟨_, _, .seq items _, _⟩ => some (items.toList.map bareV)
    | _ => some [])
  | _ => some []
def adOf : Option (Option Value) → Addr
  | some (some (.ref f)) => f
  | _ => 0
def see (K : Frag) (r : Option (Option Value)) (q : Str) : Option (FuncData × Option (List Value)) × Bool := match r with
  | some (some (.ref f)) => (match K.lookup f with
    | some ⟨_, _, .func fd, _⟩ => (some ({ fd with defaults := .none, kwdefaults := .none, doc := .none, pyModule := .none, annotations := none, code := .none, closureTuple := .none }, dflOf K fd.defaults), codeIn K fd.code q && (keepIn K (.ref f) && isFn K (.ref f)))
    | _ => (none, false))
  | _ => (none, false)
abbrev bareFn (x q : Str) (st : Stmt) : FuncData := fnOf x q (defArgs st) (defBody st) (defScope st) .none .none .none .none none .none .none
theorem see_inv {K : Frag} {r : Option (Option Value)} {x q : Str} {st : Stmt} {ds : Option (List Value)} (h : see K r q = (some (bareFn x q st, ds), true)) : ∃ (oc : Value) (od : Option Addr) (dV kV doc pm : Value) (an : Option Addr) (cdv ct : Value) (osl : Array (Option Value)),
    r = some (some (.ref (adOf r))) ∧ K.lookup (adOf r) = some ⟨oc, od, .func (fnOf x q (defArgs st) (defBody st) (defScope st) dV kV doc pm an cdv ct), osl⟩ ∧ dflOf K dV = ds ∧ codeIn K cdv q = true ∧ keepIn K (.ref (adOf r)) = true ∧ isFn K (.ref (adOf r)) = true := by
  unfold see at h
  split at h
  · rename_i f
    split at h
    · rename_i oc od fd osl hl
      obtain ⟨h1, h2⟩ := Prod.mk.inj h
      obtain ⟨h3, h4⟩ := Prod.mk.inj (Option.some.inj h1)
      obtain ⟨c1, c2⟩ := Bool.and_eq_true_iff.mp h2
      obtain ⟨c2, c3⟩ := Bool.and_eq_true_iff.mp c2
      obtain ⟨n, qn, ps, b, sc, g, cl, dV, kV, doc, pm, an, cdv, ct, bs⟩ := fd
      simp only [FuncData.mk.injEq] at h3
      obtain ⟨rfl, rfl, rfl, rfl, rfl, rfl, rfl, -, -, -, -, -, -, -, rfl⟩ := h3
      exact ⟨oc, od, dV, kV, doc, pm, an, cdv, ct, osl, rfl, hl, h4, c1, c2, c3⟩
    · cases h
  · cases h
/-- a def without defaults -/
theorem see_fun {K : Frag} {r : Option (Option Value)} {x q : Str} {st : Stmt} (h : see K r q = (some (bareFn x q st, none), true)) : r = some (some (.ref (adOf r))) ∧ keepIn K (.ref (adOf r)) = true ∧ isFn K (.ref (adOf r)) = true ∧ ∃ fd, Fun K x q st (adOf r) fd := by
  obtain ⟨oc, od, dV, kV, doc, pm, an, cdv, ct, osl, h1, h2, h3, h4, h5, h6⟩ := see_inv h
  have : dV = .none := by
    cases dV with
    | none => rfl
    | ref D => simp only [dflOf] at h3; split at h3 <;> cases h3
    | _ => cases h3
  subst this
  exact ⟨h1, h5, h6, _, fun_mk h2 h4 h5⟩
def bv : V → Value
  | .int n => .int n 0
  | .str x => .str x 0
  | .bl b => .bool b
  | _ => .none
def flat : V → Bool
  | .int _ | .str _ | .bl _ | .non => true
  | _ => false
theorem bare_rel {v : V} {u : Value} (h : bareV u = bv v) (hv : flat v = true := by rfl) : RelV v u := by
  cases v <;> first | (cases hv; done) | skip
  all_goals (cases u <;> first | (cases h; done) | skip)
  all_goals first | rfl | (injection h with h1; subst h1; exact ⟨_, rfl⟩) | (injection h with h1 _; subst h1; exact ⟨_, rfl⟩) | (injection h with h1; subst h1; rfl)
/-- the value of a name of the text's -/
abbrev gl (K : Frag) (x : Str) : Option (Option Value) := nsIn K mainGlobals x
abbrev cl (K : Frag) (x : Str) : Addr := adOf (gl K x)
theorem all_at {l : List Bool} (h : l.all id = true) (i : Nat) {b : Bool} (e : l[i]? = some b) : b = true := List.all_eq_true.mp h b (List.mem_of_getElem? e)
theorem eq_at {α : Type} {l m : List α} (h : l = m) (i : Nat) {a b : α} (e : l[i]? = some a) (e' : m[i]? = some b) : a = b := by
  subst h
  exact Option.some.inj (e.symm.trans e')
/-- the goal that the closing leaves, from the law's promise -/
theorem walk {l : OpenLaw} {n k : Nat} {q : Program} {loose : List Str} {XP : (Str → Option Value) → Heap → Prop} {α : Type} {obs : Frag → α} {good : α} {d : DefRec} {sp : Frag → Sp} {x : Str}
    (hn : l.most = some n) (hn2 : n ≤ sizeLine) (hdf : d.params.defaults = []) (hr : Room k callerA)
    (F : ∀ (w : World) (K : Frag) (mg : Str → Option Value) (fa : Addr) (h : Heap), K.In h → obs K = good → h.Ns mainGlobals mg → mg d.name = some (.ref fa) →
      ∃ fd : FuncData, (∀ (s : Shared) (u : Value), BindsTo s fd ⟨[u], []⟩ [(x, u)]) ∧ ∀ base : Heap, K.In base → base.Ns mainGlobals mg → FnOk l.prog w K mg base CX0 k fa fd [x] (sp K))
    (hsp : ∀ (K : Frag) (H : Hp) (a : Addr) (ns : List Int), ns.length ≤ n → Only H → SqL K H a (ns.map V.int) → sp K [.ref a] H (fun v _ => v = .bl true) fun _ _ _ => False) :
    WalkO q loose XP (says obs good) l.row.toRowW d [] (fun f vs => PySem.call f vs) := by
  refine Att.attach_call hn hdf fun w s₀ s₁ mg mb fa o pm cd doc a vs ns G Y ho hd hcd hmg hobj hints hlen hg => ?_
  obtain ⟨K, KX, y⟩ := Y
  obtain ⟨fd, hb, hF⟩ := F w K mg fa _ KX y G.T.g hmg
  exact law_call KX G.T.g G.T.b G.T.builtins G.T.nolimit hg hobj hints (Nat.le_trans hlen hn2) hr hF hb (fun H hO hS => hsp K H a ns hlen hO hS) fun _ _ _ z => z
/-- a constant of the text -/
theorem const_at {K : Frag} {h : Heap} {mg : Str → Option Value} {x : Str} {v : V} (X : K.In h) (G : h.Ns mainGlobals mg) (e : (gl K x).map (Option.map bareV) = some (some (bv v))) (hv : flat v = true := by rfl) : ∃ u, mg x = some u ∧ RelV v u := by
  obtain ⟨r, h1, h2⟩ := Option.map_eq_some_iff.mp e
  obtain ⟨u, h3, h4⟩ := Option.map_eq_some_iff.mp h2
  subst h3
  exact ⟨u, mg_of X G h1, bare_rel h4 hv⟩
theorem no_at {K : Frag} {C : Addr} {f : Str} (h : decide (findIn K (.ref C) f = some none) = true) : NoAttr K C f := by have e : findIn K (.ref C) f = some none := of_decide_eq_true h; exact e
def isVal (o : Option CFound) (v : Value) : Bool := match o with | some (.val u) => decide (u = v) | _ => false
theorem isVal_of {o : Option CFound} {v : Value} (h : isVal o v = true) : o = some (.val v) := by
  unfold isVal at h
  split at h
  · rw [of_decide_eq_true h]
  · cases h
end Hd
set_option Elab.async false
set_option linter.all false
set_option maxRecDepth 100000
set_option maxHeartbeats 4000000
namespace L2
open PySem PySem.Spec PyProof.Rows
abbrev NewAt (o : HO) (H : Hp) (Q : VK) : Prop := ∀ p H', H p = none → Same H H' → H' p = some o → Q (.ref p) H'
theorem NewAt.put {o : HO} {H : Hp} {Q : VK} (k : NewAt o H Q) {p : Addr} (hp : H p = none) : Q (.ref p) (upd H p o) := k p _ hp (Same.upd_new hp) upd_same
inductive gLstN (xs : List V) (H : Hp) (Q : VK) : Prop
  | mk : xs.length ≤ sizeLine → NewAt (.lst xs) H Q → gLstN xs H Q
inductive gTupN (xs : List V) (H : Hp) (Q : VK) : Prop
  | mk : xs.length ≤ sizeLine → NewAt (.tup xs) H Q → gTupN xs H Q
def tLstG (t : TA) : TE := fun σ H Q => t σ H fun xs H1 => gLstN xs H1 Q
def tTupG (t : TA) : TE := fun σ H Q => t σ H fun xs H1 => gTupN xs H1 Q
theorem pe_lstG {X : Cx} {es : List Expr} {t : TA} {pos : Pos} (h : PAs X es t) : PE X (.List es pos) (tLstG t) := by
  intro pins s σ H Q I hq
  refine wpAny_List_spliced (thn (h.h pos pins s σ H _ I hq) fun us s1 ⟨xs, H1, I1, r, z, q⟩ => ⟨by rw [← r.length]; exact z, ?_⟩)
  have hf : H1 s1.heap.objs.size = none := I1.hok.fresh (Nat.le_refl _)
  refine ⟨.ref s1.heap.objs.size, upd H1 s1.heap.objs.size (.lst xs), I1.laid (t' := s1.toks) (fun b u e => Heap.get?_push_of_some _ e) (Nat.le_refl _) ?_, rfl, NewAt.put q hf⟩
  exact ⟨z, us, 0, r, Heap.get?_push_size _ rfl⟩
theorem pe_tupG {X : Cx} {es : List Expr} {t : TA} {x1 : Nat} {pos : Pos} (h : PAs X es t) : PE X (.Tuple es x1 pos) (tTupG t) := by
  intro pins s σ H Q I hq
  refine wpAny_Tuple_spliced (thn (h.h pos pins s σ H _ I hq) fun us s1 ⟨xs, H1, I1, r, z, q⟩ => ⟨by rw [← r.length]; exact z, ?_⟩)
  have hf : H1 s1.heap.objs.size = none := I1.hok.fresh (Nat.le_refl _)
  refine ⟨.ref s1.heap.objs.size, upd H1 s1.heap.objs.size (.tup xs), I1.laid (t' := s1.toks) (fun b u e => Heap.get?_push_of_some _ e) (Nat.le_refl _) ?_, rfl, NewAt.put q hf⟩
  exact ⟨z, us, r, ⟨_, Heap.get?_push_size _ rfl, rfl, _, rfl⟩⟩
theorem SlR.mono {X : Cx} {r r' : V → Option Int → Option Int → Hp → VK → Prop} (h : SlR X r) (k : ∀ x lo hi H Q, r' x lo hi H Q → r x lo hi H Q) : SlR X r' :=
  fun pins s σ H x v vl vu lo hi sl Q I rx hs pl pu q => h pins s σ H x v vl vu lo hi sl Q I rx hs pl pu (k _ _ _ _ _ q)
theorem OpR.mono {X : Cx} {f : Value → Value → Sem Value} {r r' : R2} (h : OpR X f r) (k : ∀ x y H Q, r' x y H Q → r x y H Q) : OpR X f r' :=
  fun pins s σ H x y v u Q I rx ry q => h pins s σ H x y v u Q I rx ry (k _ _ _ _ q)
theorem MtR.mono {X : Cx} {id : String} {r r' : V → List V → Hp → VK → Prop} (h : MtR X id r) (k : ∀ x y H Q, r' x y H Q → r x y H Q) : MtR X id r' :=
  fun pins s σ H x xs v us Q I rx rv q => h pins s σ H x xs v us Q I rx rv (k _ _ _ _ q)
inductive gSlL (K : PySem.W.Frag) (x : V) (lo hi : Option Int) (H : Hp) (Q : VK) : Prop
  | mk : ∀ a xs, x = .ref a → SqL K H a xs → NewAt (.lst (cutV xs lo hi)) H Q → gSlL K x lo hi H Q
theorem sl_listG {X : Cx} : SlR X (gSlL X.K) := sl_list.mono fun x lo hi H Q ⟨a, xs, e, h, k⟩ => ⟨a, xs, e, h, fun p hp => NewAt.put k hp⟩
inductive gCat (x y : V) (H : Hp) (Q : VK) : Prop
  | mk : ∀ l b xs zs, x = .ref l → y = .ref b → H l = some (.lst xs) → H b = some (.lst zs) → xs.length + zs.length ≤ sizeLine → NewAt (.lst (xs ++ zs)) H Q → gCat x y H Q
theorem op_catG {X : Cx} : OpR X (binaryOp .Add) gCat := op_cat.mono fun x y H Q ⟨l, b, xs, zs, e1, e2, h1, h2, hz, k⟩ => ⟨l, b, xs, zs, e1, e2, h1, h2, hz, fun p hp => NewAt.put k hp⟩
inductive gSplit (x : V) (xs : List V) (H : Hp) (Q : VK) : Prop
  | mk : ∀ (z y : Str), x = .str z → xs = [.str y] → (y.length == 0) = false → z.length ≤ 1000000 → NewAt (.lst ((Txt.split z y).map V.str)) H Q → gSplit x xs H Q
theorem mt_splitG {X : Cx} : MtR X "str.split" gSplit := mt_split1.mono fun x xs H Q ⟨z, y, e1, e2, hy, hz, k⟩ => ⟨z, y, e1, e2, hy, hz, fun p hp => NewAt.put k hp⟩
inductive gSlT (K : PySem.W.Frag) (x : V) (lo hi : Option Int) (H : Hp) (Q : VK) : Prop
  | mk : ∀ a xs, x = .ref a → H a = some (.tup xs) → (∀ p H', Same H H' → H' p = some (.tup (cutV xs lo hi)) → Q (.ref p) H') → gSlT K x lo hi H Q
theorem cut_whole {xs : List V} {lo hi : Option Int} (h : HT.sIx xs.length 0 lo = 0 ∧ HT.sIx xs.length xs.length hi = xs.length) : cutV xs lo hi = xs := by
  unfold cutV
  rw [h.1, h.2]
  simp
theorem sl_tupG {X : Cx} : SlR X (gSlT X.K) := sl_tupA.mono fun x lo hi H Q ⟨a, xs, e, h, k⟩ => ⟨a, xs, e, SqT.of h, fun c => k a H (Same.refl H) (by rw [cut_whole c]; exact h), fun p hp => k p _ (Same.upd_new hp) upd_same⟩
theorem cut_from {α : Type} (f : α → V) (xs : List α) (v : Int) (h : 0 ≤ v) : cutV (xs.map f) (some v) none = (xs.drop v.toNat).map f := by
  have hv : ¬ v < 0 := by omega
  simp only [cutV, HT.sIx, if_neg hv, List.length_map, ← List.map_drop, ← List.map_take]
  congr 1
  by_cases hl : v.toNat ≤ xs.length
  · rw [show min v.toNat xs.length = v.toNat by omega]
    exact List.take_of_length_le (by rw [List.length_drop]; omega)
  · rw [show min v.toNat xs.length = xs.length by omega, List.drop_eq_nil_of_le (Nat.le_refl _), List.drop_eq_nil_of_le (show xs.length ≤ v.toNat by omega)]
    simp
theorem str_ne {x y : Str} : (!decide (V.str x = V.str y)) = !decide (x = y) := by
  by_cases h : x = y
  · rw [h, decide_eq_true rfl, decide_eq_true rfl]
  · rw [decide_eq_false h, decide_eq_false fun z => h (V.str.inj z)]
theorem str_eq {x y : Str} : decide (V.str x = V.str y) = decide (x = y) := by
  by_cases h : x = y
  · rw [h, decide_eq_true rfl, decide_eq_true rfl]
  · rw [decide_eq_false h, decide_eq_false fun z => h (V.str.inj z)]
theorem int_eq {x y : Int} : decide (V.int x = V.int y) = decide (x = y) := by
  by_cases h : x = y
  · rw [h, decide_eq_true rfl, decide_eq_true rfl]
  · rw [decide_eq_false h, decide_eq_false fun z => h (V.int.inj z)]
end L2
set_option Elab.async false
set_option linter.all false
set_option maxRecDepth 100000
set_option maxHeartbeats 4000000
namespace L2
open PySem PySem.Spec PyProof.Rows
inductive tMethD_I (P : Program) (w : World) (K : PySem.W.Frag) (mg : Str → Option Value) (base : Heap) (A : Around) (m : Str) (t : TA) (σ : St) (Q : VK) (x : V) (H1 : Hp) : Prop
  | mk : ∀ (a dx : Addr) (fs : List (Str × V)) (C f : Addr) (fd : FuncData) (ps : List Str) (sp : Sp) (k : Nat), x = .ref a → H1 a = some (.ins C dx fs) → Cls K C → Meth K C m f → FnOk P w K mg base CX0 k f fd ps sp → Room k A → Binds K fd ps [] → fs.lookup m = none → (t σ H1 fun vs H2 => sp (x :: vs) H2 Q E0) → tMethD_I P w K mg base A m t σ Q x H1
def tMethD (P : Program) (w : World) (K : PySem.W.Frag) (mg : Str → Option Value) (base : Heap) (A : Around) (m : Str) (ta : TE) (t : TA) : TE := fun σ H Q => ta σ H fun x H1 => tMethD_I P w K mg base A m t σ Q x H1
section
variable {X : Cx} {o e : Expr} {es : List Expr} {ta : TE} {t : TA} {m : Str} {apos pos : Pos}
theorem pe_methD0 {P : Program} {w : World} {K : PySem.W.Frag} {mg : Str → Option Value} {base : Heap} {A : Around} {pl : Sem Bool} (he : PE X o ta) (hP : X.prog = P := by rfl) (hw : X.w = w := by rfl) (hK : X.K = K := by rfl) (hmg : X.mg = mg := by rfl) (hba : X.base = base := by rfl) (hA : X.A = A := by rfl)
    (ht : eval (.Call (.Attribute o m apos) [] [] pos) X.env = (do
      let ov ← eval o X.env
      standAt apos.atName
      let (f, first) ← holding [ov] (getMethod ov m pl)
      callWith pos f first (backTo pos (starEach [] X.env)) (backToKw pos (keywordEach [] X.env))) := by rfl) :
    PE X (.Call (.Attribute o m apos) [] [] pos) (tMethD P w K mg base A m ta tNil) := by
  subst hP hw hK hmg hba hA
  intro pins s σ H Q I h
  refine PySem.W.methodCall_KW (pl := pl) (thn (he pins s σ H _ I h) fun u s1 ⟨x, H1, I1, rx, a, dx, fs, C, f, fd, ps, sp, k, ex, ea, c, hm, F, hr, hb, l, q⟩ => ?_) ht
  subst ex
  obtain rfl : u = Value.ref a := rx
  refine getmeth_ok I1 ea c hm l ?_
  exact PySem.W.callWith_K0 (first := [.ref a]) I1.kIn hm.kp (run_fn (us := [.ref a]) (vs := [.ref a]) F hr hb .nil pass0 I1 (.cons rfl .nil) (by rw [List.append_nil]; exact q))
structure CFn (K : PySem.W.Frag) (C f : Addr) (m : Str) : Prop where
  ga : PySem.W.specialIn K (.ref C) "__getattribute__" = some (some (.builtin "type.__getattribute__"))
  rd : PySem.W.readsIn K C (.type "type") = true
  fc : PySem.W.findCls K (.ref C) (.type "type") m = some (.val (.ref f))
  hn : PySem.W.handedIn (.ref f) = true
  kp : PySem.W.keepIn K (.ref f) = true
theorem pe_clsfn {C f : Addr} {k : Nat} {fd : FuncData} {ps : List Str} {sp : Sp} {pl : Sem Bool} {x : Str} {np : Pos} (hg : Gl X x) (hmx : X.mg x = some (.ref C)) (c : CFn X.K C f m) (F : FnOk X.prog X.w X.K X.mg X.base CX0 k f fd ps sp) (hr : Room k X.A) (hb : Binds X.K fd ps []) (ha : PA X (e :: es) t)
    (hdb : (x == ("__debug__" : Str)) = false := by decide)
    (hst : starEach (e :: es) X.env = (false, eval e X.env) :: starEach es X.env := by rfl) (hpl : (backTo pos (starEach es X.env)).any (·.1) = false := by rfl)
    (ht : eval (.Call (.Attribute (.Name x np) m apos) (e :: es) [] pos) X.env = (do
      let ov ← eval (.Name x np) X.env
      standAt apos.atName
      let (f, first) ← holding [ov] (getMethod ov m pl)
      callWith pos f first (backTo pos (starEach (e :: es) X.env)) (backToKw pos (keywordEach [] X.env))) := by rfl) :
    PE X (.Call (.Attribute (.Name x np) m apos) (e :: es) [] pos) (tCall sp [] E0 t) := by
  intro pins s σ H Q I h
  refine PySem.W.methodCall_KW (pl := pl) (thn (pe_glob (v := .ref C) hg hmx rfl hdb pins s σ H (fun v H1 => v = .ref C ∧ H1 = H) I ⟨rfl, rfl⟩) fun u s1 ⟨y, H1, I1, rx, ey, eH⟩ => ?_) ht
  subst ey eH
  obtain rfl : u = Value.ref C := rx
  refine PySem.W.method_cls I1.kIn c.ga (PySem.W.cls_value I1.kIn c.rd c.fc c.hn ?_)
  have I2 : Inv X pins σ H1 { s1 with toks := s1.toks + 1 } := I1.tok _
  refine PySem.W.callWith_K (first := []) (h₀ := X.base) I.ok.mod.kin c.kp (thn (ha pos pins _ σ H1 _ I2 h) fun us s2 ⟨vs, H2, I3, r, q2⟩ => ⟨I3.kIn, ?_⟩) hst hpl
  exact run_fn (us := us) (vs := vs) F hr hb .nil pass0 I3 r q2
end
end L2
set_option Elab.async false
set_option linter.all false
set_option maxRecDepth 100000
set_option maxHeartbeats 4000000
namespace L2
open PySem PySem.Spec PyProof.Rows
end L2
set_option Elab.async false
set_option linter.all false
set_option maxRecDepth 100000
set_option maxHeartbeats 4000000
namespace L2
open PySem PySem.Spec PyProof.Rows
end L2
set_option Elab.async false
set_option linter.all false
set_option maxRecDepth 100000
set_option maxHeartbeats 4000000
namespace Hd
open PySem PySem.W L2
def isStrs : List Value → List Str → Bool
  | [], [] => true
  | .str x _ :: us, y :: ys => decide (x = y) && isStrs us ys
  | _, _ => false
theorem isStrs_vals : ∀ {us : List Value} {ys : List Str}, isStrs us ys = true → Vals (ys.map V.str) us
  | [], [], _ => .nil
  | [], _ :: _, h => by simp [isStrs] at h
  | u :: us, [], h => by cases u <;> simp [isStrs] at h
  | u :: us, y :: ys, h => by
    cases u with
    | str x t =>
      rw [isStrs, Bool.and_eq_true] at h
      have e := of_decide_eq_true h.1
      subst e
      exact .cons ⟨t, rfl⟩ (isStrs_vals h.2)
    | _ => simp [isStrs] at h
def tupObj (o : Option Obj) (ys : List Str) : Bool := match o with
  | some ob => decide (ob.cls = .type "tuple") && (match ob.data with | .seq its _ => decide (its.size ≤ sizeLine) && isStrs its.toList ys | _ => false)
  | none => false
def tupStrs (K : Frag) (x : Str) (ys : List Str) : Bool := decide (gl K x = some (some (.ref (adOf (gl K x))))) && tupObj (K.lookup (adOf (gl K x))) ys
theorem tup_at {K : Frag} {h : Heap} {mg : Str → Option Value} {x : Str} {ys : List Str} (X : K.In h) (G : h.Ns mainGlobals mg) (e : tupStrs K x ys = true) : ∃ p, mg x = some (.ref p) ∧ ∀ H, SqT K H p (ys.map V.str) := by
  unfold tupStrs at e
  rw [Bool.and_eq_true] at e
  refine ⟨_, mg_of X G (of_decide_eq_true e.1), fun H => .inr ?_⟩
  have e2 := e.2
  unfold tupObj at e2
  cases ho : K.lookup (adOf (gl K x)) with
  | none => rw [ho] at e2; cases e2
  | some ob =>
    rw [ho] at e2
    dsimp only at e2
    rw [Bool.and_eq_true] at e2
    obtain ⟨c1, c2⟩ := e2
    cases hd : ob.data with
    | seq its n =>
      rw [hd] at c2
      dsimp only at c2
      rw [Bool.and_eq_true] at c2
      exact ⟨ob, its, n, rfl, of_decide_eq_true c1, hd, of_decide_eq_true c2.1, isStrs_vals c2.2⟩
    | _ => rw [hd] at c2; cases c2
end Hd
set_option Elab.async false
set_option linter.all false
set_option maxRecDepth 100000
set_option maxHeartbeats 4000000
namespace L2
open PySem PySem.Spec PyProof.Rows
inductive rJoinT_I (K : PySem.W.Frag) (x : V) (xs : List V) (H : Hp) (Q : VK) : Prop
  | mk : ∀ (sep : Str) (p : Addr) (ys : List Str), x = .str sep → xs = [.ref p] → SqT K H p (ys.map V.str) → (ys.map (·.length)).sum + ys.length * sep.length ≤ 16777216 → Q (.str (Txt.join sep ys)) H → rJoinT_I K x xs H Q
def rJoinT (K : PySem.W.Frag) : V → List V → Hp → VK → Prop := fun x xs H Q => rJoinT_I K x xs H Q
theorem mt_joinT {X : Cx} : MtR X "str.join" (rJoinT X.K) := by
  intro pins s σ H x xs v us Q I rx rv h
  obtain ⟨sep, p, ys, rfl, rfl, hq, hz, q⟩ := h
  obtain ⟨t, rfl⟩ := rx
  obtain ⟨u, rfl, ru⟩ := vals1 rv
  cases ru
  obtain ⟨its, r, pl, _⟩ := I.tuple hq
  exact join_tuple pl (by have := strsAre_of r; simpa using this) hz fun t' k => ⟨.str (Txt.join sep ys), H, I.tok k, ⟨t', rfl⟩, q⟩
abbrev TF := St → Hp → Str → (Str → Hp → Prop) → Prop
def PF (X : Cx) (es : List Expr) (t : TF) : Prop := ∀ (pins : List (Addr × Obj)) (s : Shared) (σ : St) (H : Hp) (acc : Str) (Q : Str → Hp → Prop), Inv X pins σ H s → t σ H acc Q →
  Joins (model X.prog X.w) X.A X.xe (evalEach es X.env) acc (fun out s1 => ∃ H', Inv X pins σ H' s1 ∧ Q out H') s
def tfNil : TF := fun _ H acc Q => Q acc H
inductive tfOne (t : TF) (σ : St) (acc : Str) (Q : Str → Hp → Prop) (v : V) (H1 : Hp) : Prop
  | mk : ∀ y : Str, v = .str y → (acc ++ y).length ≤ sizeLine → t σ H1 (acc ++ y) Q → tfOne t σ acc Q v H1
def tfCons (te : TE) (t : TF) : TF := fun σ H acc Q => te σ H fun v H1 => tfOne t σ acc Q v H1
section
variable {X : Cx} {e : Expr} {es : List Expr} {te : TE} {t : TF} {pos : Pos}
theorem pf_nil : PF X [] tfNil := fun _ s _ H _ _ I h => ⟨H, I, h⟩
theorem pf_cons (he : PE X e te) (h : PF X es t) (hev : evalEach (e :: es) X.env = eval e X.env :: evalEach es X.env := by rfl) : PF X (e :: es) (tfCons te t) := by
  intro pins s σ H acc Q I q
  rw [hev]
  refine thn (he pins s σ H _ I q) fun u s1 ⟨v, H1, I1, r, y, ev, hz, q1⟩ => ?_
  subst ev
  obtain ⟨tk, rfl⟩ := r
  exact ⟨y, tk, rfl, hz, h pins s1 σ H1 _ Q I1 q1⟩
/-- the whole f-string of two parts and more -/
inductive tFs_I (Q : VK) (out : Str) (H' : Hp) : Prop
  | mk : out.length ≤ sizeLine → Q (.str out) H' → tFs_I Q out H'
def tFs (t : TF) : TE := fun σ H Q => t σ H Str.empty fun out H' => tFs_I Q out H'
theorem pe_fs {v1 v2 : Expr} {rest : List Expr} (h : PF X (v1 :: v2 :: rest) t) : PE X (.JoinedStr (v1 :: v2 :: rest) pos) (tFs t) := by
  intro pins s σ H Q I q
  refine wpAny_JoinedStr ?_
  have hj := h pins s σ H Str.empty _ I q
  have mono : ∀ (ps : List (Sem Value)) (acc : Str) (Q1 Q2 : Str → Shared → Prop) (s : Shared), (∀ o s, Q1 o s → Q2 o s) → Joins (model X.prog X.w) X.A X.xe ps acc Q1 s → Joins (model X.prog X.w) X.A X.xe ps acc Q2 s := by
    intro ps
    induction ps with
    | nil => intro acc Q1 Q2 s k j; exact k _ _ j
    | cons p ps ih =>
      intro acc Q1 Q2 s k j
      exact thn j fun v s1 ⟨y, t, ev, hz, hr⟩ => ⟨y, t, ev, hz, ih _ Q1 Q2 s1 k hr⟩
  refine mono _ _ _ _ _ (fun out s1 ⟨H', I', hz, q'⟩ => ⟨hz, ⟨.str out, H', I'.tok _, ⟨_, rfl⟩, q'⟩⟩) hj
/-- {x} for a text or a number -/
inductive tFmt_I (Q : VK) (v : V) (H1 : Hp) : Prop
  | str : ∀ y : Str, v = .str y → y.length ≤ sizeLine → Q (.str y) H1 → tFmt_I Q v H1
  | int : ∀ i : Int, v = .int i → i.natAbs.log2 < 1920 → Q (.str (toString i)) H1 → tFmt_I Q v H1
def tFmt (te : TE) : TE := fun σ H Q => te σ H fun v H1 => tFmt_I Q v H1
theorem pe_fmt (he : PE X e te) : PE X (.FormattedValue e (-1) none pos) (tFmt te) := by
  intro pins s σ H Q I q
  refine wpAny_FormattedValue_plain (thn (he pins s σ H _ I q) fun u s1 ⟨v, H1, I1, r, q1⟩ => ?_)
  cases q1 with
  | str y ev hz q1 =>
    subst ev
    obtain ⟨tk, rfl⟩ := r
    exact wpAny_formatField_str ⟨.str y, H1, I1, ⟨tk, rfl⟩, q1⟩ ⟨.str y, H1, I1.tok _, ⟨_, rfl⟩, q1⟩ hz
  | int i ev hz q1 =>
    subst ev
    obtain ⟨tk, rfl⟩ := r
    exact wpAny_formatField_int hz ⟨.str _, H1, I1.tok _, ⟨_, rfl⟩, q1⟩
end
end L2
set_option Elab.async false
set_option linter.all false
set_option maxRecDepth 100000
set_option maxHeartbeats 4000000
namespace L2
open PySem PySem.Spec PyProof.Rows
end L2
set_option Elab.async false
set_option linter.all false
set_option maxRecDepth 100000
set_option maxHeartbeats 4000000
namespace L2
open PySem PySem.Spec PyProof.Rows
theorem runs_toks {M : Model} {Γ : PySem.Ctx} {p : Pos} {t : Sem Fin} {fs : List Frame} {s : Shared} {e : End} {s' : Shared} (h : Runs M Γ p t fs s e s') : s.toks ≤ s'.toks := by
  induction h with
  | fresh _ ih => exact Nat.le_trans (Nat.le_succ _) ih
  | call _ _ i1 i2 => exact Nat.le_trans i1 i2
  | resumeFresh _ _ _ _ i1 i2 => exact Nat.le_trans i1 i2
  | resumeSuspended _ _ _ _ i1 i2 => exact Nat.le_trans i1 i2
  | segRet _ _ i1 i2 => exact Nat.le_trans i1 i2
  | segGen _ _ i1 i2 => exact Nat.le_trans i1 i2
  | segSuspGen _ _ _ _ i1 i2 => exact Nat.le_trans i1 i2
  | done => exact Nat.le_refl _
  | raise => exact Nat.le_refl _
  | yield => exact Nat.le_refl _
  | again _ _ ih => exact ih
  | rule _ ih => exact ih
  | «at» _ ih => exact ih
  | load _ _ ih => exact ih
  | update _ _ ih => exact ih
  | loadIfAlive _ ih => exact ih
  | point _ ih => exact ih
  | alloc _ ih => exact ih
  | ask _ ih => exact ih
  | choose _ _ ih => exact ih
  | os _ ih => exact ih
  | handled _ ih => exact ih
  | genState _ _ ih => exact ih
  | stack _ ih => exact ih
  | thread _ ih => exact ih
  | newGen _ ih => exact ih
  | callSusp _ ih => exact ih
  | resumeJustStarted _ _ _ ih => exact ih
  | resumeThrowFresh _ _ ih => exact ih
  | resumeRunning _ _ ih => exact ih
  | resumeFinished _ _ ih => exact ih
  | segSuspOut _ _ ih => exact ih
theorem wakes_toks {M : Model} {Γ : PySem.Ctx} {p : Pos} {g : Nat} {r : Resume} {s : Shared} {res : GenResult} {s' : Shared} (h : Wakes M Γ p g r s res s') : s.toks ≤ s'.toks := by
  unfold Wakes at h
  split at h
  · exact h.elim
  · split at h
    · obtain ⟨e1, s1, hr, _, _, rfl⟩ := h
      exact (runs_toks hr : (s.setGen g .running).toks ≤ s1.toks)
    · obtain ⟨_, rfl⟩ := h; exact Nat.le_refl _
    · obtain ⟨_, rfl⟩ := h; exact Nat.le_refl _
  · obtain ⟨e1, s1, hr, _, _, rfl⟩ := h
    exact (runs_toks hr : (s.setGen g .running).toks ≤ s1.toks)
  · obtain ⟨_, rfl⟩ := h; exact Nat.le_refl _
  · obtain ⟨_, rfl⟩ := h; exact Nat.le_refl _
theorem wp_toks {α : Type} {M : Model} {Γ : PySem.Ctx} {n : Nat} (t : Sem α) : ∀ {Q : α → Pos → Shared → Prop} {E : Value → Pos → Shared → Prop} {p : Pos} {s : Shared}, n ≤ s.toks → Sem.wp M Γ t (fun a p' s' => n ≤ s'.toks → Q a p' s') (fun e p' s' => n ≤ s'.toks → E e p' s') p s → Sem.wp M Γ t Q E p s := by
  induction t with
  | pure a => intro Q E p s hn h; exact h hn
  | raise e => intro Q E p s hn h; exact h hn
  | unsupported _ => intro Q E p s hn h; exact h
  | finish _ => intro Q E p s hn h; exact h
  | rule _ k ih => intro Q E p s hn h; exact ih _ hn h
  | «at» _ k ih => intro Q E p s hn h; exact ih _ hn h
  | load _ _ k ih => intro Q E p s hn h; obtain ⟨o, e, h⟩ := h; exact ⟨o, e, ih _ hn h⟩
  | update _ _ _ k ih => intro Q E p s hn h; exact ⟨h.1, ih _ hn h.2⟩
  | loadIfAlive _ k ih => intro Q E p s hn h; exact ih _ hn h
  | point _ k ih => intro Q E p s hn h; exact ih _ hn h
  | register _ _ => intro Q E p s hn h; exact h
  | alloc _ k ih => intro Q E p s hn h; exact ih _ hn h
  | fresh k ih => intro Q E p s hn h; exact ih _ (Nat.le_succ_of_le hn) h
  | ask k ih => intro Q E p s hn h; exact ih _ hn h
  | choose _ _ k ih => intro Q E p s hn h; exact ⟨h.1, ih _ hn h.2⟩
  | os _ _ k ih => intro Q E p s hn h; exact ih _ hn h
  | call _ _ _ _ k ih => intro Q E p s hn h; obtain ⟨r, s', hr, h⟩ := h; exact ⟨r, s', hr, ih _ (Nat.le_trans hn (runs_toks hr)) h⟩
  | handled _ k ih => intro Q E p s hn h; exact ih _ hn h
  | genState _ k ih => intro Q E p s hn h; obtain ⟨st, e, h⟩ := h; exact ⟨st, e, ih _ hn h⟩
  | newGen _ k ih => intro Q E p s hn h; exact ih _ hn h
  | resume _ _ _ k ih => intro Q E p s hn h; obtain ⟨r, s', hr, h⟩ := h; exact ⟨r, s', hr, ih _ (Nat.le_trans hn (wakes_toks hr)) h⟩
  | yield _ _ _ _ => intro Q E p s hn h; exact h
  | stack k ih => intro Q E p s hn h; exact ih _ hn h
  | fork _ _ => intro Q E p s hn h; exact h
  | thread k ih => intro Q E p s hn h; exact ih _ hn h
  | await _ _ _ _ _ => intro Q E p s hn h; exact h
theorem wpAny_tk {α : Type} {M : Model} {A : Around} {t : Sem α} {Q : α → Shared → Prop} {E : Value → Shared → Prop} {s : Shared} (h : wpAny M A t (fun a s' => s.toks ≤ s'.toks → Q a s') (fun e s' => s.toks ≤ s'.toks → E e s') s) : wpAny M A t Q E s :=
  fun Γ p hΓ => wp_toks t (Nat.le_refl _) (h Γ p hΓ)
theorem thn_tk {α : Type} {M : Model} {A : Around} {t : Sem α} {Q Q' : α → Shared → Prop} {E : Value → Shared → Prop} {s : Shared} (h : wpAny M A t Q E s) (k : ∀ a s', s.toks ≤ s'.toks → Q a s' → Q' a s') : wpAny M A t Q' E s :=
  wpAny_tk (wpAny_mono h (fun a s' q hn => k a s' hn q) fun e s' q _ => q)
end L2
set_option Elab.async false
set_option linter.all false
set_option maxRecDepth 100000
set_option maxHeartbeats 4000000
namespace L2
open PySem PySem.Spec PyProof.Rows
section
variable {X : Cx} {pins : List (Addr × Obj)} {σ : List (Option V)} {H : Hp} {s : Shared}
abbrev LocRel (X : Cx) (σ : List (Option V)) (h : Heap) (m : Str → Option Value) : Prop := ∀ (i : Nat) (x : Str) (v : V), X.N[i]? = some x → σ[i]? = some (some v) → Vis X.env.scope x → ∃ u, RelV v u ∧ Look X.env h m x u
theorem Inv.stored {i : Nat} {x : Str} {v : V} {u : Value} {m : Str → Option Value} {h' : Heap} {k : Nat} (I : Inv X pins σ H s) (hN : X.N.Nodup) (hi : X.N[i]? = some x) (hk : X.env.kindOf x = some .local) (r : RelV v u) (hn : s.heap.Ns X.env.locals m) (hl : LocRel X σ s.heap m)
    (hn' : h'.Ns X.env.locals (fun y => if y = x then some u else m y)) (hs : Heap.SameBut X.env.locals s.heap h') : Inv X pins (σ.set i (some v)) H { s with heap := h', toks := k } ∧ LocRel X (σ.set i (some v)) h' (fun y => if y = x then some u else m y) := by
  have hiσ : i < σ.length := by rw [I.len]; exact (List.getElem?_eq_some_iff.mp hi).1
  have cne := I.cne
  obtain ⟨oL, _, _, hoL, _⟩ := id hn
  have tracked : HOk X.prog X.w H h' := fun b ob e => by
    refine (I.hok b ob e).stay (fun c w' hc q => (hs.2 c ?_).trans q) (fun _ q => q) fun _ _ q => q
    rintro rfl
    rcases hc with rfl | hc
    · rw [I.free] at e; cases e
    · rw [I.free] at hc; cases hc
  have lr : LocRel X (σ.set i (some v)) h' (fun y => if y = x then some u else m y) := fun j y v' e1 e2 e3 => by
    by_cases hj : j = i
    · subst hj
      rw [hi] at e1; cases e1
      rw [List.getElem?_set_self hiσ] at e2
      cases e2
      exact ⟨u, r, .inl ⟨hk, by simp⟩⟩
    · rw [List.getElem?_set_ne (Ne.symm hj)] at e2
      obtain ⟨u', r', q⟩ := hl j y v' e1 e2 e3
      refine ⟨u', r', ?_⟩
      rcases q with ⟨k, e⟩ | ⟨k, c, e, z⟩
      · refine .inl ⟨k, ?_⟩
        have : y ≠ x := fun e => hj (nodup_ix hN e1 (e ▸ hi))
        simp [this, e]
      · exact .inr ⟨k, c, e, z.sameBut hs (cne y c e)⟩
  refine ⟨⟨I.ok, I.os, I.bare, ⟨fun b o e n hb hx => ?_, fun b o e n hb hx => ?_, I.base.free, fun b o e hx => ?_, I.base.tups, I.base.frzs, I.base.tbls⟩, ⟨_, hn', lr⟩, fun y c e => ?_, I.free, I.freeC, fun p hp => ?_, tracked, by simpa using I.len⟩, lr⟩
  · exact (hs.2 b (Nat.ne_of_lt (Nat.lt_of_lt_of_le (Heap.lt_size e) I.ok.above))).trans (I.base.keep b o e n hb hx)
  · obtain ⟨sl, e1⟩ := I.base.slot b o e n hb hx
    exact ⟨sl, (hs.2 b (Nat.ne_of_lt (Nat.lt_of_lt_of_le (Heap.lt_size e) I.ok.above))).trans e1⟩
  · obtain ⟨o', e1⟩ := I.base.there b o e hx
    exact ⟨o', (hs.2 b (Nat.ne_of_lt (Nat.lt_of_lt_of_le (Heap.lt_size e) I.ok.above))).trans e1⟩
  · obtain ⟨w', z⟩ := I.cell y c e
    exact ⟨w', z.sameBut hs (cne y c e)⟩
  · obtain ⟨e, n, ne, nf, d⟩ := I.pin p hp
    exact ⟨(hs.2 p.1 ne).trans e, n, ne, nf, d⟩
abbrev padS (y : Str) : Str := ((" " : Str) ++ y) ++ " "
theorem pad_ne (y : Str) : (y == padS y) = false := by
  rw [beq_eq_false_iff_ne]
  intro e
  have h := congrArg Str.length e
  have q : (" " : Str).length = 1 := by decide +kernel
  rw [strLen_append, strLen_append, q] at h
  omega
theorem rep_eval {m : Str → Option Value} {txt sg : Str} {x y : Str} {tx ts : Tok} {E : Value → Shared → Prop} {Q : Value → Shared → Prop} {p1 p2 p3 p4 p5 p6 p7 apos cpos : Pos} {k1 k2 : Nat} (I : Inv X pins σ H s) (hn : s.heap.Ns X.env.locals m)
    (hx : m txt = some (.str x tx)) (hy : m sg = some (.str y ts)) (kt : X.env.kindOf txt = some .local) (ks : X.env.kindOf sg = some .local) (h0 : 0 < ts) (h1 : ts < s.toks) (hy1 : y.length = 1) (hb : x.length ≤ 1000000)
    (q : ∀ t' k, Q (.str (Txt.replace x y (padS y)) t') { s with toks := k })
    (hd1 : (txt == ("__debug__" : Str)) = false) (hd2 : (sg == ("__debug__" : Str)) = false)
    (hbase : attributeBase (.Name txt p1) "replace" X.env (eval (.Name txt p1) X.env) = eval (.Name txt p1) X.env) (hline : (apos.endLine == cpos.line) = true)
    (hfew : ((backTo cpos (starEach [.Name sg p2, .BinOp (.BinOp (.Constant (.str " ") k1 p3) .Add (.Name sg p4) p5) .Add (.Constant (.str " ") k2 p6) p7] X.env)).all (fun x => !x.1) && (backToKw cpos (keywordEach [] X.env)).all (fun x => x.1.isSome)
      && decide ([Expr.Name sg p2, .BinOp (.BinOp (.Constant (.str " ") k1 p3) .Add (.Name sg p4) p5) .Add (.Constant (.str " ") k2 p6) p7].length + ([] : List Keyword).length + (if ([] : List Keyword).isEmpty then 0 else 1) < 30)) = true) :
    wpAny (model X.prog X.w) X.A (eval (.Call (.Attribute (.Name txt p1) "replace" apos) [.Name sg p2, .BinOp (.BinOp (.Constant (.str " ") k1 p3) .Add (.Name sg p4) p5) .Add (.Constant (.str " ") k2 p6) p7] [] cpos) X.env) Q E s := by
  have l1 : (" " : Str).length = 1 := by decide +kernel
  refine wpAny_Call_method_late hbase hfew hline rfl (wpAny_Name (wpAny_loadName_local I.ok.kind kt hn hx ?_) hd1)
  refine ⟨"str", "str.replace", PySem.F.plainAttrs_str, PySem.F.slot_str_replace, PySem.F.type_str_replace, typeIs_str s x tx, (fun _ e => nomatch e), ?_⟩
  refine Calls.callWith_builtin (by rfl) (Calls.evalArgs_plain ?_)
  show wpAny _ _ (spliced ((false, eval (.Name sg p2) X.env) :: backTo cpos (starEach [.BinOp (.BinOp (.Constant (.str " ") k1 p3) .Add (.Name sg p4) p5) .Add (.Constant (.str " ") k2 p6) p7] X.env))) _ _ s
  refine Calls.spliced_cons (wpAny_Name (wpAny_loadName_local I.ok.kind ks hn hy ?_) hd2)
  show wpAny _ _ (spliced ((false, eval (.BinOp (.BinOp (.Constant (.str " ") k1 p3) .Add (.Name sg p4) p5) .Add (.Constant (.str " ") k2 p6) p7) X.env) :: backTo cpos (starEach [] X.env))) _ _ s
  refine Calls.spliced_cons (wpAny_BinOp (wpAny_BinOp (Calls.Constant_str (wpAny_Name (wpAny_loadName_local I.ok.kind ks (s := { s with toks := s.toks + 1 }) hn hy ?_) hd2))))
  refine PySem.P.add_str ?_
  rw [if_neg (by rw [l1]; decide), if_neg (by rw [hy1]; decide)]
  have la : ((" " : Str) ++ y).length = 2 := by rw [strLen_append, l1, hy1]
  refine ⟨by rw [la]; decide, ?_⟩
  refine Calls.Constant_str ?_
  refine PySem.P.add_str ?_
  rw [if_neg (by rw [la]; decide), if_neg (by rw [l1]; decide)]
  have lb : (((" " : Str) ++ y) ++ " ").length = 3 := by rw [strLen_append, la, l1]
  refine ⟨by rw [lb]; decide, ?_⟩
  refine Calls.spliced_nil ?_
  refine SC.replace (Nat.pos_iff_ne_zero.mp h0) (Nat.succ_ne_zero _) (Nat.ne_of_lt (Nat.lt_of_lt_of_le h1 (Nat.le_add_right s.toks 3))) (pad_ne y) ?_ fun t' k => q t' k
  show x.length + (x.length + 1) * (((" " : Str) ++ y) ++ " ").length ≤ 16777216
  rw [lb]; omega
def PST (X : Cx) (st : Stmt) (t : TS) : Prop :=
  ∀ (pins : List (Addr × Obj)) (s : Shared) (σ : St) (H : Hp) (D : Ends), Inv X pins σ H s → 0 < s.toks → t D σ H → wpAny (model X.prog X.w) X.A (exec st X.env) (SP X pins D) X.xe s
def PSsT (X : Cx) (st : List Stmt) (t : TS) : Prop :=
  ∀ (pins : List (Addr × Obj)) (s : Shared) (σ : St) (H : Hp) (D : Ends), Inv X pins σ H s → 0 < s.toks → t D σ H → wpAny (model X.prog X.w) X.A (execs st X.env) (SP X pins D) X.xe s
def PET (X : Cx) (e : Expr) (t : TE) : Prop :=
  ∀ (pins : List (Addr × Obj)) (s : Shared) (σ : St) (H : Hp) (Q : VK), Inv X pins σ H s → 0 < s.toks → t σ H Q → wpAny (model X.prog X.w) X.A (eval e X.env) (EP X pins σ Q) X.xe s
def rep3 (x a b c : Str) : Str := Txt.replace (Txt.replace (Txt.replace x a (padS a)) b (padS b)) c (padS c)
inductive tRep_I (a b c : Str) (D : Ends) (σ : St) (H : Hp) : Prop
  | mk : ∀ (x : Str) (o : Option V), σ = [some (.str x), o] → x.length ≤ 1000000 → (Txt.replace x a (padS a)).length ≤ 1000000 → (Txt.replace (Txt.replace x a (padS a)) b (padS b)).length ≤ 1000000 → D.nx [some (.str (rep3 x a b c)), some (.str c)] H → tRep_I a b c D σ H
def tRep (a b c : Str) : TS := fun D σ H => tRep_I a b c D σ H
theorem ps_rep {txt sg a b c : Str} {p1 p2 p3 p4 p5 p6 p7 apos cpos pg pt spos tpos pos q1 q2 q3 : Pos} {k1 k2 j1 j2 j3 ctx : Nat}
    (hN : X.N = [txt, sg]) (hne : txt ≠ sg) (kt : X.env.kindOf txt = some .local) (ks : X.env.kindOf sg = some .local) (hc : X.calm = true) (ha : a.length = 1) (hb : b.length = 1) (hcl : c.length = 1)
    (hp : PassesOwn (model X.prog X.w) X.A X.env X.xe)
    (hd1 : (txt == ("__debug__" : Str)) = false) (hd2 : (sg == ("__debug__" : Str)) = false)
    (hbase : attributeBase (.Name txt p1) "replace" X.env (eval (.Name txt p1) X.env) = eval (.Name txt p1) X.env) (hline : (apos.endLine == cpos.line) = true)
    (hfew : ((backTo cpos (starEach [.Name sg p2, .BinOp (.BinOp (.Constant (.str " ") k1 p3) .Add (.Name sg p4) p5) .Add (.Constant (.str " ") k2 p6) p7] X.env)).all (fun x => !x.1) && (backToKw cpos (keywordEach [] X.env)).all (fun x => x.1.isSome)
      && decide ([Expr.Name sg p2, .BinOp (.BinOp (.Constant (.str " ") k1 p3) .Add (.Name sg p4) p5) .Add (.Constant (.str " ") k2 p6) p7].length + ([] : List Keyword).length + (if ([] : List Keyword).isEmpty then 0 else 1) < 30)) = true)
    (hsw : swapsWith (.Call (.Attribute (.Name txt p1) "replace" apos) [.Name sg p2, .BinOp (.BinOp (.Constant (.str " ") k1 p3) .Add (.Name sg p4) p5) .Add (.Constant (.str " ") k2 p6) p7] [] cpos) (some (.Name txt pt)) spos.line X.env = pure false)
    (hs : ∀ x, foldedSetIterable (.Tuple [.Constant (.str a) j1 q1, .Constant (.str b) j2 q2, .Constant (.str c) j3 q3] ctx tpos) X.env x = pure x) :
    PST X (.For (.Name sg pg) (.Tuple [.Constant (.str a) j1 q1, .Constant (.str b) j2 q2, .Constant (.str c) j3 q3] ctx tpos) [.Assign [.Name txt pt] (.Call (.Attribute (.Name txt p1) "replace" apos) [.Name sg p2, .BinOp (.BinOp (.Constant (.str " ") k1 p3) .Add (.Name sg p4) p5) .Add (.Constant (.str " ") k2 p6) p7] [] cpos) spos] [] pos) (tRep a b c) := by
  intro pins s σ H D I h0 h
  obtain ⟨x, o, rfl, hx0, hx1, hx2, q⟩ := h
  have i0 : X.N[0]? = some txt := by rw [hN]; rfl
  have i1 : X.N[1]? = some sg := by rw [hN]; rfl
  have hnd : X.N.Nodup := by rw [hN]; simp [hne]
  refine wpAny_For (wpAny_Tuple_spliced ?_) hs
  show wpAny _ _ (spliced ((false, eval (.Constant (.str a) j1 q1) X.env) :: backTo tpos (starEach [.Constant (.str b) j2 q2, .Constant (.str c) j3 q3] X.env))) _ _ s
  refine Calls.spliced_cons (Calls.Constant_str ?_)
  show wpAny _ _ (spliced ((false, eval (.Constant (.str b) j2 q2) X.env) :: backTo tpos (starEach [.Constant (.str c) j3 q3] X.env))) _ _ _
  refine Calls.spliced_cons (Calls.Constant_str ?_)
  show wpAny _ _ (spliced ((false, eval (.Constant (.str c) j3 q3) X.env) :: backTo tpos (starEach [] X.env))) _ _ _
  refine Calls.spliced_cons (Calls.Constant_str (Calls.spliced_nil ⟨by show 3 ≤ sizeLine; decide, ?_⟩))
  have hT : (s.heap.push { cls := .type "tuple", data := .seq #[.str a s.toks, .str b (s.toks + 1), .str c (s.toks + 1 + 1)] }).IsTuple s.heap.objs.size #[.str a s.toks, .str b (s.toks + 1), .str c (s.toks + 1 + 1)] := ⟨_, Heap.get?_push_size _ rfl, rfl, _, rfl⟩
  refine wpAny_pyIter_tuple hT ?_
  have sz : (s.heap.push { cls := .type "tuple", data := .seq #[.str a s.toks, .str b (s.toks + 1), .str c (s.toks + 1 + 1)] }).objs.size = s.heap.objs.size + 1 := size_push' ..
  generalize hh1 : s.heap.push { cls := .type "tuple", data := .seq #[.str a s.toks, .str b (s.toks + 1), .str c (s.toks + 1 + 1)] } = h1 at hT sz
  have k1' : ∀ b u, s.heap.get? b = some u → h1.get? b = some u := fun b u e => by rw [← hh1]; exact Heap.get?_push_of_some _ e
  have fa : FpOk X pins H s.heap.objs.size := I.fpOk (Nat.le_refl _) (I.hok.fresh (Nat.le_refl _))
  have fi : FpOk X pins H h1.objs.size := I.fpOk (by rw [sz]; exact Nat.le_succ _) (I.hok.fresh (by rw [sz]; exact Nat.le_succ _))
  have nai : s.heap.objs.size ≠ h1.objs.size := by rw [sz]; exact Nat.ne_of_lt (Nat.lt_succ_self _)
  generalize s.heap.objs.size = a0 at hT fa nai sz
  generalize hit : h1.objs.size = it at fi nai
  have rel0 : ∀ i v, (#[Value.str a s.toks, .str b (s.toks + 1), .str c (s.toks + 1 + 1)])[i]? = some v → ∃ y ts, v = .str y ts ∧ y.length = 1 ∧ 0 < ts ∧ ts < s.toks + 1 + 1 + 1 ∧ ((i = 0 ∧ y = a) ∨ (i = 1 ∧ y = b) ∨ (i = 2 ∧ y = c)) := by
    intro i v hv
    match i, hv with
    | 0, hv => cases hv; exact ⟨a, _, rfl, ha, h0, Nat.lt_succ_of_lt (Nat.lt_succ_of_lt (Nat.lt_succ_self _)), .inl ⟨rfl, rfl⟩⟩
    | 1, hv => cases hv; exact ⟨b, _, rfl, hb, Nat.succ_pos _, Nat.lt_succ_self _ |> fun z => Nat.lt_trans z (Nat.lt_succ_self _), .inr (.inl ⟨rfl, rfl⟩)⟩
    | 2, hv => cases hv; exact ⟨c, _, rfl, hcl, Nat.succ_pos _, Nat.lt_succ_self _, .inr (.inr ⟨rfl, rfl⟩)⟩
    | n + 3, hv => exact absurd hv (by simp)
  refine codeAny_forLoop_any (fun n s' => ∃ i xx o', n = 3 - i ∧ i ≤ 3 ∧ Inv X pins [some (.str xx), o'] H s' ∧ s'.heap.IsTupleIter it a0 i ∧ s'.heap.IsTuple a0 #[.str a s.toks, .str b (s.toks + 1), .str c (s.toks + 1 + 1)] ∧ s.toks + 1 + 1 + 1 ≤ s'.toks ∧ ((i = 0 ∧ xx = x) ∨ (i = 1 ∧ xx = Txt.replace x a (padS a)) ∨ (i = 2 ∧ xx = Txt.replace (Txt.replace x a (padS a)) b (padS b)) ∨ (i = 3 ∧ xx = rep3 x a b c ∧ o' = some (.str c)))) ?_ 3 ⟨0, x, o, rfl, by decide, ?_, ?_, ?_, Nat.le_refl _, .inl ⟨rfl, rfl⟩⟩
  · rintro n s3 ⟨i, xx, o', rfl, hi3, I3, st3, tp3, tk3, rel⟩
    obtain ⟨f0, f1, f2, f3, f4, f5⟩ := id fi
    by_cases hi : i = 3
    · subst hi
      obtain ⟨rfl, rfl⟩ : xx = rep3 x a b c ∧ o' = some (.str c) := by
        rcases rel with ⟨z, _⟩ | ⟨z, _⟩ | ⟨z, _⟩ | ⟨_, z⟩
        · cases z
        · cases z
        · cases z
        · exact z
      exact wpAny_passesOwn hp (wpAny_pyNext_tuple_end (I.ok.hd hc) st3 tp3 rfl fun h' eb => wpAny_execs_nil ⟨_, H, I3.turned (t' := s3.toks) (fun b o hb e => eb b o hb e) f0 f1 f3 f4 f5, q⟩)
    · obtain ⟨v, hv⟩ : ∃ v, (#[Value.str a s.toks, .str b (s.toks + 1), .str c (s.toks + 1 + 1)])[i]? = some v := ⟨_, Array.getElem?_eq_getElem (show i < 3 by omega)⟩
      obtain ⟨y, ts, rfl, hy1, ht0, ht1, hyi⟩ := rel0 i v hv
      refine wpAny_passesOwn hp (wpAny_pyNext_tuple_item st3 tp3 hv fun h' st' sb => ?_)
      have I4 : Inv X pins [some (.str xx), o'] H { s3 with heap := h' } := I3.turned (t' := s3.toks) (fun b o hb e => (sb.2 b hb).trans e) f0 f1 f3 f4 f5
      have tp4 : h'.IsTuple a0 #[.str a s.toks, .str b (s.toks + 1), .str c (s.toks + 1 + 1)] := by
        obtain ⟨ot, e1, e2⟩ := tp3
        exact ⟨ot, (sb.2 a0 nai).trans e1, e2⟩
      obtain ⟨oi, ei, ci, di⟩ := id st'
      refine wpAny_passesOwn hp (go_of (s := { s3 with heap := h' }) ei ci di (by decide) ?_)
      obtain ⟨m, hn, hl⟩ := id I4.loc
      have hcls : (X.env.scope.kind == .class || (X.env.scope.kind == .module && X.env.locals != X.env.globals)) = false := by rw [I.ok.kind]; rfl
      refine wpAny_passesOwn hp (wpAny_assign_Name (wpAny_storeName_local ks hn (fun h5 hn5 sb5 => ?_) hcls))
      obtain ⟨I5, lr5⟩ := I4.stored (k := s3.toks + 1) hnd i1 ks (v := .str y) ⟨ts, rfl⟩ hn hl hn5 sb5
      obtain ⟨u, ru, lu⟩ := lr5 0 txt (.str xx) i0 rfl (.inl kt)
      obtain ⟨tx, rfl⟩ := ru
      have mtx : (fun y' => if y' = sg then some (Value.str y ts) else m y') txt = some (.str xx tx) := by
        rcases lu with ⟨_, e⟩ | ⟨z, _⟩
        · exact e
        · rcases z with z | z
          · rw [kt] at z; cases z
          · rw [kt] at z; cases z
      have hxx : xx.length ≤ 1000000 := by
        rcases rel with ⟨_, z⟩ | ⟨_, z⟩ | ⟨_, z⟩ | ⟨z, _⟩
        · rw [z]; exact hx0
        · rw [z]; exact hx1
        · rw [z]; exact hx2
        · exact absurd z hi
      refine wpAny_passesOwn hp (wpAny_execs_cons (wpAny_Assign_Name (wpAny_tk (rep_eval I5 hn5 mtx (by simp) kt ks ht0 (Nat.lt_of_lt_of_le ht1 (Nat.le_trans tk3 (Nat.le_succ _))) hy1 hxx (fun t' k htk => ?_) hd1 hd2 hbase hline hfew)) hsw))
      refine wpAny_storeName_local kt hn5 (fun h6 hn6 sb6 => ?_) hcls
      obtain ⟨I6, _⟩ := (I5.tok k).stored (k := k + 1) hnd i0 kt (v := .str (Txt.replace xx y (padS y))) ⟨t', rfl⟩ hn5 lr5 hn6 sb6
      refine wpAny_execs_nil ⟨3 - (i + 1), by omega, i + 1, Txt.replace xx y (padS y), some (.str y), rfl, by omega, I6, ?_, ?_, ?_, ?_⟩
      · obtain ⟨o9, e1, e2⟩ := st'
        exact ⟨o9, (sb6.2 it f1).trans ((sb5.2 it f1).trans e1), e2⟩
      · obtain ⟨o9, e1, e2⟩ := tp4
        exact ⟨o9, (sb6.2 a0 fa.2.1).trans ((sb5.2 a0 fa.2.1).trans e1), e2⟩
      · exact Nat.le_trans tk3 (Nat.le_trans (Nat.le_succ _) (Nat.le_trans htk (Nat.le_succ _)))
      · rcases rel with ⟨z, rfl⟩ | ⟨z, rfl⟩ | ⟨z, rfl⟩ | ⟨z, _⟩
        · subst z
          rcases hyi with ⟨_, rfl⟩ | ⟨z, _⟩ | ⟨z, _⟩
          · exact .inr (.inl ⟨rfl, rfl⟩)
          · cases z
          · cases z
        · subst z
          rcases hyi with ⟨z, _⟩ | ⟨_, rfl⟩ | ⟨z, _⟩
          · cases z
          · exact .inr (.inr (.inl ⟨rfl, rfl⟩))
          · cases z
        · subst z
          rcases hyi with ⟨z, _⟩ | ⟨z, _⟩ | ⟨_, rfl⟩
          · cases z
          · cases z
          · exact .inr (.inr (.inr ⟨rfl, rfl, rfl⟩))
        · exact absurd z hi
  · exact I.kept (t' := s.toks + 1 + 1 + 1) fun b u e => Heap.get?_push_of_some _ (k1' b u e)
  · subst hit
    exact ⟨_, Heap.get?_push_size _ rfl, rfl, rfl⟩
  · obtain ⟨ot, e1, e2⟩ := hT
    exact ⟨ot, Heap.get?_push_of_some _ e1, e2⟩
end
end L2
set_option Elab.async false
set_option linter.all false
set_option maxRecDepth 100000
set_option maxHeartbeats 4000000
namespace L2
open PySem PySem.Spec PyProof.Rows
structure FnOkT (P : Program) (w : World) (K : PySem.W.Frag) (mg : Str → Option Value) (base : Heap) (CX : CXT) (k : Nat) (f : Addr) (fd : FuncData) (ps : List Str) (sp : Sp) : Prop where
  len : ∀ vs H Q E, sp vs H Q E → vs.length = ps.length
  run : ∀ (A : Around) (outer : List Env) (s : Shared) (H : Hp) (args : Args) (us : List Value) (vs : List V) (Q : VK) (E : XK), Room k A → Env0 P w K mg base A outer s H → 0 < s.toks → BindsTo s fd args (ps.zip us) → Vals vs us → sp vs H Q E →
    codeAny (model P w) A (.call (.ref f) args) (CR CX outer P w H s Q E) s
theorem fn_ofT {CX : CXT} {P : Program} {w : World} {K : PySem.W.Frag} {mg : Str → Option Value} {base : Heap} {k : Nat} {f : Addr} {name qual : Str} {params : Arguments} {body : List Stmt} {scope : Scope} {dV kV doc pm cdv ct oc : Value} {an od : Option Addr}
    {osl : Array (Option Value)} {N ps : List Str} {sp : Sp} (lk : K.lookup f = some ⟨oc, od, .func (PySem.W.fnOf name qual params body scope dV kV doc pm an cdv ct), osl⟩) (hcd : PySem.W.codeIn K cdv qual = true) (S : FnScope N ps scope)
    (len : ∀ vs H Q E, sp vs H Q E → vs.length = ps.length)
    (hbody : ∀ (A : Around) (outer : List Env) (s : Shared) (H : Hp) (vs : List V) (Q : VK) (E : XK), Room k (A.deeper (envOfC qual scope s.heap.objs.size f cdv)) → sp vs H Q E →
      ∃ t, PSsT (cxOf CX P w K mg base N qual scope f cdv A outer s H E) body t ∧ t { nx := fun _ H' => Q .non H', rt := Q } (start N vs) H) :
    FnOkT P w K mg base CX (k + 1) f (PySem.W.fnOf name qual params body scope dV kV doc pm an cdv ct) ps sp := by
  refine ⟨len, fun A outer s H args us vs Q E hr e0 htk hb r hsp => ?_⟩
  have hl := len _ _ _ _ hsp
  have KX : K.In s.heap := e0.mod.kin.keeps fun b o e => (e0.bs b o e).1
  have lim : s.heap.NoLimit := e0.mod.nolimit.keeps fun b o e => (e0.bs b o e).1
  have hkind : ∀ y ∈ ps.zip us, scope.names.lookup y.1 = some .local ∨ (scope.names.lookup y.1 = some .cell ∧ ((cellsFrom (s.heap.objs.size + 1) scope.names []).lookup y.1).isSome = true) := fun ⟨n, v⟩ hy => by
    rcases S.par n (List.of_mem_zip hy).1 with q | q
    · exact .inl q
    · exact .inr ⟨q, PySem.W.cellsFrom_some _ _ _ (.inl q)⟩
  refine codeAny_call_function hr.depth (KX _ _ lk) rfl S.co S.gen rfl (PySem.W.codeRec_of KX hcd) (hb _ _ _ _ ?_)
  refine wpAny_tk (wpAny_newFunctionEnv_cells S.kind hkind fun env he s1 x h1 => ?_)
  subst he
  refine ⟨lim.keeps x.toInCall.keep, codeAny_func ?_⟩
  obtain ⟨t, ht, hq⟩ := hbody A outer s H vs Q E (hr.deeper _) hsp
  have I : Inv (cxOf CX P w K mg base N qual scope f cdv A outer s H E) [] (start N vs) H s1 := inv_start S hr.hd e0 hl r x
  refine wpAny_mono (ht [] s1 (start N vs) H _ I (Nat.lt_of_lt_of_le htk h1) hq) (fun fl s' hs => ?_) fun e s' hs => hs
  have fin : ∀ {σ' : St} {H' : Hp} {v : V} {u : Value}, Inv (cxOf CX P w K mg base N qual scope f cdv A outer s H E) [] σ' H' s' → RelV v u → Q v H' → CE outer P w H s Q u s' :=
    fun {σ' H' v u} J rv q => ⟨v, H', J.os, J.bare, J.base, J.hok, rv, q⟩
  cases fl with
  | ret u =>
    obtain ⟨v, σ', H', J, rv, q⟩ := hs
    exact fin J rv q
  | next =>
    obtain ⟨σ', H', J, q⟩ := hs
    exact fin (v := V.non) (u := Value.none) J rfl q
  | brk =>
    obtain ⟨_, _, _, q⟩ := hs
    exact False.elim q
  | cont =>
    obtain ⟨_, _, _, q⟩ := hs
    exact False.elim q
theorem PSsT.nox {X : Cx} {st : List Stmt} {t : TS} (h : PSsT X.nox st t) : PSsT X st t := fun pins s σ H D I h0 hw =>
  wpAny_mono (h pins s σ H D (I.wish _) h0 hw) (fun _ _ q => q.unwish) fun _ _ z => False.elim z
section
variable {P : Program} {w : World} {K : PySem.W.Frag} {mg : Str → Option Value} {base : Heap}
theorem Fun.okT {x qual : Str} {st : Stmt} {f : Addr} {fd : FuncData} {N ps : List Str} {k : Nat} {sp : Sp} (F : Fun K x qual st f fd) (S : FnScope N ps (defScope st)) (len : ∀ vs H Q E, sp vs H Q E → vs.length = ps.length)
    (hbody : ∀ (cdv : Value) (A : Around) (outer : List Env) (s : Shared) (H : Hp) (vs : List V) (Q : VK) (E : XK), Room k (A.deeper (envOfC qual (defScope st) s.heap.objs.size f cdv)) → sp vs H Q E →
      ∃ t, PSsT (cxOf CX0 P w K mg base N qual (defScope st) f cdv A outer s H E).nox (defBody st) t ∧ t { nx := fun _ H' => Q .non H', rt := Q } (start N vs) H) : FnOkT P w K mg base CX0 (k + 1) f fd ps sp := by
  obtain ⟨oc, od, kV, doc, pm, an, cdv, ct, osl, rfl, lk, hcd⟩ := F.ex
  exact fn_ofT lk hcd S len fun A outer s H vs Q E hr hsp => let ⟨t, h, q⟩ := hbody cdv A outer s H vs Q E hr hsp; ⟨t, h.nox, q⟩
end
section
variable {X : Cx} {CX : CXT} {k : Nat} {f C : Addr} {fd : FuncData} {ps : List Str} {ds : List Value} {dvs : List V} {sp : Sp} {E : XK} {x : Str} {p pos : Pos} {e o : Expr} {es : List Expr} {t : TA} {st : Stmt} {rest : List Stmt} {ts u : TS} {te ta tv : TE}
theorem pet_call (F : FnOkT X.prog X.w X.K X.mg X.base CX k f fd ps sp) (hr : Room k X.A) (hg : Gl X x) (hm : X.mg x = some (.ref f)) (hk : PySem.W.keepIn X.K (.ref f) = true) (hb : Binds X.K fd ps ds) (hd : Vals dvs ds) (hx : Passes CX X E)
    (ha : PA X (e :: es) t) (hdb : (x == ("__debug__" : Str)) = false := by decide) (he : starEach (e :: es) X.env = (false, eval e X.env) :: starEach es X.env := by rfl) (hpl : (backTo pos (starEach es X.env)).any (·.1) = false := by rfl) :
    PET X (.Call (.Name x p) (e :: es) [] pos) (tCall sp dvs E t) := by
  intro pins s σ H Q I htk h
  refine wpAny_Call_Name_kw (ld_glob I hg hm ?_ hdb)
  refine PySem.W.callWith_K (h₀ := X.base) I.ok.mod.kin hk (thn_tk (ha pos pins s σ H _ I h) fun us s1 h1 ⟨vs, H1, I1, r, q⟩ => ⟨I1.kIn, ?_⟩) he hpl
  have r2 : Vals (vs ++ dvs) (us ++ ds) := r.append hd
  have hl : (us ++ ds).length = ps.length := by rw [← r2.length]; exact F.len _ _ _ _ q
  refine wpAny_call (codeAny_mono (F.run X.A X.stack s1 H1 ⟨us, []⟩ (us ++ ds) (vs ++ dvs) Q E hr I1.env0 (Nat.lt_of_lt_of_le htk h1) (hb s1 us I1.kIn hl) r2 q) fun r s' hq => ?_)
  cases r with
  | error e => exact hx pins σ H1 s1 e s' I1 hq
  | ok fl =>
    cases fl with
    | ret u => exact I1.after hq
    | next => exact False.elim hq
    | brk => exact False.elim hq
    | cont => exact False.elim hq
theorem pst_fld {f : Str} {pos' : Pos} {value : Expr} (ha : PE X o ta) (hv : PET X value tv) (hs : swapsWith value (some (.Attribute o f pos')) pos.line X.env = pure false) : PST X (.Assign [.Attribute o f pos'] value pos) (sFld X.K ta tv f) := by
  intro pins s σ H D I htk h
  refine plainObj_wpAny_Assign_Attribute (thn (hv pins s σ H _ I htk h) fun u s1 ⟨y, H1, I1, ry, q⟩ => thn (ha pins s1 σ H1 _ I1 q) fun ov s2 ⟨x, H2, I2, rx, a, C, dx, fs, ex, ea, c, n, l, q2⟩ => ?_) hs
  subst ex
  obtain rfl : ov = Value.ref a := rx
  exact setattr_ok I2 ea c n l ry fun s3 I3 => ⟨σ, _, I3, q2⟩
/-- the first statement wants it, the rest not -/
theorem psst_cons (h1 : PST X st ts) (h2 : PSs X rest u) : PSsT X (st :: rest) (tSeq ts u) := by
  intro pins s σ H D I htk h
  refine wpAny_execs_cons (thn (h1 pins s σ H { D with nx := u D } I htk h) fun f s1 q => ?_)
  cases f with
  | next =>
    obtain ⟨σ', H', I', q⟩ := q
    exact h2 pins s1 σ' H' D I' q
  | ret v => exact q
  | brk => exact q
  | cont => exact q
/-- C(e, 0): the number has been made ahead of the call -/
theorem pe_makeT1 {i : Int} {j : Nat} {ip : Pos} (M : Mk X.K C f) (F : FnOkT X.prog X.w X.K X.mg X.base CX k f fd ps sp) (hr : Room (k + 1) X.A) (hg : Gl X x) (hm : X.mg x = some (.ref C)) (hb : Binds X.K fd ps []) (hx : Passes CX X E)
    (ha : PE X e te) (hdb : (x == ("__debug__" : Str)) = false := by decide) (he : starEach [e, .Constant (.int i) j ip] X.env = (false, eval e X.env) :: starEach [.Constant (.int i) j ip] X.env := by rfl) (hpl : (backTo pos (starEach [.Constant (.int i) j ip] X.env)).any (·.1) = false := by rfl) :
    PE X (.Call (.Name x p) [e, .Constant (.int i) j ip] [] pos) (tMake C sp [] E (tCons te (tCons (tC (.int i)) tNil))) := by
  intro pins s σ H Q I h
  refine wpAny_Call_Name_kw (ld_glob I hg hm ?_ hdb)
  have hA : wpAny (model X.prog X.w) X.A (spliced (backTo pos (starEach [e, .Constant (.int i) j ip] X.env))) (fun us s1 => AP X pins σ (fun xs H1 => ∀ x dx, H1 x = none → H1 dx = none → dx ≠ x → sp (.ref x :: (xs ++ [])) (upd (upd H1 dx (.own x)) x (.ins C dx [])) (fun v H2 => v = .non ∧ Q (.ref x) H2) E) us s1 ∧ 0 < s1.toks) X.xe s := by
    rw [he]
    show wpAny _ _ (spliced ((false, eval e X.env) :: backTo pos (starEach [.Constant (.int i) j ip] X.env))) _ _ s
    refine Calls.spliced_cons (thn (ha pins s σ H _ I h) fun u s1 ⟨y, H1, I1, r1, q1⟩ => ?_)
    show wpAny _ _ (spliced ((false, eval (.Constant (.int i) j ip) X.env) :: backTo pos (starEach [] X.env))) _ _ s1
    refine Calls.spliced_cons (wpAny_Constant_int (Calls.spliced_nil ⟨⟨[y, .int i], H1, I1.tok _, .cons r1 (.cons ⟨_, rfl⟩ .nil), q1⟩, Nat.succ_pos _⟩))
  refine PySem.W.callWith_K (h₀ := X.base) I.ok.mod.kin M.kp (thn hA fun us s1 ⟨⟨vs, H1, I1, r, h⟩, h1⟩ => ⟨I1.kIn, ?_⟩) he hpl
  have hq := h (s1.heap.objs.size + 1) s1.heap.objs.size (I1.hok.fresh (Nat.le_succ _)) (I1.hok.fresh (Nat.le_refl _)) (Nat.ne_of_lt (Nat.lt_succ_self _))
  rw [List.append_nil] at hq
  have I2 := Inv.made (C := C) I1
  have r2 : Vals (V.ref (s1.heap.objs.size + 1) :: vs) (Value.ref (s1.heap.objs.size + 1) :: us) := .cons rfl r
  have hl : (Value.ref (s1.heap.objs.size + 1) :: us).length = ps.length := by
    have e := r2.length
    rw [F.len _ _ _ _ hq] at e
    exact e.symm
  have hb' := hb _ (Value.ref (s1.heap.objs.size + 1) :: us) I2.kIn (by rw [List.append_nil]; exact hl)
  rw [List.append_nil] at hb'
  refine wpAny_call (make_map (f := f) I1.kIn M.makes M.init (beq_iff_eq.mp M.fn) (codeAny_mono (F.run _ X.stack _ _ ⟨Value.ref (s1.heap.objs.size + 1) :: us, []⟩ (Value.ref (s1.heap.objs.size + 1) :: us) _ _ E (hr.make C us [])
    (I2.env0.make C us []) h1 hb' r2 hq) fun r s' hq' => ?_))
  cases r with
  | error e => exact hx pins σ _ _ e s' I2 hq'
  | ok fl =>
    cases fl with
    | ret u =>
      obtain ⟨v, H', I3, rv, ev, q3⟩ := I2.after hq'
      subst ev
      exact ⟨rv, ⟨V.ref (s1.heap.objs.size + 1), H', I3, rfl, q3⟩⟩
    | next => exact False.elim hq'
    | brk => exact False.elim hq'
    | cont => exact False.elim hq'
end
end L2
set_option Elab.async false
set_option linter.all false
set_option maxRecDepth 100000
set_option maxHeartbeats 4000000
namespace L2
open PySem PySem.Spec PyProof.Rows
section
variable {prog : Program} {w : World} {A : Around} {R : Result → Shared → Prop} {I : Addr} {fp wr : List Addr} {n : Nat} {P : Nat → Value → Prop} {St : Nat → Heap → Prop} {dv : Value}
theorem maxd_name : (toString "max" ++ toString ".loop" : String) = "max.loop" := by decide
theorem maxd_loop (W : Walks prog w A.in1 I fp wr n P St) (bt : Nat → Nat → Bool) (hcmp : CmpOf prog w A.in1 .Gt P bt) (S : Addr) (hSf : S ∉ fp) : ∀ (k j : Nat) (s : Shared) (vb : Value) (c : Nat), n - (j + 1) = k → j + 1 ≤ n → St (j + 1) s.heap → P (argBest bt j) vb → s.heap.get? S = some { cls := .type "list", dict := none, data := .seq #[vb, vb] c, slots := #[] } →
    (∀ v h' tk, P (argBest bt (n - 1)) v → (∀ b o, b ∉ wr → b ≠ S → s.heap.get? b = some o → h'.get? b = some o) → R (.ok (.ret v)) { s with heap := h', toks := tk }) → codeAny (model prog w) A (.builtin "max.loop" ⟨[.ref I, .none, .ref S], [(Str.ofString "default", dv)]⟩) R s := by
  have hSw : S ∉ wr := fun h => hSf (W.sub _ h)
  intro k
  induction k with
  | zero =>
    intro j s vb c hk hj hst hPb hS hR
    have hin : j + 1 = n := by omega
    refine codeAny_builtin PySem.F.entry_max_loop ?_; rw [Around.under_plainId PySem.F.plain_max_loop _]; show wpAny _ A.in1 (seqItems? (.ref S) >>= _) _ _ s
    refine wpAny_bind (wpAny_seqItems hS rfl ?_); show wpAny _ A.in1 (tryCatch (pyNext (.ref I)) _ >>= _) _ _ s
    refine wpAny_bind (wpAny_tryCatch (W.done s _ _ (hin ▸ hst) fun h' tk hk' => ?_)); have hS' := hk' S _ hSw hS
    show wpAny _ A.in1 (updateSeq S (fun _ => #[]) >>= _) _ _ _; refine wpAny_bind ?_
    refine wpAny_updateSeq hS' rfl (wpAny_bind (wpAny_letGo (wpAny_pure ?_))); refine hR vb _ tk (by rw [← hin]; exact hPb) fun b o hbw hbS e => (Heap.get?_update_other _ _ (Ne.symm hbS)).trans (hk' b o hbw e)
  | succ k ih =>
    intro j s vb c hk hj hst hPb hS hR
    have hlt : j + 1 < n := by omega
    refine codeAny_builtin PySem.F.entry_max_loop ?_; rw [Around.under_plainId PySem.F.plain_max_loop _]; show wpAny _ A.in1 (seqItems? (.ref S) >>= _) _ _ s
    refine wpAny_bind (wpAny_seqItems hS rfl ?_); show wpAny _ A.in1 (tryCatch (pyNext (.ref I)) _ >>= _) _ _ s
    refine wpAny_bind (wpAny_tryCatch (W.item (j + 1) s _ _ hlt hst fun v h' tk hP hst' hk' => ?_)); have hS' := hk' S _ hSw hS
    show wpAny _ A.in1 (tryCatch (holding [v, v] (richCompare .Gt v vb >>= _)) _ >>= _) _ _ _; refine wpAny_bind (wpAny_tryCatch (wpAny_holding (wpAny_bind (hcmp (j + 1) (argBest bt j) v vb _ _ _ hP hPb ?_))))
    refine wpAny_bind (wpAny_holding (wpAny_truthy_bool ?_)); refine wpAny_bind (wpAny_letGo (wpAny_pure ?_))
    cases hb : bt (j + 1) (argBest bt j) with
    | true =>
      simp only [if_true]; refine wpAny_bind ?_
      refine wpAny_updateSeq hS' rfl (wpAny_bind (wpAny_letGo ?_)); rw [maxd_name]
      refine wpAny_pure ⟨plainId_quiet PySem.F.plain_max_loop _, ih (j + 1) _ v _ (by omega) hlt (W.frame _ _ _ hst' fun b hbf o e => (Heap.get?_update_other _ _ (fun h : S = b => hSf (by rw [h]; exact hbf))).trans e) (by simp only [argBest, hb, if_true]; exact hP) (Heap.get?_update_self _ hS' rfl) fun v' h'' tk'' hP' hk'' => ?_⟩
      exact hR v' h'' tk'' hP' fun b o hbw hbS e => hk'' b o hbw hbS ((Heap.get?_update_other _ _ (Ne.symm hbS)).trans (hk' b o hbw e))
    | false =>
      simp only [Bool.false_eq_true, if_false]; refine wpAny_bind (wpAny_letGo ?_); rw [maxd_name]
      refine wpAny_pure ⟨plainId_quiet PySem.F.plain_max_loop _, ih (j + 1) _ vb c (by omega) hlt hst' (by simp only [argBest, hb, Bool.false_eq_true, if_false]; exact hPb) hS' fun v' h'' tk'' hP' hk'' => hR v' h'' tk'' hP' fun b o hbw hbS e => hk'' b o hbw hbS (hk' b o hbw e)⟩
theorem maxd_first (W : Walks prog w A.in1 I fp wr n P St) (bt : Nat → Nat → Bool) (hcmp : CmpOf prog w A.in1 .Gt P bt) (S : Addr) (hSf : S ∉ fp) {s : Shared} {c : Nat} (hst : St 0 s.heap) (hS : s.heap.get? S = some { cls := .type "list", dict := none, data := .seq #[] c, slots := #[] })
    (hR : ∀ v h' tk, (0 < n ∧ P (argBest bt (n - 1)) v ∨ n = 0 ∧ v = dv) → (∀ b o, b ∉ wr → b ≠ S → s.heap.get? b = some o → h'.get? b = some o) → R (.ok (.ret v)) { s with heap := h', toks := tk }) : codeAny (model prog w) A (.builtin "max.loop" ⟨[.ref I, .none, .ref S], [(Str.ofString "default", dv)]⟩) R s := by
  have hSw : S ∉ wr := fun h => hSf (W.sub _ h)
  refine codeAny_builtin PySem.F.entry_max_loop ?_; rw [Around.under_plainId PySem.F.plain_max_loop _]; show wpAny _ A.in1 (seqItems? (.ref S) >>= _) _ _ s
  refine wpAny_bind (wpAny_seqItems hS rfl ?_); show wpAny _ A.in1 (tryCatch (pyNext (.ref I)) _ >>= _) _ _ s
  by_cases hn : 0 < n
  · refine wpAny_bind (wpAny_tryCatch (W.item 0 s _ _ hn hst fun v h' tk hP hst' hk' => ?_)); have hS' := hk' S _ hSw hS
    show wpAny _ A.in1 (updateSeq S (fun _ => #[v, v]) >>= _) _ _ _; refine wpAny_bind ?_
    refine wpAny_updateSeq hS' rfl ?_; rw [maxd_name]
    refine wpAny_pure ⟨plainId_quiet PySem.F.plain_max_loop _, maxd_loop W bt hcmp S hSf _ 0 _ v _ rfl hn (W.frame _ _ _ hst' fun b hbf o e => (Heap.get?_update_other _ _ (fun h : S = b => hSf (by rw [h]; exact hbf))).trans e) hP (Heap.get?_update_self _ hS' rfl) fun v' h'' tk'' hP' hk'' => ?_⟩
    exact hR v' h'' tk'' (.inl ⟨hn, hP'⟩) fun b o hbw hbS e => hk'' b o hbw hbS ((Heap.get?_update_other _ _ (Ne.symm hbS)).trans (hk' b o hbw e))
  · have h0 : n = 0 := by omega
    refine wpAny_bind (wpAny_tryCatch (W.done s _ _ (h0 ▸ hst) fun h' tk hk' => ?_))
    refine wpAny_bind (wpAny_rule (wpAny_pure ?_))
    exact hR dv h' tk (.inr ⟨h0, rfl⟩) fun b o hbw _ e => hk' b o hbw e
end
def mxd (d : Int) : List Int → Int
  | [] => d
  | n :: ns => ns.foldl max n
theorem mxd_top {d : Int} {ns : List Int} (hne : 0 < ns.length) {M : Int} (hm : M ∈ ns) (ht : ∀ a ∈ ns, a ≤ M) : M = mxd d ns := by
  cases ns with
  | nil => cases hm
  | cons n ns =>
    have key : ∀ (l : List Int) (z : Int), z ≤ l.foldl max z ∧ (∀ a ∈ l, a ≤ l.foldl max z) ∧ (l.foldl max z = z ∨ l.foldl max z ∈ l) := by
      intro l
      induction l with
      | nil => intro z; exact ⟨Int.le_refl _, (fun a h => nomatch h), .inl rfl⟩
      | cons y l ih =>
        intro z
        obtain ⟨h1, h2, h3⟩ := ih (max z y)
        refine ⟨by show z ≤ l.foldl max (max z y); omega, fun a ha => ?_, ?_⟩
        · rcases List.mem_cons.mp ha with rfl | ha
          · show a ≤ l.foldl max (max z a); omega
          · exact h2 a ha
        · show l.foldl max (max z y) = z ∨ l.foldl max (max z y) ∈ y :: l
          rcases h3 with h3 | h3
          · rw [h3]
            by_cases hz : y ≤ z
            · left; omega
            · right; rw [show max z y = y by omega]; exact List.mem_cons_self
          · exact .inr (List.mem_cons_of_mem _ h3)
    obtain ⟨h1, h2, h3⟩ := key ns n
    show M = ns.foldl max n
    have u1 : M ≤ ns.foldl max n := by
      rcases List.mem_cons.mp hm with rfl | hm
      · exact h1
      · exact h2 M hm
    have u2 : ns.foldl max n ≤ M := by
      rcases h3 with h3 | h3
      · rw [h3]; exact ht n List.mem_cons_self
      · exact ht _ (List.mem_cons_of_mem _ h3)
    omega
theorem ints_items : ∀ {us : List Value} {ns : List Int}, Vals (ns.map V.int) us → ∃ xs : Array (Int × Tok), us.toArray = intItems xs ∧ ns = xs.toList.map (·.1)
  | _, [], .nil => ⟨#[], by simp [intItems], rfl⟩
  | _, n :: ns, .cons r rs => by
    obtain ⟨t, rfl⟩ := r
    obtain ⟨xs, e1, e2⟩ := ints_items rs
    refine ⟨#[(n, t)] ++ xs, ?_, ?_⟩
    · have := congrArg Array.toList e1
      simp only [intItems, Array.toList_map] at this
      apply Array.ext'
      simp [intItems, this]
    · simp [e2]
theorem args_max_default (a v : Value) : argsOk "max" ⟨[a], [(Str.ofString "default", v)]⟩ := by unfold argsOk; kernel_rfl
inductive tMaxd_I (K : PySem.W.Frag) (d : Int) (Q : VK) (x : V) (H1 : Hp) : Prop
  | mk : ∀ l (ns : List Int), x = .ref l → SqL K H1 l (ns.map V.int) → Q (.int (mxd d ns)) H1 → tMaxd_I K d Q x H1
def tMaxd (K : PySem.W.Frag) (te : TE) (d : Int) : TE := fun σ H Q => te σ H fun x H1 => tMaxd_I K d Q x H1
theorem pe_maxd {X : Cx} {e : Expr} {te : TE} {d : Int} {j : Nat} {p pos cp kp : Pos} (hc : X.calm = true) (hg : Gl X "max") (hm : X.mg "max" = none) (ha : PE X e te)
    (he : starEach [e] X.env = [(false, eval e X.env)] := by rfl) :
    PE X (.Call (.Name "max" p) [e] [⟨some "default", .Constant (.int d) j cp, kp⟩] pos) (tMaxd X.K te d) := by
  intro pins s σ H Q I h
  refine wpAny_Call_Name_kw (ld_blt I hg hm PyProof.Rows.boot_max ?_ (by decide) (by decide))
  refine PyProof.Rows.callWith_kw ?_ (by rw [he]; rfl) (by rw [he]; rfl) (by rfl) (by rfl)
  rw [he]
  show wpAny _ _ (spliced ((false, eval e X.env) :: backTo pos [])) _ _ s
  refine Calls.spliced_cons (thn (ha pins s σ H _ I h) fun u s1 ⟨x, H1, I1, r1, q1⟩ => Calls.spliced_nil ?_)
  obtain ⟨l, ns, rfl, hl, q⟩ := q1
  cases r1
  refine PyProof.Rows.kws_cons (wpAny_Constant_int (PyProof.Rows.kws_nil ?_))
  show wpAny _ _ (call (.builtin "max") [.ref l] [(Str.ofString "default", .int d s1.toks)]) _ _ { s1 with toks := s1.toks + 1 }
  obtain ⟨its, rv, pl, _⟩ := I1.list hl
  obtain ⟨xs, e1, e2⟩ := ints_items rv
  have hls : s1.heap.IsList l (intItems xs) := by rw [← e1]; exact pl.isList
  have hhd : X.A.handled = none := I.ok.hd hc
  refine kmk_tree PySem.F.kind_max PySem.F.plain_max PySem.F.entry_max (args_max_default _ _) ?_
  show wpAny _ X.A.in1 (Builtin.Builtins.bindParams "max" ["key", "default"] 0 ⟨[], [(Str.ofString "default", .int d s1.toks)]⟩ >>= _) _ _ _
  refine wpAny_bind (wpAny_of_eq (show Builtin.Builtins.bindParams "max" ["key", "default"] 0 ⟨[], [(Str.ofString "default", .int d s1.toks)]⟩ = pure [none, some (.int d s1.toks)] from rfl) ?_)
  refine wpAny_bind (wpAny_pure ?_)
  refine wpAny_bind (iter_intList (s := { s1 with toks := s1.toks + 1 }) hls fun s2 es2 st hfp hlI => ?_)
  subst es2
  refine wpAny_bind (wpAny_newObj_type ?_)
  have W := Walks.list (prog := X.prog) (w := X.w) (A := X.A.in1) hhd s1.heap.objs.size l hlI (intItems xs)
  have hSf : (s1.heap.push { cls := .type "list_iterator", data := .fields #[.ref l, .int 0 0] }).objs.size ∉ [s1.heap.objs.size, l] := fun hm => Nat.lt_irrefl _ (hfp _ hm)
  refine wpAny_pure ⟨plainId_quiet PySem.F.plain_max_loop _, ?_⟩
  refine maxd_first W (fun i j => decide (numAt xs i > numAt xs j)) (CmpOf.ints_gt (numAt xs) (fun _ _ => intItems_at)) _ hSf (W.frame _ _ _ st fun b _ o e => Heap.get?_push_of_some _ e) (Heap.get?_push_size _ rfl) fun v h' tk hP hk => ?_
  have I2 : Inv X pins σ H1 { s1 with heap := h', toks := tk } := I1.kept (t' := tk) fun b o e => by
    have lb := Heap.lt_size e
    refine hk b o (fun hm => ?_) (Nat.ne_of_lt (Nat.lt_of_lt_of_le lb (by rw [Heap.size_push]; exact Nat.le_succ _))) (Heap.get?_push_of_some _ (Heap.get?_push_of_some _ e))
    rcases List.mem_cons.mp hm with e1 | hm
    · exact absurd (e1 ▸ lb) (Nat.lt_irrefl _)
    · cases hm
  have hsz : (intItems xs).size = ns.length := by rw [e2]; simp [intItems]
  rcases hP with ⟨hn, hv⟩ | ⟨hn, rfl⟩
  · obtain ⟨t, rfl⟩ := intItems_at hv
    obtain ⟨h1, h2⟩ := argBest_gt (numAt xs) ((intItems xs).size - 1)
    have hxs : xs.size = ns.length := by rw [e2]; simp
    have eM : numAt xs (argBest (fun i j => decide (numAt xs i > numAt xs j)) ((intItems xs).size - 1)) = mxd d ns := by
      refine mxd_top (by omega) ?_ fun a ha => ?_
      · rw [e2, numAt_eq]; exact getD_mem (by rw [List.length_map, Array.length_toList]; omega)
      · rw [e2] at ha
        obtain ⟨i, hi, rfl⟩ := mem_getD ha
        rw [List.length_map, Array.length_toList] at hi
        rw [← numAt_eq]; exact h2 i (by omega)
    exact ⟨.int (mxd d ns), H1, I2, ⟨t, by rw [eM]⟩, q⟩
  · have en : ns = [] := List.length_eq_zero_iff.mp (by omega)
    subst en
    exact ⟨.int d, H1, I2, ⟨_, rfl⟩, q⟩
end L2
set_option Elab.async false
set_option linter.all false
set_option maxRecDepth 100000
set_option maxHeartbeats 4000000
namespace L2
open PySem PySem.Spec PyProof.Rows
theorem bl_signs : (" " : Str).cps.toList = [32] := by decide +kernel
theorem bl_eq : (" " : Str) = ⟨#[32]⟩ := by decide +kernel
theorem bjoin_cons2 (a b : Str) (r : List Str) : (Str.join " " (a :: b :: r)).cps.toList = a.cps.toList ++ 32 :: (Str.join " " (b :: r)).cps.toList := by
  show ((a ++ " ") ++ Str.join " " (b :: r)).cps.toList = _
  rw [cat_list, cat_list, bl_signs, List.append_assoc]; rfl
theorem bjoin_inj : ∀ {ps qs : List Str}, ps ≠ [] → qs ≠ [] → (∀ p ∈ ps, ¬ 32 ∈ p.cps.toList) → (∀ p ∈ qs, ¬ 32 ∈ p.cps.toList) → Str.join " " ps = Str.join " " qs → ps = qs
  | [], _, h, _, _, _, _ => absurd rfl h
  | _, [], _, h, _, _, _ => absurd rfl h
  | [p], [q], _, _, _, _, h => by have h : p = q := h; rw [h]
  | [p], q :: q' :: r, _, _, hp, _, h => by
    have h : p = Str.join " " (q :: q' :: r) := h
    have := hp p List.mem_cons_self
    rw [h, bjoin_cons2] at this
    exact absurd (List.mem_append_right _ List.mem_cons_self) this
  | p :: p' :: r, [q], _, _, _, hq, h => by
    have h : Str.join " " (p :: p' :: r) = q := h
    have := hq q List.mem_cons_self
    rw [← h, bjoin_cons2] at this
    exact absurd (List.mem_append_right _ List.mem_cons_self) this
  | p :: p' :: r, q :: q' :: r', _, _, hp, hq, h => by
    have e : (Str.join " " (p :: p' :: r)).cps.toList = (Str.join " " (q :: q' :: r')).cps.toList := by rw [h]
    rw [bjoin_cons2, bjoin_cons2] at e
    obtain ⟨e1, e2⟩ := cut_at (hp p List.mem_cons_self) (hq q List.mem_cons_self) e
    have ih := bjoin_inj (ps := p' :: r) (qs := q' :: r') (by simp) (by simp) (fun z hz => hp z (List.mem_cons_of_mem _ hz)) (fun z hz => hq z (List.mem_cons_of_mem _ hz)) (str_ext e2)
    rw [str_ext e1, ih]
theorem bsplit_ne (x : Str) : Txt.split x " " ≠ [] := fun z => by
  have := split_pos x " "
  rw [z] at this
  exact absurd this (by decide)
theorem bsplit_free (x : Str) : ∀ p ∈ Txt.split x " ", ¬ 32 ∈ p.cps.toList := fun p hp => by
  rw [bl_eq] at hp
  exact StrLaws.split_free _ 32 p hp
theorem bsplit_eq {x : Str} {ps : List Str} (h0 : ps ≠ []) (h : ∀ p ∈ ps, ¬ 32 ∈ p.cps.toList) (e : Str.join " " ps = x) : Txt.split x " " = ps := by
  refine bjoin_inj (bsplit_ne x) h0 (bsplit_free x) h ?_
  rw [e]
  exact StrLaws.join_split _ _
theorem bjoin_app : ∀ {ps qs : List Str}, ps ≠ [] → qs ≠ [] → Str.join " " (ps ++ qs) = (Str.join " " ps ++ " ") ++ Str.join " " qs
  | [], _, h, _ => absurd rfl h
  | [p], q :: qs, _, _ => rfl
  | [p], [], _, h => absurd rfl h
  | p :: p' :: r, qs, _, hq => by
    have ih := bjoin_app (ps := p' :: r) (qs := qs) (by simp) hq
    apply str_ext
    show (Str.join " " (p :: p' :: (r ++ qs))).cps.toList = _
    rw [bjoin_cons2, cat_list, cat_list, bjoin_cons2, show p' :: (r ++ qs) = (p' :: r) ++ qs from rfl, ih, cat_list, cat_list]
    simp
/-- the parts between blanks that have signs -/
def wsp (x : Str) : List Str := (Txt.split x " ").filter fun p => !decide (p = ("" : Str))
theorem wsp_app (x y : Str) : wsp ((x ++ " ") ++ y) = wsp x ++ wsp y := by
  unfold wsp
  rw [← List.filter_append]
  congr 1
  refine bsplit_eq (by simp [bsplit_ne x]) (fun p hp => ?_) ?_
  · rcases List.mem_append.mp hp with hp | hp
    · exact bsplit_free x p hp
    · exact bsplit_free y p hp
  · rw [bjoin_app (bsplit_ne x) (bsplit_ne y), show Str.join " " (Txt.split x " ") = x from StrLaws.join_split _ _, show Str.join " " (Txt.split y " ") = y from StrLaws.join_split _ _]
theorem wsp_nil : wsp "" = [] := by
  unfold wsp
  rw [bsplit_eq (x := "") (ps := [""]) (by simp) (fun p hp => by rw [List.mem_singleton.mp hp]; decide +kernel) rfl]
  decide +kernel
theorem wsp_one {x : Str} (h : ¬ 32 ∈ x.cps.toList) (hn : x ≠ "") : wsp x = [x] := by
  unfold wsp
  rw [bsplit_eq (x := x) (ps := [x]) (by simp) (fun p hp => by rw [List.mem_singleton.mp hp]; exact h) rfl]
  simp [hn]
def expd (c : Nat) (z l : List Nat) : List Nat := l.flatMap fun d => if d = c then z else [d]
theorem expd_free {c : Nat} {z : List Nat} : ∀ {l : List Nat}, ¬ c ∈ l → expd c z l = l
  | [], _ => rfl
  | k :: r, h => by
    have h1 : ¬ k = c := fun e => h (e ▸ List.mem_cons_self ..)
    unfold expd
    rw [List.flatMap_cons, if_neg h1]
    show [k] ++ expd c z r = k :: r
    rw [expd_free fun m => h (List.mem_cons_of_mem _ m)]; rfl
theorem expd_app {c : Nat} {z a b : List Nat} : expd c z (a ++ b) = expd c z a ++ expd c z b := by unfold expd; rw [List.flatMap_append]
theorem expd_join (c : Nat) (z : Str) : ∀ parts : List Str, (∀ p ∈ parts, c ∉ p.cps.toList) → expd c z.cps.toList (Str.join ⟨#[c]⟩ parts).cps.toList = (Str.join z parts).cps.toList
  | [], _ => rfl
  | [p], h => expd_free (h p (List.mem_singleton.mpr rfl))
  | p :: q :: r, h => by
    have ih := expd_join c z (q :: r) fun a ha => h a (List.mem_cons_of_mem _ ha)
    show expd c z.cps.toList ((p ++ ⟨#[c]⟩) ++ Str.join ⟨#[c]⟩ (q :: r)).cps.toList = ((p ++ z) ++ Str.join z (q :: r)).cps.toList
    rw [cat_list, cat_list, expd_app, expd_app, ih, expd_free (h p (List.mem_cons_self ..)), cat_list, cat_list]
    congr 2
    show expd c z.cps.toList [c] = _
    simp [expd]
theorem replace_expd (x z : Str) (c : Nat) : (Txt.replace x ⟨#[c]⟩ z).cps.toList = expd c z.cps.toList x.cps.toList := by
  rw [StrLaws.replace_one, ← expd_join c z _ (StrLaws.split_free x c), StrLaws.join_split]
def e1 (d : Nat) : List Nat := if d = 40 ∨ d = 41 ∨ d = 44 then [32, d, 32] else [d]
theorem expd3 (l : List Nat) : expd 44 [32, 44, 32] (expd 41 [32, 41, 32] (expd 40 [32, 40, 32] l)) = l.flatMap e1 := by
  induction l with
  | nil => rfl
  | cons d r ih =>
    rw [List.flatMap_cons, ← ih]
    show expd 44 _ (expd 41 _ ((if d = 40 then [32, 40, 32] else [d]) ++ expd 40 _ r)) = _
    rw [expd_app, expd_app]
    congr 1
    unfold e1
    by_cases h0 : d = 40
    · subst h0; decide
    · rw [if_neg h0]
      by_cases h1 : d = 41
      · subst h1; decide
      · by_cases h2 : d = 44
        · subst h2; decide
        · rw [if_neg (by omega)]
          simp [expd, h1, h2]
theorem rep3_list (x : Str) : (rep3 x "(" ")" ",").cps.toList = x.cps.toList.flatMap e1 := by
  have p1 : ("(" : Str) = ⟨#[40]⟩ := by decide +kernel
  have p2 : (")" : Str) = ⟨#[41]⟩ := by decide +kernel
  have p3 : ("," : Str) = ⟨#[44]⟩ := by decide +kernel
  have q1 : (padS ⟨#[40]⟩).cps.toList = [32, 40, 32] := by decide +kernel
  have q2 : (padS ⟨#[41]⟩).cps.toList = [32, 41, 32] := by decide +kernel
  have q3 : (padS ⟨#[44]⟩).cps.toList = [32, 44, 32] := by decide +kernel
  unfold rep3
  rw [p1, p2, p3, replace_expd, replace_expd, replace_expd, q1, q2, q3, expd3]
theorem expd_len {c : Nat} {z : List Nat} (hz : z.length = 3) : ∀ l : List Nat, (expd c z l).length ≤ 3 * l.length
  | [] => Nat.le_refl _
  | k :: r => by
    have ih := expd_len (c := c) hz r
    show ((if k = c then z else [k]) ++ expd c z r).length ≤ _
    rw [List.length_append, List.length_cons]
    split <;> simp [hz] <;> omega
theorem rep3_len (x : Str) : (rep3 x "(" ")" ",").length ≤ 3 * x.length := by
  have key : ∀ l : List Nat, (l.flatMap e1).length ≤ 3 * l.length := by
    intro l
    induction l with
    | nil => exact Nat.le_refl _
    | cons d r ih =>
      rw [List.flatMap_cons, List.length_append, List.length_cons]
      have : (e1 d).length ≤ 3 := by unfold e1; split <;> simp
      omega
  have h := key x.cps.toList
  rw [← rep3_list] at h
  have q1 : (rep3 x "(" ")" ",").cps.toList.length = (rep3 x "(" ")" ",").length := Array.length_toList
  have q2 : x.cps.toList.length = x.length := Array.length_toList
  rw [q1, q2] at h
  exact h
/-- the pieces of a text -/
def pcs (x : Str) : List Str := wsp (rep3 x "(" ")" ",")
theorem rep3_app (x y : Str) : rep3 (x ++ y) "(" ")" "," = rep3 x "(" ")" "," ++ rep3 y "(" ")" "," := str_ext (by rw [rep3_list, cat_list, cat_list, List.flatMap_append, rep3_list, rep3_list])
theorem rep3_free {x : Str} (h : ∀ c ∈ x.cps.toList, c ≠ 40 ∧ c ≠ 41 ∧ c ≠ 44) : rep3 x "(" ")" "," = x := str_ext (by
  rw [rep3_list]
  generalize x.cps.toList = l at h
  induction l with
  | nil => rfl
  | cons c r ih =>
    have hc := h c List.mem_cons_self
    rw [List.flatMap_cons, ih fun d hd => h d (List.mem_cons_of_mem _ hd)]
    unfold e1
    rw [if_neg (by omega)]; rfl)
theorem rep3_bl : rep3 " " "(" ")" "," = " " := rep3_free (by decide +kernel)
theorem pcs_app (x y : Str) : pcs ((x ++ " ") ++ y) = pcs x ++ pcs y := by
  unfold pcs
  rw [rep3_app, rep3_app, rep3_bl, wsp_app]
theorem rep3_open : rep3 "(" "(" ")" "," = ((("" : Str) ++ " ") ++ "(") ++ " " := str_ext (by rw [rep3_list]; decide +kernel)
theorem rep3_close : rep3 ")" "(" ")" "," = ((("" : Str) ++ " ") ++ ")") ++ " " := str_ext (by rw [rep3_list]; decide +kernel)
theorem str_assoc3 (x y z : Str) : (x ++ y) ++ z = x ++ (y ++ z) := str_ext (by rw [cat_list, cat_list, cat_list, cat_list, List.append_assoc])
theorem str_nil1 (x : Str) : ("" : Str) ++ x = x := str_ext (by rw [cat_list]; rfl)
theorem str_nil2 (x : Str) : x ++ ("" : Str) = x := str_ext (by rw [cat_list]; exact List.append_nil _)
theorem pcs_open (x : Str) : pcs (("(" : Str) ++ x) = ("(" : Str) :: pcs x := by
  unfold pcs
  rw [rep3_app, rep3_open, str_assoc3 (("" : Str) ++ " ") "(" " ", str_assoc3 (("" : Str) ++ " "), wsp_app, wsp_nil, wsp_app, wsp_one (by decide +kernel) (by decide +kernel)]
  rfl
theorem pcs_close (x : Str) : pcs (x ++ (")" : Str)) = pcs x ++ [(")" : Str)] := by
  unfold pcs
  rw [rep3_app, rep3_close, str_nil1, ← str_assoc3, ← str_assoc3]
  have e : ((rep3 x "(" ")" "," ++ " ") ++ ")") ++ " " = (((rep3 x "(" ")" "," ++ " ") ++ ")") ++ " ") ++ "" := (str_nil2 _).symm
  rw [e, wsp_app, wsp_app, wsp_nil, wsp_one (x := ")") (by decide +kernel) (by decide +kernel), List.append_nil]
theorem pcs_one {x : Str} (h : ∀ c ∈ x.cps.toList, c ≠ 32 ∧ c ≠ 40 ∧ c ≠ 41 ∧ c ≠ 44) (hn : x ≠ "") : pcs x = [x] := by
  unfold pcs
  rw [rep3_free fun c hc => (h c hc).2]
  exact wsp_one (fun z => (h 32 z).1 rfl) hn
end L2
set_option Elab.async false
set_option linter.all false
set_option maxRecDepth 100000
set_option maxHeartbeats 4000000
namespace L2
open PySem PySem.Spec PyProof.Rows
/-- [f(x) for x in t if p(x)] of a tuple; new things may be laid -/
theorem comp_tupFG {K : PySem.W.Frag} {a : Addr} {α : Type} {xs : List α} {fr : List (Nat × Str)} {tt : TT} {te : TE} {σ : St} {H1 : Hp} {Q : VK} (g : α → V) (pr : α → Bool) (f : α → V) (hz : xs.length ≤ sizeLine) (hS : SqT K H1 a (xs.map g))
    (htt : ∀ (x : α) (H3 : Hp) (Q' : Bool → Hp → Prop), x ∈ xs → Same H1 H3 → (∀ H4, Same H3 H4 → Q' (pr x) H4) → tt (some (g x) :: frV σ fr) H3 Q')
    (hte : ∀ (x : α) (H3 : Hp) (Q' : VK), x ∈ xs → Same H1 H3 → pr x = true → (∀ H4, Same H3 H4 → Q' (f x) H4) → te (some (g x) :: frV σ fr) H3 Q')
    (hQ : ∀ D H2, H1 D = none → Same H1 H2 → H2 D = some (.lst ((xs.filter pr).map f)) → Q (.ref D) H2) :
    compGoal (Itt K a) fr tt te σ H1 Q := by
  intro D hD
  refine ⟨fun i m ys H2 => m = xs.length - i ∧ i ≤ xs.length ∧ ys = ((xs.take i).filter pr).map f ∧ Same H1 H2 ∧ H2 D = some (.lst ys), ⟨xs.length, by simp, Nat.zero_le _, by simp, Same.upd_new hD, upd_same⟩, ?_⟩
  rintro i m ys H2 ⟨rfl, hi, rfl, s2, d2⟩
  refine ⟨d2, ?_⟩
  have hS2 := s2.tup hS
  by_cases hlt : i < xs.length
  · have hx0 : (xs.map g)[i]? = some (g xs[i]) := by rw [List.getElem?_map, List.getElem?_eq_getElem hlt]; rfl
    refine .inr ⟨⟨xs.map g, g xs[i], hS2, hx0⟩, ?_⟩
    rintro v H3 ⟨rfl, hv⟩
    have hx : (xs.map g)[i]? = some v := hv _ hS2
    rw [hx0] at hx
    cases hx
    have hm : xs[i] ∈ xs := List.getElem_mem hlt
    have et : xs.take (i + 1) = xs.take i ++ [xs[i]] := by rw [List.take_add_one, List.getElem?_eq_getElem hlt]; rfl
    refine htt xs[i] _ _ hm s2 fun H4 s4 => ?_
    cases hp : pr xs[i] with
    | false =>
      refine iteF ⟨xs.length - (i + 1), by omega, rfl, hlt, ?_, s2.trans s4, s4 _ _ d2⟩
      rw [et, List.filter_append, List.filter_cons, hp]
      simp
    | true =>
      refine iteT (hte xs[i] _ _ hm (s2.trans s4) hp fun H5 s5 => ⟨s5 _ _ (s4 _ _ d2), ?_, xs.length - (i + 1), by omega, rfl, hlt, ?_, ((s2.trans s4).trans s5).upd_of hD, upd_same⟩)
      · have := List.length_filter_le pr (xs.take i)
        rw [List.length_take] at this
        rw [List.length_map]
        omega
      · rw [et, List.filter_append, List.filter_cons, hp]
        simp
  · have e : i = xs.length := by omega
    subst e
    have e2 : xs.take xs.length = xs := List.take_of_length_le (Nat.le_refl _)
    rw [e2] at d2
    exact .inl ⟨⟨xs.map g, hS2, by rw [List.length_map]; exact Nat.le_refl _⟩, hQ D H2 hD s2 d2⟩
theorem call_isinstK {X : Cx} (K : PySem.W.Frag) (hK : X.K = K := by rfl) : CallR X (.builtin "isinstance") (fun xs H Q => ∃ x c cv t b, xs = [x, c] ∧ clsV c = some cv ∧ TyOf K H x t ∧ PySem.W.kitOne K t cv = some b ∧ Q (.bl b) H) := hK ▸ call_isinst
end L2
set_option maxHeartbeats 4000000
namespace K13
open PySem L2
def top (i : Nat) : Stmt := PySem.Challenge.pw_mailroom_k13_conditions_written.main.body.getD i (.Pass ⟨0, 0, 0, 0⟩)
abbrev swall : Stmt := top 0
abbrev scondition_of : Stmt := top 20
abbrev sall_among : Stmt := top 25
abbrev sis_word : Stmt := top 26
abbrev spieces_of : Stmt := top 37
abbrev sdeep : Stmt := top 38
abbrev sread_condition : Stmt := top 40
abbrev sl_cell_at : Stmt := top 42
abbrev sl_mixed : Stmt := top 43
abbrev sl_word_by : Stmt := top 44
abbrev sl_leaf_by : Stmt := top 48
abbrev sl_threads : Stmt := top 49
abbrev sl_tree_by : Stmt := top 50
abbrev sl_written : Stmt := top 51
abbrev sl_open : Stmt := top 52
abbrev slaw : Stmt := top 53
abbrev sCondition_init : Stmt := inClass (top 5) 0
abbrev sCondition_holds : Stmt := inClass (top 5) 1
abbrev sCondition_truths : Stmt := inClass (top 5) 2
abbrev sCondition_tree : Stmt := inClass (top 5) 3
abbrev sCondition_written : Stmt := inClass (top 5) 4
abbrev sHasWord_holds : Stmt := inClass (top 7) 0
abbrev sHasTitleWord_holds : Stmt := inClass (top 8) 0
abbrev sIsFrom_holds : Stmt := inClass (top 9) 0
abbrev sIsOfDays_holds : Stmt := inClass (top 10) 0
abbrev sIsOfDays_written : Stmt := inClass (top 10) 1
abbrev sIsIn_holds : Stmt := inClass (top 11) 0
abbrev sIsMarked_holds : Stmt := inClass (top 12) 0
abbrev sDoesAnswer_holds : Stmt := inClass (top 13) 0
abbrev sWrapped_init : Stmt := inClass (top 14) 0
abbrev sWrapped_written : Stmt := inClass (top 14) 1
abbrev sNot_holds : Stmt := inClass (top 15) 0
abbrev sNot_truths : Stmt := inClass (top 15) 1
abbrev sInThread_holds : Stmt := inClass (top 16) 0
abbrev sInThread_truths : Stmt := inClass (top 16) 1
abbrev sJoined_init : Stmt := inClass (top 17) 0
abbrev sJoined_written_with : Stmt := inClass (top 17) 1
abbrev sBoth_holds : Stmt := inClass (top 18) 0
abbrev sBoth_truths : Stmt := inClass (top 18) 1
abbrev sBoth_written : Stmt := inClass (top 18) 2
abbrev sEither_holds : Stmt := inClass (top 19) 0
abbrev sEither_truths : Stmt := inClass (top 19) 1
abbrev sEither_written : Stmt := inClass (top 19) 2
abbrev sReader_init : Stmt := inClass (top 39) 0
abbrev sReader_ahead : Stmt := inClass (top 39) 1
abbrev sReader_step : Stmt := inClass (top 39) 2
abbrev sReader_passes : Stmt := inClass (top 39) 3
abbrev sReader_expect : Stmt := inClass (top 39) 4
abbrev sReader_read_word : Stmt := inClass (top 39) 5
abbrev sReader_read_number : Stmt := inClass (top 39) 6
abbrev sReader_read_leaf : Stmt := inClass (top 39) 7
abbrev sReader_checked : Stmt := inClass (top 39) 8
abbrev sReader_read_single : Stmt := inClass (top 39) 9
abbrev sReader_read_both : Stmt := inClass (top 39) 10
abbrev sReader_read_either : Stmt := inClass (top 39) 11
abbrev sReader_read_whole : Stmt := inClass (top 39) 12
abbrev sReader_read_act : Stmt := inClass (top 39) 13
abbrev n_condition_of : List Str := ["tree", "kind"]
theorem sc_condition_of : FnScope n_condition_of ["tree"] (defScope scondition_of) := ⟨rfl, rfl, rfl, by decide +kernel, rfl, by decide +kernel, by decide +kernel⟩
abbrev n_all_among : List Str := ["text", "signs"]
theorem sc_all_among : FnScope n_all_among ["text", "signs"] (defScope sall_among) := ⟨rfl, rfl, rfl, by decide +kernel, rfl, by decide +kernel, by decide +kernel⟩
abbrev n_is_word : List Str := ["thing"]
theorem sc_is_word : FnScope n_is_word ["thing"] (defScope sis_word) := ⟨rfl, rfl, rfl, by decide +kernel, rfl, by decide +kernel, by decide +kernel⟩
abbrev n_pieces_of : List Str := ["text", "sign"]
theorem sc_pieces_of : FnScope n_pieces_of ["text"] (defScope spieces_of) := ⟨rfl, rfl, rfl, by decide +kernel, rfl, by decide +kernel, by decide +kernel⟩
abbrev n_deep : List Str := ["tree"]
theorem sc_deep : FnScope n_deep ["tree"] (defScope sdeep) := ⟨rfl, rfl, rfl, by decide +kernel, rfl, by decide +kernel, by decide +kernel⟩
abbrev n_read_condition : List Str := ["text", "reader", "condition"]
theorem sc_read_condition : FnScope n_read_condition ["text"] (defScope sread_condition) := ⟨rfl, rfl, rfl, by decide +kernel, rfl, by decide +kernel, by decide +kernel⟩
abbrev n_l_cell_at : List Str := ["_law_script", "_law_k"]
theorem sc_l_cell_at : FnScope n_l_cell_at ["_law_script", "_law_k"] (defScope sl_cell_at) := ⟨rfl, rfl, rfl, by decide +kernel, rfl, by decide +kernel, by decide +kernel⟩
abbrev n_l_mixed : List Str := ["_law_script", "_law_start", "_law_many", "_law_found", "_law_more", "_law_k"]
theorem sc_l_mixed : FnScope n_l_mixed ["_law_script", "_law_start", "_law_many"] (defScope sl_mixed) := ⟨rfl, rfl, rfl, by decide +kernel, rfl, by decide +kernel, by decide +kernel⟩
abbrev n_l_word_by : List Str := ["_law_shape", "_law_k", "_law_own", "_law_place", "_law_word", "_law_turn"]
theorem sc_l_word_by : FnScope n_l_word_by ["_law_shape", "_law_k"] (defScope sl_word_by) := ⟨rfl, rfl, rfl, by decide +kernel, rfl, by decide +kernel, by decide +kernel⟩
abbrev n_l_leaf_by : List Str := ["_law_shape", "_law_cell", "_law_word", "_law_kind", "_law_low"]
theorem sc_l_leaf_by : FnScope n_l_leaf_by ["_law_shape", "_law_cell"] (defScope sl_leaf_by) := ⟨rfl, rfl, rfl, by decide +kernel, rfl, by decide +kernel, by decide +kernel⟩
abbrev n_l_threads : List Str := ["_law_tree", "_law_most", "_law_part"]
theorem sc_l_threads : FnScope n_l_threads ["_law_tree"] (defScope sl_threads) := ⟨rfl, rfl, rfl, by decide +kernel, rfl, by decide +kernel, by decide +kernel⟩
abbrev n_l_tree_by : List Str := ["_law_shape", "_law_cells", "_law_pile", "_law_cell", "_law_kind"]
theorem sc_l_tree_by : FnScope n_l_tree_by ["_law_shape", "_law_cells"] (defScope sl_tree_by) := ⟨rfl, rfl, rfl, by decide +kernel, rfl, by decide +kernel, by decide +kernel⟩
abbrev n_l_written : List Str := ["_law_tree"]
theorem sc_l_written : FnScope n_l_written ["_law_tree"] (defScope sl_written) := ⟨rfl, rfl, rfl, by decide +kernel, rfl, by decide +kernel, by decide +kernel⟩
abbrev n_l_open : List Str := ["_law_tree", "_law_most", "_law_part"]
theorem sc_l_open : FnScope n_l_open ["_law_tree"] (defScope sl_open) := ⟨rfl, rfl, rfl, by decide +kernel, rfl, by decide +kernel, by decide +kernel⟩
abbrev n_law : List Str := ["_law_script", "_law_cells", "_law_shape", "_law_tree", "_law_turn", "_law_text", "_law_more", "_law_found"]
theorem sc_law : FnScope n_law ["_law_script"] (defScope slaw) := ⟨rfl, rfl, rfl, by decide +kernel, rfl, by decide +kernel, by decide +kernel⟩
abbrev n_Condition_init : List Str := ["self", "tree"]
theorem sc_Condition_init : FnScope n_Condition_init ["self", "tree"] (defScope sCondition_init) := ⟨rfl, rfl, rfl, by decide +kernel, rfl, by decide +kernel, by decide +kernel⟩
abbrev n_Condition_tree : List Str := ["self"]
theorem sc_Condition_tree : FnScope n_Condition_tree ["self"] (defScope sCondition_tree) := ⟨rfl, rfl, rfl, by decide +kernel, rfl, by decide +kernel, by decide +kernel⟩
abbrev n_Condition_written : List Str := ["self"]
theorem sc_Condition_written : FnScope n_Condition_written ["self"] (defScope sCondition_written) := ⟨rfl, rfl, rfl, by decide +kernel, rfl, by decide +kernel, by decide +kernel⟩
abbrev n_IsOfDays_written : List Str := ["self", "first", "last"]
theorem sc_IsOfDays_written : FnScope n_IsOfDays_written ["self"] (defScope sIsOfDays_written) := ⟨rfl, rfl, rfl, by decide +kernel, rfl, by decide +kernel, by decide +kernel⟩
abbrev n_Wrapped_init : List Str := ["self", "tree"]
theorem sc_Wrapped_init : FnScope n_Wrapped_init ["self", "tree"] (defScope sWrapped_init) := ⟨rfl, rfl, rfl, by decide +kernel, rfl, by decide +kernel, by decide +kernel⟩
abbrev n_Wrapped_written : List Str := ["self"]
theorem sc_Wrapped_written : FnScope n_Wrapped_written ["self"] (defScope sWrapped_written) := ⟨rfl, rfl, rfl, by decide +kernel, rfl, by decide +kernel, by decide +kernel⟩
abbrev n_Joined_init : List Str := ["self", "tree"]
theorem sc_Joined_init : FnScope n_Joined_init ["self", "tree"] (defScope sJoined_init) := ⟨rfl, rfl, rfl, by decide +kernel, rfl, by decide +kernel, by decide +kernel⟩
abbrev n_Joined_written_with : List Str := ["self", "between", "one", "other"]
theorem sc_Joined_written_with : FnScope n_Joined_written_with ["self", "between"] (defScope sJoined_written_with) := ⟨rfl, rfl, rfl, by decide +kernel, rfl, by decide +kernel, by decide +kernel⟩
abbrev n_Both_written : List Str := ["self"]
theorem sc_Both_written : FnScope n_Both_written ["self"] (defScope sBoth_written) := ⟨rfl, rfl, rfl, by decide +kernel, rfl, by decide +kernel, by decide +kernel⟩
abbrev n_Either_written : List Str := ["self"]
theorem sc_Either_written : FnScope n_Either_written ["self"] (defScope sEither_written) := ⟨rfl, rfl, rfl, by decide +kernel, rfl, by decide +kernel, by decide +kernel⟩
abbrev n_Reader_init : List Str := ["self", "text", "row"]
theorem sc_Reader_init : FnScope n_Reader_init ["self", "text", "row"] (defScope sReader_init) := ⟨rfl, rfl, rfl, by decide +kernel, rfl, by decide +kernel, by decide +kernel⟩
abbrev n_Reader_ahead : List Str := ["self"]
theorem sc_Reader_ahead : FnScope n_Reader_ahead ["self"] (defScope sReader_ahead) := ⟨rfl, rfl, rfl, by decide +kernel, rfl, by decide +kernel, by decide +kernel⟩
abbrev n_Reader_step : List Str := ["self", "piece"]
theorem sc_Reader_step : FnScope n_Reader_step ["self"] (defScope sReader_step) := ⟨rfl, rfl, rfl, by decide +kernel, rfl, by decide +kernel, by decide +kernel⟩
abbrev n_Reader_passes : List Str := ["self", "wanted"]
theorem sc_Reader_passes : FnScope n_Reader_passes ["self", "wanted"] (defScope sReader_passes) := ⟨rfl, rfl, rfl, by decide +kernel, rfl, by decide +kernel, by decide +kernel⟩
abbrev n_Reader_expect : List Str := ["self", "wanted", "piece"]
theorem sc_Reader_expect : FnScope n_Reader_expect ["self", "wanted"] (defScope sReader_expect) := ⟨rfl, rfl, rfl, by decide +kernel, rfl, by decide +kernel, by decide +kernel⟩
abbrev n_Reader_read_word : List Str := ["self", "piece"]
theorem sc_Reader_read_word : FnScope n_Reader_read_word ["self"] (defScope sReader_read_word) := ⟨rfl, rfl, rfl, by decide +kernel, rfl, by decide +kernel, by decide +kernel⟩
abbrev n_Reader_read_number : List Str := ["self", "least", "most", "piece", "number"]
theorem sc_Reader_read_number : FnScope n_Reader_read_number ["self", "least", "most"] (defScope sReader_read_number) := ⟨rfl, rfl, rfl, by decide +kernel, rfl, by decide +kernel, by decide +kernel⟩
abbrev n_Reader_read_leaf : List Str := ["self", "kind", "first", "last"]
theorem sc_Reader_read_leaf : FnScope n_Reader_read_leaf ["self", "kind"] (defScope sReader_read_leaf) := ⟨rfl, rfl, rfl, by decide +kernel, rfl, by decide +kernel, by decide +kernel⟩
abbrev n_Reader_checked : List Str := ["self", "tree"]
theorem sc_Reader_checked : FnScope n_Reader_checked ["self", "tree"] (defScope sReader_checked) := ⟨rfl, rfl, rfl, by decide +kernel, rfl, by decide +kernel, by decide +kernel⟩
abbrev n_Reader_read_single : List Str := ["self", "within", "threads", "opening", "tree"]
theorem sc_Reader_read_single : FnScope n_Reader_read_single ["self", "within", "threads"] (defScope sReader_read_single) := ⟨rfl, rfl, rfl, by decide +kernel, rfl, by decide +kernel, by decide +kernel⟩
abbrev n_Reader_read_both : List Str := ["self", "within", "threads", "tree"]
theorem sc_Reader_read_both : FnScope n_Reader_read_both ["self", "within", "threads"] (defScope sReader_read_both) := ⟨rfl, rfl, rfl, by decide +kernel, rfl, by decide +kernel, by decide +kernel⟩
abbrev n_Reader_read_either : List Str := ["self", "within", "threads", "tree"]
theorem sc_Reader_read_either : FnScope n_Reader_read_either ["self", "within", "threads"] (defScope sReader_read_either) := ⟨rfl, rfl, rfl, by decide +kernel, rfl, by decide +kernel, by decide +kernel⟩
abbrev n_Reader_read_whole : List Str := ["self"]
theorem sc_Reader_read_whole : FnScope n_Reader_read_whole ["self"] (defScope sReader_read_whole) := ⟨rfl, rfl, rfl, by decide +kernel, rfl, by decide +kernel, by decide +kernel⟩
set_option genInjectivity false in
/-- where the top's things stand -/
structure Adr where
  f_wall : Addr
  f_condition_of : Addr
  f_all_among : Addr
  f_is_word : Addr
  f_pieces_of : Addr
  f_deep : Addr
  f_read_condition : Addr
  f_l_cell_at : Addr
  f_l_mixed : Addr
  f_l_word_by : Addr
  f_l_leaf_by : Addr
  f_l_threads : Addr
  f_l_tree_by : Addr
  f_l_written : Addr
  f_l_open : Addr
  f_law : Addr
  f_Condition_init : Addr
  f_Condition_holds : Addr
  f_Condition_truths : Addr
  f_Condition_tree : Addr
  f_Condition_written : Addr
  f_HasWord_holds : Addr
  f_HasTitleWord_holds : Addr
  f_IsFrom_holds : Addr
  f_IsOfDays_holds : Addr
  f_IsOfDays_written : Addr
  f_IsIn_holds : Addr
  f_IsMarked_holds : Addr
  f_DoesAnswer_holds : Addr
  f_Wrapped_init : Addr
  f_Wrapped_written : Addr
  f_Not_holds : Addr
  f_Not_truths : Addr
  f_InThread_holds : Addr
  f_InThread_truths : Addr
  f_Joined_init : Addr
  f_Joined_written_with : Addr
  f_Both_holds : Addr
  f_Both_truths : Addr
  f_Both_written : Addr
  f_Either_holds : Addr
  f_Either_truths : Addr
  f_Either_written : Addr
  f_Reader_init : Addr
  f_Reader_ahead : Addr
  f_Reader_step : Addr
  f_Reader_passes : Addr
  f_Reader_expect : Addr
  f_Reader_read_word : Addr
  f_Reader_read_number : Addr
  f_Reader_read_leaf : Addr
  f_Reader_checked : Addr
  f_Reader_read_single : Addr
  f_Reader_read_both : Addr
  f_Reader_read_either : Addr
  f_Reader_read_whole : Addr
  f_Reader_read_act : Addr
  C_Condition : Addr
  C_Always : Addr
  C_HasWord : Addr
  C_HasTitleWord : Addr
  C_IsFrom : Addr
  C_IsOfDays : Addr
  C_IsIn : Addr
  C_IsMarked : Addr
  C_DoesAnswer : Addr
  C_Wrapped : Addr
  C_Not : Addr
  C_InThread : Addr
  C_Joined : Addr
  C_Both : Addr
  C_Either : Addr
  C_Reader : Addr
  dummy : Nat := 0
structure Txt (K : PySem.W.Frag) (mg : Str → Option Value) (a : Adr) : Prop where
  m_wall : mg "_wall" = some (.ref a.f_wall)
  m_condition_of : mg "condition_of" = some (.ref a.f_condition_of)
  m_all_among : mg "all_among" = some (.ref a.f_all_among)
  m_is_word : mg "is_word" = some (.ref a.f_is_word)
  m_pieces_of : mg "pieces_of" = some (.ref a.f_pieces_of)
  m_deep : mg "deep" = some (.ref a.f_deep)
  m_read_condition : mg "read_condition" = some (.ref a.f_read_condition)
  m_l_cell_at : mg "_law_cell_at" = some (.ref a.f_l_cell_at)
  m_l_mixed : mg "_law_mixed" = some (.ref a.f_l_mixed)
  m_l_word_by : mg "_law_word_by" = some (.ref a.f_l_word_by)
  m_l_leaf_by : mg "_law_leaf_by" = some (.ref a.f_l_leaf_by)
  m_l_threads : mg "_law_threads" = some (.ref a.f_l_threads)
  m_l_tree_by : mg "_law_tree_by" = some (.ref a.f_l_tree_by)
  m_l_written : mg "_law_written" = some (.ref a.f_l_written)
  m_l_open : mg "_law_open" = some (.ref a.f_l_open)
  m_law : mg "law" = some (.ref a.f_law)
  g_FIGURES : ∃ u, mg "FIGURES" = some u ∧ RelV (.str "0123456789") u
  g_WORD_SIGNS : ∃ u, mg "WORD_SIGNS" = some u ∧ RelV (.str "abcdefghijklmnopqrstuvwxyz0123456789") u
  g_MOST_WORD : ∃ u, mg "MOST_WORD" = some u ∧ RelV (.int 20) u
  g_LAST_DAY : ∃ u, mg "LAST_DAY" = some u ∧ RelV (.int 9999) u
  g_DAY_FIGURES : ∃ u, mg "DAY_FIGURES" = some u ∧ RelV (.int 4) u
  g_MOST_DEEP : ∃ u, mg "MOST_DEEP" = some u ∧ RelV (.int 30) u
  g_MOST_WITHIN : ∃ u, mg "MOST_WITHIN" = some u ∧ RelV (.int 40) u
  g_MOST_THREADS : ∃ u, mg "MOST_THREADS" = some u ∧ RelV (.int 2) u
  g_END : ∃ u, mg "END" = some u ∧ RelV (.str "") u
  gt_BARE : ∃ p, mg "BARE" = some (.ref p) ∧ ∀ H, SqT K H p ((["any", "answers"] : List Str).map V.str)
  gt_WORDED : ∃ p, mg "WORDED" = some (.ref p) ∧ ∀ H, SqT K H p ((["word", "title", "from", "in", "marked"] : List Str).map V.str)
  gt_OPENING : ∃ p, mg "OPENING" = some (.ref p) ∧ ∀ H, SqT K H p ((["(", "not", "thread"] : List Str).map V.str)
  b_len : mg "len" = none
  b_range : mg "range" = none
  b_isinstance : mg "isinstance" = none
  b_str : mg "str" = none
  b_int : mg "int" = none
  b_tuple : mg "tuple" = none
  b_max : mg "max" = none
  b_all : mg "all" = none
  b_sorted : mg "sorted" = none
  mc_Condition : mg "Condition" = some (.ref a.C_Condition)
  c_Condition : Cls K a.C_Condition
  k_Condition : Mk K a.C_Condition a.f_Condition_init
  M_Condition_holds : Meth K a.C_Condition "holds" a.f_Condition_holds
  M_Condition_truths : Meth K a.C_Condition "truths" a.f_Condition_truths
  M_Condition_tree : Meth K a.C_Condition "tree" a.f_Condition_tree
  M_Condition_written : Meth K a.C_Condition "written" a.f_Condition_written
  n_Condition_shape : NoAttr K a.C_Condition "shape"
  mc_Always : mg "Always" = some (.ref a.C_Always)
  c_Always : Cls K a.C_Always
  k_Always : Mk K a.C_Always a.f_Condition_init
  M_Always_holds : Meth K a.C_Always "holds" a.f_Condition_holds
  M_Always_truths : Meth K a.C_Always "truths" a.f_Condition_truths
  M_Always_tree : Meth K a.C_Always "tree" a.f_Condition_tree
  M_Always_written : Meth K a.C_Always "written" a.f_Condition_written
  n_Always_shape : NoAttr K a.C_Always "shape"
  mc_HasWord : mg "HasWord" = some (.ref a.C_HasWord)
  c_HasWord : Cls K a.C_HasWord
  k_HasWord : Mk K a.C_HasWord a.f_Condition_init
  M_HasWord_holds : Meth K a.C_HasWord "holds" a.f_HasWord_holds
  M_HasWord_truths : Meth K a.C_HasWord "truths" a.f_Condition_truths
  M_HasWord_tree : Meth K a.C_HasWord "tree" a.f_Condition_tree
  M_HasWord_written : Meth K a.C_HasWord "written" a.f_Condition_written
  n_HasWord_shape : NoAttr K a.C_HasWord "shape"
  mc_HasTitleWord : mg "HasTitleWord" = some (.ref a.C_HasTitleWord)
  c_HasTitleWord : Cls K a.C_HasTitleWord
  k_HasTitleWord : Mk K a.C_HasTitleWord a.f_Condition_init
  M_HasTitleWord_holds : Meth K a.C_HasTitleWord "holds" a.f_HasTitleWord_holds
  M_HasTitleWord_truths : Meth K a.C_HasTitleWord "truths" a.f_Condition_truths
  M_HasTitleWord_tree : Meth K a.C_HasTitleWord "tree" a.f_Condition_tree
  M_HasTitleWord_written : Meth K a.C_HasTitleWord "written" a.f_Condition_written
  n_HasTitleWord_shape : NoAttr K a.C_HasTitleWord "shape"
  mc_IsFrom : mg "IsFrom" = some (.ref a.C_IsFrom)
  c_IsFrom : Cls K a.C_IsFrom
  k_IsFrom : Mk K a.C_IsFrom a.f_Condition_init
  M_IsFrom_holds : Meth K a.C_IsFrom "holds" a.f_IsFrom_holds
  M_IsFrom_truths : Meth K a.C_IsFrom "truths" a.f_Condition_truths
  M_IsFrom_tree : Meth K a.C_IsFrom "tree" a.f_Condition_tree
  M_IsFrom_written : Meth K a.C_IsFrom "written" a.f_Condition_written
  n_IsFrom_shape : NoAttr K a.C_IsFrom "shape"
  mc_IsOfDays : mg "IsOfDays" = some (.ref a.C_IsOfDays)
  c_IsOfDays : Cls K a.C_IsOfDays
  k_IsOfDays : Mk K a.C_IsOfDays a.f_Condition_init
  M_IsOfDays_holds : Meth K a.C_IsOfDays "holds" a.f_IsOfDays_holds
  M_IsOfDays_truths : Meth K a.C_IsOfDays "truths" a.f_Condition_truths
  M_IsOfDays_tree : Meth K a.C_IsOfDays "tree" a.f_Condition_tree
  M_IsOfDays_written : Meth K a.C_IsOfDays "written" a.f_IsOfDays_written
  n_IsOfDays_shape : NoAttr K a.C_IsOfDays "shape"
  mc_IsIn : mg "IsIn" = some (.ref a.C_IsIn)
  c_IsIn : Cls K a.C_IsIn
  k_IsIn : Mk K a.C_IsIn a.f_Condition_init
  M_IsIn_holds : Meth K a.C_IsIn "holds" a.f_IsIn_holds
  M_IsIn_truths : Meth K a.C_IsIn "truths" a.f_Condition_truths
  M_IsIn_tree : Meth K a.C_IsIn "tree" a.f_Condition_tree
  M_IsIn_written : Meth K a.C_IsIn "written" a.f_Condition_written
  n_IsIn_shape : NoAttr K a.C_IsIn "shape"
  mc_IsMarked : mg "IsMarked" = some (.ref a.C_IsMarked)
  c_IsMarked : Cls K a.C_IsMarked
  k_IsMarked : Mk K a.C_IsMarked a.f_Condition_init
  M_IsMarked_holds : Meth K a.C_IsMarked "holds" a.f_IsMarked_holds
  M_IsMarked_truths : Meth K a.C_IsMarked "truths" a.f_Condition_truths
  M_IsMarked_tree : Meth K a.C_IsMarked "tree" a.f_Condition_tree
  M_IsMarked_written : Meth K a.C_IsMarked "written" a.f_Condition_written
  n_IsMarked_shape : NoAttr K a.C_IsMarked "shape"
  mc_DoesAnswer : mg "DoesAnswer" = some (.ref a.C_DoesAnswer)
  c_DoesAnswer : Cls K a.C_DoesAnswer
  k_DoesAnswer : Mk K a.C_DoesAnswer a.f_Condition_init
  M_DoesAnswer_holds : Meth K a.C_DoesAnswer "holds" a.f_DoesAnswer_holds
  M_DoesAnswer_truths : Meth K a.C_DoesAnswer "truths" a.f_Condition_truths
  M_DoesAnswer_tree : Meth K a.C_DoesAnswer "tree" a.f_Condition_tree
  M_DoesAnswer_written : Meth K a.C_DoesAnswer "written" a.f_Condition_written
  n_DoesAnswer_shape : NoAttr K a.C_DoesAnswer "shape"
  mc_Wrapped : mg "Wrapped" = some (.ref a.C_Wrapped)
  c_Wrapped : Cls K a.C_Wrapped
  k_Wrapped : Mk K a.C_Wrapped a.f_Wrapped_init
  M_Wrapped_holds : Meth K a.C_Wrapped "holds" a.f_Condition_holds
  M_Wrapped_truths : Meth K a.C_Wrapped "truths" a.f_Condition_truths
  M_Wrapped_tree : Meth K a.C_Wrapped "tree" a.f_Condition_tree
  M_Wrapped_written : Meth K a.C_Wrapped "written" a.f_Wrapped_written
  n_Wrapped_shape : NoAttr K a.C_Wrapped "shape"
  n_Wrapped_inner : NoAttr K a.C_Wrapped "inner"
  mc_Not : mg "Not" = some (.ref a.C_Not)
  c_Not : Cls K a.C_Not
  k_Not : Mk K a.C_Not a.f_Wrapped_init
  M_Not_holds : Meth K a.C_Not "holds" a.f_Not_holds
  M_Not_truths : Meth K a.C_Not "truths" a.f_Not_truths
  M_Not_tree : Meth K a.C_Not "tree" a.f_Condition_tree
  M_Not_written : Meth K a.C_Not "written" a.f_Wrapped_written
  n_Not_shape : NoAttr K a.C_Not "shape"
  n_Not_inner : NoAttr K a.C_Not "inner"
  mc_InThread : mg "InThread" = some (.ref a.C_InThread)
  c_InThread : Cls K a.C_InThread
  k_InThread : Mk K a.C_InThread a.f_Wrapped_init
  M_InThread_holds : Meth K a.C_InThread "holds" a.f_InThread_holds
  M_InThread_truths : Meth K a.C_InThread "truths" a.f_InThread_truths
  M_InThread_tree : Meth K a.C_InThread "tree" a.f_Condition_tree
  M_InThread_written : Meth K a.C_InThread "written" a.f_Wrapped_written
  n_InThread_shape : NoAttr K a.C_InThread "shape"
  n_InThread_inner : NoAttr K a.C_InThread "inner"
  mc_Joined : mg "Joined" = some (.ref a.C_Joined)
  c_Joined : Cls K a.C_Joined
  k_Joined : Mk K a.C_Joined a.f_Joined_init
  M_Joined_holds : Meth K a.C_Joined "holds" a.f_Condition_holds
  M_Joined_truths : Meth K a.C_Joined "truths" a.f_Condition_truths
  M_Joined_tree : Meth K a.C_Joined "tree" a.f_Condition_tree
  M_Joined_written : Meth K a.C_Joined "written" a.f_Condition_written
  M_Joined_written_with : Meth K a.C_Joined "written_with" a.f_Joined_written_with
  n_Joined_shape : NoAttr K a.C_Joined "shape"
  n_Joined_one : NoAttr K a.C_Joined "one"
  n_Joined_other : NoAttr K a.C_Joined "other"
  mc_Both : mg "Both" = some (.ref a.C_Both)
  c_Both : Cls K a.C_Both
  k_Both : Mk K a.C_Both a.f_Joined_init
  M_Both_holds : Meth K a.C_Both "holds" a.f_Both_holds
  M_Both_truths : Meth K a.C_Both "truths" a.f_Both_truths
  M_Both_tree : Meth K a.C_Both "tree" a.f_Condition_tree
  M_Both_written : Meth K a.C_Both "written" a.f_Both_written
  M_Both_written_with : Meth K a.C_Both "written_with" a.f_Joined_written_with
  n_Both_shape : NoAttr K a.C_Both "shape"
  n_Both_one : NoAttr K a.C_Both "one"
  n_Both_other : NoAttr K a.C_Both "other"
  mc_Either : mg "Either" = some (.ref a.C_Either)
  c_Either : Cls K a.C_Either
  k_Either : Mk K a.C_Either a.f_Joined_init
  M_Either_holds : Meth K a.C_Either "holds" a.f_Either_holds
  M_Either_truths : Meth K a.C_Either "truths" a.f_Either_truths
  M_Either_tree : Meth K a.C_Either "tree" a.f_Condition_tree
  M_Either_written : Meth K a.C_Either "written" a.f_Either_written
  M_Either_written_with : Meth K a.C_Either "written_with" a.f_Joined_written_with
  n_Either_shape : NoAttr K a.C_Either "shape"
  n_Either_one : NoAttr K a.C_Either "one"
  n_Either_other : NoAttr K a.C_Either "other"
  mc_Reader : mg "Reader" = some (.ref a.C_Reader)
  c_Reader : Cls K a.C_Reader
  k_Reader : Mk K a.C_Reader a.f_Reader_init
  M_Reader_ahead : Meth K a.C_Reader "ahead" a.f_Reader_ahead
  M_Reader_step : Meth K a.C_Reader "step" a.f_Reader_step
  M_Reader_passes : Meth K a.C_Reader "passes" a.f_Reader_passes
  M_Reader_expect : Meth K a.C_Reader "expect" a.f_Reader_expect
  M_Reader_read_word : Meth K a.C_Reader "read_word" a.f_Reader_read_word
  M_Reader_read_number : Meth K a.C_Reader "read_number" a.f_Reader_read_number
  M_Reader_read_leaf : Meth K a.C_Reader "read_leaf" a.f_Reader_read_leaf
  M_Reader_checked : Meth K a.C_Reader "checked" a.f_Reader_checked
  M_Reader_read_single : Meth K a.C_Reader "read_single" a.f_Reader_read_single
  M_Reader_read_both : Meth K a.C_Reader "read_both" a.f_Reader_read_both
  M_Reader_read_either : Meth K a.C_Reader "read_either" a.f_Reader_read_either
  M_Reader_read_whole : Meth K a.C_Reader "read_whole" a.f_Reader_read_whole
  M_Reader_read_act : Meth K a.C_Reader "read_act" a.f_Reader_read_act
  n_Reader_pieces : NoAttr K a.C_Reader "pieces"
  n_Reader_at : NoAttr K a.C_Reader "at"
  n_Reader_row : NoAttr K a.C_Reader "row"
  cf_Condition_init : CFn K a.C_Condition a.f_Condition_init "__init__"
  top_ : True
structure Funs (K : PySem.W.Frag) (a : Adr) : Prop where
  F_wall : ∃ fd, Fun K "_wall" "_wall" swall a.f_wall fd ∧ Binds K fd ["k"] []
  F_condition_of : ∃ fd, Fun K "condition_of" "condition_of" scondition_of a.f_condition_of fd ∧ Binds K fd ["tree"] []
  F_all_among : ∃ fd, Fun K "all_among" "all_among" sall_among a.f_all_among fd ∧ Binds K fd ["text", "signs"] []
  F_is_word : ∃ fd, Fun K "is_word" "is_word" sis_word a.f_is_word fd ∧ Binds K fd ["thing"] []
  F_pieces_of : ∃ fd, Fun K "pieces_of" "pieces_of" spieces_of a.f_pieces_of fd ∧ Binds K fd ["text"] []
  F_deep : ∃ fd, Fun K "deep" "deep" sdeep a.f_deep fd ∧ Binds K fd ["tree"] []
  F_read_condition : ∃ fd, Fun K "read_condition" "read_condition" sread_condition a.f_read_condition fd ∧ Binds K fd ["text"] []
  F_l_cell_at : ∃ fd, Fun K "_law_cell_at" "_law_cell_at" sl_cell_at a.f_l_cell_at fd ∧ Binds K fd ["_law_script", "_law_k"] []
  F_l_mixed : ∃ fd, Fun K "_law_mixed" "_law_mixed" sl_mixed a.f_l_mixed fd ∧ Binds K fd ["_law_script", "_law_start", "_law_many"] []
  F_l_word_by : ∃ fd, Fun K "_law_word_by" "_law_word_by" sl_word_by a.f_l_word_by fd ∧ Binds K fd ["_law_shape", "_law_k"] []
  F_l_leaf_by : ∃ fd, Fun K "_law_leaf_by" "_law_leaf_by" sl_leaf_by a.f_l_leaf_by fd ∧ Binds K fd ["_law_shape", "_law_cell"] []
  F_l_threads : ∃ fd, Fun K "_law_threads" "_law_threads" sl_threads a.f_l_threads fd ∧ Binds K fd ["_law_tree"] []
  F_l_tree_by : ∃ fd, Fun K "_law_tree_by" "_law_tree_by" sl_tree_by a.f_l_tree_by fd ∧ Binds K fd ["_law_shape", "_law_cells"] []
  F_l_written : ∃ fd, Fun K "_law_written" "_law_written" sl_written a.f_l_written fd ∧ Binds K fd ["_law_tree"] []
  F_l_open : ∃ fd, Fun K "_law_open" "_law_open" sl_open a.f_l_open fd ∧ Binds K fd ["_law_tree"] []
  F_law : ∃ fd, Fun K "law" "law" slaw a.f_law fd ∧ Binds K fd ["_law_script"] []
  F_Condition_init : ∃ fd, Fun K "__init__" "Condition.__init__" sCondition_init a.f_Condition_init fd ∧ Binds K fd ["self", "tree"] []
  F_Condition_holds : ∃ fd, Fun K "holds" "Condition.holds" sCondition_holds a.f_Condition_holds fd ∧ Binds K fd ["self", "card", "others"] []
  F_Condition_truths : ∃ fd, Fun K "truths" "Condition.truths" sCondition_truths a.f_Condition_truths fd ∧ Binds K fd ["self", "cards"] []
  F_Condition_tree : ∃ fd, Fun K "tree" "Condition.tree" sCondition_tree a.f_Condition_tree fd ∧ Binds K fd ["self"] []
  F_Condition_written : ∃ fd, Fun K "written" "Condition.written" sCondition_written a.f_Condition_written fd ∧ Binds K fd ["self"] []
  F_HasWord_holds : ∃ fd, Fun K "holds" "HasWord.holds" sHasWord_holds a.f_HasWord_holds fd ∧ Binds K fd ["self", "card", "others"] []
  F_HasTitleWord_holds : ∃ fd, Fun K "holds" "HasTitleWord.holds" sHasTitleWord_holds a.f_HasTitleWord_holds fd ∧ Binds K fd ["self", "card", "others"] []
  F_IsFrom_holds : ∃ fd, Fun K "holds" "IsFrom.holds" sIsFrom_holds a.f_IsFrom_holds fd ∧ Binds K fd ["self", "card", "others"] []
  F_IsOfDays_holds : ∃ fd, Fun K "holds" "IsOfDays.holds" sIsOfDays_holds a.f_IsOfDays_holds fd ∧ Binds K fd ["self", "card", "others"] []
  F_IsOfDays_written : ∃ fd, Fun K "written" "IsOfDays.written" sIsOfDays_written a.f_IsOfDays_written fd ∧ Binds K fd ["self"] []
  F_IsIn_holds : ∃ fd, Fun K "holds" "IsIn.holds" sIsIn_holds a.f_IsIn_holds fd ∧ Binds K fd ["self", "card", "others"] []
  F_IsMarked_holds : ∃ fd, Fun K "holds" "IsMarked.holds" sIsMarked_holds a.f_IsMarked_holds fd ∧ Binds K fd ["self", "card", "others"] []
  F_DoesAnswer_holds : ∃ fd, Fun K "holds" "DoesAnswer.holds" sDoesAnswer_holds a.f_DoesAnswer_holds fd ∧ Binds K fd ["self", "card", "others"] []
  F_Wrapped_init : ∃ fd, Fun K "__init__" "Wrapped.__init__" sWrapped_init a.f_Wrapped_init fd ∧ Binds K fd ["self", "tree"] []
  F_Wrapped_written : ∃ fd, Fun K "written" "Wrapped.written" sWrapped_written a.f_Wrapped_written fd ∧ Binds K fd ["self"] []
  F_Not_holds : ∃ fd, Fun K "holds" "Not.holds" sNot_holds a.f_Not_holds fd ∧ Binds K fd ["self", "card", "others"] []
  F_Not_truths : ∃ fd, Fun K "truths" "Not.truths" sNot_truths a.f_Not_truths fd ∧ Binds K fd ["self", "cards"] []
  F_InThread_holds : ∃ fd, Fun K "holds" "InThread.holds" sInThread_holds a.f_InThread_holds fd ∧ Binds K fd ["self", "card", "others"] []
  F_InThread_truths : ∃ fd, Fun K "truths" "InThread.truths" sInThread_truths a.f_InThread_truths fd ∧ Binds K fd ["self", "cards"] []
  F_Joined_init : ∃ fd, Fun K "__init__" "Joined.__init__" sJoined_init a.f_Joined_init fd ∧ Binds K fd ["self", "tree"] []
  F_Joined_written_with : ∃ fd, Fun K "written_with" "Joined.written_with" sJoined_written_with a.f_Joined_written_with fd ∧ Binds K fd ["self", "between"] []
  F_Both_holds : ∃ fd, Fun K "holds" "Both.holds" sBoth_holds a.f_Both_holds fd ∧ Binds K fd ["self", "card", "others"] []
  F_Both_truths : ∃ fd, Fun K "truths" "Both.truths" sBoth_truths a.f_Both_truths fd ∧ Binds K fd ["self", "cards"] []
  F_Both_written : ∃ fd, Fun K "written" "Both.written" sBoth_written a.f_Both_written fd ∧ Binds K fd ["self"] []
  F_Either_holds : ∃ fd, Fun K "holds" "Either.holds" sEither_holds a.f_Either_holds fd ∧ Binds K fd ["self", "card", "others"] []
  F_Either_truths : ∃ fd, Fun K "truths" "Either.truths" sEither_truths a.f_Either_truths fd ∧ Binds K fd ["self", "cards"] []
  F_Either_written : ∃ fd, Fun K "written" "Either.written" sEither_written a.f_Either_written fd ∧ Binds K fd ["self"] []
  F_Reader_init : ∃ fd, Fun K "__init__" "Reader.__init__" sReader_init a.f_Reader_init fd ∧ Binds K fd ["self", "text", "row"] []
  F_Reader_ahead : ∃ fd, Fun K "ahead" "Reader.ahead" sReader_ahead a.f_Reader_ahead fd ∧ Binds K fd ["self"] []
  F_Reader_step : ∃ fd, Fun K "step" "Reader.step" sReader_step a.f_Reader_step fd ∧ Binds K fd ["self"] []
  F_Reader_passes : ∃ fd, Fun K "passes" "Reader.passes" sReader_passes a.f_Reader_passes fd ∧ Binds K fd ["self", "wanted"] []
  F_Reader_expect : ∃ fd, Fun K "expect" "Reader.expect" sReader_expect a.f_Reader_expect fd ∧ Binds K fd ["self", "wanted"] []
  F_Reader_read_word : ∃ fd, Fun K "read_word" "Reader.read_word" sReader_read_word a.f_Reader_read_word fd ∧ Binds K fd ["self"] []
  F_Reader_read_number : ∃ fd, Fun K "read_number" "Reader.read_number" sReader_read_number a.f_Reader_read_number fd ∧ Binds K fd ["self", "least", "most"] []
  F_Reader_read_leaf : ∃ fd, Fun K "read_leaf" "Reader.read_leaf" sReader_read_leaf a.f_Reader_read_leaf fd ∧ Binds K fd ["self", "kind"] []
  F_Reader_checked : ∃ fd, Fun K "checked" "Reader.checked" sReader_checked a.f_Reader_checked fd ∧ Binds K fd ["self", "tree"] []
  F_Reader_read_single : ∃ fd, Fun K "read_single" "Reader.read_single" sReader_read_single a.f_Reader_read_single fd ∧ Binds K fd ["self", "within", "threads"] []
  F_Reader_read_both : ∃ fd, Fun K "read_both" "Reader.read_both" sReader_read_both a.f_Reader_read_both fd ∧ Binds K fd ["self", "within", "threads"] []
  F_Reader_read_either : ∃ fd, Fun K "read_either" "Reader.read_either" sReader_read_either a.f_Reader_read_either fd ∧ Binds K fd ["self", "within", "threads"] []
  F_Reader_read_whole : ∃ fd, Fun K "read_whole" "Reader.read_whole" sReader_read_whole a.f_Reader_read_whole fd ∧ Binds K fd ["self"] []
  F_Reader_read_act : ∃ fd, Fun K "read_act" "Reader.read_act" sReader_read_act a.f_Reader_read_act fd ∧ Binds K fd ["self"] []
/-- a word -/
def isW (x : Str) : Bool := decide (1 ≤ (x.length : Int)) && (decide ((x.length : Int) ≤ 20) && x.cps.toList.all fun c => decide (c ∈ aZ.cps.toList))
theorem kitSS {K : PySem.W.Frag} : PySem.W.kitOne K (.type "str") (.type "str") = some true := by unfold PySem.W.kitOne; rw [if_pos (beq_self_eq_true _)]
inductive spAmong_I (vs : List V) (H : Hp) (Q : VK) : Prop
  | mk : ∀ x y : Str, vs = [.str x, .str y] → x.length ≤ 1000 → (∀ H', Same H H' → Q (.bl (x.cps.toList.all fun c => decide (c ∈ y.cps.toList))) H') → spAmong_I vs H Q
def spAmong : Sp := fun vs H Q _ => spAmong_I vs H Q
def spIsWord (K : PySem.W.Frag) : Sp := fun vs H Q _ => (∃ x : Str, vs = [.str x] ∧ x.length ≤ 1000 ∧ ∀ H', Same H H' → Q (.bl (isW x)) H') ∨
  ∃ v t, vs = [v] ∧ TyOf K H v t ∧ PySem.W.kitOne K t (.type "str") = some false ∧ Q (.bl false) H
section
variable {P : Program} {w : World} {K : PySem.W.Frag} {mg : Str → Option Value} {base : Heap} {a : Adr}
theorem ok_among {fd : FuncData} (F : Fun K "all_among" "all_among" sall_among a.f_all_among fd) (T : Txt K mg a) : FnOk P w K mg base CX0 1 a.f_all_among fd ["text", "signs"] spAmong := by
  refine F.ok sc_all_among (fun vs H Q E h => ?_) (fun cdv A outer s H vs Q E hr h => ?_)
  · obtain ⟨x, y, rfl, _⟩ := h; rfl
  · obtain ⟨x, y, rfl, hx, k⟩ := h
    refine ⟨_, pss_one (ps_ret (pe_callB (call_all rfl) rfl T.b_all PyProof.Rows.boot_all (pac (pe_comp (sc := defScope sall_among) (N := n_all_among) (fr := [(1, "signs")]) ⟨rfl, rfl, by decide +kernel, by decide +kernel, by decide +kernel, by decide +kernel, by decide +kernel⟩ rfl rfl rfl (pi_str (pv 0))
      (fun _ _ _ _ => pts_nil) (fun _ _ _ _ => pe_cmpR op_in_str (pv 0) (pv 1) (by with_unfolding_all rfl))) pa_nil))), ?_⟩
    refine ⟨_, rfl, x, rfl, comp_str (fun c => .bl (decide (c ∈ y.cps.toList))) (Nat.le_of_lt (small1000 hx)) ?_ ?_⟩
    · intro c H3 Q' hc q
      refine ⟨_, rfl, _, rfl, _, _, rfl, rfl, ?_⟩
      rw [StrLaws.found_one]
      exact q
    · intro D hD
      refine ⟨D, x.cps.toList.map fun c => decide (c ∈ y.cps.toList), rfl, SqL.of (by rw [List.map_map]; exact upd_same), ?_⟩
      rw [List.all_map]
      exact k _ (Same.upd_new hD)
theorem ok_isword {fd : FuncData} (F : Fun K "is_word" "is_word" sis_word a.f_is_word fd) (T : Txt K mg a) (FF : Funs K a) : FnOk P w K mg base CX0 2 a.f_is_word fd ["thing"] (spIsWord K) := by
  obtain ⟨fdA, FA, bA⟩ := FF.F_all_among
  have GA : FnOk P w K mg base CX0 1 a.f_all_among fdA ["text", "signs"] spAmong := ok_among FA T
  refine F.ok sc_is_word (fun vs H Q E h => ?_) (fun cdv A outer s H vs Q E hr h => ?_)
  · rcases h with ⟨x, rfl, _⟩ | ⟨v, t, rfl, _⟩ <;> rfl
  · refine ⟨_, pss_one (ps_ret (pe_and (pe_callB call_isinst rfl T.b_isinstance PyProof.Rows.boot_isinstance (pac (pv 0) (pac (pe_bltn (v := .ty "str") rfl T.b_str PyProof.Rows.boot_str rfl) pa_nil)))
      (pe_and (pe_chain op_le op_le pe_int (pe_callB call_len_str rfl T.b_len PySem.boot_len (pac (pv 0) pa_nil)) (pe_gl rfl T.g_MOST_WORD))
      (pe_one (pe_call GA hr rfl T.m_all_among FA.kp bA .nil pass0 (pac (pv 0) (pac (pe_gl rfl T.g_WORD_SIGNS) pa_nil))))))), ?_⟩
    rcases h with ⟨x, rfl, hx, k⟩ | ⟨v, t, rfl, ty, hk, k⟩
    · refine ⟨_, rfl, _, _, _, _, _, rfl, rfl, TyOf.str x, kitSS, _, rfl, iteT ?_⟩
      refine ⟨_, rfl, x, rfl, Nat.le_of_lt (small1000 hx), _, _, rfl, rfl, _, rfl, ?_⟩
      have hdef : isW x = (decide (1 ≤ (x.length : Int)) && (decide ((x.length : Int) ≤ 20) && x.cps.toList.all fun c => decide (c ∈ aZ.cps.toList))) := rfl
      by_cases h1 : (1 : Int) ≤ (x.length : Int)
      · rw [decide_eq_true h1]
        rw [decide_eq_true h1, Bool.true_and] at hdef
        refine iteT ⟨_, _, rfl, rfl, _, rfl, ?_⟩
        by_cases h2 : (x.length : Int) ≤ 20
        · rw [decide_eq_true h2]
          rw [decide_eq_true h2, Bool.true_and] at hdef
          refine iteT ⟨_, rfl, x, aZ, rfl, hx, fun H' s' => ?_⟩
          rw [← hdef]
          exact k H' s'
        · rw [decide_eq_false h2]
          rw [decide_eq_false h2, Bool.false_and] at hdef
          refine iteF ?_
          rw [← hdef]
          exact k H (Same.refl H)
      · rw [decide_eq_false h1]
        rw [decide_eq_false h1, Bool.false_and] at hdef
        refine iteF ⟨_, rfl, iteF ?_⟩
        rw [← hdef]
        exact k H (Same.refl H)
    · exact ⟨_, rfl, _, _, _, _, _, rfl, rfl, ty, hk, _, rfl, iteF k⟩
end
inductive spCell_I (K : PySem.W.Frag) (vs : List V) (H : Hp) (Q : VK) : Prop
  | mk : ∀ (a : Addr) (ns : List Int) (k : Int), vs = [.ref a, .int k] → SqL K H a (ns.map V.int) → 0 ≤ k → (∀ z : Int, Q (.int z) H) → spCell_I K vs H Q
def spCell (K : PySem.W.Frag) : Sp := fun vs H Q _ => spCell_I K vs H Q
inductive spMixed_I (K : PySem.W.Frag) (vs : List V) (H : Hp) (Q : VK) : Prop
  | mk : ∀ (a : Addr) (ns : List Int) (st : Int) (n : Nat), vs = [.ref a, .int st, .int n] → SqL K H a (ns.map V.int) → 0 ≤ st → n ≤ 1000 → (∀ (p : Addr) (rs : List Int) (H' : Hp), rs.length = n → (∀ r ∈ rs, 0 ≤ r ∧ r < 2147483629) → H p = none → Same H H' → H' p = some (.lst (rs.map V.int)) → Q (.ref p) H') → spMixed_I K vs H Q
def spMixed (K : PySem.W.Frag) : Sp := fun vs H Q _ => spMixed_I K vs H Q
inductive spWordBy_I (vs : List V) (H : Hp) (Q : VK) : Prop
  | mk : ∀ (b k : Int), vs = [.int b, .int k] → 0 ≤ b → b < 2147483647 → 0 ≤ k → k < 6 → (∀ H', Same H H' → Q (.str (wordBy b k)) H') → spWordBy_I vs H Q
def spWordBy : Sp := fun vs H Q _ => spWordBy_I vs H Q
theorem ok_cell {P : Program} {w : World} {K : PySem.W.Frag} {mg : Str → Option Value} {base : Heap} {a : Adr} {fd : FuncData} (F : Fun K "_law_cell_at" "_law_cell_at" sl_cell_at a.f_l_cell_at fd) (T : Txt K mg a) : FnOk P w K mg base CX0 1 a.f_l_cell_at fd ["_law_script", "_law_k"] (spCell K) := by
  refine F.ok sc_l_cell_at (fun vs H Q E h => ?_) (fun cdv A outer s H vs Q E hr h => ?_)
  · obtain ⟨x, ns, n, rfl, _⟩ := h; rfl
  · obtain ⟨q, ns, i, rfl, hS, hi, k⟩ := h
    refine ⟨_, (pss_cons (ps_if (pt_cmpR op_lt (pv 1) (pe_callB call_len_seq rfl T.b_len PySem.boot_len (pac (pv 0) pa_nil)) (nomark _)) (pss_one (ps_ret (pe_ix ix_list (pv 0) (pv 1) (fun _ _ => rfl)))) pss_nil)
        (pss_one (ps_ret pe_int))), ?_⟩
    refine ⟨_, rfl, _, rfl, q, _, rfl, .inl hS, _, _, rfl, rfl, _, rfl, ?_⟩
    refine ite2 (fun h => ?_) (fun _ => k 0)
    obtain ⟨v, hv, hm, _⟩ := atI_some (xs := ns.map V.int) hi (of_decide_eq_true h)
    obtain ⟨z, rfl, _⟩ := mem_map_int hm
    exact ⟨_, rfl, _, rfl, q, _, _, _, rfl, rfl, hS, hv, k z⟩
theorem ok_mixed {P : Program} {w : World} {K : PySem.W.Frag} {mg : Str → Option Value} {base : Heap} {a : Adr} {fd : FuncData} (F : Fun K "_law_mixed" "_law_mixed" sl_mixed a.f_l_mixed fd) (T : Txt K mg a) (FF : Funs K a) : FnOk P w K mg base CX0 2 a.f_l_mixed fd ["_law_script", "_law_start", "_law_many"] (spMixed K) := by
  obtain ⟨fdC, F_l_cell_at, b_l_cell_at⟩ := FF.F_l_cell_at
  have G_l_cell_at : FnOk P w K mg base CX0 1 a.f_l_cell_at fdC ["_law_script", "_law_k"] (spCell K) := ok_cell F_l_cell_at T
  refine F.ok sc_l_mixed (fun vs H Q E h => ?_) (fun cdv A outer s H vs Q E hr h => ?_)
  · obtain ⟨x, ns, st, n, rfl, _⟩ := h; rfl
  · obtain ⟨q, ns, st, n, rfl, hS, hst, hn, k⟩ := h
    have hr_l_cell_at : Room 1 _ := hr
    refine ⟨_, (pss_cons (ps_set (i := 3) sc_l_mixed.nd rfl (Or.inl rfl) (pe_lstS pas_nil))
        (pss_cons (ps_set (i := 4) sc_l_mixed.nd rfl (Or.inl rfl) pe_int)
        (pss_cons (ps_for PassesOwn.never rfl (pi_range1 rfl T.b_range (pac (pv 2) pa_nil)) (pg_name (i := 5) sc_l_mixed.nd rfl (Or.inl rfl)) (pss_cons (ps_set (i := 4) sc_l_mixed.nd rfl (Or.inl rfl) (pe_op op_mod (pe_op op_add (pe_op op_add (pe_op op_add (pe_op op_mul (pv 4) pe_int) (pe_call G_l_cell_at hr_l_cell_at rfl T.m_l_cell_at F_l_cell_at.kp b_l_cell_at .nil pass0 (pac (pv 0) (pac (pe_op op_add (pv 1) (pv 5)) pa_nil)))) (pe_op op_mul pe_int (pv 5))) pe_int) pe_int))
        (pss_one (ps_expr (pe_bm PySem.F.plainAttrs_list PySem.F.slot_list_append PySem.F.type_list_append mt_append (pv 3) (pac (pe_op op_mod (pe_op op_mul (pv 4) (pv 4)) pe_int) pa_nil))))))
        (pss_one (ps_ret (pv 3)))))), ?_⟩
    refine ⟨Nat.zero_le _, fun p hp => ?_⟩
    refine ⟨_, rfl, (n : Int), rfl, by omega, by omega, for_range (n := (n : Int).toNat) (fun i σ H2 => ∃ (rs : List Int) (more : Int) (c1 : Option V), σ = [some (.ref q), some (.int st), some (.int n), some (.ref p), some (.int more), c1] ∧ 0 ≤ more ∧ more < 2147483647 ∧
      rs.length = i ∧ (∀ r ∈ rs, 0 ≤ r ∧ r < 2147483629) ∧ H2 p = some (.lst (rs.map V.int)) ∧ Same H H2)
      ⟨[], 7, none, rfl, by decide, by decide, rfl, (fun _ h => nomatch h), upd_same, Same.upd_new hp⟩ ?_ ?_⟩
    · rintro i σ H2 hi ⟨rs, more, c1, rfl, h0, h1, hl, hb, hp2, hs⟩
      have hS2 := hs.seq hS
      have hin : i < n := by omega
      refine ⟨_, rfl, _, _, rfl, rfl, .inl ⟨by omega, by omega⟩, _, rfl, _, rfl, _, rfl, _, _, rfl, rfl, q, ns, _, rfl, hS2, by omega, fun z => ?_⟩
      refine ⟨_, _, rfl, rfl, _, rfl, _, _, rfl, rfl, .inl ⟨by decide, by decide⟩, _, _, rfl, rfl, _, _, rfl, rfl, _, _, rfl, rfl, (by show (0 : Int) < 2147483647; decide), ?_⟩
      have b0 : 0 ≤ (more * 48271 + z + 31 * (0 + (i : Int)) + 1) % 2147483647 := Int.emod_nonneg _ (by decide)
      have b1 : (more * 48271 + z + 31 * (0 + (i : Int)) + 1) % 2147483647 < 2147483647 := Int.emod_lt_of_pos _ (by decide)
      refine ⟨_, rfl, .inl ⟨rfl, _, SqL.of hp2⟩, _, rfl, _, rfl, _, _, rfl, rfl, .inl ⟨by omega, by omega⟩, _, _, rfl, rfl, (by show (0 : Int) < 2147483629; decide), p, _, _, rfl, rfl, hp2, (by rw [List.length_map]; exact small1000 (by omega)), ?_⟩
      refine ⟨rs ++ [_], _, _, rfl, b0, b1, by rw [List.length_append, hl]; rfl, fun r hr => ?_, by rw [List.map_append]; exact upd_same, hs.upd_of hp⟩
      rcases List.mem_append.mp hr with hr | hr
      · exact hb r hr
      · rw [List.mem_singleton.mp hr]
        exact ⟨Int.emod_nonneg _ (by decide), Int.emod_lt_of_pos _ (by decide)⟩
    · rintro σ H2 ⟨rs, more, c1, rfl, h0, h1, hl, hb, hp2, hs⟩
      exact ⟨_, rfl, k p rs H2 (by omega) hb hp hs hp2⟩
theorem ok_wordBy {P : Program} {w : World} {K : PySem.W.Frag} {mg : Str → Option Value} {base : Heap} {a : Adr} {fd : FuncData} (F : Fun K "_law_word_by" "_law_word_by" sl_word_by a.f_l_word_by fd) (T : Txt K mg a) : FnOk P w K mg base CX0 1 a.f_l_word_by fd ["_law_shape", "_law_k"] spWordBy := by
  refine F.ok sc_l_word_by (fun vs H Q E h => ?_) (fun cdv A outer s H vs Q E hr h => ?_)
  · obtain ⟨b, k, rfl, _⟩ := h; rfl
  · obtain ⟨b, i, rfl, hb0, hb1, hi0, hi1, k⟩ := h
    have hsm : ∀ n : Nat, n ≤ 1000 → n ≤ sizeLine := fun n h => Nat.le_of_lt (small1000 h)
    obtain ⟨t1, h1, sp1⟩ : ∃ t, PSs (cxOf CX0 P w K mg base n_l_word_by "_law_word_by" (defScope sl_word_by) a.f_l_word_by cdv A outer s H E).nox ((defBody sl_word_by).drop 1) t ∧
        (¬ b % 4 = 1 → t { nx := fun _ H' => Q .non H', rt := Q } [some (.int b), some (.int i), none, none, none, none] H) := by
      refine ⟨_, (pss_cons (ps_set (i := 3) sc_l_word_by.nd rfl (Or.inl rfl) (pe_op op_mod (pe_op op_fdiv (pv 0) pe_int) pe_int))
        (pss_cons (ps_set (i := 4) sc_l_word_by.nd rfl (Or.inl rfl) pe_str)
        (pss_cons (ps_for PassesOwn.never rfl (pi_range1 rfl T.b_range (pac (pe_op op_add (pe_op op_add (pv 3) pe_int) (pe_op op_mod (pe_op op_fdiv (pv 0) pe_int) (pe_op op_sub pe_int (pv 3)))) pa_nil)) (pg_name (i := 5) sc_l_word_by.nd rfl (Or.inl rfl)) (pss_one (ps_if (pt_cmpR op_eq (pv 5) (pv 3) (nomark _)) (pss_one (ps_set (i := 4) sc_l_word_by.nd rfl (Or.inl rfl) (pe_op op_add_str (pv 4) (pe_ix ix_str pe_str (pv 1) (fun _ _ => rfl))))) (pss_one (ps_set (i := 4) sc_l_word_by.nd rfl (Or.inl rfl) (pe_op op_add_str (pv 4) (pe_ix ix_str pe_str (pe_op op_mod (pe_op op_add (pe_op op_fdiv (pv 0) pe_int) (pe_op op_mul pe_int (pv 5))) pe_int) (fun _ _ => rfl))))))))
        (pss_one (ps_ret (pv 4)))))), fun hne => ?_⟩
      have p0 : 0 ≤ b / 4 % 6 := Int.emod_nonneg _ (by decide)
      have p1 : b / 4 % 6 < 6 := Int.emod_lt_of_pos _ (by decide)
      have q0 : 0 ≤ b / 24 % (20 - b / 4 % 6) := Int.emod_nonneg _ (by omega)
      have q1 : b / 24 % (20 - b / 4 % 6) < 20 - b / 4 % 6 := Int.emod_lt_of_pos _ (by omega)
      refine ⟨_, rfl, _, _, rfl, rfl, ⟨by decide, by decide⟩, _, _, rfl, rfl, (by show (0 : Int) < 6; decide), ?_⟩
      refine ⟨_, rfl, _, _, rfl, rfl, _, rfl, _, _, rfl, rfl, ⟨by decide, by decide⟩, _, rfl, _, _, rfl, rfl, _, _, rfl, rfl, (by show (0 : Int) < 20 - b / 4 % 6; omega), _, _, rfl, rfl, _, rfl, (by show -2 ^ 62 ≤ b / 4 % 6 + 1 + b / 24 % (20 - b / 4 % 6); omega), (by show b / 4 % 6 + 1 + b / 24 % (20 - b / 4 % 6) < 2 ^ 62; omega), for_range (n := (b / 4 % 6 + 1 + b / 24 % (20 - b / 4 % 6)).toNat)
        (fun j σ H2 => ∃ (o : Option V), σ = [some (.int b), some (.int i), none, some (.int (b / 4 % 6)), some (.str ⟨((List.range j).map (wordSign b i)).toArray⟩), o] ∧ H2 = H) ⟨none, rfl, rfl⟩ ?_ ?_⟩
      · rintro j σ H2 hj ⟨o, rfl, rfl⟩
        have hj20 : j < 20 := by omega
        have fit : ∀ c : Nat, (⟨((List.range j).map (wordSign b i)).toArray⟩ : Str).length + (⟨#[c]⟩ : Str).length ≤ sizeLine := fun c => hsm _ (by
          rw [one_len, len_list, List.length_map, List.length_range]; omega)
        have app : ∀ c : Nat, wordSign b i j = c → (⟨((List.range j).map (wordSign b i)).toArray⟩ : Str) ++ (⟨#[c]⟩ : Str) = ⟨((List.range (j + 1)).map (wordSign b i)).toArray⟩ := fun c hc => by
          rw [List.range_succ, List.map_append, List.map_singleton, hc]
          refine Str.ext' ?_
          rw [Str.cps_append]
          simp
        refine ⟨_, rfl, _, rfl, rfl, _, rfl, ?_⟩
        refine ite2 (fun h => ?_) (fun h => ?_)
        · have he : (0 : Int) + (j : Int) = b / 4 % 6 := by
            have := of_decide_eq_true h
            exact V.int.inj this
          obtain ⟨c, hc, _⟩ := pick_sign (z := abS) (i := i) hi0 (by rw [ab_len]; exact hi1)
          refine ⟨_, rfl, _, rfl, abS, _, c, rfl, rfl, ab_small, hc, _, _, rfl, rfl, fit c, ?_⟩
          refine ⟨some (.int (0 + (j : Int))), ?_, rfl⟩
          rw [app c (by unfold wordSign; rw [if_pos (by omega), hc]; rfl)]
          rfl
        · have he : ¬ (0 : Int) + (j : Int) = b / 4 % 6 := fun z => h (decide_eq_true (by rw [z]))
          obtain ⟨c, hc, _⟩ := pick_sign (z := aZ) (i := (b / 500 + 7 * (0 + (j : Int))) % 36) (Int.emod_nonneg _ (by decide)) (by rw [aZ_len]; exact Int.emod_lt_of_pos _ (by decide))
          refine ⟨_, rfl, _, rfl, _, _, rfl, rfl, ⟨by decide, by decide⟩, _, rfl, _, _, rfl, rfl, .inl ⟨by decide, by decide⟩, _, _, rfl, rfl, _, _, rfl, rfl, (by show (0 : Int) < 36; decide), aZ, _, c, rfl, rfl, aZ_small, hc, _, _, rfl, rfl, fit c, ?_⟩
          refine ⟨some (.int (0 + (j : Int))), ?_, rfl⟩
          rw [app c (by unfold wordSign; rw [if_neg (by omega), show (7 * (j : Int)) = 7 * (0 + (j : Int)) by omega, hc]; rfl)]
          rfl
      · rintro σ H2 ⟨o, rfl, rfl⟩
        refine ⟨_, rfl, ?_⟩
        have e : wordBy b i = ⟨((List.range (b / 4 % 6 + 1 + b / 24 % (20 - b / 4 % 6)).toNat).map (wordSign b i)).toArray⟩ := by
          unfold wordBy; rw [if_neg hne]
        rw [← e]
        exact k _ (Same.refl _)
    refine ⟨_, (qss_cons (qs_if (pt_cmpR op_eq (pe_op op_mod (pv 0) pe_int) pe_int (nomark _)) (qss_cons (qs_set (i := 2) sc_l_word_by.nd rfl (Or.inl rfl) (qe_lst (pas_cons pe_str (pas_cons pe_str (pas_cons pe_str (pas_cons pe_str (pas_cons pe_str (pas_cons pe_str (pas_cons pe_str (pas_cons pe_str (pas_cons pe_str (pas_cons pe_str (pas_cons pe_str (pas_cons pe_str pas_nil))))))))))))))
        (qss_cons (qs_set (i := 2) sc_l_word_by.nd rfl (Or.inl rfl) (qe_op op_cat (pv 2) (qe_lst (pas_cons pe_str (pas_cons pe_str (pas_cons pe_str (pas_cons pe_str (pas_cons pe_str (pas_cons pe_str (pas_cons pe_str (pas_cons pe_str (pas_cons pe_str pas_nil))))))))))))
        (qss_one (qs_of (ps_ret (pe_ix ix_list (pv 2) (pe_op op_mod (pe_op op_add (pe_op op_fdiv (pv 0) pe_int) (pe_op op_mul pe_int (pv 1))) pe_int) (fun _ _ => rfl))))))) pss_nil)
        (qss_of h1)).h, ?_⟩
    refine ⟨_, rfl, _, _, rfl, rfl, (by show (0 : Int) < 4; decide), rfl, _, rfl, ?_⟩
    refine ite2 (fun h => ?_) (fun h => sp1 fun z => h (decide_eq_true (congrArg V.int z)))
    have he : b % 4 = 1 := by
      have := of_decide_eq_true h
      exact V.int.inj this
    obtain ⟨v, hv, hvm, _⟩ := atI_some (xs := ownWords) (i := (b / 4 + 5 * i) % 21) (Int.emod_nonneg _ (by decide)) (by rw [own_len]; exact Int.emod_lt_of_pos _ (by decide))
    have hv' : atI (ownWords.map V.str) ((b / 4 + 5 * i) % 21) = some (V.str v) := by
      rw [atI_map, hv]; rfl
    refine ⟨(by show 12 ≤ sizeLine; decide), fun l1 n1 => ?_⟩
    refine ⟨_, rfl, (by show 9 ≤ sizeLine; decide), fun l2 n2 => ⟨l1, l2, _, _, rfl, rfl, (by rw [upd_ne (ne_of_none upd_same n2)]; exact upd_same), upd_same, (by show 12 + 9 ≤ sizeLine; decide), fun l3 n3 => ?_⟩⟩
    refine ⟨_, rfl, _, rfl, _, _, rfl, rfl, ⟨by decide, by decide⟩, _, rfl, _, _, rfl, rfl, .inl ⟨by decide, by decide⟩, _, _, rfl, rfl, _, _, rfl, rfl, (by show (0 : Int) < 21; decide), l3, ownWords.map V.str, _, _, rfl, rfl, SqL.of upd_same, hv', ?_⟩
    have e : wordBy b i = v := by unfold wordBy; rw [if_pos he, hv]; rfl
    rw [← e]
    exact k _ (((Same.upd_new n1).trans (Same.upd_new n2)).trans (Same.upd_new n3))
inductive spPcs_I (vs : List V) (H : Hp) (Q : VK) : Prop
  | mk : ∀ x : Str, vs = [.str x] → x.length ≤ 100000 → (∀ D H', H D = none → Same H H' → H' D = some (.lst ((pcs x).map V.str)) → Q (.ref D) H') → spPcs_I vs H Q
def spPcs : Sp := fun vs H Q _ => spPcs_I vs H Q
theorem rep1_len (x : Str) (c : Nat) : (Txt.replace x ⟨#[c]⟩ (padS ⟨#[c]⟩)).length ≤ 3 * x.length := by
  have h := expd_len (c := c) (z := (padS ⟨#[c]⟩).cps.toList) (by rfl) x.cps.toList
  rw [← replace_expd] at h
  have e1 : (Txt.replace x ⟨#[c]⟩ (padS ⟨#[c]⟩)).cps.toList.length = (Txt.replace x ⟨#[c]⟩ (padS ⟨#[c]⟩)).length := Array.length_toList
  have e2 : x.cps.toList.length = x.length := Array.length_toList
  rw [e1, e2] at h
  exact h
section
variable {P : Program} {w : World} {K : PySem.W.Frag} {mg : Str → Option Value} {base : Heap} {a : Adr}
theorem ok_pcs {fd : FuncData} (F : Fun K "pieces_of" "pieces_of" spieces_of a.f_pieces_of fd) (T : Txt K mg a) : FnOkT P w K mg base CX0 1 a.f_pieces_of fd ["text"] spPcs := by
  refine F.okT sc_pieces_of (fun vs H Q E h => ?_) (fun cdv A outer st H vs Q E hr h => ?_)
  · obtain ⟨x, rfl, _⟩ := h; rfl
  · obtain ⟨x, rfl, hx, k⟩ := h
    have p1 : ("(" : Str) = ⟨#[40]⟩ := by decide +kernel
    have p2 : (")" : Str) = ⟨#[41]⟩ := by decide +kernel
    have p3 : ("," : Str) = ⟨#[44]⟩ := by decide +kernel
    have l1 := rep1_len x 40
    have l2 := rep1_len (Txt.replace x ⟨#[40]⟩ (padS ⟨#[40]⟩)) 41
    refine ⟨_, (psst_cons (ps_rep (txt := "text") (sg := "sign") (a := "(") (b := ")") (c := ",") rfl (by decide +kernel) rfl rfl rfl (by decide +kernel) (by decide +kernel) (by decide +kernel) PassesOwn.never (by decide) (by decide) rfl rfl rfl rfl (fun _ => rfl))
      (pss_one (ps_ret (pe_comp (sc := defScope spieces_of) (N := n_pieces_of) (fr := []) ⟨rfl, rfl, by decide +kernel, by decide +kernel, by decide +kernel, by decide +kernel, by decide +kernel⟩ rfl rfl rfl (pi_list (pe_bm PySem.F.plainAttrs_str PySem.F.slot_str_split PySem.F.type_str_split mt_splitG (pv 0) (pac pe_str pa_nil))) (fun _ _ _ _ => pts_one (pt_cmpR op_ne (pv 0) pe_str (nomark _))) (fun _ _ _ _ => (pv 0)))))), ?_⟩
    refine ⟨x, none, rfl, by omega, by rw [p1]; omega, by rw [p1, p2]; omega, ?_⟩
    have hr3 := rep3_len x
    refine ⟨_, rfl, rfl, _, " ", rfl, rfl, by decide +kernel, by omega, fun L H1 nL s1 eL => ?_⟩
    have hsl := PyProof.Rows.split_le (rep3 x "(" ")" ",") " "
    refine ⟨L, rfl, ⟨_, SqL.of eL⟩, comp_listFG (xs := Txt.split (rep3 x "(" ")" ",") " ") V.str (fun p => !decide (p = ("" : Str))) V.str (by rw [sizeLine_eq]; omega) (SqL.of eL) (fun y H3 Q' hy s3 kq => ⟨_, rfl, rfl, _, rfl, by rw [str_ne]; exact kq H3 (Same.refl _)⟩) (fun y H3 Q' hy s3 _ kq => ⟨_, rfl, kq H3 (Same.refl _)⟩) fun D H2 nD s2 eD => k D H2 (s1.free nD) (s1.trans s2) eD⟩
end
inductive Tr where
  | any
  | ans
  | word (w : Str)
  | title (w : Str)
  | frm (w : Str)
  | days (l h : Int)
  | inn (w : Str)
  | mrk (w : Str)
  | nt (t : Tr)
  | thr (t : Tr)
  | bth (u v : Tr)
  | eth (u v : Tr)
def Tr.dp : Tr → Nat
  | .nt t => t.dp + 1
  | .thr t => t.dp + 1
  | .bth u v => max u.dp v.dp + 1
  | .eth u v => max u.dp v.dp + 1
  | _ => 0
def DayB (l h : Int) : Prop := 0 ≤ l ∧ l ≤ 9999 ∧ 0 ≤ h ∧ h ≤ 9999
inductive TAt (H : Hp) : Addr → Tr → Prop
  | any {p : Addr} : H p = some (.tup [.str "any"]) → TAt H p .any
  | ans {p : Addr} : H p = some (.tup [.str "answers"]) → TAt H p .ans
  | word {p : Addr} {w : Str} : H p = some (.tup [.str "word", .str w]) → WordS w → TAt H p (.word w)
  | title {p : Addr} {w : Str} : H p = some (.tup [.str "title", .str w]) → WordS w → TAt H p (.title w)
  | frm {p : Addr} {w : Str} : H p = some (.tup [.str "from", .str w]) → WordS w → TAt H p (.frm w)
  | days {p : Addr} {l h : Int} : H p = some (.tup [.str "day", .int l, .int h]) → DayB l h → TAt H p (.days l h)
  | inn {p : Addr} {w : Str} : H p = some (.tup [.str "in", .str w]) → WordS w → TAt H p (.inn w)
  | mrk {p : Addr} {w : Str} : H p = some (.tup [.str "marked", .str w]) → WordS w → TAt H p (.mrk w)
  | nt {p q : Addr} {t : Tr} : H p = some (.tup [.str "not", .ref q]) → TAt H q t → TAt H p (.nt t)
  | thr {p q : Addr} {t : Tr} : H p = some (.tup [.str "thread", .ref q]) → TAt H q t → TAt H p (.thr t)
  | bth {p q r : Addr} {u v : Tr} : H p = some (.tup [.str "both", .ref q, .ref r]) → TAt H q u → TAt H r v → TAt H p (.bth u v)
  | eth {p q r : Addr} {u v : Tr} : H p = some (.tup [.str "either", .ref q, .ref r]) → TAt H q u → TAt H r v → TAt H p (.eth u v)
theorem TAt.mono {H H' : Hp} {p : Addr} {t : Tr} (h : TAt H p t) (k : Same H H') : TAt H' p t := by
  induction h with
  | any e => exact .any (k _ _ e)
  | ans e => exact .ans (k _ _ e)
  | word e w => exact .word (k _ _ e) w
  | title e w => exact .title (k _ _ e) w
  | frm e w => exact .frm (k _ _ e) w
  | days e b => exact .days (k _ _ e) b
  | inn e w => exact .inn (k _ _ e) w
  | mrk e w => exact .mrk (k _ _ e) w
  | nt e _ ih => exact .nt (k _ _ e) ih
  | thr e _ ih => exact .thr (k _ _ e) ih
  | bth e _ _ i1 i2 => exact .bth (k _ _ e) i1 i2
  | eth e _ _ i1 i2 => exact .eth (k _ _ e) i1 i2
theorem TAt.tups {H H' : Hp} {p : Addr} {t : Tr} (h : TAt H p t) (k : ∀ c xs, H c = some (.tup xs) → H' c = some (.tup xs)) : TAt H' p t := by
  induction h with
  | any e => exact .any (k _ _ e)
  | ans e => exact .ans (k _ _ e)
  | word e w => exact .word (k _ _ e) w
  | title e w => exact .title (k _ _ e) w
  | frm e w => exact .frm (k _ _ e) w
  | days e b => exact .days (k _ _ e) b
  | inn e w => exact .inn (k _ _ e) w
  | mrk e w => exact .mrk (k _ _ e) w
  | nt e _ ih => exact .nt (k _ _ e) ih
  | thr e _ ih => exact .thr (k _ _ e) ih
  | bth e _ _ i1 i2 => exact .bth (k _ _ e) i1 i2
  | eth e _ _ i1 i2 => exact .eth (k _ _ e) i1 i2
def clsOf (a : Adr) : Tr → Addr
  | .any => a.C_Always
  | .ans => a.C_DoesAnswer
  | .word _ => a.C_HasWord
  | .title _ => a.C_HasTitleWord
  | .frm _ => a.C_IsFrom
  | .days _ _ => a.C_IsOfDays
  | .inn _ => a.C_IsIn
  | .mrk _ => a.C_IsMarked
  | .nt _ => a.C_Not
  | .thr _ => a.C_InThread
  | .bth _ _ => a.C_Both
  | .eth _ _ => a.C_Either
def isLeaf : Tr → Bool
  | .nt _ | .thr _ | .bth _ _ | .eth _ _ => false
  | _ => true
inductive CondAt (a : Adr) (H : Hp) : Addr → Tr → Prop
  | lf {x dx p : Addr} {t : Tr} : isLeaf t = true → H x = some (.ins (clsOf a t) dx [("shape", .ref p)]) → TAt H p t → CondAt a H x t
  | nt {x dx p y : Addr} {u : Tr} : H x = some (.ins a.C_Not dx [("shape", .ref p), ("inner", .ref y)]) → TAt H p (.nt u) → CondAt a H y u → CondAt a H x (.nt u)
  | thr {x dx p y : Addr} {u : Tr} : H x = some (.ins a.C_InThread dx [("shape", .ref p), ("inner", .ref y)]) → TAt H p (.thr u) → CondAt a H y u → CondAt a H x (.thr u)
  | bth {x dx p y z : Addr} {u v : Tr} : H x = some (.ins a.C_Both dx [("shape", .ref p), ("one", .ref y), ("other", .ref z)]) → TAt H p (.bth u v) → CondAt a H y u → CondAt a H z v → CondAt a H x (.bth u v)
  | eth {x dx p y z : Addr} {u v : Tr} : H x = some (.ins a.C_Either dx [("shape", .ref p), ("one", .ref y), ("other", .ref z)]) → TAt H p (.eth u v) → CondAt a H y u → CondAt a H z v → CondAt a H x (.eth u v)
def Tr.sz : Tr → Nat
  | .nt t => t.sz + 1
  | .thr t => t.sz + 1
  | .bth u v => u.sz + v.sz + 1
  | .eth u v => u.sz + v.sz + 1
  | _ => 1
def Tr.th : Tr → Nat
  | .nt t => t.th
  | .thr t => t.th + 1
  | .bth u v => max u.th v.th
  | .eth u v => max u.th v.th
  | _ => 0
theorem sz_pow : ∀ t : Tr, t.sz + 1 ≤ 2 ^ (t.dp + 1)
  | .nt u => by have := sz_pow u; show u.sz + 1 + 1 ≤ 2 ^ (u.dp + 1 + 1); rw [Nat.pow_succ]; omega
  | .thr u => by have := sz_pow u; show u.sz + 1 + 1 ≤ 2 ^ (u.dp + 1 + 1); rw [Nat.pow_succ]; omega
  | .bth u v => by
    have h1 := sz_pow u; have h2 := sz_pow v
    have p1 : 2 ^ (u.dp + 1) ≤ 2 ^ (max u.dp v.dp + 1) := Nat.pow_le_pow_right (by decide) (by omega)
    have p2 : 2 ^ (v.dp + 1) ≤ 2 ^ (max u.dp v.dp + 1) := Nat.pow_le_pow_right (by decide) (by omega)
    show u.sz + v.sz + 1 + 1 ≤ 2 ^ (max u.dp v.dp + 1 + 1); rw [Nat.pow_succ]; omega
  | .eth u v => by
    have h1 := sz_pow u; have h2 := sz_pow v
    have p1 : 2 ^ (u.dp + 1) ≤ 2 ^ (max u.dp v.dp + 1) := Nat.pow_le_pow_right (by decide) (by omega)
    have p2 : 2 ^ (v.dp + 1) ≤ 2 ^ (max u.dp v.dp + 1) := Nat.pow_le_pow_right (by decide) (by omega)
    show u.sz + v.sz + 1 + 1 ≤ 2 ^ (max u.dp v.dp + 1 + 1); rw [Nat.pow_succ]; omega
  | .any => by decide
  | .ans => by decide
  | .word _ => by show 1 + 1 ≤ 2 ^ 1; decide
  | .title _ => by show 1 + 1 ≤ 2 ^ 1; decide
  | .frm _ => by show 1 + 1 ≤ 2 ^ 1; decide
  | .days _ _ => by show 1 + 1 ≤ 2 ^ 1; decide
  | .inn _ => by show 1 + 1 ≤ 2 ^ 1; decide
  | .mrk _ => by show 1 + 1 ≤ 2 ^ 1; decide
theorem CondAt.obj {a : Adr} {H : Hp} {x : Addr} {t : Tr} (h : CondAt a H x t) : ∃ dx fs, H x = some (.ins (clsOf a t) dx fs) ∧ fs.lookup ("holds" : Str) = none ∧ fs.lookup ("truths" : Str) = none ∧ fs.lookup ("tree" : Str) = none ∧ ∃ p, fs.lookup ("shape" : Str) = some (.ref p) ∧ TAt H p t := by
  cases h with
  | lf l e t => exact ⟨_, _, e, rfl, rfl, rfl, _, rfl, t⟩
  | nt e t _ => exact ⟨_, _, e, rfl, rfl, rfl, _, rfl, t⟩
  | thr e t _ => exact ⟨_, _, e, rfl, rfl, rfl, _, rfl, t⟩
  | bth e t _ _ => exact ⟨_, _, e, rfl, rfl, rfl, _, rfl, t⟩
  | eth e t _ _ => exact ⟨_, _, e, rfl, rfl, rfl, _, rfl, t⟩
theorem Txt.cls {K : PySem.W.Frag} {mg : Str → Option Value} {a : Adr} (T : Txt K mg a) : ∀ t : Tr, Cls K (clsOf a t)
  | .any => T.c_Always
  | .ans => T.c_DoesAnswer
  | .word _ => T.c_HasWord
  | .title _ => T.c_HasTitleWord
  | .frm _ => T.c_IsFrom
  | .days _ _ => T.c_IsOfDays
  | .inn _ => T.c_IsIn
  | .mrk _ => T.c_IsMarked
  | .nt _ => T.c_Not
  | .thr _ => T.c_InThread
  | .bth _ _ => T.c_Both
  | .eth _ _ => T.c_Either
theorem Txt.noshape {K : PySem.W.Frag} {mg : Str → Option Value} {a : Adr} (T : Txt K mg a) : ∀ t : Tr, NoAttr K (clsOf a t) "shape"
  | .any => T.n_Always_shape
  | .ans => T.n_DoesAnswer_shape
  | .word _ => T.n_HasWord_shape
  | .title _ => T.n_HasTitleWord_shape
  | .frm _ => T.n_IsFrom_shape
  | .days _ _ => T.n_IsOfDays_shape
  | .inn _ => T.n_IsIn_shape
  | .mrk _ => T.n_IsMarked_shape
  | .nt _ => T.n_Not_shape
  | .thr _ => T.n_InThread_shape
  | .bth _ _ => T.n_Both_shape
  | .eth _ _ => T.n_Either_shape
inductive spTree_I (a : Adr) (vs : List V) (H : Hp) (Q : VK) : Prop
  | mk : ∀ x t, vs = [.ref x] → CondAt a H x t → (∀ p, TAt H p t → Q (.ref p) H) → spTree_I a vs H Q
def spTree (a : Adr) : Sp := fun vs H Q _ => spTree_I a vs H Q
section
variable {P : Program} {w : World} {K : PySem.W.Frag} {mg : Str → Option Value} {base : Heap} {a : Adr}
theorem ok_tree {fd : FuncData} (F : Fun K "tree" "Condition.tree" sCondition_tree a.f_Condition_tree fd) (T : Txt K mg a) : FnOk P w K mg base CX0 1 a.f_Condition_tree fd ["self"] (spTree a) := by
  refine F.ok sc_Condition_tree (fun vs H Q E h => ?_) (fun cdv A outer s H vs Q E hr h => ?_)
  · obtain ⟨x, t, rfl, _⟩ := h; rfl
  · obtain ⟨x, t, rfl, hx, k⟩ := h
    obtain ⟨dx, fs, ex, l1, l2, l3, p, lp, ht⟩ := hx.obj
    exact ⟨_, (pss_one (ps_ret (pe_fld (pv 0) rfl))), ⟨_, rfl, x, _, dx, fs, _, rfl, ex, T.cls t, T.noshape t, lp, k p ht⟩⟩
end
def subs : Tr → List Tr
  | .nt u => [u]
  | .thr u => [u]
  | .bth u v => [u, v]
  | .eth u v => [u, v]
  | _ => []
def nm1 : Tr → Str
  | .any => "any"
  | .ans => "answers"
  | .word _ => "word"
  | .title _ => "title"
  | .frm _ => "from"
  | .days _ _ => "day"
  | .inn _ => "in"
  | .mrk _ => "marked"
  | .nt _ => "not"
  | .thr _ => "thread"
  | .bth _ _ => "both"
  | .eth _ _ => "either"
def Kid (H : Hp) (t : Tr) (k : V × Option Tr) : Prop := match k.2 with
  | none => (∃ z, k.1 = .str z) ∨ ∃ i, k.1 = .int i
  | some u => ∃ q, k.1 = .ref q ∧ TAt H q u ∧ u.dp < t.dp ∧ u.sz < t.sz
theorem TAt.kids {H : Hp} {p : Addr} {t : Tr} (h : TAt H p t) : ∃ ks : List (V × Option Tr), H p = some (.tup (V.str (nm1 t) :: ks.map (·.1))) ∧ ks.length ≤ 2 ∧ subs t = ks.filterMap (·.2) ∧ ∀ k ∈ ks, Kid H t k := by
  have one : ∀ {k : V × Option Tr} {t : Tr}, Kid H t k → ∀ k' ∈ [k], Kid H t k' := fun h k' hk => by rw [List.mem_singleton.mp hk]; exact h
  have two : ∀ {k1 k2 : V × Option Tr} {t : Tr}, Kid H t k1 → Kid H t k2 → ∀ k' ∈ [k1, k2], Kid H t k' := fun h1 h2 k' hk => by
    rcases List.mem_cons.mp hk with rfl | hk
    · exact h1
    · rw [List.mem_singleton.mp hk]; exact h2
  cases h with
  | any e => exact ⟨[], e, by simp, rfl, fun k hk => nomatch hk⟩
  | ans e => exact ⟨[], e, by simp, rfl, fun k hk => nomatch hk⟩
  | word e w => exact ⟨[(_, none)], e, by simp, rfl, one (.inl ⟨_, rfl⟩)⟩
  | title e w => exact ⟨[(_, none)], e, by simp, rfl, one (.inl ⟨_, rfl⟩)⟩
  | frm e w => exact ⟨[(_, none)], e, by simp, rfl, one (.inl ⟨_, rfl⟩)⟩
  | days e b => exact ⟨[(_, none), (_, none)], e, by simp, rfl, two (.inr ⟨_, rfl⟩) (.inr ⟨_, rfl⟩)⟩
  | inn e w => exact ⟨[(_, none)], e, by simp, rfl, one (.inl ⟨_, rfl⟩)⟩
  | mrk e w => exact ⟨[(_, none)], e, by simp, rfl, one (.inl ⟨_, rfl⟩)⟩
  | nt e h => exact ⟨[(_, some _)], e, by simp, rfl, one ⟨_, rfl, h, Nat.lt_succ_self _, Nat.lt_succ_self _⟩⟩
  | thr e h => exact ⟨[(_, some _)], e, by simp, rfl, one ⟨_, rfl, h, Nat.lt_succ_self _, Nat.lt_succ_self _⟩⟩
  | bth e h1 h2 => exact ⟨[(_, some _), (_, some _)], e, by simp, rfl, two ⟨_, rfl, h1, (by show _ < max _ _ + 1; omega), (by show _ < _ + _ + 1; omega)⟩ ⟨_, rfl, h2, (by show _ < max _ _ + 1; omega), (by show _ < _ + _ + 1; omega)⟩⟩
  | eth e h1 h2 => exact ⟨[(_, some _), (_, some _)], e, by simp, rfl, two ⟨_, rfl, h1, (by show _ < max _ _ + 1; omega), (by show _ < _ + _ + 1; omega)⟩ ⟨_, rfl, h2, (by show _ < max _ _ + 1; omega), (by show _ < _ + _ + 1; omega)⟩⟩
theorem Kid.mono {H H' : Hp} {t : Tr} {k : V × Option Tr} (h : Kid H t k) (s : Same H H') : Kid H' t k := by
  obtain ⟨v, o⟩ := k
  cases o with
  | none => exact h
  | some u => obtain ⟨q, e, ht, l⟩ := h; exact ⟨q, e, ht.mono s, l⟩
theorem pss_never {X : Cx} {ss : List Stmt} : PSs X ss (fun _ _ _ => False) := fun _ _ _ _ _ _ h => h.elim
theorem skS {x y : Str} {A B : Prop} (h : decide (x = y) = false) (k : B) : if decide (V.str x = V.str y) = true then A else B := by
  rw [str_eq, h]; exact iteF k
theorem hitS {x : Str} {A B : Prop} (k : A) : if decide (V.str x = V.str x) = true then A else B := by
  rw [decide_eq_true rfl]; exact iteT k
theorem TAt.nin {H H' : Hp} {p : Addr} {t : Tr} (h : TAt H p t) (k : ∀ c o, H c = some o → nIns o = true → H' c = some o) : TAt H' p t := by
  induction h with
  | any e => exact .any (k _ _ e rfl)
  | ans e => exact .ans (k _ _ e rfl)
  | word e w => exact .word (k _ _ e rfl) w
  | title e w => exact .title (k _ _ e rfl) w
  | frm e w => exact .frm (k _ _ e rfl) w
  | days e b => exact .days (k _ _ e rfl) b
  | inn e w => exact .inn (k _ _ e rfl) w
  | mrk e w => exact .mrk (k _ _ e rfl) w
  | nt e _ ih => exact .nt (k _ _ e rfl) ih
  | thr e _ ih => exact .thr (k _ _ e rfl) ih
  | bth e _ _ i1 i2 => exact .bth (k _ _ e rfl) i1 i2
  | eth e _ _ i1 i2 => exact .eth (k _ _ e rfl) i1 i2
/-- a condition all of whose own things are new -/
def CNew (a : Adr) (H H' : Hp) (y : Addr) (t : Tr) : Prop := ∀ H'', (∀ c o, H' c = some o → (H c = none ∨ nIns o = true) → H'' c = some o) → CondAt a H'' y t
theorem CNew.at {a : Adr} {H H' : Hp} {y : Addr} {t : Tr} (h : CNew a H H' y t) : CondAt a H' y t := h H' fun _ _ e _ => e
def spCI (K : PySem.W.Frag) : Sp := fun vs H Q _ => ∃ x dx C p, vs = [.ref x, p] ∧ Cls K C ∧ NoAttr K C "shape" ∧ H x = some (.ins C dx []) ∧ Q .non (upd H x (.ins C dx [("shape", p)]))
def spCond (a : Adr) (n : Nat) : Sp := fun vs H Q _ => ∃ p t, vs = [.ref p] ∧ TAt H p t ∧ t.dp < n ∧ ∀ y H', Same H H' → CNew a H H' y t → Q (.ref y) H'
/-- all but x is kept -/
def spWI (K : PySem.W.Frag) (a : Adr) (n : Nat) : Sp := fun vs H Q _ => ∃ x dx C p s q u, vs = [.ref x, .ref p] ∧ Cls K C ∧ NoAttr K C "shape" ∧ NoAttr K C "inner" ∧ H x = some (.ins C dx []) ∧ H p = some (.tup [.str s, .ref q]) ∧ TAt H q u ∧ u.dp < n ∧
  ∀ y H', (∀ c o, c ≠ x → H c = some o → H' c = some o) → H' x = some (.ins C dx [("shape", .ref p), ("inner", .ref y)]) → CNew a H H' y u → Q .non H'
def spJI (K : PySem.W.Frag) (a : Adr) (n : Nat) : Sp := fun vs H Q _ => ∃ x dx C p s q u r v, vs = [.ref x, .ref p] ∧ Cls K C ∧ NoAttr K C "shape" ∧ NoAttr K C "one" ∧ NoAttr K C "other" ∧ H x = some (.ins C dx []) ∧ H p = some (.tup [.str s, .ref q, .ref r]) ∧ TAt H q u ∧ TAt H r v ∧ u.dp < n ∧ v.dp < n ∧
  ∀ y z H', (∀ c o, c ≠ x → H c = some o → H' c = some o) → H' x = some (.ins C dx [("shape", .ref p), ("one", .ref y), ("other", .ref z)]) → CNew a H H' y u → CNew a H H' z v → Q .non H'
theorem CNew.back {a : Adr} {H H1 H2 : Hp} {y : Addr} {t : Tr} (h : CNew a H1 H2 y t) (e0 : ∀ c, H1 c = none → H c = none) : CNew a H H2 y t := fun H'' k => h H'' fun c u e hc => k c u e (hc.imp (e0 c) id)
theorem CNew.fwd {a : Adr} {H H1 H2 : Hp} {y x : Addr} {t : Tr} (h : CNew a H H1 y t) (k1 : ∀ c o, c ≠ x → H1 c = some o → H2 c = some o) (hx : ∀ o, H1 x = some o → nIns o = false) (hn : H x ≠ none) : CNew a H H2 y t := fun H'' k => h H'' fun c u e hc => by
  have cx : c ≠ x := fun z => by
    subst z
    rcases hc with hc | hc
    · exact hn hc
    · rw [hx u e] at hc; cases hc
  exact k c u (k1 c u cx e) hc
theorem made_same {H : Hp} {x dx C : Addr} (nx : H x = none) (nd : H dx = none) : Same H (upd (upd H dx (.own x)) x (.ins C dx [])) := fun c o e => by rw [upd_ne (ne_of_none e nx), upd_ne (ne_of_none e nd)]; exact e
theorem new_leaf {K : PySem.W.Frag} {a : Adr} {t : Tr} {H : Hp} {p : Addr} {R : VK} {E : XK} (c : Cls K (clsOf a t)) (n : NoAttr K (clsOf a t) "shape") (l : isLeaf t = true) (tt : TAt H p t) (k : ∀ y H', Same H H' → CNew a H H' y t → R (.ref y) H') (x dx : Addr) (nx : H x = none) (nd : H dx = none) (ne : dx ≠ x) :
    spCI K [.ref x, .ref p] (upd (upd H dx (.own x)) x (.ins (clsOf a t) dx [])) (fun v H2 => v = .non ∧ R (.ref x) H2) E := by
  have s1 := made_same (C := clsOf a t) nx nd
  refine ⟨x, dx, _, _, rfl, c, n, upd_same, rfl, k x _ (s1.upd_of nx) fun H'' kk => ?_⟩
  refine .lf l (kk x _ upd_same (.inl nx)) (tt.nin fun c o e z => kk c o (s1.upd_of nx _ _ e) (.inr z))
theorem new_wrap {K : PySem.W.Frag} {a : Adr} {n : Nat} {t u : Tr} {C : Addr} {s : Str} {H : Hp} {p q : Addr} {R : VK} {E : XK} (c : Cls K C) (n1 : NoAttr K C "shape") (n2 : NoAttr K C "inner") (tt : TAt H p t) (e : H p = some (.tup [.str s, .ref q])) (hq : TAt H q u) (hd : u.dp < n) (k : ∀ y H', Same H H' → CNew a H H' y t → R (.ref y) H')
    (mk : ∀ x dx p y H', H' x = some (.ins C dx [("shape", .ref p), ("inner", .ref y)]) → TAt H' p t → CondAt a H' y u → CondAt a H' x t) (x dx : Addr) (nx : H x = none) (nd : H dx = none) (ne : dx ≠ x) :
    spWI K a n [.ref x, .ref p] (upd (upd H dx (.own x)) x (.ins C dx [])) (fun v H2 => v = .non ∧ R (.ref x) H2) E := by
  have s1 := made_same (C := C) nx nd
  refine ⟨x, dx, C, p, s, q, u, rfl, c, n1, n2, upd_same, s1 _ _ e, hq.mono s1, hd, fun y H' kp ex cn => ⟨rfl, ?_⟩⟩
  have s2 : Same H H' := fun c o z => kp c o (ne_of_none z nx) (s1 _ _ z)
  refine k x H' s2 fun H'' kk => mk x dx p y H'' (kk x _ ex (.inl nx)) (tt.nin fun c o z w => kk c o (s2 _ _ z) (.inr w)) (cn H'' fun c o z w => kk c o z (w.imp s1.free id))
theorem new_join {K : PySem.W.Frag} {a : Adr} {n : Nat} {t u v : Tr} {C : Addr} {s : Str} {H : Hp} {p q r : Addr} {R : VK} {E : XK} (c : Cls K C) (n1 : NoAttr K C "shape") (n2 : NoAttr K C "one") (n3 : NoAttr K C "other") (tt : TAt H p t) (e : H p = some (.tup [.str s, .ref q, .ref r])) (hq : TAt H q u) (hr : TAt H r v) (hd : u.dp < n) (hd2 : v.dp < n) (k : ∀ y H', Same H H' → CNew a H H' y t → R (.ref y) H')
    (mk : ∀ x dx p y z H', H' x = some (.ins C dx [("shape", .ref p), ("one", .ref y), ("other", .ref z)]) → TAt H' p t → CondAt a H' y u → CondAt a H' z v → CondAt a H' x t) (x dx : Addr) (nx : H x = none) (nd : H dx = none) (ne : dx ≠ x) :
    spJI K a n [.ref x, .ref p] (upd (upd H dx (.own x)) x (.ins C dx [])) (fun v H2 => v = .non ∧ R (.ref x) H2) E := by
  have s1 := made_same (C := C) nx nd
  refine ⟨x, dx, C, p, s, q, u, r, v, rfl, c, n1, n2, n3, upd_same, s1 _ _ e, hq.mono s1, hr.mono s1, hd, hd2, fun y z H' kp ex cn cn2 => ⟨rfl, ?_⟩⟩
  have s2 : Same H H' := fun c o z => kp c o (ne_of_none z nx) (s1 _ _ z)
  refine k x H' s2 fun H'' kk => mk x dx p y z H'' (kk x _ ex (.inl nx)) (tt.nin fun c o z w => kk c o (s2 _ _ z) (.inr w)) (cn H'' fun c o z w => kk c o z (w.imp s1.free id)) (cn2 H'' fun c o z w => kk c o z (w.imp s1.free id))
section
variable {P : Program} {w : World} {K : PySem.W.Frag} {mg : Str → Option Value} {base : Heap} {a : Adr}
theorem ok_ci {fd : FuncData} (F : Fun K "__init__" "Condition.__init__" sCondition_init a.f_Condition_init fd) (T : Txt K mg a) : FnOk P w K mg base CX0 1 a.f_Condition_init fd ["self", "tree"] (spCI K) := by
  refine F.ok sc_Condition_init (fun vs H Q E h => ?_) (fun cdv A outer s H vs Q E hr h => ?_)
  · obtain ⟨x, dx, C, p, rfl, _⟩ := h; rfl
  · obtain ⟨x, dx, C, p, rfl, c, n, e, k⟩ := h
    exact ⟨_, (pss_one (ps_fld (pv 0) (pv 1) rfl)), ⟨_, rfl, _, rfl, x, _, dx, _, rfl, e, c, n, (by show 0 < 1000; decide), k⟩⟩
theorem ok_wi {fd fdc : FuncData} {n : Nat} (F : Fun K "__init__" "Wrapped.__init__" sWrapped_init a.f_Wrapped_init fd) (T : Txt K mg a) (FF : Funs K a) (F_co : Fun K "condition_of" "condition_of" scondition_of a.f_condition_of fdc) (b_co : Binds K fdc ["tree"] []) (G_co : FnOk P w K mg base CX0 (3 * n + 3) a.f_condition_of fdc ["tree"] (spCond a n)) : FnOk P w K mg base CX0 (3 * n + 4) a.f_Wrapped_init fd ["self", "tree"] (spWI K a n) := by
  obtain ⟨fdA, F_C, b_C⟩ := FF.F_Condition_init
  have G_C : FnOk P w K mg base CX0 1 a.f_Condition_init fdA ["self", "tree"] (spCI K) := ok_ci F_C T
  refine F.ok sc_Wrapped_init (fun vs H Q E h => ?_) (fun cdv A outer st H vs Q E hr h => ?_)
  · obtain ⟨x, dx, C, p, s, q, u, rfl, _⟩ := h; rfl
  · obtain ⟨x, dx, C, p, s, q, u, rfl, c, n1, n2, ex, ep, hq, hd, k⟩ := h
    have hr_co : Room (3 * n + 3) _ := hr
    have hr_C : Room 1 _ := hr_co.mono (by omega)
    refine ⟨_, (pss_cons (ps_expr (pe_clsfn rfl T.mc_Condition T.cf_Condition_init G_C hr_C b_C (pac (pv 0) (pac (pv 1) pa_nil))))
      (pss_one (ps_fld (pv 0) (pe_call G_co hr_co rfl T.m_condition_of F_co.kp b_co .nil pass0 (pac (pe_ix ix_tup (pv 1) pe_int (fun _ _ => rfl)) pa_nil)) rfl))), ?_⟩
    refine ⟨_, rfl, _, rfl, x, dx, C, _, rfl, c, n1, ex, ?_⟩
    have kp1 : ∀ b o, b ≠ x → H b = some o → (upd H x (.ins C dx [("shape", .ref p)])) b = some o := fun b o z e => by rw [upd_ne z]; exact e
    have kn1 : ∀ b o, H b = some o → nIns o = true → (upd H x (.ins C dx [("shape", .ref p)])) b = some o := fun b o e z => kp1 b o (fun y => by rw [y, ex] at e; cases e; cases z) e
    have ex1 : (upd H x (.ins C dx [("shape", .ref p)])) x = some (.ins C dx [("shape", .ref p)]) := upd_same
    generalize upd H x (.ins C dx [("shape", .ref p)]) = H1 at kp1 kn1 ex1 ⊢
    refine ⟨_, rfl, p, _, _, _, rfl, rfl, SqT.of (kn1 _ _ ep rfl), rfl, q, u, rfl, hq.nin kn1, hd, fun y H2 s2 cn => ?_⟩
    have ex2 := s2 _ _ ex1
    refine ⟨_, rfl, x, _, dx, _, rfl, ex2, c, n2, (by show 1 < 1000; decide), ?_⟩
    refine k y _ (fun b o z e => by rw [upd_ne z]; exact s2 _ _ (kp1 b o z e)) upd_same ?_
    refine (cn.fwd (x := x) (H2 := upd H2 x _) (fun b o z e => by rw [upd_ne z]; exact e) (fun o z => by rw [ex2] at z; cases z; rfl) (by rw [ex1]; exact fun z => nomatch z)).back fun b e => ?_
    cases z : H b with
    | none => rfl
    | some o =>
      have bx : b ≠ x := fun y => by rw [y, ex1] at e; cases e
      rw [kp1 b o bx z] at e; cases e
theorem ok_ji {fd fdc : FuncData} {n : Nat} (F : Fun K "__init__" "Joined.__init__" sJoined_init a.f_Joined_init fd) (T : Txt K mg a) (FF : Funs K a) (F_co : Fun K "condition_of" "condition_of" scondition_of a.f_condition_of fdc) (b_co : Binds K fdc ["tree"] []) (G_co : FnOk P w K mg base CX0 (3 * n + 3) a.f_condition_of fdc ["tree"] (spCond a n)) : FnOk P w K mg base CX0 (3 * n + 4) a.f_Joined_init fd ["self", "tree"] (spJI K a n) := by
  obtain ⟨fdA, F_C, b_C⟩ := FF.F_Condition_init
  have G_C : FnOk P w K mg base CX0 1 a.f_Condition_init fdA ["self", "tree"] (spCI K) := ok_ci F_C T
  refine F.ok sc_Joined_init (fun vs H Q E h => ?_) (fun cdv A outer st H vs Q E hr h => ?_)
  · obtain ⟨x, dx, C, p, s, q, u, r, v, rfl, _⟩ := h; rfl
  · obtain ⟨x, dx, C, p, s, q, u, r, v, rfl, c, n1, n2, n3, ex, ep, hq, hr2, hd, hd2, k⟩ := h
    have hr_co : Room (3 * n + 3) _ := hr
    have hr_C : Room 1 _ := hr_co.mono (by omega)
    refine ⟨_, (pss_cons (ps_expr (pe_clsfn rfl T.mc_Condition T.cf_Condition_init G_C hr_C b_C (pac (pv 0) (pac (pv 1) pa_nil))))
      (pss_cons (ps_fld (pv 0) (pe_call G_co hr_co rfl T.m_condition_of F_co.kp b_co .nil pass0 (pac (pe_ix ix_tup (pv 1) pe_int (fun _ _ => rfl)) pa_nil)) rfl)
      (pss_one (ps_fld (pv 0) (pe_call G_co hr_co rfl T.m_condition_of F_co.kp b_co .nil pass0 (pac (pe_ix ix_tup (pv 1) pe_int (fun _ _ => rfl)) pa_nil)) rfl)))), ?_⟩
    refine ⟨_, rfl, _, rfl, x, dx, C, _, rfl, c, n1, ex, ?_⟩
    have kp1 : ∀ b o, b ≠ x → H b = some o → (upd H x (.ins C dx [("shape", .ref p)])) b = some o := fun b o z e => by rw [upd_ne z]; exact e
    have kn1 : ∀ b o, H b = some o → nIns o = true → (upd H x (.ins C dx [("shape", .ref p)])) b = some o := fun b o e z => kp1 b o (fun y => by rw [y, ex] at e; cases e; cases z) e
    have ex1 : (upd H x (.ins C dx [("shape", .ref p)])) x = some (.ins C dx [("shape", .ref p)]) := upd_same
    generalize upd H x (.ins C dx [("shape", .ref p)]) = H1 at kp1 kn1 ex1 ⊢
    have fr1 : ∀ b, H1 b = none → H b = none := fun b e => by
      cases z : H b with
      | none => rfl
      | some o =>
        have bx : b ≠ x := fun y => by rw [y, ex1] at e; cases e
        rw [kp1 b o bx z] at e; cases e
    refine ⟨_, rfl, p, _, _, _, rfl, rfl, SqT.of (kn1 _ _ ep rfl), rfl, q, u, rfl, hq.nin kn1, hd, fun y H2 s2 cn => ?_⟩
    have ex2 := s2 _ _ ex1
    refine ⟨_, rfl, x, _, dx, _, rfl, ex2, c, n2, (by show 1 < 1000; decide), ?_⟩
    have kp3 : ∀ b o, b ≠ x → H2 b = some o → (upd H2 x (.ins C dx (putF "one" (.ref y) [("shape", .ref p)]))) b = some o := fun b o z e => by rw [upd_ne z]; exact e
    have kn3 : ∀ b o, H2 b = some o → nIns o = true → (upd H2 x (.ins C dx (putF "one" (.ref y) [("shape", .ref p)]))) b = some o := fun b o e z => kp3 b o (fun y => by rw [y, ex2] at e; cases e; cases z) e
    have ex3 : (upd H2 x (.ins C dx (putF "one" (.ref y) [("shape", .ref p)]))) x = some (.ins C dx [("shape", .ref p), ("one", .ref y)]) := upd_same
    generalize upd H2 x (.ins C dx (putF "one" (.ref y) [("shape", .ref p)])) = H3 at kp3 kn3 ex3 ⊢
    have cn3 : CNew a H1 H3 y u := cn.fwd (x := x) kp3 (fun o z => by rw [ex2] at z; cases z; rfl) (by rw [ex1]; exact fun z => nomatch z)
    have kn13 : ∀ b o, H b = some o → nIns o = true → H3 b = some o := fun b o e z => kn3 b o (s2 _ _ (kn1 b o e z)) z
    refine ⟨_, rfl, p, _, _, _, rfl, rfl, SqT.of (kn13 _ _ ep rfl), rfl, r, v, rfl, hr2.nin kn13, hd2, fun y2 H4 s4 cn4 => ?_⟩
    have ex4 := s4 _ _ ex3
    refine ⟨_, rfl, x, _, dx, _, rfl, ex4, c, n3, (by show 2 < 1000; decide), ?_⟩
    refine k y y2 _ (fun b o z e => by rw [upd_ne z]; exact s4 _ _ (kp3 b o z (s2 _ _ (kp1 b o z e)))) upd_same ?_ ?_
    · refine CNew.back (H1 := H1) ?_ fr1
      have c4 : CNew a H1 H4 y u := fun H'' kk => cn3 H'' fun c o e z => kk c o (s4 _ _ e) z
      exact c4.fwd (x := x) (fun b o z e => by rw [upd_ne z]; exact e) (fun o z => by rw [ex4] at z; cases z; rfl) (by rw [ex1]; exact fun z => nomatch z)
    · refine CNew.back (H1 := H3) (cn4.fwd (x := x) (fun b o z e => by rw [upd_ne z]; exact e) (fun o z => by rw [ex4] at z; cases z; rfl) (by rw [ex3]; exact fun z => nomatch z)) fun b e => ?_
      have bx : b ≠ x := fun y => by rw [y, ex3] at e; cases e
      cases z : H b with
      | none => rfl
      | some o => rw [kp3 b o bx (s2 _ _ (kp1 b o bx z))] at e; cases e
theorem ok_co {fd : FuncData} (F : Fun K "condition_of" "condition_of" scondition_of a.f_condition_of fd) (b_co : Binds K fd ["tree"] []) (T : Txt K mg a) (FF : Funs K a) : ∀ n, FnOk P w K mg base CX0 (3 * n + 3) a.f_condition_of fd ["tree"] (spCond a n)
  | 0 => by
    refine F.ok sc_condition_of (fun vs H Q E h => ?_) (fun cdv A outer st H vs Q E hr h => ?_)
    · obtain ⟨p, t, rfl, _⟩ := h; rfl
    · obtain ⟨p, t, _, _, h, _⟩ := h; exact absurd h (Nat.not_lt_zero _)
  | n + 1 => by
    have G := ok_co F b_co T FF n
    obtain ⟨fdA, F_C, b_C⟩ := FF.F_Condition_init
    have G_C : FnOk P w K mg base CX0 1 a.f_Condition_init fdA ["self", "tree"] (spCI K) := ok_ci F_C T
    obtain ⟨fdB, F_W, b_W⟩ := FF.F_Wrapped_init
    have G_W : FnOk P w K mg base CX0 (3 * n + 4) a.f_Wrapped_init fdB ["self", "tree"] (spWI K a n) := ok_wi F_W T FF F b_co G
    obtain ⟨fdJ, F_J, b_J⟩ := FF.F_Joined_init
    have G_J : FnOk P w K mg base CX0 (3 * n + 4) a.f_Joined_init fdJ ["self", "tree"] (spJI K a n) := ok_ji F_J T FF F b_co G
    refine F.ok sc_condition_of (fun vs H Q E h => ?_) (fun cdv A outer st H vs Q E hr h => ?_)
    · obtain ⟨p, t, rfl, _⟩ := h; rfl
    obtain ⟨p, t, rfl, tt, hd, k⟩ := h
    have hr_W : Room (3 * n + 4 + 1) _ := hr
    have hr_J := hr_W
    have hr_C : Room (1 + 1) _ := hr_W.mono (by omega)
    refine ⟨_, (pss_cons (ps_set (i := 1) sc_condition_of.nd rfl (Or.inl rfl) (pe_ix ix_tup (pv 0) pe_int (fun _ _ => rfl)))
        (pss_cons (ps_if (pt_cmpR op_eq (pv 1) pe_str (nomark _)) (pss_one (ps_ret (pe_make T.k_Always G_C hr_C rfl T.mc_Always b_C .nil pass0 (pac (pv 0) pa_nil)))) pss_nil)
        (pss_cons (ps_if (pt_cmpR op_eq (pv 1) pe_str (nomark _)) (pss_one (ps_ret (pe_make T.k_HasWord G_C hr_C rfl T.mc_HasWord b_C .nil pass0 (pac (pv 0) pa_nil)))) pss_nil)
        (pss_cons (ps_if (pt_cmpR op_eq (pv 1) pe_str (nomark _)) (pss_one (ps_ret (pe_make T.k_HasTitleWord G_C hr_C rfl T.mc_HasTitleWord b_C .nil pass0 (pac (pv 0) pa_nil)))) pss_nil)
        (pss_cons (ps_if (pt_cmpR op_eq (pv 1) pe_str (nomark _)) (pss_one (ps_ret (pe_make T.k_IsFrom G_C hr_C rfl T.mc_IsFrom b_C .nil pass0 (pac (pv 0) pa_nil)))) pss_nil)
        (pss_cons (ps_if (pt_cmpR op_eq (pv 1) pe_str (nomark _)) (pss_one (ps_ret (pe_make T.k_IsOfDays G_C hr_C rfl T.mc_IsOfDays b_C .nil pass0 (pac (pv 0) pa_nil)))) pss_nil)
        (pss_cons (ps_if (pt_cmpR op_eq (pv 1) pe_str (nomark _)) (pss_one (ps_ret (pe_make T.k_IsIn G_C hr_C rfl T.mc_IsIn b_C .nil pass0 (pac (pv 0) pa_nil)))) pss_nil)
        (pss_cons (ps_if (pt_cmpR op_eq (pv 1) pe_str (nomark _)) (pss_one (ps_ret (pe_make T.k_IsMarked G_C hr_C rfl T.mc_IsMarked b_C .nil pass0 (pac (pv 0) pa_nil)))) pss_nil)
        (pss_cons (ps_if (pt_cmpR op_eq (pv 1) pe_str (nomark _)) (pss_one (ps_ret (pe_make T.k_DoesAnswer G_C hr_C rfl T.mc_DoesAnswer b_C .nil pass0 (pac (pv 0) pa_nil)))) pss_nil)
        (pss_cons (ps_if (pt_cmpR op_eq (pv 1) pe_str (nomark _)) (pss_one (ps_ret (pe_make T.k_Not G_W hr_W rfl T.mc_Not b_W .nil pass0 (pac (pv 0) pa_nil)))) pss_nil)
        (pss_cons (ps_if (pt_cmpR op_eq (pv 1) pe_str (nomark _)) (pss_one (ps_ret (pe_make T.k_Both G_J hr_J rfl T.mc_Both b_J .nil pass0 (pac (pv 0) pa_nil)))) pss_nil)
        (pss_cons (ps_if (pt_cmpR op_eq (pv 1) pe_str (nomark _)) (pss_one (ps_ret (pe_make T.k_Either G_J hr_J rfl T.mc_Either b_J .nil pass0 (pac (pv 0) pa_nil)))) pss_nil)
        (pss_cons (ps_if (pt_cmpR op_eq (pv 1) pe_str (nomark _)) (pss_one (ps_ret (pe_make T.k_InThread G_W hr_W rfl T.mc_InThread b_W .nil pass0 (pac (pv 0) pa_nil)))) pss_nil)
        pss_never))))))))))))), ?_⟩
    have tt' := tt
    cases tt' with
    | any e =>
      refine ⟨_, rfl, p, _, _, _, rfl, rfl, SqT.of e, rfl, ?_⟩
      refine ⟨_, rfl, rfl, _, rfl, hitS ?_⟩
      exact ⟨_, rfl, new_leaf (a := a) (t := .any) T.c_Always T.n_Always_shape rfl tt k⟩
    | word e hw =>
      refine ⟨_, rfl, p, _, _, _, rfl, rfl, SqT.of e, rfl, ?_⟩
      refine ⟨_, rfl, rfl, _, rfl, skS (by decide +kernel) ?_⟩
      refine ⟨_, rfl, rfl, _, rfl, hitS ?_⟩
      exact ⟨_, rfl, new_leaf (a := a) (t := .word _) T.c_HasWord T.n_HasWord_shape rfl tt k⟩
    | title e hw =>
      refine ⟨_, rfl, p, _, _, _, rfl, rfl, SqT.of e, rfl, ?_⟩
      refine ⟨_, rfl, rfl, _, rfl, skS (by decide +kernel) ?_⟩
      refine ⟨_, rfl, rfl, _, rfl, skS (by decide +kernel) ?_⟩
      refine ⟨_, rfl, rfl, _, rfl, hitS ?_⟩
      exact ⟨_, rfl, new_leaf (a := a) (t := .title _) T.c_HasTitleWord T.n_HasTitleWord_shape rfl tt k⟩
    | frm e hw =>
      refine ⟨_, rfl, p, _, _, _, rfl, rfl, SqT.of e, rfl, ?_⟩
      refine ⟨_, rfl, rfl, _, rfl, skS (by decide +kernel) ?_⟩
      refine ⟨_, rfl, rfl, _, rfl, skS (by decide +kernel) ?_⟩
      refine ⟨_, rfl, rfl, _, rfl, skS (by decide +kernel) ?_⟩
      refine ⟨_, rfl, rfl, _, rfl, hitS ?_⟩
      exact ⟨_, rfl, new_leaf (a := a) (t := .frm _) T.c_IsFrom T.n_IsFrom_shape rfl tt k⟩
    | days e hb =>
      refine ⟨_, rfl, p, _, _, _, rfl, rfl, SqT.of e, rfl, ?_⟩
      refine ⟨_, rfl, rfl, _, rfl, skS (by decide +kernel) ?_⟩
      refine ⟨_, rfl, rfl, _, rfl, skS (by decide +kernel) ?_⟩
      refine ⟨_, rfl, rfl, _, rfl, skS (by decide +kernel) ?_⟩
      refine ⟨_, rfl, rfl, _, rfl, skS (by decide +kernel) ?_⟩
      refine ⟨_, rfl, rfl, _, rfl, hitS ?_⟩
      exact ⟨_, rfl, new_leaf (a := a) (t := .days _ _) T.c_IsOfDays T.n_IsOfDays_shape rfl tt k⟩
    | inn e hw =>
      refine ⟨_, rfl, p, _, _, _, rfl, rfl, SqT.of e, rfl, ?_⟩
      refine ⟨_, rfl, rfl, _, rfl, skS (by decide +kernel) ?_⟩
      refine ⟨_, rfl, rfl, _, rfl, skS (by decide +kernel) ?_⟩
      refine ⟨_, rfl, rfl, _, rfl, skS (by decide +kernel) ?_⟩
      refine ⟨_, rfl, rfl, _, rfl, skS (by decide +kernel) ?_⟩
      refine ⟨_, rfl, rfl, _, rfl, skS (by decide +kernel) ?_⟩
      refine ⟨_, rfl, rfl, _, rfl, hitS ?_⟩
      exact ⟨_, rfl, new_leaf (a := a) (t := .inn _) T.c_IsIn T.n_IsIn_shape rfl tt k⟩
    | mrk e hw =>
      refine ⟨_, rfl, p, _, _, _, rfl, rfl, SqT.of e, rfl, ?_⟩
      refine ⟨_, rfl, rfl, _, rfl, skS (by decide +kernel) ?_⟩
      refine ⟨_, rfl, rfl, _, rfl, skS (by decide +kernel) ?_⟩
      refine ⟨_, rfl, rfl, _, rfl, skS (by decide +kernel) ?_⟩
      refine ⟨_, rfl, rfl, _, rfl, skS (by decide +kernel) ?_⟩
      refine ⟨_, rfl, rfl, _, rfl, skS (by decide +kernel) ?_⟩
      refine ⟨_, rfl, rfl, _, rfl, skS (by decide +kernel) ?_⟩
      refine ⟨_, rfl, rfl, _, rfl, hitS ?_⟩
      exact ⟨_, rfl, new_leaf (a := a) (t := .mrk _) T.c_IsMarked T.n_IsMarked_shape rfl tt k⟩
    | ans e =>
      refine ⟨_, rfl, p, _, _, _, rfl, rfl, SqT.of e, rfl, ?_⟩
      refine ⟨_, rfl, rfl, _, rfl, skS (by decide +kernel) ?_⟩
      refine ⟨_, rfl, rfl, _, rfl, skS (by decide +kernel) ?_⟩
      refine ⟨_, rfl, rfl, _, rfl, skS (by decide +kernel) ?_⟩
      refine ⟨_, rfl, rfl, _, rfl, skS (by decide +kernel) ?_⟩
      refine ⟨_, rfl, rfl, _, rfl, skS (by decide +kernel) ?_⟩
      refine ⟨_, rfl, rfl, _, rfl, skS (by decide +kernel) ?_⟩
      refine ⟨_, rfl, rfl, _, rfl, skS (by decide +kernel) ?_⟩
      refine ⟨_, rfl, rfl, _, rfl, hitS ?_⟩
      exact ⟨_, rfl, new_leaf (a := a) (t := .ans) T.c_DoesAnswer T.n_DoesAnswer_shape rfl tt k⟩
    | nt e hq =>
      refine ⟨_, rfl, p, _, _, _, rfl, rfl, SqT.of e, rfl, ?_⟩
      refine ⟨_, rfl, rfl, _, rfl, skS (by decide +kernel) ?_⟩
      refine ⟨_, rfl, rfl, _, rfl, skS (by decide +kernel) ?_⟩
      refine ⟨_, rfl, rfl, _, rfl, skS (by decide +kernel) ?_⟩
      refine ⟨_, rfl, rfl, _, rfl, skS (by decide +kernel) ?_⟩
      refine ⟨_, rfl, rfl, _, rfl, skS (by decide +kernel) ?_⟩
      refine ⟨_, rfl, rfl, _, rfl, skS (by decide +kernel) ?_⟩
      refine ⟨_, rfl, rfl, _, rfl, skS (by decide +kernel) ?_⟩
      refine ⟨_, rfl, rfl, _, rfl, skS (by decide +kernel) ?_⟩
      refine ⟨_, rfl, rfl, _, rfl, hitS ?_⟩
      exact ⟨_, rfl, new_wrap (a := a) (n := n) T.c_Not T.n_Not_shape T.n_Not_inner tt e hq (by simp only [Tr.dp] at hd; omega) k fun x dx p' y H' h1 h2 h3 => .nt h1 h2 h3⟩
    | bth e hq hr2 =>
      refine ⟨_, rfl, p, _, _, _, rfl, rfl, SqT.of e, rfl, ?_⟩
      refine ⟨_, rfl, rfl, _, rfl, skS (by decide +kernel) ?_⟩
      refine ⟨_, rfl, rfl, _, rfl, skS (by decide +kernel) ?_⟩
      refine ⟨_, rfl, rfl, _, rfl, skS (by decide +kernel) ?_⟩
      refine ⟨_, rfl, rfl, _, rfl, skS (by decide +kernel) ?_⟩
      refine ⟨_, rfl, rfl, _, rfl, skS (by decide +kernel) ?_⟩
      refine ⟨_, rfl, rfl, _, rfl, skS (by decide +kernel) ?_⟩
      refine ⟨_, rfl, rfl, _, rfl, skS (by decide +kernel) ?_⟩
      refine ⟨_, rfl, rfl, _, rfl, skS (by decide +kernel) ?_⟩
      refine ⟨_, rfl, rfl, _, rfl, skS (by decide +kernel) ?_⟩
      refine ⟨_, rfl, rfl, _, rfl, hitS ?_⟩
      exact ⟨_, rfl, new_join (a := a) (n := n) T.c_Both T.n_Both_shape T.n_Both_one T.n_Both_other tt e hq hr2 (by simp only [Tr.dp] at hd; omega) (by simp only [Tr.dp] at hd; omega) k fun x dx p' y z H' h1 h2 h3 h4 => .bth h1 h2 h3 h4⟩
    | eth e hq hr2 =>
      refine ⟨_, rfl, p, _, _, _, rfl, rfl, SqT.of e, rfl, ?_⟩
      refine ⟨_, rfl, rfl, _, rfl, skS (by decide +kernel) ?_⟩
      refine ⟨_, rfl, rfl, _, rfl, skS (by decide +kernel) ?_⟩
      refine ⟨_, rfl, rfl, _, rfl, skS (by decide +kernel) ?_⟩
      refine ⟨_, rfl, rfl, _, rfl, skS (by decide +kernel) ?_⟩
      refine ⟨_, rfl, rfl, _, rfl, skS (by decide +kernel) ?_⟩
      refine ⟨_, rfl, rfl, _, rfl, skS (by decide +kernel) ?_⟩
      refine ⟨_, rfl, rfl, _, rfl, skS (by decide +kernel) ?_⟩
      refine ⟨_, rfl, rfl, _, rfl, skS (by decide +kernel) ?_⟩
      refine ⟨_, rfl, rfl, _, rfl, skS (by decide +kernel) ?_⟩
      refine ⟨_, rfl, rfl, _, rfl, skS (by decide +kernel) ?_⟩
      refine ⟨_, rfl, rfl, _, rfl, hitS ?_⟩
      exact ⟨_, rfl, new_join (a := a) (n := n) T.c_Either T.n_Either_shape T.n_Either_one T.n_Either_other tt e hq hr2 (by simp only [Tr.dp] at hd; omega) (by simp only [Tr.dp] at hd; omega) k fun x dx p' y z H' h1 h2 h3 h4 => .eth h1 h2 h3 h4⟩
    | thr e hq =>
      refine ⟨_, rfl, p, _, _, _, rfl, rfl, SqT.of e, rfl, ?_⟩
      refine ⟨_, rfl, rfl, _, rfl, skS (by decide +kernel) ?_⟩
      refine ⟨_, rfl, rfl, _, rfl, skS (by decide +kernel) ?_⟩
      refine ⟨_, rfl, rfl, _, rfl, skS (by decide +kernel) ?_⟩
      refine ⟨_, rfl, rfl, _, rfl, skS (by decide +kernel) ?_⟩
      refine ⟨_, rfl, rfl, _, rfl, skS (by decide +kernel) ?_⟩
      refine ⟨_, rfl, rfl, _, rfl, skS (by decide +kernel) ?_⟩
      refine ⟨_, rfl, rfl, _, rfl, skS (by decide +kernel) ?_⟩
      refine ⟨_, rfl, rfl, _, rfl, skS (by decide +kernel) ?_⟩
      refine ⟨_, rfl, rfl, _, rfl, skS (by decide +kernel) ?_⟩
      refine ⟨_, rfl, rfl, _, rfl, skS (by decide +kernel) ?_⟩
      refine ⟨_, rfl, rfl, _, rfl, skS (by decide +kernel) ?_⟩
      refine ⟨_, rfl, rfl, _, rfl, hitS ?_⟩
      exact ⟨_, rfl, new_wrap (a := a) (n := n) T.c_InThread T.n_InThread_shape T.n_InThread_inner tt e hq (by simp only [Tr.dp] at hd; omega) k fun x dx p' y H' h1 h2 h3 => .thr h1 h2 h3⟩
end
/-- all but R is kept -/
def KR (R : Addr) (H H' : Hp) : Prop := ∀ c o, c ≠ R → H c = some o → H' c = some o
theorem KR.of {R : Addr} {H H' : Hp} (h : Same H H') : KR R H H' := fun c o _ e => h c o e
theorem KR.refl (R : Addr) (H : Hp) : KR R H H := fun _ _ _ e => e
theorem KR.trans {R : Addr} {H H1 H2 : Hp} (a : KR R H H1) (b : KR R H1 H2) : KR R H H2 := fun c o n e => b c o n (a c o n e)
theorem KR.upd {R : Addr} {H H' : Hp} {o : HO} (k : KR R H H') : KR R H (upd H' R o) := fun c u n e => by rw [upd_ne n]; exact k c u n e
structure RdAt (a : Adr) (H : Hp) (R : Addr) (rs : List Str) : Prop where
  ex : ∃ (dx l : Addr) (ps : List Str) (k : Nat) (row : V), H R = some (.ins a.C_Reader dx [("pieces", .ref l), ("at", .int (k : Int)), ("row", row)]) ∧ H l = some (.lst (ps.map V.str)) ∧ ps.drop k = rs ∧ k ≤ ps.length ∧ ps.length ≤ 1000000
theorem RdAt.mono {a : Adr} {H H' : Hp} {R : Addr} {rs : List Str} (h : RdAt a H R rs) (s : Same H H') : RdAt a H' R rs := by
  obtain ⟨dx, l, ps, k, row, e1, e2, r⟩ := h.ex
  exact ⟨dx, l, ps, k, row, s _ _ e1, s _ _ e2, r⟩
theorem TAt.kr {a : Adr} {H H' : Hp} {R p : Addr} {t : Tr} {rs : List Str} (h : TAt H p t) (r : RdAt a H R rs) (k : KR R H H') : TAt H' p t := by
  obtain ⟨dx, l, ps, n, row, e1, _⟩ := r.ex
  exact h.tups fun c xs e => k c _ (ne_of e e1 (fun z => nomatch z)) e
/-- what the next piece is -/
def hd1 : List Str → Str
  | [] => ""
  | p :: _ => p
inductive spAhead_I (a : Adr) (vs : List V) (H : Hp) (Q : VK) : Prop
  | mk : ∀ R (rs : List Str), vs = [.ref R] → RdAt a H R rs → Q (.str (hd1 rs)) H → spAhead_I a vs H Q
def spAhead (a : Adr) : Sp := fun vs H Q _ => spAhead_I a vs H Q
inductive spStep_I (a : Adr) (vs : List V) (H : Hp) (Q : VK) : Prop
  | mk : ∀ R p rs, vs = [.ref R] → RdAt a H R (p :: rs) → (∀ H', KR R H H' → RdAt a H' R rs → Q (.str p) H') → spStep_I a vs H Q
def spStep (a : Adr) : Sp := fun vs H Q _ => spStep_I a vs H Q
inductive spPass_I (a : Adr) (vs : List V) (H : Hp) (Q : VK) : Prop
  | yes : ∀ R p rs, vs = [.ref R, .str p] → RdAt a H R (p :: rs) → (∀ H', KR R H H' → RdAt a H' R rs → Q (.bl true) H') → spPass_I a vs H Q
  | no : ∀ R p rs, vs = [.ref R, .str p] → RdAt a H R rs → hd1 rs ≠ p → Q (.bl false) H → spPass_I a vs H Q
  | fin : ∀ R, vs = [.ref R, .str ""] → RdAt a H R [] → (∀ H', KR R H H' → Q (.bl true) H') → spPass_I a vs H Q
def spPass (a : Adr) : Sp := fun vs H Q _ => spPass_I a vs H Q
inductive spExp_I (a : Adr) (vs : List V) (H : Hp) (Q : VK) : Prop
  | yes : ∀ R p rs, vs = [.ref R, .str p] → RdAt a H R (p :: rs) → (∀ H', KR R H H' → RdAt a H' R rs → Q .non H') → spExp_I a vs H Q
  | fin : ∀ R, vs = [.ref R, .str ""] → RdAt a H R [] → (∀ H', KR R H H' → Q .non H') → spExp_I a vs H Q
def spExp (a : Adr) : Sp := fun vs H Q _ => spExp_I a vs H Q
section
variable {P : Program} {w : World} {K : PySem.W.Frag} {mg : Str → Option Value} {base : Heap} {a : Adr}
theorem ok_ahead {fd : FuncData} (F : Fun K "ahead" "Reader.ahead" sReader_ahead a.f_Reader_ahead fd) (T : Txt K mg a) : FnOk P w K mg base CX0 1 a.f_Reader_ahead fd ["self"] (spAhead a) := by
  refine F.ok sc_Reader_ahead (fun vs H Q E h => ?_) (fun cdv A outer st H vs Q E hr h => ?_)
  · obtain ⟨R, rs, rfl, _⟩ := h; rfl
  · obtain ⟨R, rs, rfl, hR, k⟩ := h
    obtain ⟨dx, l, ps, n, row, eR, el, hd, hn, hl⟩ := hR.ex
    refine ⟨_, (pss_one (ps_ret (pe_ifExp (pt_cmpR op_lt (pe_fld (pv 0) rfl) (pe_callB call_len_seq rfl T.b_len PySem.boot_len (pac (pe_fld (pv 0) rfl) pa_nil)) (nomark _)) (pe_ix ix_list (pe_fld (pv 0) rfl) (pe_fld (pv 0) rfl) (fun _ _ => rfl)) (pe_gl rfl T.g_END)))), ?_⟩
    refine ⟨_, rfl, R, _, dx, _, _, rfl, eR, T.c_Reader, T.n_Reader_at, rfl, _, rfl, R, _, dx, _, _, rfl, eR, T.c_Reader, T.n_Reader_pieces, rfl, l, _, rfl, .inl (SqL.of el), _, _, rfl, rfl, _, rfl, ?_⟩
    rw [List.length_map]
    cases rs with
    | nil =>
      have : ¬ ((n : Int) < (ps.length : Int)) := fun z => by
        have e := congrArg List.length hd
        rw [List.length_drop, List.length_nil] at e
        omega
      rw [decide_eq_false this]
      exact iteF k
    | cons p r =>
      have hlt : n < ps.length := by
        have e := congrArg List.length hd
        rw [List.length_drop, List.length_cons] at e
        omega
      have hp : ps[n]? = some p := by
        have e := congrArg (fun z : List Str => z[0]?) hd
        rw [List.getElem?_drop, Nat.add_zero] at e
        exact e
      rw [decide_eq_true (by omega)]
      exact iteT ⟨_, rfl, R, _, dx, _, _, rfl, eR, T.c_Reader, T.n_Reader_pieces, rfl, _, rfl, R, _, dx, _, _, rfl, eR, T.c_Reader, T.n_Reader_at, rfl, l, _, _, V.str p, rfl, rfl, SqL.of el, atI_nat (by rw [List.getElem?_map, hp]; rfl), k⟩
end
theorem pss_nev {X : Cx} {ss : List Stmt} : PSs X ss (fun _ _ _ => False) := fun _ _ _ _ _ _ h => h.elim
theorem isW_of {x : Str} (h : WordS x) : isW x = true := by
  unfold isW
  have h1 := h.lo
  have h2 := h.hi
  rw [decide_eq_true (by omega), decide_eq_true (by omega), Bool.true_and, Bool.true_and]
  exact List.all_eq_true.mpr fun c hc => decide_eq_true (h.in_ c hc)
theorem RdAt.go {a : Adr} {H : Hp} {R dx l : Addr} {ps : List Str} {k : Nat} {row : V} {p : Str} {rs : List Str} (eR : H R = some (.ins a.C_Reader dx [("pieces", .ref l), ("at", .int (k : Int)), ("row", row)])) (el : H l = some (.lst (ps.map V.str))) (hd : ps.drop k = p :: rs) (hn : k ≤ ps.length) (hl : ps.length ≤ 1000000) :
    RdAt a (upd H R (.ins a.C_Reader dx (putF "at" (.int ((k : Int) + 1)) [("pieces", .ref l), ("at", .int (k : Int)), ("row", row)]))) R rs := by
  have hlt : k < ps.length := by
    have e := congrArg List.length hd
    rw [List.length_drop, List.length_cons] at e
    omega
  refine ⟨dx, l, ps, k + 1, row, ?_, ?_, ?_, hlt, hl⟩
  · rw [upd_same]; rfl
  · rw [upd_ne (ne_of el eR (fun z => nomatch z))]; exact el
  · have e := congrArg (List.drop 1) hd
    rw [List.drop_drop] at e
    exact e
section
variable {P : Program} {w : World} {K : PySem.W.Frag} {mg : Str → Option Value} {base : Heap} {a : Adr}
theorem ok_step {fd : FuncData} (F : Fun K "step" "Reader.step" sReader_step a.f_Reader_step fd) (T : Txt K mg a) (FF : Funs K a) : FnOk P w K mg base CX0 2 a.f_Reader_step fd ["self"] (spStep a) := by
  obtain ⟨fd1, F1, b_Reader_ahead⟩ := FF.F_Reader_ahead
  have G_Reader_ahead : FnOk P w K mg base CX0 1 a.f_Reader_ahead fd1 ["self"] (spAhead a) := ok_ahead F1 T
  refine F.ok sc_Reader_step (fun vs H Q E h => ?_) (fun cdv A outer st H vs Q E hr h => ?_)
  · obtain ⟨R, p, rs, rfl, _⟩ := h; rfl
  · obtain ⟨R, p, rs, rfl, hR, k⟩ := h
    have hr_Reader_ahead : Room 1 _ := hr
    obtain ⟨dx, l, ps, n, row, eR, el, hd, hn, hl⟩ := id hR.ex
    refine ⟨_, (pss_cons (ps_set (i := 1) sc_Reader_step.nd rfl (Or.inl rfl) (pe_meth0 (pv 0) T.c_Reader T.M_Reader_ahead G_Reader_ahead hr_Reader_ahead b_Reader_ahead .nil pass0))
      (pss_cons (ps_fldaug (pv 0) pe_int in_add) (pss_one (ps_ret (pv 1))))), ?_⟩
    refine ⟨_, rfl, R, dx, _, rfl, eR, rfl, R, _, rfl, hR, ?_⟩
    refine ⟨_, rfl, R, _, dx, _, _, rfl, eR, T.c_Reader, T.n_Reader_at, rfl, _, _, rfl, rfl, dx, _, eR, (by show 3 < 1000; decide), ?_⟩
    exact ⟨_, rfl, k _ (KR.refl R H).upd (RdAt.go eR el hd hn hl)⟩
theorem ok_pass {fd : FuncData} (F : Fun K "passes" "Reader.passes" sReader_passes a.f_Reader_passes fd) (T : Txt K mg a) (FF : Funs K a) : FnOk P w K mg base CX0 2 a.f_Reader_passes fd ["self", "wanted"] (spPass a) := by
  obtain ⟨fd1, F1, b_Reader_ahead⟩ := FF.F_Reader_ahead
  have G_Reader_ahead : FnOk P w K mg base CX0 1 a.f_Reader_ahead fd1 ["self"] (spAhead a) := ok_ahead F1 T
  refine F.ok sc_Reader_passes (fun vs H Q E h => ?_) (fun cdv A outer st H vs Q E hr h => ?_)
  · cases h with
    | yes R p rs e => rw [e]; rfl
    | no R p rs e => rw [e]; rfl
    | fin R e => rw [e]; rfl
  · have hr_Reader_ahead : Room 1 _ := hr
    refine ⟨_, (pss_cons (ps_if (pt_cmpR op_ne (pe_meth0 (pv 0) T.c_Reader T.M_Reader_ahead G_Reader_ahead hr_Reader_ahead b_Reader_ahead .nil pass0) (pv 1) (nomark _)) (pss_one (ps_ret pe_bl)) pss_nil)
      (pss_cons (ps_fldaug (pv 0) pe_int in_add) (pss_one (ps_ret pe_bl)))), ?_⟩
    cases h with
    | yes R p rs e hR k =>
      subst e
      obtain ⟨dx, l, ps, n, row, eR, el, hd, hn, hl⟩ := id hR.ex
      refine ⟨_, rfl, R, dx, _, rfl, eR, rfl, R, _, rfl, hR, _, rfl, rfl, _, rfl, ?_⟩
      rw [str_ne, decide_eq_true (show hd1 (p :: rs) = p from rfl)]
      refine iteF ⟨_, rfl, R, _, dx, _, _, rfl, eR, T.c_Reader, T.n_Reader_at, rfl, _, _, rfl, rfl, dx, _, eR, (by show 3 < 1000; decide), ?_⟩
      exact k _ (KR.refl R H).upd (RdAt.go eR el hd hn hl)
    | no R p rs e hR hne k =>
      subst e
      obtain ⟨dx, l, ps, n, row, eR, el, hd, hn, hl⟩ := id hR.ex
      refine ⟨_, rfl, R, dx, _, rfl, eR, rfl, R, _, rfl, hR, _, rfl, rfl, _, rfl, ?_⟩
      rw [str_ne, decide_eq_false hne]
      exact iteT k
    | fin R e hR k =>
      subst e
      obtain ⟨dx, l, ps, n, row, eR, el, hd, hn, hl⟩ := id hR.ex
      refine ⟨_, rfl, R, dx, _, rfl, eR, rfl, R, _, rfl, hR, _, rfl, rfl, _, rfl, ?_⟩
      rw [str_ne, decide_eq_true (show hd1 [] = ("" : Str) from rfl)]
      refine iteF ⟨_, rfl, R, _, dx, _, _, rfl, eR, T.c_Reader, T.n_Reader_at, rfl, _, _, rfl, rfl, dx, _, eR, (by show 3 < 1000; decide), ?_⟩
      exact k _ (KR.refl R H).upd
theorem ok_exp {fd : FuncData} (F : Fun K "expect" "Reader.expect" sReader_expect a.f_Reader_expect fd) (T : Txt K mg a) (FF : Funs K a) : FnOk P w K mg base CX0 3 a.f_Reader_expect fd ["self", "wanted"] (spExp a) := by
  obtain ⟨fd1, F1, b_Reader_passes⟩ := FF.F_Reader_passes
  have G_Reader_passes : FnOk P w K mg base CX0 2 a.f_Reader_passes fd1 ["self", "wanted"] (spPass a) := ok_pass F1 T FF
  refine F.ok sc_Reader_expect (fun vs H Q E h => ?_) (fun cdv A outer st H vs Q E hr h => ?_)
  · cases h with
    | yes R p rs e => rw [e]; rfl
    | fin R e => rw [e]; rfl
  · have hr_Reader_passes : Room 2 _ := hr
    refine ⟨_, (pss_one (ps_if (pt_not (pt_val (pe_meth (pv 0) T.c_Reader T.M_Reader_passes G_Reader_passes hr_Reader_passes b_Reader_passes .nil pass0 (pac (pv 1) pa_nil)))) pss_nev pss_nil)), ?_⟩
    cases h with
    | yes R p rs e hR k =>
      subst e
      obtain ⟨dx, l, ps, n, row, eR, _⟩ := id hR.ex
      exact ⟨_, rfl, R, dx, _, rfl, eR, rfl, _, rfl, .yes R p rs rfl hR fun H' k1 r1 => ⟨_, rfl, iteF (k H' k1 r1)⟩⟩
    | fin R e hR k =>
      subst e
      obtain ⟨dx, l, ps, n, row, eR, _⟩ := id hR.ex
      exact ⟨_, rfl, R, dx, _, rfl, eR, rfl, _, rfl, .fin R rfl hR fun H' k1 => ⟨_, rfl, iteF (k H' k1)⟩⟩
end
structure NumS (x : Str) (n : Int) : Prop where
  lo : 1 ≤ x.length
  hi : x.length ≤ 4
  fg : (x.cps.toList.all fun c => decide (c ∈ ("0123456789" : Str).cps.toList)) = true
  v : PySem.intText? x = some n
  n0 : 0 ≤ n
  n1 : n ≤ 9999
inductive LeafR : Str → List Str → Tr → List Str → Prop
  | any {r : List Str} : LeafR "any" r .any r
  | ans {r : List Str} : LeafR "answers" r .ans r
  | word {w : Str} {r : List Str} : WordS w → LeafR "word" (w :: r) (.word w) r
  | title {w : Str} {r : List Str} : WordS w → LeafR "title" (w :: r) (.title w) r
  | frm {w : Str} {r : List Str} : WordS w → LeafR "from" (w :: r) (.frm w) r
  | inn {w : Str} {r : List Str} : WordS w → LeafR "in" (w :: r) (.inn w) r
  | mrk {w : Str} {r : List Str} : WordS w → LeafR "marked" (w :: r) (.mrk w) r
  | dayto {x y : Str} {l h : Int} {r : List Str} : NumS x l → NumS y h → LeafR "day" (x :: "to" :: y :: r) (.days l h) r
  | day {x : Str} {l : Int} {r : List Str} : NumS x l → hd1 r ≠ "to" → LeafR "day" (x :: r) (.days l l) r
  | before {x : Str} {n : Int} {r : List Str} : NumS x n → 1 ≤ n → LeafR "before" (x :: r) (.days 0 (n - 1)) r
  | after {x : Str} {n : Int} {r : List Str} : NumS x n → n ≤ 9998 → LeafR "after" (x :: r) (.days (n + 1) 9999) r
inductive spRWd_I (a : Adr) (vs : List V) (H : Hp) (Q : VK) : Prop
  | mk : ∀ R p rs, vs = [.ref R] → RdAt a H R (p :: rs) → WordS p → (∀ H', KR R H H' → RdAt a H' R rs → Q (.str p) H') → spRWd_I a vs H Q
def spRWd (a : Adr) : Sp := fun vs H Q _ => spRWd_I a vs H Q
inductive spRNm_I (a : Adr) (vs : List V) (H : Hp) (Q : VK) : Prop
  | mk : ∀ R x rs n (lo hi : Int), vs = [.ref R, .int lo, .int hi] → RdAt a H R (x :: rs) → NumS x n → lo ≤ n → n ≤ hi → (∀ H', KR R H H' → RdAt a H' R rs → Q (.int n) H') → spRNm_I a vs H Q
def spRNm (a : Adr) : Sp := fun vs H Q _ => spRNm_I a vs H Q
inductive spRLf_I (a : Adr) (vs : List V) (H : Hp) (Q : VK) : Prop
  | mk : ∀ R p rs t rest, vs = [.ref R, .str p] → RdAt a H R rs → LeafR p rs t rest → (∀ q H', KR R H H' → RdAt a H' R rest → TAt H' q t → Q (.ref q) H') → spRLf_I a vs H Q
def spRLf (a : Adr) : Sp := fun vs H Q _ => spRLf_I a vs H Q
section
variable {P : Program} {w : World} {K : PySem.W.Frag} {mg : Str → Option Value} {base : Heap} {a : Adr}
theorem ok_rwd {fd : FuncData} (F : Fun K "read_word" "Reader.read_word" sReader_read_word a.f_Reader_read_word fd) (T : Txt K mg a) (FF : Funs K a) : FnOk P w K mg base CX0 3 a.f_Reader_read_word fd ["self"] (spRWd a) := by
  obtain ⟨fd1, F1, b_Reader_step⟩ := FF.F_Reader_step
  have G_Reader_step : FnOk P w K mg base CX0 2 a.f_Reader_step fd1 ["self"] (spStep a) := ok_step F1 T FF
  obtain ⟨fd2, F_is_word, b_is_word⟩ := FF.F_is_word
  have G_is_word : FnOk P w K mg base CX0 2 a.f_is_word fd2 ["thing"] (spIsWord K) := ok_isword F_is_word T FF
  refine F.ok sc_Reader_read_word (fun vs H Q E h => ?_) (fun cdv A outer st H vs Q E hr h => ?_)
  · obtain ⟨R, p, rs, rfl, _⟩ := h; rfl
  · obtain ⟨R, p, rs, rfl, hR, hw, k⟩ := h
    have hr2 : Room 2 _ := hr
    obtain ⟨dx, l, ps, n, row, eR, _⟩ := id hR.ex
    refine ⟨_, (pss_cons (ps_set (i := 1) sc_Reader_read_word.nd rfl (Or.inl rfl) (pe_meth0 (pv 0) T.c_Reader T.M_Reader_step G_Reader_step hr2 b_Reader_step .nil pass0))
      (pss_cons (ps_if (pt_not (pt_val (pe_call G_is_word hr2 rfl T.m_is_word F_is_word.kp b_is_word .nil pass0 (pac (pv 1) pa_nil)))) pss_nev pss_nil)
      (pss_one (ps_ret (pv 1))))), ?_⟩
    refine ⟨_, rfl, R, dx, _, rfl, eR, rfl, R, p, rs, rfl, hR, fun H1 k1 r1 => ?_⟩
    have := hw.hi
    refine ⟨_, rfl, .inl ⟨p, rfl, by omega, fun H2 s2 => ⟨_, rfl, ?_⟩⟩⟩
    rw [isW_of hw]
    exact iteF ⟨_, rfl, k H2 (k1.trans (KR.of s2)) (r1.mono s2)⟩
theorem ok_rnm {fd : FuncData} (F : Fun K "read_number" "Reader.read_number" sReader_read_number a.f_Reader_read_number fd) (T : Txt K mg a) (FF : Funs K a) : FnOk P w K mg base CX0 3 a.f_Reader_read_number fd ["self", "least", "most"] (spRNm a) := by
  obtain ⟨fd1, F1, b_Reader_step⟩ := FF.F_Reader_step
  have G_Reader_step : FnOk P w K mg base CX0 2 a.f_Reader_step fd1 ["self"] (spStep a) := ok_step F1 T FF
  obtain ⟨fd2, F_all_among, b_all_among⟩ := FF.F_all_among
  have G_all_among : FnOk P w K mg base CX0 1 a.f_all_among fd2 ["text", "signs"] spAmong := ok_among F_all_among T
  refine F.ok sc_Reader_read_number (fun vs H Q E h => ?_) (fun cdv A outer st H vs Q E hr h => ?_)
  · obtain ⟨R, x, rs, n, lo, hi, rfl, _⟩ := h; rfl
  · obtain ⟨R, x, rs, n, lo, hi, rfl, hR, hx, h1, h2, k⟩ := h
    have hr2 : Room 2 _ := hr
    have hr1 : Room 1 _ := hr2.mono (by decide)
    obtain ⟨dx, l, ps, m, row, eR, _⟩ := id hR.ex
    have x1 := hx.lo
    have x2 := hx.hi
    refine ⟨_, (pss_cons (ps_set (i := 3) sc_Reader_read_number.nd rfl (Or.inl rfl) (pe_meth0 (pv 0) T.c_Reader T.M_Reader_step G_Reader_step hr2 b_Reader_step .nil pass0))
      (pss_cons (ps_if (PW.pt (pw_or (pt_not (pt_chain op_le op_le pe_int (pe_callB call_len_str rfl T.b_len PySem.boot_len (pac (pv 3) pa_nil)) (pe_gl rfl T.g_DAY_FIGURES))) (pw_or1 (pt_not (pt_val (pe_call G_all_among hr1 rfl T.m_all_among F_all_among.kp b_all_among .nil pass0 (pac (pv 3) (pac (pe_gl rfl T.g_FIGURES) pa_nil)))))))) pss_nev pss_nil)
      (pss_cons (ps_set (i := 4) sc_Reader_read_number.nd rfl (Or.inl rfl) (pe_callTy call_int_text rfl T.b_int PyProof.Rows.boot_int (pac (pv 3) pa_nil)))
      (pss_cons (ps_if (pt_not (pt_chain op_le op_le (pv 1) (pv 4) (pv 2))) pss_nev pss_nil)
      (pss_one (ps_ret (pv 4))))))), ?_⟩
    refine ⟨_, rfl, R, dx, _, rfl, eR, rfl, R, x, rs, rfl, hR, fun H1 k1 r1 => ?_⟩
    refine ⟨_, rfl, x, rfl, Nat.le_of_lt (small1000 (by omega)), _, _, rfl, rfl, _, rfl, ?_⟩
    rw [decide_eq_true (by omega)]
    refine iteT ⟨_, _, rfl, rfl, _, rfl, ?_⟩
    rw [decide_eq_true (by omega)]
    refine iteF ⟨_, rfl, x, _, rfl, by omega, fun H2 s2 => ⟨_, rfl, ?_⟩⟩
    rw [hx.fg]
    refine iteF ⟨_, rfl, x, n, rfl, by omega, hx.v, ?_⟩
    refine ⟨_, rfl, _, rfl, _, _, rfl, rfl, _, rfl, ?_⟩
    rw [decide_eq_true h1]
    refine iteT ⟨_, rfl, _, _, rfl, rfl, _, rfl, ?_⟩
    rw [decide_eq_true h2]
    exact iteF ⟨_, rfl, k H2 (k1.trans (KR.of s2)) (r1.mono s2)⟩
end
theorem in_yes {p : Str} {xs : List Str} {A B : Prop} (e : decide (p ∈ xs) = true) (h : A) : if (if false = true then !inV (.str p) (xs.map V.str) else inV (.str p) (xs.map V.str)) = true then A else B := by
  have e2 : (if false = true then !inV (.str p) (xs.map V.str) else inV (.str p) (xs.map V.str)) = true := by rw [if_neg Bool.false_ne_true, inV_strs, e]
  rw [if_pos e2]; exact h
theorem in_no {p : Str} {xs : List Str} {A B : Prop} (e : decide (p ∈ xs) = false) (h : B) : if (if false = true then !inV (.str p) (xs.map V.str) else inV (.str p) (xs.map V.str)) = true then A else B := by
  have e2 : ¬ (if false = true then !inV (.str p) (xs.map V.str) else inV (.str p) (xs.map V.str)) = true := by rw [if_neg Bool.false_ne_true, inV_strs, e]; exact Bool.false_ne_true
  rw [if_neg e2]; exact h
theorem skS' {x y : Str} {A B : Prop} (h : decide (x = y) = false) (k : B) : if decide (V.str x = V.str y) = true then A else B := by
  rw [str_eq, h]; exact iteF k
theorem hitS' {x : Str} {A B : Prop} (k : A) : if decide (V.str x = V.str x) = true then A else B := by
  rw [decide_eq_true rfl]; exact iteT k
section
variable {P : Program} {w : World} {K : PySem.W.Frag} {mg : Str → Option Value} {base : Heap} {a : Adr}
theorem ok_rlf {fd : FuncData} (F : Fun K "read_leaf" "Reader.read_leaf" sReader_read_leaf a.f_Reader_read_leaf fd) (T : Txt K mg a) (FF : Funs K a) : FnOk P w K mg base CX0 4 a.f_Reader_read_leaf fd ["self", "kind"] (spRLf a) := by
  obtain ⟨fd1, F1, b_Reader_read_word⟩ := FF.F_Reader_read_word
  have G_Reader_read_word : FnOk P w K mg base CX0 3 a.f_Reader_read_word fd1 ["self"] (spRWd a) := ok_rwd F1 T FF
  obtain ⟨fd2, F2, b_Reader_read_number⟩ := FF.F_Reader_read_number
  have G_Reader_read_number : FnOk P w K mg base CX0 3 a.f_Reader_read_number fd2 ["self", "least", "most"] (spRNm a) := ok_rnm F2 T FF
  obtain ⟨fd3, F3, b_Reader_passes⟩ := FF.F_Reader_passes
  have G_Reader_passes : FnOk P w K mg base CX0 2 a.f_Reader_passes fd3 ["self", "wanted"] (spPass a) := ok_pass F3 T FF
  obtain ⟨SB, mB, hB⟩ := T.gt_BARE
  obtain ⟨SW, mW, hW⟩ := T.gt_WORDED
  refine F.ok sc_Reader_read_leaf (fun vs H Q E h => ?_) (fun cdv A outer st H vs Q E hr h => ?_)
  · obtain ⟨R, p, rs, t, rest, rfl, _⟩ := h; rfl
  · obtain ⟨R, p, rs, t, rest, rfl, hR, hL, k⟩ := h
    have hr3 : Room 3 _ := hr
    have hr2 : Room 2 _ := hr3.mono (by decide)
    obtain ⟨dx, l, ps, m, row, eR, _⟩ := id hR.ex
    have reR : ∀ {H1 : Hp} {rs1 : List Str}, RdAt a H1 R rs1 → ∃ dx fs, H1 R = some (.ins a.C_Reader dx fs) ∧ fs.lookup ("read_word" : Str) = none ∧ fs.lookup ("read_number" : Str) = none ∧ fs.lookup ("passes" : Str) = none := fun r => by
      obtain ⟨dx, l, ps, m, row, e, _⟩ := r.ex
      exact ⟨dx, _, e, rfl, rfl, rfl⟩
    refine ⟨_, (pss_cons (ps_if (pt_cmpR op_in_seq (pv 1) (pe_gl (v := .ref SB) rfl ⟨_, mB, rfl⟩) (by with_unfolding_all rfl)) (pss_one (ps_ret (pe_tupG (pas_cons (pv 1) pas_nil)))) pss_nil)
      (pss_cons (ps_if (pt_cmpR op_in_seq (pv 1) (pe_gl (v := .ref SW) rfl ⟨_, mW, rfl⟩) (by with_unfolding_all rfl)) (pss_one (ps_ret (pe_tupG (pas_cons (pv 1) (pas_cons (pe_meth0 (pv 0) T.c_Reader T.M_Reader_read_word G_Reader_read_word hr3 b_Reader_read_word .nil pass0) pas_nil))))) pss_nil)
      (pss_cons (ps_if (pt_cmpR op_eq (pv 1) pe_str (nomark _)) (pss_cons (ps_set (i := 2) sc_Reader_read_leaf.nd rfl (Or.inl rfl) (pe_meth (pv 0) T.c_Reader T.M_Reader_read_number G_Reader_read_number hr3 b_Reader_read_number .nil pass0 (pac pe_int (pac (pe_gl rfl T.g_LAST_DAY) pa_nil))))
        (pss_cons (ps_set (i := 3) sc_Reader_read_leaf.nd rfl (Or.inl rfl) (pe_ifExp (pt_val (pe_meth (pv 0) T.c_Reader T.M_Reader_passes G_Reader_passes hr2 b_Reader_passes .nil pass0 (pac pe_str pa_nil))) (pe_meth (pv 0) T.c_Reader T.M_Reader_read_number G_Reader_read_number hr3 b_Reader_read_number .nil pass0 (pac pe_int (pac (pe_gl rfl T.g_LAST_DAY) pa_nil))) (pv 2)))
        (pss_one (ps_ret (pe_tupG (pas_cons pe_str (pas_cons (pv 2) (pas_cons (pv 3) pas_nil)))))))) pss_nil)
      (pss_cons (ps_if (pt_cmpR op_eq (pv 1) pe_str (nomark _)) (pss_one (ps_ret (pe_tupG (pas_cons pe_str (pas_cons pe_int (pas_cons (pe_op op_sub (pe_meth (pv 0) T.c_Reader T.M_Reader_read_number G_Reader_read_number hr3 b_Reader_read_number .nil pass0 (pac pe_int (pac (pe_gl rfl T.g_LAST_DAY) pa_nil))) pe_int) pas_nil)))))) pss_nil)
      (pss_cons (ps_if (pt_cmpR op_eq (pv 1) pe_str (nomark _)) (pss_one (ps_ret (pe_tupG (pas_cons pe_str (pas_cons (pe_op op_add (pe_meth (pv 0) T.c_Reader T.M_Reader_read_number G_Reader_read_number hr3 b_Reader_read_number .nil pass0 (pac pe_int (pac (pe_op op_sub (pe_gl rfl T.g_LAST_DAY) pe_int) pa_nil))) pe_int) (pas_cons (pe_gl rfl T.g_LAST_DAY) pas_nil)))))) pss_nil)
      pss_nev))))), ?_⟩
    cases hL with
    | any => exact ⟨_, rfl, SB, _, rfl, .inr (hB H), rfl, flat_strs _, _, rfl, in_yes (by decide +kernel) ⟨_, rfl, (by show 1 ≤ sizeLine; decide), fun q H2 nq s2 e2 => k q H2 (KR.of s2) (hR.mono s2) (.any e2)⟩⟩
    | ans => exact ⟨_, rfl, SB, _, rfl, .inr (hB H), rfl, flat_strs _, _, rfl, in_yes (by decide +kernel) ⟨_, rfl, (by show 1 ≤ sizeLine; decide), fun q H2 nq s2 e2 => k q H2 (KR.of s2) (hR.mono s2) (.ans e2)⟩⟩
    | word hw => exact ⟨_, rfl, SB, _, rfl, .inr (hB H), rfl, flat_strs _, _, rfl, in_no (by decide +kernel) ⟨_, rfl, SW, _, rfl, .inr (hW H), rfl, flat_strs _, _, rfl, in_yes (by decide +kernel) ⟨_, rfl, _, rfl, R, dx, _, rfl, eR, rfl, R, _, _, rfl, hR, hw, fun H1 k1 r1 => ⟨(by show 2 ≤ sizeLine; decide), fun q H2 nq s2 e2 => k q H2 (k1.trans (KR.of s2)) (r1.mono s2) (.word e2 hw)⟩⟩⟩⟩
    | title hw => exact ⟨_, rfl, SB, _, rfl, .inr (hB H), rfl, flat_strs _, _, rfl, in_no (by decide +kernel) ⟨_, rfl, SW, _, rfl, .inr (hW H), rfl, flat_strs _, _, rfl, in_yes (by decide +kernel) ⟨_, rfl, _, rfl, R, dx, _, rfl, eR, rfl, R, _, _, rfl, hR, hw, fun H1 k1 r1 => ⟨(by show 2 ≤ sizeLine; decide), fun q H2 nq s2 e2 => k q H2 (k1.trans (KR.of s2)) (r1.mono s2) (.title e2 hw)⟩⟩⟩⟩
    | frm hw => exact ⟨_, rfl, SB, _, rfl, .inr (hB H), rfl, flat_strs _, _, rfl, in_no (by decide +kernel) ⟨_, rfl, SW, _, rfl, .inr (hW H), rfl, flat_strs _, _, rfl, in_yes (by decide +kernel) ⟨_, rfl, _, rfl, R, dx, _, rfl, eR, rfl, R, _, _, rfl, hR, hw, fun H1 k1 r1 => ⟨(by show 2 ≤ sizeLine; decide), fun q H2 nq s2 e2 => k q H2 (k1.trans (KR.of s2)) (r1.mono s2) (.frm e2 hw)⟩⟩⟩⟩
    | inn hw => exact ⟨_, rfl, SB, _, rfl, .inr (hB H), rfl, flat_strs _, _, rfl, in_no (by decide +kernel) ⟨_, rfl, SW, _, rfl, .inr (hW H), rfl, flat_strs _, _, rfl, in_yes (by decide +kernel) ⟨_, rfl, _, rfl, R, dx, _, rfl, eR, rfl, R, _, _, rfl, hR, hw, fun H1 k1 r1 => ⟨(by show 2 ≤ sizeLine; decide), fun q H2 nq s2 e2 => k q H2 (k1.trans (KR.of s2)) (r1.mono s2) (.inn e2 hw)⟩⟩⟩⟩
    | mrk hw => exact ⟨_, rfl, SB, _, rfl, .inr (hB H), rfl, flat_strs _, _, rfl, in_no (by decide +kernel) ⟨_, rfl, SW, _, rfl, .inr (hW H), rfl, flat_strs _, _, rfl, in_yes (by decide +kernel) ⟨_, rfl, _, rfl, R, dx, _, rfl, eR, rfl, R, _, _, rfl, hR, hw, fun H1 k1 r1 => ⟨(by show 2 ≤ sizeLine; decide), fun q H2 nq s2 e2 => k q H2 (k1.trans (KR.of s2)) (r1.mono s2) (.mrk e2 hw)⟩⟩⟩⟩
    | dayto hx hy =>
      refine ⟨_, rfl, SB, _, rfl, .inr (hB H), rfl, flat_strs _, _, rfl, in_no (by decide +kernel) ⟨_, rfl, SW, _, rfl, .inr (hW H), rfl, flat_strs _, _, rfl, in_no (by decide +kernel) ⟨_, rfl, rfl, _, rfl, hitS' ?_⟩⟩⟩
      refine ⟨_, rfl, R, dx, _, rfl, eR, rfl, R, _, _, _, 0, 9999, rfl, hR, hx, hx.n0, hx.n1, fun H1 k1 r1 => ?_⟩
      obtain ⟨d1, f1, eR1, z1, z2, z3⟩ := reR r1
      refine ⟨_, rfl, R, d1, _, rfl, eR1, z3, .yes R "to" _ rfl r1 fun H2 k2 r2 => ⟨_, rfl, iteT ?_⟩⟩
      obtain ⟨d2, f2, eR2, z1, z2, z3⟩ := reR r2
      refine ⟨_, rfl, R, d2, _, rfl, eR2, z2, R, _, _, _, 0, 9999, rfl, r2, hy, hy.n0, hy.n1, fun H3 k3 r3 => ?_⟩
      exact ⟨_, rfl, _, rfl, (by show 3 ≤ sizeLine; decide), fun q H4 nq s4 e4 => k q H4 (((k1.trans k2).trans k3).trans (KR.of s4)) (r3.mono s4) (.days e4 ⟨hx.n0, hx.n1, hy.n0, hy.n1⟩)⟩
    | day hx hne =>
      refine ⟨_, rfl, SB, _, rfl, .inr (hB H), rfl, flat_strs _, _, rfl, in_no (by decide +kernel) ⟨_, rfl, SW, _, rfl, .inr (hW H), rfl, flat_strs _, _, rfl, in_no (by decide +kernel) ⟨_, rfl, rfl, _, rfl, hitS' ?_⟩⟩⟩
      refine ⟨_, rfl, R, dx, _, rfl, eR, rfl, R, _, _, _, 0, 9999, rfl, hR, hx, hx.n0, hx.n1, fun H1 k1 r1 => ?_⟩
      obtain ⟨d1, f1, eR1, z1, z2, z3⟩ := reR r1
      refine ⟨_, rfl, R, d1, _, rfl, eR1, z3, .no R "to" _ rfl r1 hne ⟨_, rfl, iteF ⟨_, rfl, ?_⟩⟩⟩
      exact ⟨_, rfl, _, rfl, (by show 3 ≤ sizeLine; decide), fun q H4 nq s4 e4 => k q H4 (k1.trans (KR.of s4)) (r1.mono s4) (.days e4 ⟨hx.n0, hx.n1, hx.n0, hx.n1⟩)⟩
    | before hx h1 =>
      have n1 := hx.n1
      refine ⟨_, rfl, SB, _, rfl, .inr (hB H), rfl, flat_strs _, _, rfl, in_no (by decide +kernel) ⟨_, rfl, SW, _, rfl, .inr (hW H), rfl, flat_strs _, _, rfl, in_no (by decide +kernel) ⟨_, rfl, rfl, _, rfl, skS' (by decide +kernel) ⟨_, rfl, rfl, _, rfl, hitS' ?_⟩⟩⟩⟩
      refine ⟨_, rfl, R, dx, _, rfl, eR, rfl, R, _, _, _, 1, 9999, rfl, hR, hx, h1, hx.n1, fun H1 k1 r1 => ?_⟩
      exact ⟨_, _, rfl, rfl, (by show 3 ≤ sizeLine; decide), fun q H4 nq s4 e4 => k q H4 (k1.trans (KR.of s4)) (r1.mono s4) (.days e4 ⟨by omega, by omega, by omega, by omega⟩)⟩
    | after hx h1 =>
      have n0 := hx.n0
      refine ⟨_, rfl, SB, _, rfl, .inr (hB H), rfl, flat_strs _, _, rfl, in_no (by decide +kernel) ⟨_, rfl, SW, _, rfl, .inr (hW H), rfl, flat_strs _, _, rfl, in_no (by decide +kernel) ⟨_, rfl, rfl, _, rfl, skS' (by decide +kernel) ⟨_, rfl, rfl, _, rfl, skS' (by decide +kernel) ⟨_, rfl, rfl, _, rfl, hitS' ?_⟩⟩⟩⟩⟩
      refine ⟨_, rfl, R, dx, _, rfl, eR, rfl, _, _, rfl, rfl, R, _, _, _, 0, 9999 - 1, rfl, hR, hx, hx.n0, by omega, fun H1 k1 r1 => ?_⟩
      exact ⟨_, _, rfl, rfl, (by show 3 ≤ sizeLine; decide), fun q H4 nq s4 e4 => k q H4 (k1.trans (KR.of s4)) (r1.mono s4) (.days e4 ⟨by omega, by omega, by omega, by omega⟩)⟩
end
theorem kitTT {K : PySem.W.Frag} : PySem.W.kitOne K (.type "tuple") (.type "tuple") = some true := by unfold PySem.W.kitOne; rw [if_pos (beq_self_eq_true _)]
theorem kitST {K : PySem.W.Frag} : PySem.W.kitOne K (.type "str") (.type "tuple") = some false := by kernel_rfl
theorem kitIT {K : PySem.W.Frag} : PySem.W.kitOne K (.type "int") (.type "tuple") = some false := by kernel_rfl
theorem cut1 (x : V) (xs : List V) : cutV (x :: xs) (some 1) none = xs := by
  have h := cut_from (fun v : V => v) (x :: xs) 1 (by decide)
  simpa using h
theorem dp_subs (t : Tr) : (1 : Int) + mxd 0 ((subs t).map fun u => (u.dp : Int) + 1) = (t.dp : Int) + 1 := by
  cases t with
  | nt u => show (1 : Int) + ((u.dp : Int) + 1) = ((u.dp + 1 : Nat) : Int) + 1; omega
  | thr u => show (1 : Int) + ((u.dp : Int) + 1) = ((u.dp + 1 : Nat) : Int) + 1; omega
  | bth u v => show (1 : Int) + max ((u.dp : Int) + 1) ((v.dp : Int) + 1) = ((max u.dp v.dp + 1 : Nat) : Int) + 1; omega
  | eth u v => show (1 : Int) + max ((u.dp : Int) + 1) ((v.dp : Int) + 1) = ((max u.dp v.dp + 1 : Nat) : Int) + 1; omega
  | any => rfl
  | ans => rfl
  | word _ => rfl
  | title _ => rfl
  | frm _ => rfl
  | days _ _ => rfl
  | inn _ => rfl
  | mrk _ => rfl
def kdp (k : V × Option Tr) : V := match k.2 with
  | none => .int 0
  | some u => .int ((u.dp : Int) + 1)
theorem kdp_map : ∀ ks : List (V × Option Tr), (ks.filter fun k => k.2.isSome).map kdp = ((ks.filterMap (·.2)).map fun u => (u.dp : Int) + 1).map V.int
  | [] => rfl
  | (v, none) :: ks => kdp_map ks
  | (v, some u) :: ks => by
    show kdp (v, some u) :: (ks.filter fun k => k.2.isSome).map kdp = V.int ((u.dp : Int) + 1) :: ((ks.filterMap (·.2)).map fun u => (u.dp : Int) + 1).map V.int
    rw [kdp_map ks]; rfl
inductive spDeep_I (n : Nat) (vs : List V) (H : Hp) (Q : VK) : Prop
  | mk : ∀ p t, vs = [.ref p] → TAt H p t → t.dp < n → (∀ H', Same H H' → Q (.int ((t.dp : Int) + 1)) H') → spDeep_I n vs H Q
def spDeep (n : Nat) : Sp := fun vs H Q _ => spDeep_I n vs H Q
inductive spChk_I (vs : List V) (H : Hp) (Q : VK) : Prop
  | mk : ∀ R p t, vs = [.ref R, .ref p] → TAt H p t → t.dp < 30 → (∀ H', Same H H' → Q (.ref p) H') → spChk_I vs H Q
def spChk : Sp := fun vs H Q _ => spChk_I vs H Q
section
variable {P : Program} {w : World} {K : PySem.W.Frag} {mg : Str → Option Value} {base : Heap} {a : Adr}
theorem ok_deep {fd : FuncData} (F : Fun K "deep" "deep" sdeep a.f_deep fd) (b_deep : Binds K fd ["tree"] []) (T : Txt K mg a) : ∀ n, FnOk P w K mg base CX0 (n + 1) a.f_deep fd ["tree"] (spDeep n)
  | 0 => by
    refine F.ok sc_deep (fun vs H Q E h => ?_) (fun cdv A outer st H vs Q E hr h => ?_)
    · obtain ⟨p, t, rfl, _⟩ := h; rfl
    · obtain ⟨p, t, _, _, h, _⟩ := h; exact absurd h (Nat.not_lt_zero _)
  | n + 1 => by
    have G_deep := ok_deep F b_deep T n
    refine F.ok sc_deep (fun vs H Q E h => ?_) (fun cdv A outer st H vs Q E hr h => ?_)
    · obtain ⟨p, t, rfl, _⟩ := h; rfl
    obtain ⟨p, t, rfl, tt, hd, k⟩ := h
    have hr_deep : Room (n + 1) _ := hr
    refine ⟨_, (pss_one (ps_ret (pe_op op_add pe_int (pe_maxd rfl rfl T.b_max (pe_comp (sc := defScope sdeep) (N := n_deep) (fr := []) ⟨rfl, rfl, by decide +kernel, by decide +kernel, by decide +kernel, by decide +kernel, by decide +kernel⟩ rfl rfl rfl (pi_tup (pe_slice sl_tupG (pv 0) (po_some pe_int) po_none)) (fun _ _ _ _ => pts_one (pt_val (pe_callB (call_isinstK K) rfl T.b_isinstance PyProof.Rows.boot_isinstance (pac (pv 0) (pac (pe_bltn (v := .ty "tuple") rfl T.b_tuple PyProof.Rows.boot_tuple rfl) pa_nil))))) (fun _ _ _ _ => (pe_call G_deep hr_deep rfl T.m_deep F.kp b_deep .nil pass0 (pac (pv 0) pa_nil)))))))), ?_⟩
    obtain ⟨ks, e, hl, hsub, hm⟩ := tt.kids
    refine ⟨_, rfl, _, rfl, p, _, rfl, e, fun q H1 s1 e1 => ?_⟩
    rw [cut1] at e1
    refine ⟨q, rfl, ⟨_, SqT.of e1⟩, comp_tupFG (xs := ks) (fun k => k.1) (fun k => k.2.isSome) kdp (Nat.le_of_lt (small1000 (by omega))) (SqT.of e1) (fun kd H3 Q' hk s3 kq => ?_) (fun kd H3 Q' hk s3 hp kq => ?_) fun D H2 nD s2 eD => ?_⟩
    · have hkd := (hm kd hk).mono (s1.trans s3)
      obtain ⟨v, ou⟩ := kd
      cases ou with
      | none =>
        rcases hkd with ⟨y, rfl⟩ | ⟨y, rfl⟩
        · exact ⟨_, rfl, _, _, _, _, _, rfl, rfl, TyOf.str _, kitST, _, rfl, kq H3 (Same.refl _)⟩
        · exact ⟨_, rfl, _, _, _, _, _, rfl, rfl, TyOf.int _, kitIT, _, rfl, kq H3 (Same.refl _)⟩
      | some u =>
        obtain ⟨r, rfl, hu, _⟩ := hkd
        obtain ⟨ks', er, _⟩ := hu.kids
        exact ⟨_, rfl, _, _, _, _, _, rfl, rfl, TyOf.tup er, kitTT, _, rfl, kq H3 (Same.refl _)⟩
    · have hkd := (hm kd hk).mono (s1.trans s3)
      obtain ⟨v, ou⟩ := kd
      cases ou with
      | none => cases hp
      | some u =>
        obtain ⟨r, rfl, hu, hud, _⟩ := hkd
        exact ⟨_, rfl, r, u, rfl, hu, by omega, fun H4 s4 => kq H4 s4⟩
    · rw [kdp_map, ← hsub] at eD
      refine ⟨D, _, rfl, SqL.of eD, _, _, rfl, rfl, ?_⟩
      rw [dp_subs]
      exact k H2 (s1.trans s2)
theorem ok_chk {fd : FuncData} (F : Fun K "checked" "Reader.checked" sReader_checked a.f_Reader_checked fd) (T : Txt K mg a) (FF : Funs K a) : FnOk P w K mg base CX0 32 a.f_Reader_checked fd ["self", "tree"] spChk := by
  obtain ⟨fd1, F1, b_deep⟩ := FF.F_deep
  have G_deep : FnOk P w K mg base CX0 31 a.f_deep fd1 ["tree"] (spDeep 30) := ok_deep F1 b_deep T 30
  refine F.ok sc_Reader_checked (fun vs H Q E h => ?_) (fun cdv A outer st H vs Q E hr h => ?_)
  · obtain ⟨R, p, t, rfl, _⟩ := h; rfl
  · obtain ⟨R, p, t, rfl, ht, hd, k⟩ := h
    have hr_deep : Room 31 _ := hr
    refine ⟨_, (pss_cons (ps_if (pt_cmpR op_gt (pe_call G_deep hr_deep rfl T.m_deep F1.kp b_deep .nil pass0 (pac (pv 1) pa_nil)) (pe_gl rfl T.g_MOST_DEEP) (nomark _)) pss_nev pss_nil) (pss_one (ps_ret (pv 1)))), ?_⟩
    refine ⟨_, rfl, p, t, rfl, ht, hd, fun H1 s1 => ⟨_, _, rfl, rfl, _, rfl, ?_⟩⟩
    rw [decide_eq_false (by omega)]
    exact iteF ⟨_, rfl, k H1 s1⟩
end
inductive BL (w : Str) (mk : Tr → Tr → Tr) (S : List Str → Tr → List Str → Prop) : Tr → List Str → Tr → List Str → Prop
  | stop {t : Tr} {rs : List Str} : hd1 rs ≠ w → BL w mk S t rs t rs
  | more {t u t' : Tr} {r r' rest : List Str} : S r u r' → (mk t u).dp < 30 → BL w mk S (mk t u) r' t' rest → BL w mk S t (w :: r) t' rest
def RB (S : List Str → Tr → List Str → Prop) (ps : List Str) (t : Tr) (rest : List Str) : Prop := ∃ t0 r0, S ps t0 r0 ∧ BL "and" .bth S t0 r0 t rest
def RE (S : List Str → Tr → List Str → Prop) (ps : List Str) (t : Tr) (rest : List Str) : Prop := ∃ t0 r0, RB S ps t0 r0 ∧ BL "or" .eth (RB S) t0 r0 t rest
def RS : Nat → Nat → List Str → Tr → List Str → Prop
  | 0, _, _, _, _ => False
  | n + 1, th, ps, t, rest => ∃ p r, ps = p :: r ∧ (LeafR p r t rest ∨ (p = ("not" : Str) ∧ th ≤ 2 ∧ ∃ u, RS n th r u rest ∧ t = .nt u ∧ t.dp < 30) ∨ (p = ("thread" : Str) ∧ th < 2 ∧ ∃ u, RS n (th + 1) r u rest ∧ t = .thr u ∧ t.dp < 30) ∨ (p = ("(" : Str) ∧ th ≤ 2 ∧ RE (RS n th) r t ((")" : Str) :: rest)))
def Shr (S : List Str → Tr → List Str → Prop) : Prop := ∀ rs t rest, S rs t rest → rest.length ≤ rs.length
theorem BL.shr {w : Str} {mk : Tr → Tr → Tr} {S : List Str → Tr → List Str → Prop} (h : Shr S) {t t' : Tr} {rs rest : List Str} (b : BL w mk S t rs t' rest) : rest.length ≤ rs.length := by
  induction b with
  | stop _ => exact Nat.le_refl _
  | more s _ _ ih => have := h _ _ _ s; rw [List.length_cons]; omega
theorem RB.shr {S : List Str → Tr → List Str → Prop} (h : Shr S) : Shr (RB S) := fun rs t rest ⟨t0, r0, s, b⟩ => Nat.le_trans (b.shr h) (h _ _ _ s)
theorem RE.shr {S : List Str → Tr → List Str → Prop} (h : Shr S) : Shr (RE S) := fun rs t rest ⟨t0, r0, s, b⟩ => Nat.le_trans (b.shr (RB.shr h)) (RB.shr h _ _ _ s)
theorem LeafR.shr {p : Str} {r : List Str} {t : Tr} {rest : List Str} (h : LeafR p r t rest) : rest.length ≤ r.length := by
  cases h <;> simp <;> omega
theorem RS.shr : ∀ n th, Shr (RS n th)
  | 0, _, _, _, _, h => h.elim
  | n + 1, th, rs, t, rest, ⟨p, r, e, h⟩ => by
    rw [e, List.length_cons]
    rcases h with h | ⟨_, _, u, h, _⟩ | ⟨_, _, u, h, _⟩ | ⟨_, _, h⟩
    · have := h.shr; omega
    · have := RS.shr n th _ _ _ h; omega
    · have := RS.shr n (th + 1) _ _ _ h; omega
    · have := RE.shr (RS.shr n th) _ _ _ h; rw [List.length_cons] at this; omega
def remOf (H : Hp) (R : Addr) : Nat := match H R with
  | some (.ins _ _ [(_, .ref l), (_, .int k), _]) => (match H l with | some (.lst xs) => xs.length - k.toNat | _ => 0)
  | _ => 0
theorem RdAt.rem {a : Adr} {H : Hp} {R : Addr} {rs : List Str} (h : RdAt a H R rs) : remOf H R = rs.length := by
  obtain ⟨dx, l, ps, k, row, eR, el, hd, hn, _⟩ := h.ex
  unfold remOf
  rw [eR]
  show (match H l with | some (.lst xs) => xs.length - (k : Int).toNat | _ => 0) = _
  rw [el, ← hd]
  show (ps.map V.str).length - (k : Int).toNat = _
  rw [List.length_map, List.length_drop, Int.toNat_natCast]
theorem RdAt.at {a : Adr} {H : Hp} {R : Addr} {rs : List Str} (r : RdAt a H R rs) : ∃ dx fs, H R = some (.ins a.C_Reader dx fs) ∧ fs.lookup ("passes" : Str) = none ∧ fs.lookup ("checked" : Str) = none ∧ fs.lookup ("read_single" : Str) = none ∧ fs.lookup ("read_both" : Str) = none ∧ fs.lookup ("read_either" : Str) = none ∧ fs.lookup ("read_leaf" : Str) = none ∧ fs.lookup ("expect" : Str) = none ∧ fs.lookup ("step" : Str) = none ∧ fs.lookup ("read_whole" : Str) = none := by
  obtain ⟨dx, l, ps, m, row, e, _⟩ := r.ex
  exact ⟨dx, _, e, rfl, rfl, rfl, rfl, rfl, rfl, rfl, rfl, rfl⟩
inductive spRd_I (a : Adr) (S : List Str → Tr → List Str → Prop) (w th : Int) (vs : List V) (H : Hp) (Q : VK) : Prop
  | mk : ∀ R rs t rest, vs = [.ref R, .int w, .int th] → RdAt a H R rs → S rs t rest → (∀ q H', KR R H H' → RdAt a H' R rest → TAt H' q t → Q (.ref q) H') → spRd_I a S w th vs H Q
def spRd (a : Adr) (S : List Str → Tr → List Str → Prop) (w th : Int) : Sp := fun vs H Q _ => spRd_I a S w th vs H Q
theorem spPass_I.mono {a : Adr} {vs : List V} {H : Hp} {Q Q' : VK} (h : spPass_I a vs H Q) (k : ∀ v H', Q v H' → Q' v H') : spPass_I a vs H Q' := by
  cases h with
  | yes R p rs e r q => exact .yes R p rs e r fun H' k1 r1 => k _ _ (q H' k1 r1)
  | no R p rs e r n q => exact .no R p rs e r n (k _ _ q)
  | fin R e r q => exact .fin R e r fun H' k1 => k _ _ (q H' k1)
section
variable {P : Program} {w : World} {K : PySem.W.Frag} {mg : Str → Option Value} {base : Heap} {a : Adr}
theorem ok_both {fd fds : FuncData} {k : Nat} {S : List Str → Tr → List Str → Prop} {wi th : Int} (F : Fun K "read_both" "Reader.read_both" sReader_read_both a.f_Reader_read_both fd) (T : Txt K mg a) (FF : Funs K a) (hk : 32 ≤ k) (hS : Shr S) (b_s : Binds K fds ["self", "within", "threads"] []) (G : FnOk P w K mg base CX0 k a.f_Reader_read_single fds ["self", "within", "threads"] (spRd a S wi th)) : FnOk P w K mg base CX0 (k + 1) a.f_Reader_read_both fd ["self", "within", "threads"] (spRd a (RB S) wi th) := by
  obtain ⟨fd1, F1, b_p⟩ := FF.F_Reader_passes
  have Gp : FnOk P w K mg base CX0 2 a.f_Reader_passes fd1 ["self", "wanted"] (spPass a) := ok_pass F1 T FF
  obtain ⟨fd2, F2, b_c⟩ := FF.F_Reader_checked
  have Gc : FnOk P w K mg base CX0 32 a.f_Reader_checked fd2 ["self", "tree"] spChk := ok_chk F2 T FF
  refine F.ok sc_Reader_read_both (fun vs H Q E h => ?_) (fun cdv A outer st H vs Q E hr h => ?_)
  · obtain ⟨R, rs, t, rest, rfl, _⟩ := h; rfl
  · obtain ⟨R, rs, t, rest, rfl, hR, ⟨t0, r0, s0, b0⟩, kk⟩ := h
    have hrk : Room k _ := hr
    have hr2 : Room 2 _ := hrk.mono (by omega)
    have hr32 : Room 32 _ := hrk.mono hk
    refine ⟨_, (pss_cons (ps_set (i := 3) sc_Reader_read_both.nd rfl (Or.inl rfl) (pe_meth (pv 0) T.c_Reader T.M_Reader_read_single G hrk b_s .nil pass0 (pac (pv 1) (pac (pv 2) pa_nil))))
      (pss_cons (ps_while PassesOwn.never (pt_val (pe_meth (pv 0) T.c_Reader T.M_Reader_passes Gp hr2 b_p .nil pass0 (pac pe_str pa_nil))) (pss_one (ps_set (i := 3) sc_Reader_read_both.nd rfl (Or.inl rfl) (pe_meth (pv 0) T.c_Reader T.M_Reader_checked Gc hr32 b_c .nil pass0 (pac (pe_tupG (pas_cons pe_str (pas_cons (pv 3) (pas_cons (pe_meth (pv 0) T.c_Reader T.M_Reader_read_single G hrk b_s .nil pass0 (pac (pv 1) (pac (pv 2) pa_nil))) pas_nil)))) pa_nil)))))
      (pss_one (ps_ret (pv 3))))), ?_⟩
    obtain ⟨dx, fs, eR, z1, z2, z3, z4, z5, z6, z7, z8, z9⟩ := hR.at
    refine ⟨_, rfl, R, dx, _, rfl, eR, z3, _, rfl, _, rfl, R, rs, t0, r0, rfl, hR, s0, fun q0 H1 k1 r1 ht1 => ?_⟩
    refine while_by (fun σ H2 => ∃ q t1 rs1, σ = [some (.ref R), some (.int wi), some (.int th), some (.ref q)] ∧ KR R H H2 ∧ RdAt a H2 R rs1 ∧ TAt H2 q t1 ∧ BL "and" .bth S t1 rs1 t rest) (fun σ H2 => remOf H2 R) ⟨q0, t0, r0, rfl, k1, r1, ht1, b0⟩ ?_ ?_
    · rintro σ H2 ⟨q, t1, rs1, rfl, k2, r2, ht2, b2⟩
      obtain ⟨dx2, fs2, eR2, y1, y2, y3, _⟩ := r2.at
      cases b2 with
      | stop hne => exact ⟨_, rfl, R, dx2, _, rfl, eR2, y1, .no R "and" _ rfl r2 hne ⟨_, rfl, iteF ⟨_, rfl, kk q H2 k2 r2 ht2⟩⟩⟩
      | more s hdp b3 =>
        refine ⟨_, rfl, R, dx2, _, rfl, eR2, y1, .yes R "and" _ rfl r2 fun H3 k3 r3 => ⟨_, rfl, iteT ?_⟩⟩
        obtain ⟨dx3, fs3, eR3, x1, x2, x3, _⟩ := r3.at
        have ht3 := ht2.kr r2 k3
        refine ⟨_, rfl, R, dx3, _, rfl, eR3, x2, _, rfl, _, rfl, R, dx3, _, rfl, eR3, x3, _, rfl, _, rfl, R, _, _, _, rfl, r3, s, fun q2 H4 k4 r4 ht4 => ⟨(by show 3 ≤ sizeLine; decide), fun q3 H5 nq s5 e5 => ?_⟩⟩
        have ht5 : TAt H5 q3 (.bth t1 _) := .bth e5 ((ht3.kr r3 k4).mono s5) (ht4.mono s5)
        refine ⟨R, q3, _, rfl, ht5, hdp, fun H6 s6 => ?_⟩
        have r6 := (r4.mono s5).mono s6
        refine ⟨⟨q3, _, _, rfl, ((k2.trans k3).trans k4).trans (KR.of (s5.trans s6)), r6, ht5.mono s6, b3⟩, ?_⟩
        show remOf H6 R < remOf H2 R
        rw [r6.rem, r2.rem, List.length_cons]
        have := hS _ _ _ s
        omega
    · rintro σ H3 Q1 Q2 hq ⟨x, e, a1, dx1, fs1, e1, e2, e3, h⟩
      exact ⟨x, e, a1, dx1, fs1, e1, e2, e3, spPass_I.mono h fun v H' ⟨c, ec, q⟩ => ⟨c, ec, hq _ _ q⟩⟩
end
theorem FnOk.ex {P : Program} {w : World} {K : PySem.W.Frag} {mg : Str → Option Value} {base : Heap} {CX : CXT} {k : Nat} {f : Addr} {fd : FuncData} {ps : List Str} {sps : Nat → Sp} (G : ∀ i, FnOk P w K mg base CX k f fd ps (sps i)) : FnOk P w K mg base CX k f fd ps (fun vs H Q E => ∃ i, sps i vs H Q E) :=
  ⟨fun vs H Q E ⟨i, h⟩ => (G i).len vs H Q E h, fun A outer s H args us vs Q E hr e0 hb r ⟨i, h⟩ => (G i).run A outer s H args us vs Q E hr e0 hb r h⟩
theorem nin_yes {p : Str} {xs : List Str} {A B : Prop} (e : decide (p ∈ xs) = true) (h : B) : if (if true = true then !inV (.str p) (xs.map V.str) else inV (.str p) (xs.map V.str)) = true then A else B := by
  have e2 : ¬ (if true = true then !inV (.str p) (xs.map V.str) else inV (.str p) (xs.map V.str)) = true := by rw [if_pos rfl, inV_strs, e]; exact Bool.false_ne_true
  rw [if_neg e2]; exact h
theorem nin_no {p : Str} {xs : List Str} {A B : Prop} (e : decide (p ∈ xs) = false) (h : A) : if (if true = true then !inV (.str p) (xs.map V.str) else inV (.str p) (xs.map V.str)) = true then A else B := by
  have e2 : (if true = true then !inV (.str p) (xs.map V.str) else inV (.str p) (xs.map V.str)) = true := by rw [if_pos rfl, inV_strs, e]; rfl
  rw [if_pos e2]; exact h
theorem LeafR.nop {p : Str} {r : List Str} {t : Tr} {rest : List Str} (h : LeafR p r t rest) : decide (p ∈ (["(", "not", "thread"] : List Str)) = false := by
  cases h <;> decide +kernel
def RE0 (S : List Str → Tr → List Str → Prop) (ps : List Str) (t : Tr) (rest : List Str) : Prop := ∃ t0 r0, S ps t0 r0 ∧ BL "or" .eth S t0 r0 t rest
section
variable {P : Program} {w : World} {K : PySem.W.Frag} {mg : Str → Option Value} {base : Heap} {a : Adr}
theorem ok_eith {fd fds : FuncData} {k : Nat} {S : List Str → Tr → List Str → Prop} {wi th : Int} (F : Fun K "read_either" "Reader.read_either" sReader_read_either a.f_Reader_read_either fd) (T : Txt K mg a) (FF : Funs K a) (hk : 32 ≤ k) (hS : Shr S) (b_s : Binds K fds ["self", "within", "threads"] []) (G : FnOk P w K mg base CX0 k a.f_Reader_read_both fds ["self", "within", "threads"] (spRd a S wi th)) : FnOk P w K mg base CX0 (k + 1) a.f_Reader_read_either fd ["self", "within", "threads"] (spRd a (RE0 S) wi th) := by
  obtain ⟨fd1, F1, b_p⟩ := FF.F_Reader_passes
  have Gp : FnOk P w K mg base CX0 2 a.f_Reader_passes fd1 ["self", "wanted"] (spPass a) := ok_pass F1 T FF
  obtain ⟨fd2, F2, b_c⟩ := FF.F_Reader_checked
  have Gc : FnOk P w K mg base CX0 32 a.f_Reader_checked fd2 ["self", "tree"] spChk := ok_chk F2 T FF
  refine F.ok sc_Reader_read_either (fun vs H Q E h => ?_) (fun cdv A outer st H vs Q E hr h => ?_)
  · obtain ⟨R, rs, t, rest, rfl, _⟩ := h; rfl
  · obtain ⟨R, rs, t, rest, rfl, hR, ⟨t0, r0, s0, b0⟩, kk⟩ := h
    have hrk : Room k _ := hr
    have hr2 : Room 2 _ := hrk.mono (by omega)
    have hr32 : Room 32 _ := hrk.mono hk
    refine ⟨_, (pss_cons (ps_set (i := 3) sc_Reader_read_either.nd rfl (Or.inl rfl) (pe_meth (pv 0) T.c_Reader T.M_Reader_read_both G hrk b_s .nil pass0 (pac (pv 1) (pac (pv 2) pa_nil))))
      (pss_cons (ps_while PassesOwn.never (pt_val (pe_meth (pv 0) T.c_Reader T.M_Reader_passes Gp hr2 b_p .nil pass0 (pac pe_str pa_nil))) (pss_one (ps_set (i := 3) sc_Reader_read_either.nd rfl (Or.inl rfl) (pe_meth (pv 0) T.c_Reader T.M_Reader_checked Gc hr32 b_c .nil pass0 (pac (pe_tupG (pas_cons pe_str (pas_cons (pv 3) (pas_cons (pe_meth (pv 0) T.c_Reader T.M_Reader_read_both G hrk b_s .nil pass0 (pac (pv 1) (pac (pv 2) pa_nil))) pas_nil)))) pa_nil)))))
      (pss_one (ps_ret (pv 3))))), ?_⟩
    obtain ⟨dx, fs, eR, z1, z2, z3, z4, z5, z6, z7, z8, z9⟩ := hR.at
    refine ⟨_, rfl, R, dx, _, rfl, eR, z4, _, rfl, _, rfl, R, rs, t0, r0, rfl, hR, s0, fun q0 H1 k1 r1 ht1 => ?_⟩
    refine while_by (fun σ H2 => ∃ q t1 rs1, σ = [some (.ref R), some (.int wi), some (.int th), some (.ref q)] ∧ KR R H H2 ∧ RdAt a H2 R rs1 ∧ TAt H2 q t1 ∧ BL "or" .eth S t1 rs1 t rest) (fun σ H2 => remOf H2 R) ⟨q0, t0, r0, rfl, k1, r1, ht1, b0⟩ ?_ ?_
    · rintro σ H2 ⟨q, t1, rs1, rfl, k2, r2, ht2, b2⟩
      obtain ⟨dx2, fs2, eR2, y1, y2, y3, _⟩ := r2.at
      cases b2 with
      | stop hne => exact ⟨_, rfl, R, dx2, _, rfl, eR2, y1, .no R "or" _ rfl r2 hne ⟨_, rfl, iteF ⟨_, rfl, kk q H2 k2 r2 ht2⟩⟩⟩
      | more s hdp b3 =>
        refine ⟨_, rfl, R, dx2, _, rfl, eR2, y1, .yes R "or" _ rfl r2 fun H3 k3 r3 => ⟨_, rfl, iteT ?_⟩⟩
        obtain ⟨dx3, fs3, eR3, x1, x2, _, x3, _⟩ := r3.at
        have ht3 := ht2.kr r2 k3
        refine ⟨_, rfl, R, dx3, _, rfl, eR3, x2, _, rfl, _, rfl, R, dx3, _, rfl, eR3, x3, _, rfl, _, rfl, R, _, _, _, rfl, r3, s, fun q2 H4 k4 r4 ht4 => ⟨(by show 3 ≤ sizeLine; decide), fun q3 H5 nq s5 e5 => ?_⟩⟩
        have ht5 : TAt H5 q3 (.eth t1 _) := .eth e5 ((ht3.kr r3 k4).mono s5) (ht4.mono s5)
        refine ⟨R, q3, _, rfl, ht5, hdp, fun H6 s6 => ?_⟩
        have r6 := (r4.mono s5).mono s6
        refine ⟨⟨q3, _, _, rfl, ((k2.trans k3).trans k4).trans (KR.of (s5.trans s6)), r6, ht5.mono s6, b3⟩, ?_⟩
        show remOf H6 R < remOf H2 R
        rw [r6.rem, r2.rem, List.length_cons]
        have := hS _ _ _ s
        omega
    · rintro σ H3 Q1 Q2 hq ⟨x, e, a1, dx1, fs1, e1, e2, e3, h⟩
      exact ⟨x, e, a1, dx1, fs1, e1, e2, e3, spPass_I.mono h fun v H' ⟨c, ec, q⟩ => ⟨c, ec, hq _ _ q⟩⟩
theorem ok_sing {fd fdb fde : FuncData} (F : Fun K "read_single" "Reader.read_single" sReader_read_single a.f_Reader_read_single fd) (T : Txt K mg a) (FF : Funs K a) (b_s : Binds K fd ["self", "within", "threads"] []) (Fb : Fun K "read_both" "Reader.read_both" sReader_read_both a.f_Reader_read_both fdb) (b_b : Binds K fdb ["self", "within", "threads"] []) (Fe : Fun K "read_either" "Reader.read_either" sReader_read_either a.f_Reader_read_either fde) (b_e : Binds K fde ["self", "within", "threads"] []) : ∀ (m th : Nat), FnOk P w K mg base CX0 (3 * m + 40) a.f_Reader_read_single fd ["self", "within", "threads"] (spRd a (RS m th) (41 - (m : Int)) (th : Int))
  | 0, th => by
    refine (F.ok (k := 39) sc_Reader_read_single (fun vs H Q E h => ?_) (fun cdv A outer st H vs Q E hr h => ?_))
    · obtain ⟨R, rs, t, rest, rfl, _⟩ := h; rfl
    · obtain ⟨R, rs, t, rest, rfl, hR, h, _⟩ := h; exact h.elim
  | m + 1, th => by
    have G := fun th => ok_sing F T FF b_s Fb b_b Fe b_e m th
    have Gb := fun th => ok_both (k := 3 * m + 40) Fb T FF (by omega) (RS.shr m th) b_s (G th)
    have Ge := fun th => ok_eith (k := 3 * m + 40 + 1) Fe T FF (by omega) (RB.shr (RS.shr m th)) b_b (Gb th)
    have GA := FnOk.ex G
    have GE := FnOk.ex Ge
    obtain ⟨fd1, F1, b_st⟩ := FF.F_Reader_step
    have Gst : FnOk P w K mg base CX0 2 a.f_Reader_step fd1 ["self"] (spStep a) := ok_step F1 T FF
    obtain ⟨fd2, F2, b_c⟩ := FF.F_Reader_checked
    have Gc : FnOk P w K mg base CX0 32 a.f_Reader_checked fd2 ["self", "tree"] spChk := ok_chk F2 T FF
    obtain ⟨fd3, F3, b_x⟩ := FF.F_Reader_expect
    have Gx : FnOk P w K mg base CX0 3 a.f_Reader_expect fd3 ["self", "wanted"] (spExp a) := ok_exp F3 T FF
    obtain ⟨fd4, F4, b_l⟩ := FF.F_Reader_read_leaf
    have Gl : FnOk P w K mg base CX0 4 a.f_Reader_read_leaf fd4 ["self", "kind"] (spRLf a) := ok_rlf F4 T FF
    obtain ⟨SO, mO, hO⟩ := T.gt_OPENING
    refine (F.ok (k := 3 * m + 40 + 1 + 1) sc_Reader_read_single (fun vs H Q E h => ?_) (fun cdv A outer st H vs Q E hr h => ?_))
    · obtain ⟨R, rs, t, rest, rfl, _⟩ := h; rfl
    · obtain ⟨R, rs, t, rest, rfl, hR, ⟨p, r, rfl, hp⟩, kk⟩ := h
      have hre : Room (3 * m + 40 + 1 + 1) _ := hr
      have hrs : Room (3 * m + 40) _ := hre.mono (by omega)
      have hr2 : Room 2 _ := hre.mono (by omega)
      have hr3 : Room 3 _ := hre.mono (by omega)
      have hr4 : Room 4 _ := hre.mono (by omega)
      have hr32 : Room 32 _ := hre.mono (by omega)
      refine ⟨_, (pss_cons (ps_set (i := 3) sc_Reader_read_single.nd rfl (Or.inl rfl) (pe_meth0 (pv 0) T.c_Reader T.M_Reader_step Gst hr2 b_st .nil pass0))
        (pss_cons (ps_if (pt_cmpR op_notIn_seq (pv 3) (pe_gl (v := .ref SO) rfl ⟨_, mO, rfl⟩) (by with_unfolding_all rfl)) (pss_one (ps_ret (pe_meth (pv 0) T.c_Reader T.M_Reader_read_leaf Gl hr4 b_l .nil pass0 (pac (pv 3) pa_nil)))) pss_nil)
        (pss_cons (ps_aug (i := 1) sc_Reader_read_single.nd rfl (Or.inl rfl) pe_int ip_add)
        (pss_cons (ps_aug (i := 2) sc_Reader_read_single.nd rfl (Or.inl rfl) (pe_ifExp (pt_cmpR op_eq (pv 3) pe_str (nomark _)) pe_int pe_int) ip_add)
        (pss_cons (ps_if (PW.pt (pw_or (pt_cmpR op_gt (pv 1) (pe_gl rfl T.g_MOST_WITHIN) (nomark _)) (pw_or1 (pt_cmpR op_gt (pv 2) (pe_gl rfl T.g_MOST_THREADS) (nomark _))))) pss_nev pss_nil)
        (pss_cons (ps_if (pt_cmpR op_ne (pv 3) pe_str (nomark _)) (pss_one (ps_ret (pe_meth (pv 0) T.c_Reader T.M_Reader_checked Gc hr32 b_c .nil pass0 (pac (pe_tupG (pas_cons (pv 3) (pas_cons (pe_meth (pv 0) T.c_Reader T.M_Reader_read_single GA hrs b_s .nil pass0 (pac (pv 1) (pac (pv 2) pa_nil))) pas_nil))) pa_nil)))) pss_nil)
        (pss_cons (ps_set (i := 4) sc_Reader_read_single.nd rfl (Or.inl rfl) (pe_meth (pv 0) T.c_Reader T.M_Reader_read_either GE hre b_e .nil pass0 (pac (pv 1) (pac (pv 2) pa_nil))))
        (pss_cons (ps_expr (pe_meth (pv 0) T.c_Reader T.M_Reader_expect Gx hr3 b_x .nil pass0 (pac pe_str pa_nil)))
        (pss_one (ps_ret (pv 4))))))))))), ?_⟩
      obtain ⟨dx, fs, eR, z1, z2, z3, z4, z5, z6, z7, z8, z9⟩ := hR.at
      refine ⟨_, rfl, R, dx, _, rfl, eR, z8, R, p, r, rfl, hR, fun H1 k1 r1 => ?_⟩
      obtain ⟨dx1, fs1, eR1, y1, y2, y3, y4, y5, y6, y7, y8, y9⟩ := r1.at
      refine ⟨_, rfl, SO, _, rfl, .inr (hO H1), rfl, flat_strs _, _, rfl, ?_⟩
      have e41 : 41 - ((m + 1 : Nat) : Int) + 1 = 41 - (m : Int) := by omega
      rcases hp with hp | ⟨rfl, hth2, u, hu, rfl, hdp⟩ | ⟨rfl, hth, u, hu, rfl, hdp⟩ | ⟨rfl, hth2, hE⟩
      · refine nin_no (LeafR.nop hp) ?_
        exact ⟨_, rfl, R, dx1, _, rfl, eR1, y6, _, rfl, R, p, r, t, rest, rfl, r1, hp, fun q H2 k2 r2 ht => kk q H2 (k1.trans k2) r2 ht⟩
      · refine nin_yes (by decide +kernel) ?_
        have hm : m ≠ 0 := fun z => by subst z; exact hu
        refine ⟨_, rfl, _, _, rfl, rfl, ?_⟩
        refine ⟨_, rfl, _, rfl, rfl, _, rfl, skS' (by decide +kernel) ⟨_, _, rfl, rfl, ?_⟩⟩
        refine ⟨_, rfl, _, _, rfl, rfl, _, rfl, ?_⟩
        rw [decide_eq_false (show ¬ (40 : Int) < 41 - ((m + 1 : Nat) : Int) + 1 by omega)]
        refine iteF ⟨_, rfl, _, _, rfl, rfl, _, rfl, ?_⟩
        rw [decide_eq_false (show ¬ (2 : Int) < (th : Int) + 0 by omega)]
        refine iteF ⟨_, rfl, rfl, _, rfl, ?_⟩
        rw [str_ne, decide_eq_false (show ¬ ("not" : Str) = "(" by decide +kernel)]
        refine iteT ⟨_, rfl, R, dx1, _, rfl, eR1, y2, _, rfl, _, rfl, R, dx1, _, rfl, eR1, y3, _, rfl, _, rfl, th, ⟨R, r, u, rest, ?_, r1, hu, fun q H2 k2 r2 ht => ?_⟩⟩
        · show [V.ref R, V.int (41 - ((m + 1 : Nat) : Int) + 1), V.int ((th : Int) + 0)] = _
          rw [e41, Int.add_zero]
        · refine ⟨(by show 2 ≤ sizeLine; decide), fun q3 H3 nq s3 e3 => ⟨R, q3, _, rfl, .nt e3 (ht.mono s3), hdp, fun H4 s4 => kk q3 H4 ((k1.trans k2).trans (KR.of (s3.trans s4))) ((r2.mono s3).mono s4) (.nt (s4 _ _ e3) ((ht.mono s3).mono s4))⟩⟩
      · refine nin_yes (by decide +kernel) ?_
        have hm : m ≠ 0 := fun z => by subst z; exact hu
        refine ⟨_, rfl, _, _, rfl, rfl, ?_⟩
        refine ⟨_, rfl, _, rfl, rfl, _, rfl, hitS' ⟨_, _, rfl, rfl, ?_⟩⟩
        refine ⟨_, rfl, _, _, rfl, rfl, _, rfl, ?_⟩
        rw [decide_eq_false (show ¬ (40 : Int) < 41 - ((m + 1 : Nat) : Int) + 1 by omega)]
        refine iteF ⟨_, rfl, _, _, rfl, rfl, _, rfl, ?_⟩
        rw [decide_eq_false (show ¬ (2 : Int) < (th : Int) + 1 by omega)]
        refine iteF ⟨_, rfl, rfl, _, rfl, ?_⟩
        rw [str_ne, decide_eq_false (show ¬ ("thread" : Str) = "(" by decide +kernel)]
        refine iteT ⟨_, rfl, R, dx1, _, rfl, eR1, y2, _, rfl, _, rfl, R, dx1, _, rfl, eR1, y3, _, rfl, _, rfl, th + 1, ⟨R, r, u, rest, ?_, r1, hu, fun q H2 k2 r2 ht => ?_⟩⟩
        · show [V.ref R, V.int (41 - ((m + 1 : Nat) : Int) + 1), V.int ((th : Int) + 1)] = _
          rw [e41]; rfl
        · refine ⟨(by show 2 ≤ sizeLine; decide), fun q3 H3 nq s3 e3 => ⟨R, q3, _, rfl, .thr e3 (ht.mono s3), hdp, fun H4 s4 => kk q3 H4 ((k1.trans k2).trans (KR.of (s3.trans s4))) ((r2.mono s3).mono s4) (.thr (s4 _ _ e3) ((ht.mono s3).mono s4))⟩⟩
      · refine nin_yes (by decide +kernel) ?_
        obtain ⟨t0, r0, ⟨t00, r00, hs0, hb0⟩, hb1⟩ := id hE
        have hm : m ≠ 0 := fun z => by subst z; exact hs0
        refine ⟨_, rfl, _, _, rfl, rfl, ?_⟩
        refine ⟨_, rfl, _, rfl, rfl, _, rfl, skS' (by decide +kernel) ⟨_, _, rfl, rfl, ?_⟩⟩
        refine ⟨_, rfl, _, _, rfl, rfl, _, rfl, ?_⟩
        rw [decide_eq_false (show ¬ (40 : Int) < 41 - ((m + 1 : Nat) : Int) + 1 by omega)]
        refine iteF ⟨_, rfl, _, _, rfl, rfl, _, rfl, ?_⟩
        rw [decide_eq_false (show ¬ (2 : Int) < (th : Int) + 0 by omega)]
        refine iteF ⟨_, rfl, rfl, _, rfl, ?_⟩
        rw [str_ne, decide_eq_true (show ("(" : Str) = "(" from rfl)]
        refine iteF ⟨_, rfl, R, dx1, _, rfl, eR1, y5, _, rfl, _, rfl, th, ⟨R, r, t, _, ?_, r1, hE, fun q H2 k2 r2 ht => ?_⟩⟩
        · show [V.ref R, V.int (41 - ((m + 1 : Nat) : Int) + 1), V.int ((th : Int) + 0)] = _
          rw [e41, Int.add_zero]
        · obtain ⟨dx2, fs2, eR2, x1, x2, x3, x4, x5, x6, x7, _⟩ := r2.at
          refine ⟨_, rfl, R, dx2, _, rfl, eR2, x7, .yes R ")" rest rfl r2 fun H3 k3 r3 => ⟨_, rfl, kk q H3 ((k1.trans k2).trans k3) r3 (ht.kr r2 k3)⟩⟩
end
inductive spRIn_I (a : Adr) (vs : List V) (H : Hp) (Q : VK) : Prop
  | mk : ∀ x dx (txt : Str) (row : V), vs = [.ref x, .str txt, row] → H x = some (.ins a.C_Reader dx []) → txt.length ≤ 100000 → (∀ H', (∀ c o, c ≠ x → H c = some o → H' c = some o) → RdAt a H' x (pcs txt) → Q .non H') → spRIn_I a vs H Q
def spRIn (a : Adr) : Sp := fun vs H Q _ => spRIn_I a vs H Q
theorem pcs_count {x : Str} (h : x.length ≤ 100000) : (pcs x).length ≤ 1000000 := by
  have hsl := PyProof.Rows.split_le (rep3 x "(" ")" ",") " "
  have hr3 := rep3_len x
  have hf := List.length_filter_le (fun p => !decide (p = ("" : Str))) (Txt.split (rep3 x "(" ")" ",") " ")
  show ((Txt.split (rep3 x "(" ")" ",") " ").filter _).length ≤ _
  omega
inductive spWh_I (a : Adr) (vs : List V) (H : Hp) (Q : VK) : Prop
  | mk : ∀ R rs t rest, vs = [.ref R] → RdAt a H R rs → RE (RS 41 0) rs t rest → t.dp < 30 → (∀ y H', KR R H H' → RdAt a H' R rest → CondAt a H' y t → Q (.ref y) H') → spWh_I a vs H Q
def spWh (a : Adr) : Sp := fun vs H Q _ => spWh_I a vs H Q
inductive spRC_I (a : Adr) (vs : List V) (H : Hp) (Q : VK) : Prop
  | mk : ∀ (x : Str) t, vs = [.str x] → x.length ≤ 100000 → RE (RS 41 0) (pcs x) t [] → t.dp < 30 → (∀ y H', Same H H' → CondAt a H' y t → Q (.ref y) H') → spRC_I a vs H Q
def spRC (a : Adr) : Sp := fun vs H Q _ => spRC_I a vs H Q
section
variable {P : Program} {w : World} {K : PySem.W.Frag} {mg : Str → Option Value} {base : Heap} {a : Adr}
theorem ok_rin {fd : FuncData} (F : Fun K "__init__" "Reader.__init__" sReader_init a.f_Reader_init fd) (T : Txt K mg a) (FF : Funs K a) : FnOkT P w K mg base CX0 2 a.f_Reader_init fd ["self", "text", "row"] (spRIn a) := by
  obtain ⟨fd1, F1, b_p⟩ := FF.F_pieces_of
  have G : FnOkT P w K mg base CX0 1 a.f_pieces_of fd1 ["text"] spPcs := ok_pcs F1 T
  refine F.okT sc_Reader_init (fun vs H Q E h => ?_) (fun cdv A outer st H vs Q E hr h => ?_)
  · obtain ⟨x, dx, txt, row, rfl, _⟩ := h; rfl
  · obtain ⟨x, dx, txt, row, rfl, ex, hl, k⟩ := h
    have hr1 : Room 1 _ := hr
    refine ⟨_, (psst_cons (pst_fld (pv 0) (pet_call G hr1 rfl T.m_pieces_of F1.kp b_p .nil pass0 (pac (pv 1) pa_nil)) rfl)
      (pss_cons (ps_fld (pv 0) pe_int rfl)
      (pss_one (ps_fld (pv 0) (pv 2) rfl)))), ?_⟩
    refine ⟨_, rfl, txt, rfl, hl, fun D H1 nD s1 eD => ?_⟩
    have ex1 := s1 _ _ ex
    have Dx : D ≠ x := ne_of eD ex1 (fun z => nomatch z)
    refine ⟨_, rfl, x, _, dx, _, rfl, ex1, T.c_Reader, T.n_Reader_pieces, (by show 0 < 1000; decide), ?_⟩
    refine ⟨_, rfl, x, _, dx, _, rfl, upd_same, T.c_Reader, T.n_Reader_at, (by show 1 < 1000; decide), ?_⟩
    rw [upd_upd]
    refine ⟨_, rfl, _, rfl, x, _, dx, _, rfl, upd_same, T.c_Reader, T.n_Reader_row, (by show 2 < 1000; decide), ?_⟩
    rw [upd_upd]
    refine k _ (fun c o n e => by rw [upd_ne n]; exact s1 _ _ e) ⟨dx, D, pcs txt, 0, row, upd_same, by rw [upd_ne Dx]; exact eD, rfl, Nat.zero_le _, pcs_count hl⟩
theorem ok_wh {fd : FuncData} (F : Fun K "read_whole" "Reader.read_whole" sReader_read_whole a.f_Reader_read_whole fd) (T : Txt K mg a) (FF : Funs K a) : FnOk P w K mg base CX0 166 a.f_Reader_read_whole fd ["self"] (spWh a) := by
  obtain ⟨fds, Fs, b_s⟩ := FF.F_Reader_read_single
  obtain ⟨fdb, Fb, b_b⟩ := FF.F_Reader_read_both
  obtain ⟨fde, Fe, b_e⟩ := FF.F_Reader_read_either
  have G1 := ok_sing (P := P) (w := w) (base := base) Fs T FF b_s Fb b_b Fe b_e 41 0
  have G2 := ok_both (k := 3 * 41 + 40) Fb T FF (by omega) (RS.shr 41 0) b_s G1
  have G3 : FnOk P w K mg base CX0 165 a.f_Reader_read_either fde ["self", "within", "threads"] (spRd a (RE0 (RB (RS 41 0))) (41 - ((41 : Nat) : Int)) ((0 : Nat) : Int)) := ok_eith (k := 3 * 41 + 40 + 1) Fe T FF (by omega) (RB.shr (RS.shr 41 0)) b_b G2
  obtain ⟨fdc, Fc, b_co⟩ := FF.F_condition_of
  have Gc : FnOk P w K mg base CX0 96 a.f_condition_of fdc ["tree"] (spCond a 31) := ok_co Fc b_co T FF 31
  refine F.ok sc_Reader_read_whole (fun vs H Q E h => ?_) (fun cdv A outer st H vs Q E hr h => ?_)
  · obtain ⟨R, rs, t, rest, rfl, _⟩ := h; rfl
  · obtain ⟨R, rs, t, rest, rfl, hR, hE, hd, k⟩ := h
    have hr165 : Room 165 _ := hr
    have hr96 : Room 96 _ := hr165.mono (by decide)
    obtain ⟨dx, fs, eR, z1, z2, z3, z4, z5, _⟩ := hR.at
    refine ⟨_, (pss_one (ps_ret (pe_call Gc hr96 rfl T.m_condition_of Fc.kp b_co .nil pass0 (pac (pe_meth (pv 0) T.c_Reader T.M_Reader_read_either G3 hr165 b_e .nil pass0 (pac pe_int (pac pe_int pa_nil))) pa_nil)))), ?_⟩
    refine ⟨_, rfl, R, dx, _, rfl, eR, z5, R, rs, t, rest, rfl, hR, hE, fun q H1 k1 r1 ht => ?_⟩
    exact ⟨q, t, rfl, ht, by omega, fun y H2 s2 cn => k y H2 (k1.trans (KR.of s2)) (r1.mono s2) cn.at⟩
end
def lpts : Tr → List Str
  | .any => ["any"]
  | .ans => ["answers"]
  | .word w => ["word", w]
  | .title w => ["title", w]
  | .frm w => ["from", w]
  | .inn w => ["in", w]
  | .mrk w => ["marked", w]
  | _ => []
def wr : Tr → Str
  | .days l h => (((Str.empty ++ "day ") ++ Str.ofString (toString l)) ++ " to ") ++ Str.ofString (toString h)
  | .nt u => (("not" : Str) ++ " ") ++ wr u
  | .thr u => (("thread" : Str) ++ " ") ++ wr u
  | .bth u v => ((((((Str.empty ++ "(") ++ wr u) ++ " ") ++ "and") ++ " ") ++ wr v) ++ ")"
  | .eth u v => ((((((Str.empty ++ "(") ++ wr u) ++ " ") ++ "or") ++ " ") ++ wr v) ++ ")"
  | t => PySem.Txt.join " " (lpts t)
theorem app_len (x y : Str) : (x ++ y).length = x.length + y.length := strLen_append x y
theorem join_two (x y : Str) : PySem.Txt.join " " [x, y] = (x ++ " ") ++ y := by rfl
theorem TAt.wlen {H : Hp} {p : Addr} {t : Tr} (h : TAt H p t) : (wr t).length ≤ 54 * t.sz := by
  have e0 : Str.empty.length = 0 := rfl
  have q1 : ("word" : Str).length = 4 := by decide +kernel
  have q2 : ("title" : Str).length = 5 := by decide +kernel
  have q3 : ("from" : Str).length = 4 := by decide +kernel
  have q4 : ("in" : Str).length = 2 := by decide +kernel
  have q5 : ("marked" : Str).length = 6 := by decide +kernel
  have q6 : (" " : Str).length = 1 := by decide +kernel
  have q7 : ("day " : Str).length = 4 := by decide +kernel
  have q8 : (" to " : Str).length = 4 := by decide +kernel
  have q9 : ("not" : Str).length = 3 := by decide +kernel
  have q10 : ("thread" : Str).length = 6 := by decide +kernel
  have q11 : ("(" : Str).length = 1 := by decide +kernel
  have q12 : (")" : Str).length = 1 := by decide +kernel
  have q13 : ("and" : Str).length = 3 := by decide +kernel
  have q14 : ("or" : Str).length = 2 := by decide +kernel
  induction h with
  | any e => decide +kernel
  | ans e => decide +kernel
  | word e w =>
    have := w.hi
    show (PySem.Txt.join " " ["word", _]).length ≤ 54 * 1
    rw [join_two, app_len, app_len, q1, q6]; omega
  | title e w =>
    have := w.hi
    show (PySem.Txt.join " " ["title", _]).length ≤ 54 * 1
    rw [join_two, app_len, app_len, q2, q6]; omega
  | frm e w =>
    have := w.hi
    show (PySem.Txt.join " " ["from", _]).length ≤ 54 * 1
    rw [join_two, app_len, app_len, q3, q6]; omega
  | inn e w =>
    have := w.hi
    show (PySem.Txt.join " " ["in", _]).length ≤ 54 * 1
    rw [join_two, app_len, app_len, q4, q6]; omega
  | mrk e w =>
    have := w.hi
    show (PySem.Txt.join " " ["marked", _]).length ≤ 54 * 1
    rw [join_two, app_len, app_len, q5, q6]; omega
  | days e b =>
    have h1 := num_le4 b.1 b.2.1
    have h2 := num_le4 b.2.2.1 b.2.2.2
    show ((((Str.empty ++ "day ") ++ Str.ofString (toString _)) ++ " to ") ++ Str.ofString (toString _)).length ≤ 54 * 1
    rw [app_len, app_len, app_len, app_len, e0, q7, q8]; omega
  | nt e _ ih =>
    show ((("not" : Str) ++ " ") ++ wr _).length ≤ 54 * (_ + 1)
    rw [app_len, app_len, q9, q6]
    omega
  | thr e _ ih =>
    show ((("thread" : Str) ++ " ") ++ wr _).length ≤ 54 * (_ + 1)
    rw [app_len, app_len, q10, q6]
    omega
  | bth e _ _ i1 i2 =>
    rename_i u v _ _
    show (((((((Str.empty ++ "(") ++ wr u) ++ " ") ++ "and") ++ " ") ++ wr v) ++ ")").length ≤ 54 * (u.sz + v.sz + 1)
    rw [app_len, app_len, app_len, app_len, app_len, app_len, app_len, e0, q11, q6, q13, q12]
    omega
  | eth e _ _ i1 i2 =>
    rename_i u v _ _
    show (((((((Str.empty ++ "(") ++ wr u) ++ " ") ++ "or") ++ " ") ++ wr v) ++ ")").length ≤ 54 * (u.sz + v.sz + 1)
    rw [app_len, app_len, app_len, app_len, app_len, app_len, app_len, e0, q11, q6, q14, q12]
    omega
inductive spWr_I (a : Adr) (t : Tr) (vs : List V) (H : Hp) (Q : VK) : Prop
  | mk : ∀ x, vs = [.ref x] → CondAt a H x t → t.sz ≤ 1100 → Q (.str (wr t)) H → spWr_I a t vs H Q
def spWr (a : Adr) (t : Tr) : Sp := fun vs H Q _ => spWr_I a t vs H Q
/-- o.written_with(b) -/
inductive spWW_I (K : PySem.W.Frag) (a : Adr) (u v : Tr) (vs : List V) (H : Hp) (Q : VK) : Prop
  | mk : ∀ x b C dx p y z, vs = [.ref x, .str b] → b.length ≤ 3 → H x = some (.ins C dx [("shape", .ref p), ("one", .ref y), ("other", .ref z)]) → Cls K C → NoAttr K C "one" → NoAttr K C "other" → CondAt a H y u → CondAt a H z v → u.sz + v.sz ≤ 1099 → Q (.str (((((((Str.empty ++ "(") ++ wr u) ++ " ") ++ b) ++ " ") ++ wr v) ++ ")")) H → spWW_I K a u v vs H Q
def spWW (K : PySem.W.Frag) (a : Adr) (u v : Tr) : Sp := fun vs H Q _ => spWW_I K a u v vs H Q
theorem CondAt.len {a : Adr} {H : Hp} {x : Addr} {t : Tr} (h : CondAt a H x t) (hd : t.sz ≤ 1100) : (wr t).length ≤ 54 * t.sz := by
  obtain ⟨dx, fs, _, _, _, _, p, _, ht⟩ := h.obj
  exact ht.wlen
theorem log_day {d : Int} (h0 : 0 ≤ d) (h1 : d ≤ 9999) : d.natAbs.log2 < 1920 := by
  by_cases h : d.natAbs = 0
  · rw [h]; decide
  · exact Nat.lt_of_lt_of_le ((Nat.log2_lt h).mpr (Nat.lt_of_le_of_lt (show d.natAbs ≤ 9999 by omega) (by decide : 9999 < 2 ^ 14))) (by decide)
theorem bigS {n : Nat} (h : n ≤ 100000) : n ≤ sizeLine := Nat.le_trans h (by decide)
section
variable {P : Program} {w : World} {K : PySem.W.Frag} {mg : Str → Option Value} {base : Heap} {a : Adr}
variable (P w K mg base a)
def WOk (k : Nat) (t : Tr) : Prop := ∃ f fd, Meth K (clsOf a t) "written" f ∧ Binds K fd ["self"] [] ∧ FnOk P w K mg base CX0 k f fd ["self"] (spWr a t)
variable {P w K mg base a}
theorem CondAt.objW {a : Adr} {H : Hp} {x : Addr} {t : Tr} (h : CondAt a H x t) : ∃ dx fs, H x = some (.ins (clsOf a t) dx fs) ∧ fs.lookup ("written" : Str) = none := by
  cases h with
  | lf l e t => exact ⟨_, _, e, rfl⟩
  | nt e t _ => exact ⟨_, _, e, rfl⟩
  | thr e t _ => exact ⟨_, _, e, rfl⟩
  | bth e t _ _ => exact ⟨_, _, e, rfl⟩
  | eth e t _ _ => exact ⟨_, _, e, rfl⟩
theorem ok_w_leaf {t : Tr} {fd : FuncData} (hp : ∀ (H : Hp) p, TAt H p t → H p = some (.tup ((lpts t).map V.str))) (hw : wr t = PySem.Txt.join " " (lpts t)) (hz : ∀ (H : Hp) p, TAt H p t → ((lpts t).map (·.length)).sum + (lpts t).length ≤ 1000) (F : Fun K "written" "Condition.written" sCondition_written a.f_Condition_written fd) (T : Txt K mg a) : FnOk P w K mg base CX0 1 a.f_Condition_written fd ["self"] (spWr a t) := by
  refine F.ok sc_Condition_written (fun vs H Q E h => ?_) (fun cdv A outer s H vs Q E hr h => ?_)
  · obtain ⟨x, rfl, _⟩ := h; rfl
  · obtain ⟨x, rfl, hx, hd, k⟩ := h
    obtain ⟨dx, fs, ex, _, _, _, p, lp, ht⟩ := hx.obj
    have hz' := hz H p ht
    rw [hw] at k
    exact ⟨_, (pss_one (ps_ret (pe_bm PySem.F.plainAttrs_str PySem.F.slot_str_join PySem.F.type_str_join mt_joinT pe_str (pac (pe_fld (pv 0) rfl) pa_nil)))), ⟨rfl, _, rfl, x, _, dx, fs, _, rfl, ex, T.cls t, T.noshape t, lp, _, p, lpts t, rfl, rfl, SqT.of (hp H p ht), (by show _ + _ * 1 ≤ _; omega), k⟩⟩
theorem ok_w_days {l h : Int} {fd : FuncData} (F : Fun K "written" "IsOfDays.written" sIsOfDays_written a.f_IsOfDays_written fd) (T : Txt K mg a) : FnOk P w K mg base CX0 1 a.f_IsOfDays_written fd ["self"] (spWr a (.days l h)) := by
  refine F.ok sc_IsOfDays_written (fun vs H Q E h => ?_) (fun cdv A outer s H vs Q E hr h => ?_)
  · obtain ⟨x, rfl, _⟩ := h; rfl
  · obtain ⟨x, rfl, hx, hd, k⟩ := h
    have hlen := hx.len hd
    cases hx with
    | lf _ ex tt =>
      cases tt with
      | days ep b =>
        have h1 := num_le4 b.1 b.2.1
        have h2 := num_le4 b.2.2.1 b.2.2.2
        refine ⟨_, (pss_cons (ps_set (i := 1) sc_IsOfDays_written.nd rfl (Or.inl rfl) (pe_ix ix_tup (pe_fld (pv 0) rfl) pe_int (fun _ _ => rfl)))
          (pss_cons (ps_set (i := 2) sc_IsOfDays_written.nd rfl (Or.inl rfl) (pe_ix ix_tup (pe_fld (pv 0) rfl) pe_int (fun _ _ => rfl)))
          (pss_one (ps_ret (pe_fs (pf_cons pe_str (pf_cons (pe_fmt (pv 1)) (pf_cons pe_str (pf_cons (pe_fmt (pv 2)) pf_nil))))))))), ?_⟩
        refine ⟨_, rfl, x, _, _, _, _, rfl, ex, T.c_IsOfDays, T.n_IsOfDays_shape, rfl, _, _, _, _, rfl, rfl, SqT.of ep, rfl, ?_⟩
        refine ⟨_, rfl, x, _, _, _, _, rfl, ex, T.c_IsOfDays, T.n_IsOfDays_shape, rfl, _, _, _, _, rfl, rfl, SqT.of ep, rfl, ?_⟩
        have e0 : Str.empty.length = 0 := rfl
        have q7 : ("day " : Str).length = 4 := by decide +kernel
        have q8 : (" to " : Str).length = 4 := by decide +kernel
        refine ⟨_, rfl, bigS (by rw [app_len, e0, q7]; decide), _, rfl, .int l rfl (log_day b.1 b.2.1) ⟨_, rfl, bigS (by rw [app_len, app_len, e0, q7]; omega), _, rfl, bigS (by rw [app_len, app_len, app_len, e0, q7, q8]; omega), _, rfl, .int h rfl (log_day b.2.2.1 b.2.2.2) ⟨_, rfl, bigS (by rw [app_len, app_len, app_len, app_len, e0, q7, q8]; omega), bigS (by rw [app_len, app_len, app_len, app_len, e0, q7, q8]; omega), k⟩⟩⟩
theorem ok_w_wrap {u : Tr} {t : Tr} {k : Nat} {fd : FuncData} {nm : Str} (ht : t.sz = u.sz + 1) (hw : wr t = (nm ++ " ") ++ wr u) (hn : nm.length ≤ 6) (inv : ∀ (H : Hp) x, CondAt a H x t → ∃ dx p y q, H x = some (.ins (clsOf a t) dx [("shape", .ref p), ("inner", .ref y)]) ∧ H p = some (.tup [.str nm, .ref q]) ∧ CondAt a H y u) (ni : NoAttr K (clsOf a t) "inner")
    (F : Fun K "written" "Wrapped.written" sWrapped_written a.f_Wrapped_written fd) (T : Txt K mg a) (G : WOk P w K mg base a k u) : FnOk P w K mg base CX0 (k + 1) a.f_Wrapped_written fd ["self"] (spWr a t) := by
  obtain ⟨f, fdh, M, b, G⟩ := G
  refine F.ok sc_Wrapped_written (fun vs H Q E h => ?_) (fun cdv A outer s H vs Q E hr h => ?_)
  · obtain ⟨x, rfl, _⟩ := h; rfl
  · obtain ⟨x, rfl, hx, hd, kk⟩ := h
    have hrk : Room k _ := hr
    obtain ⟨dx, p, y, q, ex, ep, hy⟩ := inv H x hx
    obtain ⟨dy, fs, ey, lw⟩ := hy.objW
    have hl := hy.len (by omega)
    have q6 : (" " : Str).length = 1 := by decide +kernel
    rw [hw] at kk
    refine ⟨_, (pss_one (ps_ret (pe_op op_add_str (pe_op op_add_str (pe_ix ix_tup (pe_fld (pv 0) rfl) pe_int (fun _ _ => rfl)) pe_str) (pe_methD0 (pe_fld (pv 0) rfl))))), ?_⟩
    refine ⟨_, rfl, x, _, dx, _, _, rfl, ex, T.cls t, T.noshape t, rfl, p, _, _, _, rfl, rfl, SqT.of ep, rfl, _, _, rfl, rfl, bigS (by rw [q6]; omega), ?_⟩
    refine ⟨_, rfl, x, _, dx, _, _, rfl, ex, T.cls t, ni, rfl, y, dy, fs, _, f, fdh, _, _, k, rfl, ey, T.cls u, M, G, hrk, b, lw, ?_⟩
    exact ⟨y, rfl, hy, by omega, _, _, rfl, rfl, bigS (by rw [app_len, q6]; omega), kk⟩
end
section
variable {P : Program} {w : World} {K : PySem.W.Frag} {mg : Str → Option Value} {base : Heap} {a : Adr}
theorem ok_ww {u v : Tr} {k : Nat} {fd : FuncData} (F : Fun K "written_with" "Joined.written_with" sJoined_written_with a.f_Joined_written_with fd) (T : Txt K mg a) (G : WOk P w K mg base a k u) (G2 : WOk P w K mg base a k v) : FnOk P w K mg base CX0 (k + 1) a.f_Joined_written_with fd ["self", "between"] (spWW K a u v) := by
  obtain ⟨f, fdh, M, b, G⟩ := G
  obtain ⟨f2, fdh2, M2, b2, G2⟩ := G2
  refine F.ok sc_Joined_written_with (fun vs H Q E h => ?_) (fun cdv A outer s H vs Q E hr h => ?_)
  · obtain ⟨x, bt, C, dx, p, y, z, rfl, _⟩ := h; rfl
  · obtain ⟨x, bt, C, dx, p, y, z, rfl, hb, ex, cl, n1, n2, hy, hz, hd1, kk⟩ := h
    have hrk : Room k _ := hr
    obtain ⟨dy, fs, ey, lw⟩ := hy.objW
    obtain ⟨dz, gs, ez, lz⟩ := hz.objW
    have hl1 := hy.len (by omega)
    have hl2 := hz.len (by omega)
    have e0 : Str.empty.length = 0 := rfl
    have q6 : (" " : Str).length = 1 := by decide +kernel
    have q11 : ("(" : Str).length = 1 := by decide +kernel
    have q12 : (")" : Str).length = 1 := by decide +kernel
    refine ⟨_, (pss_cons (ps_set (i := 2) sc_Joined_written_with.nd rfl (Or.inl rfl) (pe_methD0 (pe_fld (pv 0) rfl)))
      (pss_cons (ps_set (i := 3) sc_Joined_written_with.nd rfl (Or.inl rfl) (pe_methD0 (pe_fld (pv 0) rfl)))
      (pss_one (ps_ret (pe_fs (pf_cons pe_str (pf_cons (pe_fmt (pv 2)) (pf_cons pe_str (pf_cons (pe_fmt (pv 1)) (pf_cons pe_str (pf_cons (pe_fmt (pv 3)) (pf_cons pe_str pf_nil)))))))))))), ?_⟩
    refine ⟨_, rfl, x, _, dx, _, _, rfl, ex, cl, n1, rfl, y, dy, fs, _, f, fdh, _, _, k, rfl, ey, T.cls u, M, G, hrk, b, lw, ?_⟩
    refine ⟨y, rfl, hy, by omega, ?_⟩
    refine ⟨_, rfl, x, _, dx, _, _, rfl, ex, cl, n2, rfl, z, dz, gs, _, f2, fdh2, _, _, k, rfl, ez, T.cls v, M2, G2, hrk, b2, lz, ?_⟩
    refine ⟨z, rfl, hz, by omega, ?_⟩
    refine ⟨_, rfl, bigS (by rw [app_len, e0, q11]; decide), _, rfl, .str _ rfl (bigS (by omega)) ⟨_, rfl, bigS (by rw [app_len, app_len, e0, q11]; omega), _, rfl, bigS (by rw [app_len, app_len, app_len, e0, q11, q6]; omega), _, rfl, .str _ rfl (bigS (by omega)) ⟨_, rfl, bigS (by rw [app_len, app_len, app_len, app_len, e0, q11, q6]; omega), _, rfl, bigS (by rw [app_len, app_len, app_len, app_len, app_len, e0, q11, q6]; omega), _, rfl, .str _ rfl (bigS (by omega)) ⟨_, rfl, bigS (by rw [app_len, app_len, app_len, app_len, app_len, app_len, e0, q11, q6]; omega), _, rfl, bigS (by rw [app_len, app_len, app_len, app_len, app_len, app_len, app_len, e0, q11, q6, q12]; omega), bigS (by rw [app_len, app_len, app_len, app_len, app_len, app_len, app_len, e0, q11, q6, q12]; omega), kk⟩⟩⟩⟩
theorem ok_w_bth {u v : Tr} {k : Nat} {fd : FuncData} (F : Fun K "written" "Both.written" sBoth_written a.f_Both_written fd) (T : Txt K mg a) (FF : Funs K a) (G : WOk P w K mg base a k u) (G2 : WOk P w K mg base a k v) : FnOk P w K mg base CX0 (k + 2) a.f_Both_written fd ["self"] (spWr a (.bth u v)) := by
  obtain ⟨fdw, Fw, bw⟩ := FF.F_Joined_written_with
  have Gw : FnOk P w K mg base CX0 (k + 1) a.f_Joined_written_with fdw ["self", "between"] (spWW K a u v) := ok_ww Fw T G G2
  refine F.ok sc_Both_written (fun vs H Q E h => ?_) (fun cdv A outer s H vs Q E hr h => ?_)
  · obtain ⟨x, rfl, _⟩ := h; rfl
  · obtain ⟨x, rfl, hx, hd, kk⟩ := h
    have hrw : Room (k + 1) _ := hr
    have hd' : u.sz + v.sz + 1 ≤ 1100 := hd
    cases hx with
    | lf z _ _ => cases z
    | bth ex tt hy hz =>
      refine ⟨_, (pss_one (ps_ret (pe_meth (pv 0) T.c_Both T.M_Both_written_with Gw hrw bw .nil pass0 (pac pe_str pa_nil)))), ?_⟩
      exact ⟨_, rfl, x, _, _, rfl, ex, rfl, x, _, _, _, _, _, _, rfl, (by decide +kernel), ex, T.c_Both, T.n_Both_one, T.n_Both_other, hy, hz, by omega, kk⟩
theorem ok_w_eth {u v : Tr} {k : Nat} {fd : FuncData} (F : Fun K "written" "Either.written" sEither_written a.f_Either_written fd) (T : Txt K mg a) (FF : Funs K a) (G : WOk P w K mg base a k u) (G2 : WOk P w K mg base a k v) : FnOk P w K mg base CX0 (k + 2) a.f_Either_written fd ["self"] (spWr a (.eth u v)) := by
  obtain ⟨fdw, Fw, bw⟩ := FF.F_Joined_written_with
  have Gw : FnOk P w K mg base CX0 (k + 1) a.f_Joined_written_with fdw ["self", "between"] (spWW K a u v) := ok_ww Fw T G G2
  refine F.ok sc_Either_written (fun vs H Q E h => ?_) (fun cdv A outer s H vs Q E hr h => ?_)
  · obtain ⟨x, rfl, _⟩ := h; rfl
  · obtain ⟨x, rfl, hx, hd, kk⟩ := h
    have hrw : Room (k + 1) _ := hr
    have hd' : u.sz + v.sz + 1 ≤ 1100 := hd
    cases hx with
    | lf z _ _ => cases z
    | eth ex tt hy hz =>
      refine ⟨_, (pss_one (ps_ret (pe_meth (pv 0) T.c_Either T.M_Either_written_with Gw hrw bw .nil pass0 (pac pe_str pa_nil)))), ?_⟩
      exact ⟨_, rfl, x, _, _, rfl, ex, rfl, x, _, _, _, _, _, _, rfl, (by decide +kernel), ex, T.c_Either, T.n_Either_one, T.n_Either_other, hy, hz, by omega, kk⟩
theorem askW (T : Txt K mg a) (FF : Funs K a) : ∀ t : Tr, WOk P w K mg base a (2 * t.dp + 1) t := by
  obtain ⟨fc, Fc, bc⟩ := FF.F_Condition_written
  intro t
  induction t with
  | any => exact ⟨_, fc, T.M_Always_written, bc, ok_w_leaf (fun H p h => by cases h with | any e => exact e) rfl (fun H p h => by decide +kernel) Fc T⟩
  | ans => exact ⟨_, fc, T.M_DoesAnswer_written, bc, ok_w_leaf (fun H p h => by cases h with | ans e => exact e) rfl (fun H p h => by decide +kernel) Fc T⟩
  | word u => exact ⟨_, fc, T.M_HasWord_written, bc, ok_w_leaf (fun H p h => by cases h with | word e _ => exact e) rfl (fun H p h => by cases h with | word e w => (have := w.hi; have q : ("word" : Str).length ≤ 6 := (by decide +kernel); show ("word" : Str).length + (u.length + 0) + 2 ≤ 1000; omega)) Fc T⟩
  | title u => exact ⟨_, fc, T.M_HasTitleWord_written, bc, ok_w_leaf (fun H p h => by cases h with | title e _ => exact e) rfl (fun H p h => by cases h with | title e w => (have := w.hi; have q : ("title" : Str).length ≤ 6 := (by decide +kernel); show ("title" : Str).length + (u.length + 0) + 2 ≤ 1000; omega)) Fc T⟩
  | frm u => exact ⟨_, fc, T.M_IsFrom_written, bc, ok_w_leaf (fun H p h => by cases h with | frm e _ => exact e) rfl (fun H p h => by cases h with | frm e w => (have := w.hi; have q : ("from" : Str).length ≤ 6 := (by decide +kernel); show ("from" : Str).length + (u.length + 0) + 2 ≤ 1000; omega)) Fc T⟩
  | inn u => exact ⟨_, fc, T.M_IsIn_written, bc, ok_w_leaf (fun H p h => by cases h with | inn e _ => exact e) rfl (fun H p h => by cases h with | inn e w => (have := w.hi; have q : ("in" : Str).length ≤ 6 := (by decide +kernel); show ("in" : Str).length + (u.length + 0) + 2 ≤ 1000; omega)) Fc T⟩
  | mrk u => exact ⟨_, fc, T.M_IsMarked_written, bc, ok_w_leaf (fun H p h => by cases h with | mrk e _ => exact e) rfl (fun H p h => by cases h with | mrk e w => (have := w.hi; have q : ("marked" : Str).length ≤ 6 := (by decide +kernel); show ("marked" : Str).length + (u.length + 0) + 2 ≤ 1000; omega)) Fc T⟩
  | days l h =>
    obtain ⟨fd, F, b⟩ := FF.F_IsOfDays_written
    exact ⟨_, fd, T.M_IsOfDays_written, b, ok_w_days F T⟩
  | nt u ih =>
    obtain ⟨fd, F, b⟩ := FF.F_Wrapped_written
    refine ⟨_, fd, T.M_Not_written, b, (ok_w_wrap (u := u) (t := .nt u) (nm := "not") rfl rfl (by decide +kernel) (fun H x h => ?_) T.n_Not_inner F T ih).mono (by show 2 * u.dp + 1 + 1 ≤ 2 * (u.dp + 1) + 1; omega)⟩
    cases h with
    | lf z _ _ => cases z
    | nt ex tt hy => cases tt with | nt ep hq => exact ⟨_, _, _, _, ex, ep, hy⟩
  | thr u ih =>
    obtain ⟨fd, F, b⟩ := FF.F_Wrapped_written
    refine ⟨_, fd, T.M_InThread_written, b, (ok_w_wrap (u := u) (t := .thr u) (nm := "thread") rfl rfl (by decide +kernel) (fun H x h => ?_) T.n_InThread_inner F T ih).mono (by show 2 * u.dp + 1 + 1 ≤ 2 * (u.dp + 1) + 1; omega)⟩
    cases h with
    | lf z _ _ => cases z
    | thr ex tt hy => cases tt with | thr ep hq => exact ⟨_, _, _, _, ex, ep, hy⟩
  | bth u v i1 i2 =>
    obtain ⟨fd, F, b⟩ := FF.F_Both_written
    obtain ⟨f1, g1, m1, b1, o1⟩ := i1
    obtain ⟨f2, g2, m2, b2, o2⟩ := i2
    exact ⟨_, fd, T.M_Both_written, b, (ok_w_bth (k := 2 * max u.dp v.dp + 1) F T FF ⟨f1, g1, m1, b1, o1.mono (by omega)⟩ ⟨f2, g2, m2, b2, o2.mono (by omega)⟩).mono (by show 2 * max u.dp v.dp + 1 + 2 ≤ 2 * (max u.dp v.dp + 1) + 1; omega)⟩
  | eth u v i1 i2 =>
    obtain ⟨fd, F, b⟩ := FF.F_Either_written
    obtain ⟨f1, g1, m1, b1, o1⟩ := i1
    obtain ⟨f2, g2, m2, b2, o2⟩ := i2
    exact ⟨_, fd, T.M_Either_written, b, (ok_w_eth (k := 2 * max u.dp v.dp + 1) F T FF ⟨f1, g1, m1, b1, o1.mono (by omega)⟩ ⟨f2, g2, m2, b2, o2.mono (by omega)⟩).mono (by show 2 * max u.dp v.dp + 1 + 2 ≤ 2 * (max u.dp v.dp + 1) + 1; omega)⟩
end
theorem str_assoc (x y z : Str) : (x ++ y) ++ z = x ++ (y ++ z) := by
  show (⟨(x.cps ++ y.cps) ++ z.cps⟩ : Str) = ⟨x.cps ++ (y.cps ++ z.cps)⟩
  rw [Array.append_assoc]
theorem str_nil (x : Str) : Str.empty ++ x = x := by
  show (⟨#[] ++ x.cps⟩ : Str) = x
  rw [Array.empty_append]
theorem wr_days (l h : Int) : wr (.days l h) = ((("day " : Str) ++ Str.ofString (toString l)) ++ " to ") ++ Str.ofString (toString h) := by
  show (((Str.empty ++ "day ") ++ _) ++ _) ++ _ = _
  rw [str_nil]
theorem wr_bth (u v : Tr) : wr (.bth u v) = (((("(" : Str) ++ wr u) ++ " and ") ++ wr v) ++ ")" := by
  show ((((((Str.empty ++ "(") ++ wr u) ++ " ") ++ "and") ++ " ") ++ wr v) ++ ")" = _
  rw [str_nil, str_assoc (("(" : Str) ++ wr u) " " "and", str_assoc (("(" : Str) ++ wr u) _ " "]
  rfl
theorem wr_eth (u v : Tr) : wr (.eth u v) = (((("(" : Str) ++ wr u) ++ " or ") ++ wr v) ++ ")" := by
  show ((((((Str.empty ++ "(") ++ wr u) ++ " ") ++ "or") ++ " ") ++ wr v) ++ ")" = _
  rw [str_nil, str_assoc (("(" : Str) ++ wr u) " " "or", str_assoc (("(" : Str) ++ wr u) _ " "]
  rfl
theorem TAt.small {H : Hp} {p : Addr} {t : Tr} (h : TAt H p t) (hd : t.sz ≤ 1100) : (wr t).length ≤ 54 * t.sz := h.wlen
inductive spLW_I (n : Nat) (vs : List V) (H : Hp) (Q : VK) : Prop
  | mk : ∀ p t, vs = [.ref p] → TAt H p t → t.dp < n → t.sz ≤ 1100 → Q (.str (wr t)) H → spLW_I n vs H Q
def spLW (n : Nat) : Sp := fun vs H Q _ => spLW_I n vs H Q
section
variable {P : Program} {w : World} {K : PySem.W.Frag} {mg : Str → Option Value} {base : Heap} {a : Adr}
theorem ok_lw {fd : FuncData} (F : Fun K "_law_written" "_law_written" sl_written a.f_l_written fd) (b_l_written : Binds K fd ["_law_tree"] []) (T : Txt K mg a) : ∀ n, FnOk P w K mg base CX0 (n + 1) a.f_l_written fd ["_law_tree"] (spLW n)
  | 0 => by
    refine F.ok sc_l_written (fun vs H Q E h => ?_) (fun cdv A outer st H vs Q E hr h => ?_)
    · obtain ⟨p, t, rfl, _⟩ := h; rfl
    · obtain ⟨p, t, _, _, h, _⟩ := h; exact absurd h (Nat.not_lt_zero _)
  | n + 1 => by
    have G := ok_lw F b_l_written T n
    refine F.ok sc_l_written (fun vs H Q E h => ?_) (fun cdv A outer st H vs Q E hr h => ?_)
    · obtain ⟨p, t, rfl, _⟩ := h; rfl
    obtain ⟨p, t, rfl, tt, hd, hd9, k⟩ := h
    have hrG : Room (n + 1) _ := hr
    have hlen := tt.small hd9
    have q6 : (" " : Str).length = 1 := by decide +kernel
    have q7 : ("day " : Str).length = 4 := by decide +kernel
    have q8 : (" to " : Str).length = 4 := by decide +kernel
    have q11 : ("(" : Str).length = 1 := by decide +kernel
    have q12 : (")" : Str).length = 1 := by decide +kernel
    have q13 : (" and " : Str).length = 5 := by decide +kernel
    have q14 : (" or " : Str).length = 4 := by decide +kernel
    refine ⟨_, (pss_cons (ps_if (pt_cmpR op_eq (pe_ix ix_tup (pv 0) pe_int (fun _ _ => rfl)) pe_str (nomark _)) (pss_one (ps_ret (pe_op op_add_str (pe_op op_add_str (pe_op op_add_str pe_str (pe_callTy call_str_int rfl T.b_str PyProof.Rows.boot_str (pac (pe_ix ix_tup (pv 0) pe_int (fun _ _ => rfl)) pa_nil))) pe_str) (pe_callTy call_str_int rfl T.b_str PyProof.Rows.boot_str (pac (pe_ix ix_tup (pv 0) pe_int (fun _ _ => rfl)) pa_nil))))) pss_nil)
        (pss_cons (ps_if (PW.pt (pw_or (pt_cmpR op_eq (pe_ix ix_tup (pv 0) pe_int (fun _ _ => rfl)) pe_str (nomark _)) (pw_or1 (pt_cmpR op_eq (pe_ix ix_tup (pv 0) pe_int (fun _ _ => rfl)) pe_str (nomark _))))) (pss_one (ps_ret (pe_op op_add_str (pe_op op_add_str (pe_ix ix_tup (pv 0) pe_int (fun _ _ => rfl)) pe_str) (pe_call G hrG rfl T.m_l_written F.kp b_l_written .nil pass0 (pac (pe_ix ix_tup (pv 0) pe_int (fun _ _ => rfl)) pa_nil))))) pss_nil)
        (pss_cons (ps_if (pt_cmpR op_eq (pe_ix ix_tup (pv 0) pe_int (fun _ _ => rfl)) pe_str (nomark _)) (pss_one (ps_ret (pe_op op_add_str (pe_op op_add_str (pe_op op_add_str (pe_op op_add_str pe_str (pe_call G hrG rfl T.m_l_written F.kp b_l_written .nil pass0 (pac (pe_ix ix_tup (pv 0) pe_int (fun _ _ => rfl)) pa_nil))) pe_str) (pe_call G hrG rfl T.m_l_written F.kp b_l_written .nil pass0 (pac (pe_ix ix_tup (pv 0) pe_int (fun _ _ => rfl)) pa_nil))) pe_str))) pss_nil)
        (pss_cons (ps_if (pt_cmpR op_eq (pe_ix ix_tup (pv 0) pe_int (fun _ _ => rfl)) pe_str (nomark _)) (pss_one (ps_ret (pe_op op_add_str (pe_op op_add_str (pe_op op_add_str (pe_op op_add_str pe_str (pe_call G hrG rfl T.m_l_written F.kp b_l_written .nil pass0 (pac (pe_ix ix_tup (pv 0) pe_int (fun _ _ => rfl)) pa_nil))) pe_str) (pe_call G hrG rfl T.m_l_written F.kp b_l_written .nil pass0 (pac (pe_ix ix_tup (pv 0) pe_int (fun _ _ => rfl)) pa_nil))) pe_str))) pss_nil)
        (pss_one (ps_ret (pe_bm PySem.F.plainAttrs_str PySem.F.slot_str_join PySem.F.type_str_join mt_joinT pe_str (pac (pv 0) pa_nil)))))))), ?_⟩
    have tt' := tt
    cases tt' with
    | days e b =>
      refine ⟨_, rfl, p, _, _, _, rfl, rfl, SqT.of e, rfl, rfl, _, rfl, hitS ?_⟩
      have h1 := num_le4 b.1 b.2.1
      have h2 := num_le4 b.2.2.1 b.2.2.2
      rw [wr_days] at k
      refine ⟨_, rfl, p, _, _, _, rfl, rfl, SqT.of e, rfl, _, rfl, log_day b.1 b.2.1, _, _, rfl, rfl, bigS (by rw [q7]; omega), _, _, rfl, rfl, bigS (by rw [app_len, q7, q8]; omega), _, rfl, p, _, _, _, rfl, rfl, SqT.of e, rfl, _, rfl, log_day b.2.2.1 b.2.2.2, _, _, rfl, rfl, bigS (by rw [app_len, app_len, q7, q8]; omega), k⟩
    | nt e h1 =>
      refine ⟨_, rfl, p, _, _, _, rfl, rfl, SqT.of e, rfl, rfl, _, rfl, skS (by decide +kernel) ?_⟩
      simp only [Tr.sz] at hd9
      have hu := h1.small (by omega)
      have q9 : ("not" : Str).length = 3 := by decide +kernel
      refine ⟨_, rfl, p, _, _, _, rfl, rfl, SqT.of e, rfl, rfl, _, rfl, hitS (iteT ?_)⟩
      refine ⟨_, rfl, p, _, _, _, rfl, rfl, SqT.of e, rfl, _, _, rfl, rfl, bigS (by rw [q9, q6]; decide), _, rfl, p, _, _, _, rfl, rfl, SqT.of e, rfl, _, _, rfl, h1, (by simp only [Tr.dp] at hd; omega), (by omega), _, _, rfl, rfl, bigS (by rw [app_len, q9, q6]; omega), k⟩
    | thr e h1 =>
      refine ⟨_, rfl, p, _, _, _, rfl, rfl, SqT.of e, rfl, rfl, _, rfl, skS (by decide +kernel) ?_⟩
      simp only [Tr.sz] at hd9
      have hu := h1.small (by omega)
      have q9 : ("thread" : Str).length = 6 := by decide +kernel
      refine ⟨_, rfl, p, _, _, _, rfl, rfl, SqT.of e, rfl, rfl, _, rfl, skS (by decide +kernel) ⟨_, rfl, p, _, _, _, rfl, rfl, SqT.of e, rfl, rfl, _, rfl, hitS ?_⟩⟩
      refine ⟨_, rfl, p, _, _, _, rfl, rfl, SqT.of e, rfl, _, _, rfl, rfl, bigS (by rw [q9, q6]; decide), _, rfl, p, _, _, _, rfl, rfl, SqT.of e, rfl, _, _, rfl, h1, (by simp only [Tr.dp] at hd; omega), (by omega), _, _, rfl, rfl, bigS (by rw [app_len, q9, q6]; omega), k⟩
    | bth e h1 h2 =>
      refine ⟨_, rfl, p, _, _, _, rfl, rfl, SqT.of e, rfl, rfl, _, rfl, skS (by decide +kernel) ?_⟩
      refine ⟨_, rfl, p, _, _, _, rfl, rfl, SqT.of e, rfl, rfl, _, rfl, skS (by decide +kernel) ⟨_, rfl, p, _, _, _, rfl, rfl, SqT.of e, rfl, rfl, _, rfl, skS (by decide +kernel) ?_⟩⟩
      refine ⟨_, rfl, p, _, _, _, rfl, rfl, SqT.of e, rfl, rfl, _, rfl, hitS ?_⟩
      simp only [Tr.sz] at hd9
      have hu := h1.small (by omega)
      have hv := h2.small (by omega)
      rw [wr_bth] at k
      refine ⟨_, rfl, p, _, _, _, rfl, rfl, SqT.of e, rfl, _, _, rfl, h1, (by simp only [Tr.dp] at hd; omega), (by omega), _, _, rfl, rfl, bigS (by rw [q11]; omega), _, _, rfl, rfl, bigS (by rw [app_len, q11, q13]; omega), _, rfl, p, _, _, _, rfl, rfl, SqT.of e, rfl, _, _, rfl, h2, (by simp only [Tr.dp] at hd; omega), (by omega), _, _, rfl, rfl, bigS (by rw [app_len, app_len, q11, q13]; omega), _, _, rfl, rfl, bigS (by rw [app_len, app_len, app_len, q11, q13, q12]; omega), k⟩
    | eth e h1 h2 =>
      refine ⟨_, rfl, p, _, _, _, rfl, rfl, SqT.of e, rfl, rfl, _, rfl, skS (by decide +kernel) ?_⟩
      refine ⟨_, rfl, p, _, _, _, rfl, rfl, SqT.of e, rfl, rfl, _, rfl, skS (by decide +kernel) ⟨_, rfl, p, _, _, _, rfl, rfl, SqT.of e, rfl, rfl, _, rfl, skS (by decide +kernel) ?_⟩⟩
      refine ⟨_, rfl, p, _, _, _, rfl, rfl, SqT.of e, rfl, rfl, _, rfl, skS (by decide +kernel) ?_⟩
      refine ⟨_, rfl, p, _, _, _, rfl, rfl, SqT.of e, rfl, rfl, _, rfl, hitS ?_⟩
      simp only [Tr.sz] at hd9
      have hu := h1.small (by omega)
      have hv := h2.small (by omega)
      rw [wr_eth] at k
      refine ⟨_, rfl, p, _, _, _, rfl, rfl, SqT.of e, rfl, _, _, rfl, h1, (by simp only [Tr.dp] at hd; omega), (by omega), _, _, rfl, rfl, bigS (by rw [q11]; omega), _, _, rfl, rfl, bigS (by rw [app_len, q11, q14]; omega), _, rfl, p, _, _, _, rfl, rfl, SqT.of e, rfl, _, _, rfl, h2, (by simp only [Tr.dp] at hd; omega), (by omega), _, _, rfl, rfl, bigS (by rw [app_len, app_len, q11, q14]; omega), _, _, rfl, rfl, bigS (by rw [app_len, app_len, app_len, q11, q14, q12]; omega), k⟩
    | any e =>
      refine ⟨_, rfl, p, _, _, _, rfl, rfl, SqT.of e, rfl, rfl, _, rfl, skS (by decide +kernel) ?_⟩
      refine ⟨_, rfl, p, _, _, _, rfl, rfl, SqT.of e, rfl, rfl, _, rfl, skS (by decide +kernel) ⟨_, rfl, p, _, _, _, rfl, rfl, SqT.of e, rfl, rfl, _, rfl, skS (by decide +kernel) ?_⟩⟩
      refine ⟨_, rfl, p, _, _, _, rfl, rfl, SqT.of e, rfl, rfl, _, rfl, skS (by decide +kernel) ?_⟩
      refine ⟨_, rfl, p, _, _, _, rfl, rfl, SqT.of e, rfl, rfl, _, rfl, skS (by decide +kernel) ?_⟩
      exact ⟨rfl, _, rfl, _, p, lpts (.any), rfl, rfl, SqT.of e, (by decide +kernel), k⟩
    | ans e =>
      refine ⟨_, rfl, p, _, _, _, rfl, rfl, SqT.of e, rfl, rfl, _, rfl, skS (by decide +kernel) ?_⟩
      refine ⟨_, rfl, p, _, _, _, rfl, rfl, SqT.of e, rfl, rfl, _, rfl, skS (by decide +kernel) ⟨_, rfl, p, _, _, _, rfl, rfl, SqT.of e, rfl, rfl, _, rfl, skS (by decide +kernel) ?_⟩⟩
      refine ⟨_, rfl, p, _, _, _, rfl, rfl, SqT.of e, rfl, rfl, _, rfl, skS (by decide +kernel) ?_⟩
      refine ⟨_, rfl, p, _, _, _, rfl, rfl, SqT.of e, rfl, rfl, _, rfl, skS (by decide +kernel) ?_⟩
      exact ⟨rfl, _, rfl, _, p, lpts (.ans), rfl, rfl, SqT.of e, (by decide +kernel), k⟩
    | word e hw =>
      refine ⟨_, rfl, p, _, _, _, rfl, rfl, SqT.of e, rfl, rfl, _, rfl, skS (by decide +kernel) ?_⟩
      refine ⟨_, rfl, p, _, _, _, rfl, rfl, SqT.of e, rfl, rfl, _, rfl, skS (by decide +kernel) ⟨_, rfl, p, _, _, _, rfl, rfl, SqT.of e, rfl, rfl, _, rfl, skS (by decide +kernel) ?_⟩⟩
      refine ⟨_, rfl, p, _, _, _, rfl, rfl, SqT.of e, rfl, rfl, _, rfl, skS (by decide +kernel) ?_⟩
      refine ⟨_, rfl, p, _, _, _, rfl, rfl, SqT.of e, rfl, rfl, _, rfl, skS (by decide +kernel) ?_⟩
      rename_i wd
      have := hw.hi
      have q : ("word" : Str).length ≤ 6 := by decide +kernel
      exact ⟨rfl, _, rfl, _, p, lpts (.word wd), rfl, rfl, SqT.of e, (by show ("word" : Str).length + (wd.length + 0) + 2 * 1 ≤ 16777216; omega), k⟩
    | title e hw =>
      refine ⟨_, rfl, p, _, _, _, rfl, rfl, SqT.of e, rfl, rfl, _, rfl, skS (by decide +kernel) ?_⟩
      refine ⟨_, rfl, p, _, _, _, rfl, rfl, SqT.of e, rfl, rfl, _, rfl, skS (by decide +kernel) ⟨_, rfl, p, _, _, _, rfl, rfl, SqT.of e, rfl, rfl, _, rfl, skS (by decide +kernel) ?_⟩⟩
      refine ⟨_, rfl, p, _, _, _, rfl, rfl, SqT.of e, rfl, rfl, _, rfl, skS (by decide +kernel) ?_⟩
      refine ⟨_, rfl, p, _, _, _, rfl, rfl, SqT.of e, rfl, rfl, _, rfl, skS (by decide +kernel) ?_⟩
      rename_i wd
      have := hw.hi
      have q : ("title" : Str).length ≤ 6 := by decide +kernel
      exact ⟨rfl, _, rfl, _, p, lpts (.title wd), rfl, rfl, SqT.of e, (by show ("title" : Str).length + (wd.length + 0) + 2 * 1 ≤ 16777216; omega), k⟩
    | frm e hw =>
      refine ⟨_, rfl, p, _, _, _, rfl, rfl, SqT.of e, rfl, rfl, _, rfl, skS (by decide +kernel) ?_⟩
      refine ⟨_, rfl, p, _, _, _, rfl, rfl, SqT.of e, rfl, rfl, _, rfl, skS (by decide +kernel) ⟨_, rfl, p, _, _, _, rfl, rfl, SqT.of e, rfl, rfl, _, rfl, skS (by decide +kernel) ?_⟩⟩
      refine ⟨_, rfl, p, _, _, _, rfl, rfl, SqT.of e, rfl, rfl, _, rfl, skS (by decide +kernel) ?_⟩
      refine ⟨_, rfl, p, _, _, _, rfl, rfl, SqT.of e, rfl, rfl, _, rfl, skS (by decide +kernel) ?_⟩
      rename_i wd
      have := hw.hi
      have q : ("from" : Str).length ≤ 6 := by decide +kernel
      exact ⟨rfl, _, rfl, _, p, lpts (.frm wd), rfl, rfl, SqT.of e, (by show ("from" : Str).length + (wd.length + 0) + 2 * 1 ≤ 16777216; omega), k⟩
    | inn e hw =>
      refine ⟨_, rfl, p, _, _, _, rfl, rfl, SqT.of e, rfl, rfl, _, rfl, skS (by decide +kernel) ?_⟩
      refine ⟨_, rfl, p, _, _, _, rfl, rfl, SqT.of e, rfl, rfl, _, rfl, skS (by decide +kernel) ⟨_, rfl, p, _, _, _, rfl, rfl, SqT.of e, rfl, rfl, _, rfl, skS (by decide +kernel) ?_⟩⟩
      refine ⟨_, rfl, p, _, _, _, rfl, rfl, SqT.of e, rfl, rfl, _, rfl, skS (by decide +kernel) ?_⟩
      refine ⟨_, rfl, p, _, _, _, rfl, rfl, SqT.of e, rfl, rfl, _, rfl, skS (by decide +kernel) ?_⟩
      rename_i wd
      have := hw.hi
      have q : ("in" : Str).length ≤ 6 := by decide +kernel
      exact ⟨rfl, _, rfl, _, p, lpts (.inn wd), rfl, rfl, SqT.of e, (by show ("in" : Str).length + (wd.length + 0) + 2 * 1 ≤ 16777216; omega), k⟩
    | mrk e hw =>
      refine ⟨_, rfl, p, _, _, _, rfl, rfl, SqT.of e, rfl, rfl, _, rfl, skS (by decide +kernel) ?_⟩
      refine ⟨_, rfl, p, _, _, _, rfl, rfl, SqT.of e, rfl, rfl, _, rfl, skS (by decide +kernel) ⟨_, rfl, p, _, _, _, rfl, rfl, SqT.of e, rfl, rfl, _, rfl, skS (by decide +kernel) ?_⟩⟩
      refine ⟨_, rfl, p, _, _, _, rfl, rfl, SqT.of e, rfl, rfl, _, rfl, skS (by decide +kernel) ?_⟩
      refine ⟨_, rfl, p, _, _, _, rfl, rfl, SqT.of e, rfl, rfl, _, rfl, skS (by decide +kernel) ?_⟩
      rename_i wd
      have := hw.hi
      have q : ("marked" : Str).length ≤ 6 := by decide +kernel
      exact ⟨rfl, _, rfl, _, p, lpts (.mrk wd), rfl, rfl, SqT.of e, (by show ("marked" : Str).length + (wd.length + 0) + 2 * 1 ≤ 16777216; omega), k⟩
end
theorem CondAt.ti {a : Adr} {H H' : Hp} {y : Addr} {t : Tr} (h : CondAt a H y t) (kt : ∀ c xs, H c = some (.tup xs) → H' c = some (.tup xs)) (ki : ∀ c D d f fs, H c = some (.ins D d ((("shape" : Str), f) :: fs)) → H' c = some (.ins D d ((("shape" : Str), f) :: fs))) : CondAt a H' y t := by
  induction h with
  | lf l e t => exact .lf l (ki _ _ _ _ _ e) (t.tups kt)
  | nt e t _ ih => exact .nt (ki _ _ _ _ _ e) (t.tups kt) ih
  | thr e t _ ih => exact .thr (ki _ _ _ _ _ e) (t.tups kt) ih
  | bth e t _ _ i1 i2 => exact .bth (ki _ _ _ _ _ e) (t.tups kt) i1 i2
  | eth e t _ _ i1 i2 => exact .eth (ki _ _ _ _ _ e) (t.tups kt) i1 i2
theorem CondAt.kr {a : Adr} {H H' : Hp} {R y : Addr} {t : Tr} {rs : List Str} (h : CondAt a H y t) (r : RdAt a H R rs) (k : KR R H H') : CondAt a H' y t := by
  obtain ⟨dx, l, ps, n, row, e1, _⟩ := r.ex
  have hne : ¬ ("pieces" : Str) = "shape" := by decide +kernel
  refine h.ti (fun c xs e => k c _ (ne_of e e1 (fun z => nomatch z)) e) fun c D d f fs e => k c _ (fun z => ?_) e
  rw [z, e1] at e
  injection e with e
  injection e with _ _ e
  injection e with e _
  injection e with e _
  exact hne e
section
variable {P : Program} {w : World} {K : PySem.W.Frag} {mg : Str → Option Value} {base : Heap} {a : Adr}
theorem ok_rc {fd : FuncData} (F : Fun K "read_condition" "read_condition" sread_condition a.f_read_condition fd) (T : Txt K mg a) (FF : Funs K a) : FnOk P w K mg base CX0 167 a.f_read_condition fd ["text"] (spRC a) := by
  obtain ⟨fd1, F1, b_i⟩ := FF.F_Reader_init
  have Gi : FnOkT P w K mg base CX0 2 a.f_Reader_init fd1 ["self", "text", "row"] (spRIn a) := ok_rin F1 T FF
  obtain ⟨fd2, F2, b_w⟩ := FF.F_Reader_read_whole
  have Gw : FnOk P w K mg base CX0 166 a.f_Reader_read_whole fd2 ["self"] (spWh a) := ok_wh F2 T FF
  obtain ⟨fd3, F3, b_x⟩ := FF.F_Reader_expect
  have Gx : FnOk P w K mg base CX0 3 a.f_Reader_expect fd3 ["self", "wanted"] (spExp a) := ok_exp F3 T FF
  refine F.ok sc_read_condition (fun vs H Q E h => ?_) (fun cdv A outer st H vs Q E hr h => ?_)
  · obtain ⟨x, t, rfl, _⟩ := h; rfl
  · obtain ⟨x, t, rfl, hl, hE, hd, k⟩ := h
    have hr166 : Room 166 _ := hr
    have hr3 : Room 3 _ := hr166.mono (by decide)
    refine ⟨_, (pss_cons (ps_set (i := 1) sc_read_condition.nd rfl (Or.inl rfl) (pe_makeT1 T.k_Reader Gi hr3 rfl T.mc_Reader b_i pass0 (pv 0)))
      (pss_cons (ps_set (i := 2) sc_read_condition.nd rfl (Or.inl rfl) (pe_meth0 (pv 1) T.c_Reader T.M_Reader_read_whole Gw hr166 b_w .nil pass0))
      (pss_cons (ps_expr (pe_meth (pv 1) T.c_Reader T.M_Reader_expect Gx hr3 b_x .nil pass0 (pac (pe_gl rfl T.g_END) pa_nil)))
      (pss_one (ps_ret (pv 2)))))), ?_⟩
    refine ⟨_, rfl, fun R dx nR nd ne => ?_⟩
    have sm : Same H (upd (upd H dx (.own R)) R (.ins a.C_Reader dx [])) := fun c o e => by rw [upd_ne (ne_of_none e nR), upd_ne (ne_of_none e nd)]; exact e
    refine ⟨R, dx, x, .int 0, rfl, upd_same, hl, fun H1 hk1 r1 => ⟨rfl, ?_⟩⟩
    have s1 : Same H H1 := fun c o e => hk1 c o (ne_of_none e nR) (sm _ _ e)
    obtain ⟨dx1, fs1, eR1, z1, z2, z3, z4, z5, z6, z7, z8, z9⟩ := r1.at
    refine ⟨_, rfl, R, dx1, _, rfl, eR1, z9, R, _, t, [], rfl, r1, hE, hd, fun y H2 k2 r2 hc => ?_⟩
    obtain ⟨dx2, fs2, eR2, y1, y2, y3, y4, y5, y6, y7, _⟩ := r2.at
    refine ⟨_, rfl, R, dx2, _, rfl, eR2, y7, .fin R rfl r2 fun H3 k3 => ⟨_, rfl, k y H3 (fun c o e => ?_) (hc.kr r2 k3)⟩⟩
    have ncR := ne_of_none e nR
    exact k3 c o ncR (k2 c o ncR (s1 _ _ e))
end
def tk : Tr → List Str
  | .any => ["any"]
  | .ans => ["answers"]
  | .word w => ["word", w]
  | .title w => ["title", w]
  | .frm w => ["from", w]
  | .inn w => ["in", w]
  | .mrk w => ["marked", w]
  | .days l h => ["day", Str.ofString (toString l), "to", Str.ofString (toString h)]
  | .nt u => "not" :: tk u
  | .thr u => "thread" :: tk u
  | .bth u v => ("(" : Str) :: (tk u ++ ("and" : Str) :: (tk v ++ [(")" : Str)]))
  | .eth u v => ("(" : Str) :: (tk u ++ ("or" : Str) :: (tk v ++ [(")" : Str)]))
theorem WordS.pc {x : Str} (h : WordS x) : pcs x = [x] := by
  refine pcs_one (fun c hc => ?_) (fun e => ?_)
  · have := h.in_ c hc
    have hz : ∀ c ∈ aZ.cps.toList, c ≠ 32 ∧ c ≠ 40 ∧ c ≠ 41 ∧ c ≠ 44 := by decide +kernel
    exact hz c this
  · have := h.lo
    rw [e] at this
    exact absurd this (by decide +kernel)
theorem lit_pc {x : Str} (h : (x.cps.toList.all fun c => decide (c ≠ 32 ∧ c ≠ 40 ∧ c ≠ 41 ∧ c ≠ 44)) = true) (hn : decide (x = ("" : Str)) = false) : pcs x = [x] :=
  pcs_one (fun c hc => of_decide_eq_true (List.all_eq_true.mp h c hc)) (of_decide_eq_false hn)
theorem dig_in {c : Nat} (h : 48 ≤ c ∧ c ≤ 57) : c ∈ ("0123456789" : Str).cps.toList := by
  have e : ("0123456789" : Str).cps.toList = [48, 49, 50, 51, 52, 53, 54, 55, 56, 57] := by decide +kernel
  rw [e]
  simp only [List.mem_cons, List.not_mem_nil, or_false]
  omega
theorem num_s {d : Int} (h0 : 0 ≤ d) (h1 : d ≤ 9999) : NumS (Str.ofString (toString d)) d := by
  have hl := num_ge1 h0
  have hd := num_digits h0
  refine ⟨hl, num_le4 h0 h1, ?_, ?_, h0, h1⟩
  · refine List.all_eq_true.mpr fun c hc => decide_eq_true (dig_in ?_)
    exact hd c hc
  · have h4 := num_le4 h0 h1
    rw [PySem.intText_digits hd (fun z => by
      have e2 : (Str.ofString (toString d)).cps.toList.length = (Str.ofString (toString d)).length := Array.length_toList
      rw [z] at e2
      rw [← e2] at hl
      exact absurd hl (by decide)) (by omega), num_val h0]
theorem num_pc {d : Int} (h0 : 0 ≤ d) (h1 : d ≤ 9999) : pcs (Str.ofString (toString d)) = [Str.ofString (toString d)] := by
  have hn := num_s h0 h1
  refine pcs_one (fun c hc => ?_) (fun e => ?_)
  · have hz : ∀ c ∈ ("0123456789" : Str).cps.toList, c ≠ 32 ∧ c ≠ 40 ∧ c ≠ 41 ∧ c ≠ 44 := by decide +kernel
    exact hz c (of_decide_eq_true (List.all_eq_true.mp hn.fg c hc))
  · have := hn.lo
    rw [e] at this
    exact absurd this (by decide +kernel)
theorem TAt.pieces {H : Hp} {p : Addr} {t : Tr} (h : TAt H p t) : pcs (wr t) = tk t := by
  induction h with
  | any e => exact lit_pc (by decide +kernel) (by decide +kernel)
  | ans e => exact lit_pc (by decide +kernel) (by decide +kernel)
  | word e w => show pcs (PySem.Txt.join " " ["word", _]) = _; rw [join_two, pcs_app, WordS.pc w, lit_pc (x := "word") (by decide +kernel) (by decide +kernel)]; rfl
  | title e w => show pcs (PySem.Txt.join " " ["title", _]) = _; rw [join_two, pcs_app, WordS.pc w, lit_pc (x := "title") (by decide +kernel) (by decide +kernel)]; rfl
  | frm e w => show pcs (PySem.Txt.join " " ["from", _]) = _; rw [join_two, pcs_app, WordS.pc w, lit_pc (x := "from") (by decide +kernel) (by decide +kernel)]; rfl
  | inn e w => show pcs (PySem.Txt.join " " ["in", _]) = _; rw [join_two, pcs_app, WordS.pc w, lit_pc (x := "in") (by decide +kernel) (by decide +kernel)]; rfl
  | mrk e w => show pcs (PySem.Txt.join " " ["marked", _]) = _; rw [join_two, pcs_app, WordS.pc w, lit_pc (x := "marked") (by decide +kernel) (by decide +kernel)]; rfl
  | days e b =>
    rename_i l h
    rw [wr_days, show ("day " : Str) = ("day" : Str) ++ " " by decide +kernel, show (" to " : Str) = ((" " : Str) ++ "to") ++ " " by decide +kernel]
    rw [← str_assoc3 _ ((" " : Str) ++ "to") " ", ← str_assoc3 _ (" " : Str) "to", pcs_app, pcs_app, pcs_app, num_pc b.1 b.2.1, num_pc b.2.2.1 b.2.2.2, lit_pc (x := "day") (by decide +kernel) (by decide +kernel), lit_pc (x := "to") (by decide +kernel) (by decide +kernel)]
    rfl
  | nt e _ ih => show pcs ((("not" : Str) ++ " ") ++ wr _) = _; rw [pcs_app, ih, lit_pc (x := "not") (by decide +kernel) (by decide +kernel)]; rfl
  | thr e _ ih => show pcs ((("thread" : Str) ++ " ") ++ wr _) = _; rw [pcs_app, ih, lit_pc (x := "thread") (by decide +kernel) (by decide +kernel)]; rfl
  | bth e _ _ i1 i2 =>
    rw [wr_bth, show (" and " : Str) = ((" " : Str) ++ "and") ++ " " by decide +kernel, ← str_assoc3 _ ((" " : Str) ++ "and") " ", ← str_assoc3 _ (" " : Str) "and", pcs_close, pcs_app, pcs_app, pcs_open, i1, i2, lit_pc (x := "and") (by decide +kernel) (by decide +kernel)]
    simp [tk]
  | eth e _ _ i1 i2 =>
    rw [wr_eth, show (" or " : Str) = ((" " : Str) ++ "or") ++ " " by decide +kernel, ← str_assoc3 _ ((" " : Str) ++ "or") " ", ← str_assoc3 _ (" " : Str) "or", pcs_close, pcs_app, pcs_app, pcs_open, i1, i2, lit_pc (x := "or") (by decide +kernel) (by decide +kernel)]
    simp [tk]
theorem TAt.reads {H : Hp} {p : Addr} {t : Tr} (h : TAt H p t) : ∀ (n th : Nat) (rest : List Str), t.dp < n → t.dp < 30 → t.th + th ≤ 2 → RS n th (tk t ++ rest) t rest := by
  have ac : ¬ (")" : Str) = "and" := by decide +kernel
  have oc : ¬ (")" : Str) = "or" := by decide +kernel
  have oa : ¬ ("or" : Str) = "and" := by decide +kernel
  induction h with
  | any e => intro n th rest h1 h2 h3; obtain ⟨m, rfl⟩ : ∃ m, n = m + 1 := ⟨n - 1, by omega⟩; exact ⟨_, _, rfl, .inl .any⟩
  | ans e => intro n th rest h1 h2 h3; obtain ⟨m, rfl⟩ : ∃ m, n = m + 1 := ⟨n - 1, by omega⟩; exact ⟨_, _, rfl, .inl .ans⟩
  | word e w => intro n th rest h1 h2 h3; obtain ⟨m, rfl⟩ : ∃ m, n = m + 1 := ⟨n - 1, by omega⟩; exact ⟨_, _, rfl, .inl (.word w)⟩
  | title e w => intro n th rest h1 h2 h3; obtain ⟨m, rfl⟩ : ∃ m, n = m + 1 := ⟨n - 1, by omega⟩; exact ⟨_, _, rfl, .inl (.title w)⟩
  | frm e w => intro n th rest h1 h2 h3; obtain ⟨m, rfl⟩ : ∃ m, n = m + 1 := ⟨n - 1, by omega⟩; exact ⟨_, _, rfl, .inl (.frm w)⟩
  | inn e w => intro n th rest h1 h2 h3; obtain ⟨m, rfl⟩ : ∃ m, n = m + 1 := ⟨n - 1, by omega⟩; exact ⟨_, _, rfl, .inl (.inn w)⟩
  | mrk e w => intro n th rest h1 h2 h3; obtain ⟨m, rfl⟩ : ∃ m, n = m + 1 := ⟨n - 1, by omega⟩; exact ⟨_, _, rfl, .inl (.mrk w)⟩
  | days e b => intro n th rest h1 h2 h3; obtain ⟨m, rfl⟩ : ∃ m, n = m + 1 := ⟨n - 1, by omega⟩; exact ⟨_, _, rfl, .inl (.dayto (num_s b.1 b.2.1) (num_s b.2.2.1 b.2.2.2))⟩
  | nt e _ ih =>
    intro n th rest h1 h2 h3; obtain ⟨m, rfl⟩ : ∃ m, n = m + 1 := ⟨n - 1, by omega⟩
    simp only [Tr.dp, Tr.th] at h1 h2 h3
    exact ⟨_, _, rfl, .inr (.inl ⟨rfl, by omega, _, ih m th rest (by omega) (by omega) (by omega), rfl, h2⟩)⟩
  | thr e _ ih =>
    intro n th rest h1 h2 h3; obtain ⟨m, rfl⟩ : ∃ m, n = m + 1 := ⟨n - 1, by omega⟩
    simp only [Tr.dp, Tr.th] at h1 h2 h3
    exact ⟨_, _, rfl, .inr (.inr (.inl ⟨rfl, by omega, _, ih m (th + 1) rest (by omega) (by omega) (by omega), rfl, h2⟩))⟩
  | bth e _ _ i1 i2 =>
    rename_i u v _ _
    intro n th rest h1 h2 h3; obtain ⟨m, rfl⟩ : ∃ m, n = m + 1 := ⟨n - 1, by omega⟩
    simp only [Tr.dp, Tr.th] at h1 h2 h3
    refine ⟨_, _, rfl, .inr (.inr (.inr ⟨rfl, by omega, .bth u v, (")" : Str) :: rest, ⟨u, ("and" : Str) :: (tk v ++ (")" : Str) :: rest), ?_, ?_⟩, .stop oc⟩))⟩
    · have := i1 m th (("and" : Str) :: (tk v ++ (")" : Str) :: rest)) (by omega) (by omega) (by omega)
      simpa using this
    · exact .more (i2 m th _ (by omega) (by omega) (by omega)) h2 (.stop ac)
  | eth e _ _ i1 i2 =>
    rename_i u v _ _
    intro n th rest h1 h2 h3; obtain ⟨m, rfl⟩ : ∃ m, n = m + 1 := ⟨n - 1, by omega⟩
    simp only [Tr.dp, Tr.th] at h1 h2 h3
    refine ⟨_, _, rfl, .inr (.inr (.inr ⟨rfl, by omega, u, ("or" : Str) :: (tk v ++ (")" : Str) :: rest), ⟨u, _, ?_, .stop oa⟩, ?_⟩))⟩
    · have := i1 m th (("or" : Str) :: (tk v ++ (")" : Str) :: rest)) (by omega) (by omega) (by omega)
      simpa using this
    · exact .more ⟨v, _, i2 m th _ (by omega) (by omega) (by omega), .stop ac⟩ h2 (.stop oc)
/-- brackets about it -/
theorem reads_in {t : Tr} (hS : ∀ (n th : Nat) (rest : List Str), t.dp < n → t.th + th ≤ 2 → RS n th (tk t ++ rest) t rest) : ∀ (k n : Nat) (rest : List Str), t.dp + k < n → t.th ≤ 2 → RS n 0 (List.replicate k ("(" : Str) ++ (tk t ++ (List.replicate k (")" : Str) ++ rest))) t rest
  | 0, n, rest, h, h2 => by simpa using hS n 0 rest (by omega) (by omega)
  | k + 1, n, rest, h, h2 => by
    have ac : ¬ (")" : Str) = "and" := by decide +kernel
    have oc : ¬ (")" : Str) = "or" := by decide +kernel
    obtain ⟨m, rfl⟩ : ∃ m, n = m + 1 := ⟨n - 1, by omega⟩
    have ih := reads_in hS k m ((")" : Str) :: rest) (by omega) h2
    have e : List.replicate (k + 1) (")" : Str) ++ rest = List.replicate k (")" : Str) ++ ((")" : Str) :: rest) := by
      rw [List.replicate_succ', List.append_assoc]; rfl
    rw [List.replicate_succ, e]
    exact ⟨_, _, rfl, .inr (.inr (.inr ⟨rfl, by omega, t, _, ⟨t, _, ih, .stop ac⟩, .stop oc⟩))⟩
theorem reads_whole {t : Tr} {ps : List Str} (h : RS 41 0 ps t []) : RE (RS 41 0) ps t [] := ⟨t, [], ⟨t, [], h, .stop (by decide +kernel)⟩, .stop (by decide +kernel)⟩
inductive spLeaf_I (vs : List V) (H : Hp) (Q : VK) : Prop
  | mk : ∀ (sh c : Int), vs = [.int sh, .int c] → 0 ≤ sh → sh < 2147483629 → 0 ≤ c → (∀ t p H', H p = none → Same H H' → TAt H' p t → t.dp = 0 → Q (.ref p) H') → spLeaf_I vs H Q
def spLeaf : Sp := fun vs H Q _ => spLeaf_I vs H Q
/-- the greatest f of the parts -/
def mxs (f : Tr → Nat) (us : List Tr) : Nat := us.foldl (fun z u => max z (f u)) 0
theorem mxs_snoc (f : Tr → Nat) (us : List Tr) (u : Tr) : mxs f (us ++ [u]) = max (mxs f us) (f u) := by unfold mxs; rw [List.foldl_append]; rfl
theorem th_subs (t : Tr) : t.th = mxs Tr.th (subs t) + (if nm1 t = ("thread" : Str) then 1 else 0) := by
  cases t with
  | thr u => show u.th + 1 = max 0 u.th + 1; omega
  | nt u => rw [if_neg (show ¬ nm1 (.nt u) = ("thread" : Str) by show ¬ ("not" : Str) = "thread"; decide +kernel)]; show u.th = max 0 u.th + 0; omega
  | bth u v => rw [if_neg (show ¬ nm1 (.bth u v) = ("thread" : Str) by show ¬ ("both" : Str) = "thread"; decide +kernel)]; show max u.th v.th = max (max 0 u.th) v.th + 0; omega
  | eth u v => rw [if_neg (show ¬ nm1 (.eth u v) = ("thread" : Str) by show ¬ ("either" : Str) = "thread"; decide +kernel)]; show max u.th v.th = max (max 0 u.th) v.th + 0; omega
  | any => decide +kernel
  | ans => decide +kernel
  | word w => rw [if_neg (show ¬ nm1 (.word w) = ("thread" : Str) by show ¬ ("word" : Str) = "thread"; decide +kernel)]; rfl
  | title w => rw [if_neg (show ¬ nm1 (.title w) = ("thread" : Str) by show ¬ ("title" : Str) = "thread"; decide +kernel)]; rfl
  | frm w => rw [if_neg (show ¬ nm1 (.frm w) = ("thread" : Str) by show ¬ ("from" : Str) = "thread"; decide +kernel)]; rfl
  | days l h => rw [if_neg (show ¬ nm1 (.days l h) = ("thread" : Str) by show ¬ ("day" : Str) = "thread"; decide +kernel)]; rfl
  | inn w => rw [if_neg (show ¬ nm1 (.inn w) = ("thread" : Str) by show ¬ ("in" : Str) = "thread"; decide +kernel)]; rfl
  | mrk w => rw [if_neg (show ¬ nm1 (.mrk w) = ("thread" : Str) by show ¬ ("marked" : Str) = "thread"; decide +kernel)]; rfl
inductive spThr_I (n : Nat) (vs : List V) (H : Hp) (Q : VK) : Prop
  | mk : ∀ p t, vs = [.ref p] → TAt H p t → t.dp < n → (∀ H', Same H H' → Q (.int (t.th : Int)) H') → spThr_I n vs H Q
def spThr (n : Nat) : Sp := fun vs H Q _ => spThr_I n vs H Q
theorem leaf_name : ∀ v ∈ ([.str "word", .str "title", .str "from", .str "in", .str "marked", .str "word", .str "marked"] : List V), ∃ (s : Str) (f : Str → Tr), v = .str s ∧ (∀ u, (f u).dp = 0) ∧ ∀ (H : Hp) p u, H p = some (.tup [.str s, .str u]) → WordS u → TAt H p (f u) := by
  intro v hv
  simp only [List.mem_cons, List.not_mem_nil, or_false] at hv
  rcases hv with rfl | rfl | rfl | rfl | rfl | rfl | rfl
  · exact ⟨_, .word, rfl, fun _ => rfl, fun H p u e w => .word e w⟩
  · exact ⟨_, .title, rfl, fun _ => rfl, fun H p u e w => .title e w⟩
  · exact ⟨_, .frm, rfl, fun _ => rfl, fun H p u e w => .frm e w⟩
  · exact ⟨_, .inn, rfl, fun _ => rfl, fun H p u e w => .inn e w⟩
  · exact ⟨_, .mrk, rfl, fun _ => rfl, fun H p u e w => .mrk e w⟩
  · exact ⟨_, .word, rfl, fun _ => rfl, fun H p u e w => .word e w⟩
  · exact ⟨_, .mrk, rfl, fun _ => rfl, fun H p u e w => .mrk e w⟩
theorem at_ints {xs : List Int} {i : Int} (h0 : 0 ≤ i) (h1 : i < (xs.length : Int)) : ∃ z ∈ xs, atI (xs.map V.int) i = some (.int z) := by
  obtain ⟨v, hv, hm, _⟩ := atI_some (xs := xs.map V.int) (i := i) h0 (by rw [List.length_map]; exact h1)
  obtain ⟨z, hz, rfl⟩ := List.mem_map.mp hm
  exact ⟨z, hz, hv⟩
section
variable {P : Program} {w : World} {K : PySem.W.Frag} {mg : Str → Option Value} {base : Heap} {a : Adr}
theorem ok_leaf {fd : FuncData} (F : Fun K "_law_leaf_by" "_law_leaf_by" sl_leaf_by a.f_l_leaf_by fd) (T : Txt K mg a) (FF : Funs K a) : FnOk P w K mg base CX0 2 a.f_l_leaf_by fd ["_law_shape", "_law_cell"] spLeaf := by
  obtain ⟨fdW, F_l_word_by, b_l_word_by⟩ := FF.F_l_word_by
  have G_l_word_by : FnOk P w K mg base CX0 1 a.f_l_word_by fdW ["_law_shape", "_law_k"] spWordBy := ok_wordBy F_l_word_by T
  refine F.ok sc_l_leaf_by (fun vs H Q E h => ?_) (fun cdv A outer st H vs Q E hr h => ?_)
  · obtain ⟨sh, c, rfl, _⟩ := h; rfl
  · obtain ⟨sh, c, rfl, hs0, hs1, hc, k⟩ := h
    have hr_l_word_by : Room 1 _ := hr
    refine ⟨_, (pss_cons (ps_set (i := 2) sc_l_leaf_by.nd rfl (Or.inl rfl) (pe_call G_l_word_by hr_l_word_by rfl T.m_l_word_by F_l_word_by.kp b_l_word_by .nil pass0 (pac (pv 0) (pac (pe_op op_mod (pe_op op_fdiv (pv 1) pe_int) pe_int) pa_nil))))
        (pss_cons (ps_set (i := 3) sc_l_leaf_by.nd rfl (Or.inl rfl) (pe_op op_mod (pv 1) pe_int))
        (pss_cons (ps_if (pt_cmpR op_eq (pv 3) pe_int (nomark _)) (pss_one (ps_ret (pe_tupG (pas_cons pe_str pas_nil)))) pss_nil)
        (pss_cons (ps_if (pt_cmpR op_eq (pv 3) pe_int (nomark _)) (pss_one (ps_ret (pe_tupG (pas_cons pe_str pas_nil)))) pss_nil)
        (pss_cons (ps_if (pt_cmpR op_lt (pv 3) pe_int (nomark _)) (pss_cons (ps_set (i := 4) sc_l_leaf_by.nd rfl (Or.inl rfl) (pe_ix ix_list (pe_lstG (pas_cons pe_int (pas_cons (pe_op op_mod (pe_op op_fdiv (pv 1) pe_int) pe_int) (pas_cons (pe_op op_mod (pe_op op_fdiv (pv 1) pe_int) pe_int) pas_nil)))) (pe_op op_mod (pe_op op_fdiv (pv 1) pe_int) pe_int) (fun _ _ => rfl)))
        (pss_one (ps_ret (pe_tupG (pas_cons pe_str (pas_cons (pv 4) (pas_cons (pe_ix ix_list (pe_lstG (pas_cons (pv 4) (pas_cons pe_int (pas_cons (pe_op op_mod (pe_op op_fdiv (pv 1) pe_int) pe_int) (pas_cons (pe_op op_mod (pe_op op_fdiv (pv 1) pe_int) pe_int) pas_nil))))) (pe_op op_mod (pe_op op_fdiv (pv 1) pe_int) pe_int) (fun _ _ => rfl)) pas_nil))))))) pss_nil)
        (pss_one (ps_ret (pe_tupG (pas_cons (pe_ix ix_list (pe_lstG (pas_cons pe_str (pas_cons pe_str (pas_cons pe_str (pas_cons pe_str (pas_cons pe_str (pas_cons pe_str (pas_cons pe_str pas_nil)))))))) (pe_op op_sub (pv 3) pe_int) (fun _ _ => rfl)) (pas_cons (pv 2) pas_nil)))))))))), ?_⟩
    have m0 : 0 ≤ c / 11 % 5 := Int.emod_nonneg _ (by decide)
    have m1 : c / 11 % 5 < 5 := Int.emod_lt_of_pos _ (by decide)
    have n0 : 0 ≤ c % 11 := Int.emod_nonneg _ (by decide)
    have n1 : c % 11 < 11 := Int.emod_lt_of_pos _ (by decide)
    refine ⟨_, rfl, _, rfl, _, _, rfl, rfl, ⟨by decide, by decide⟩, _, _, rfl, rfl, (by show (0 : Int) < 5; decide), sh, c / 11 % 5, rfl, hs0, by omega, m0, by omega, fun H1 s1 => ?_⟩
    have hwd : WordS (wordBy sh (c / 11 % 5)) := wordBy_ok m0 (by omega)
    generalize wordBy sh (c / 11 % 5) = wd at hwd
    refine ⟨_, rfl, _, _, rfl, rfl, (by show (0 : Int) < 11; decide), ?_⟩
    refine ⟨_, rfl, rfl, _, rfl, ?_⟩
    rw [int_eq]
    by_cases h0 : c % 11 = 0
    · rw [decide_eq_true h0]
      exact iteT ⟨(by show 1 ≤ sizeLine; decide), fun p H2 np s2 e2 => k .any p H2 (s1.free np) (s1.trans s2) (.any e2) rfl⟩
    rw [decide_eq_false h0]
    refine iteF ⟨_, rfl, rfl, _, rfl, ?_⟩
    rw [int_eq]
    by_cases h1 : c % 11 = 1
    · rw [decide_eq_true h1]
      exact iteT ⟨(by show 1 ≤ sizeLine; decide), fun p H2 np s2 e2 => k .ans p H2 (s1.free np) (s1.trans s2) (.ans e2) rfl⟩
    rw [decide_eq_false h1]
    refine iteF ⟨_, rfl, _, _, rfl, rfl, _, rfl, ?_⟩
    by_cases h2 : c % 11 < 4
    · rw [decide_eq_true h2]
      have fm : ∀ n : Int, True := fun _ => trivial
      refine iteT ⟨_, rfl, _, _, rfl, rfl, ⟨by decide, by decide⟩, _, _, rfl, rfl, (by show (0 : Int) < 10000; decide), _, rfl, _, _, rfl, rfl, ⟨by decide, by decide⟩, _, _, rfl, rfl, (by show (0 : Int) < 9; decide), (by show 3 ≤ sizeLine; decide), fun l H2 nl s2 e2 => ?_⟩
      obtain ⟨lo, mlo, hlo⟩ := at_ints (xs := [0, c / 55 % 10000, c / 55 % 9]) (i := c / 3 % 3) (Int.emod_nonneg _ (by decide)) (Int.emod_lt_of_pos _ (by decide))
      refine ⟨_, rfl, _, _, rfl, rfl, ⟨by decide, by decide⟩, _, _, rfl, rfl, (by show (0 : Int) < 3; decide), l, _, _, _, rfl, rfl, SqL.of e2, hlo, ?_⟩
      refine ⟨_, rfl, _, rfl, _, rfl, _, _, rfl, rfl, ⟨by decide, by decide⟩, _, _, rfl, rfl, (by show (0 : Int) < 10000; decide), _, rfl, _, _, rfl, rfl, ⟨by decide, by decide⟩, _, _, rfl, rfl, (by show (0 : Int) < 9; decide), (by show 4 ≤ sizeLine; decide), fun l2 H3 nl2 s3 e3 => ?_⟩
      obtain ⟨hi, mhi, hhi⟩ := at_ints (xs := [lo, 9999, c / 77 % 10000, c / 77 % 9]) (i := c / 5 % 4) (Int.emod_nonneg _ (by decide)) (Int.emod_lt_of_pos _ (by decide))
      refine ⟨_, rfl, _, _, rfl, rfl, ⟨by decide, by decide⟩, _, _, rfl, rfl, (by show (0 : Int) < 4; decide), l2, _, _, _, rfl, rfl, SqL.of e3, hhi, (by show 3 ≤ sizeLine; decide), fun p H4 np s4 e4 => ?_⟩
      have r1 : 0 ≤ c / 55 % 10000 ∧ c / 55 % 10000 < 10000 := ⟨Int.emod_nonneg _ (by decide), Int.emod_lt_of_pos _ (by decide)⟩
      have r2 : 0 ≤ c / 55 % 9 ∧ c / 55 % 9 < 9 := ⟨Int.emod_nonneg _ (by decide), Int.emod_lt_of_pos _ (by decide)⟩
      have r3 : 0 ≤ c / 77 % 10000 ∧ c / 77 % 10000 < 10000 := ⟨Int.emod_nonneg _ (by decide), Int.emod_lt_of_pos _ (by decide)⟩
      have r4 : 0 ≤ c / 77 % 9 ∧ c / 77 % 9 < 9 := ⟨Int.emod_nonneg _ (by decide), Int.emod_lt_of_pos _ (by decide)⟩
      have blo : 0 ≤ lo ∧ lo ≤ 9999 := by
        simp only [List.mem_cons, List.not_mem_nil, or_false] at mlo
        rcases mlo with rfl | rfl | rfl <;> omega
      have bhi : 0 ≤ hi ∧ hi ≤ 9999 := by
        simp only [List.mem_cons, List.not_mem_nil, or_false] at mhi
        rcases mhi with rfl | rfl | rfl | rfl <;> omega
      exact k (.days lo hi) p H4 (s1.free (s2.free (s3.free np))) (((s1.trans s2).trans s3).trans s4) (.days e4 ⟨blo.1, blo.2, bhi.1, bhi.2⟩) rfl
    · rw [decide_eq_false h2]
      refine iteF ⟨(by show 7 ≤ sizeLine; decide), fun l H2 nl s2 e2 => ?_⟩
      obtain ⟨v, hv, hvm, _⟩ := atI_some (xs := [V.str "word", V.str "title", V.str "from", V.str "in", V.str "marked", V.str "word", V.str "marked"]) (i := c % 11 - 4) (by omega) (by show c % 11 - 4 < 7; omega)
      obtain ⟨nm, f, rfl, fd0, ft⟩ := leaf_name v hvm
      refine ⟨_, rfl, _, _, rfl, rfl, l, _, _, _, rfl, rfl, SqL.of e2, hv, _, rfl, (by show 2 ≤ sizeLine; decide), fun p H3 np s3 e3 => ?_⟩
      exact k (f wd) p H3 (s1.free (s2.free np)) ((s1.trans s2).trans s3) (ft H3 p wd e3 hwd) (fd0 wd)
end
section
variable {P : Program} {w : World} {K : PySem.W.Frag} {mg : Str → Option Value} {base : Heap} {a : Adr}
theorem ok_thr {fd : FuncData} (F : Fun K "_law_threads" "_law_threads" sl_threads a.f_l_threads fd) (b_l_threads : Binds K fd ["_law_tree"] []) (T : Txt K mg a) : ∀ n, FnOk P w K mg base CX0 (n + 1) a.f_l_threads fd ["_law_tree"] (spThr n)
  | 0 => by
    refine F.ok sc_l_threads (fun vs H Q E h => ?_) (fun cdv A outer st H vs Q E hr h => ?_)
    · obtain ⟨p, t, rfl, _⟩ := h; rfl
    · obtain ⟨p, t, _, _, h, _⟩ := h; exact absurd h (Nat.not_lt_zero _)
  | n + 1 => by
    have G_l_threads := ok_thr F b_l_threads T n
    refine F.ok sc_l_threads (fun vs H Q E h => ?_) (fun cdv A outer st H vs Q E hr h => ?_)
    · obtain ⟨p, t, rfl, _⟩ := h; rfl
    obtain ⟨p, t, rfl, tt, hd, k⟩ := h
    have hr_l_threads : Room (n + 1) _ := hr
    refine ⟨_, (pss_cons (ps_set (i := 1) sc_l_threads.nd rfl (Or.inl rfl) pe_int)
        (pss_cons (ps_for PassesOwn.never rfl (pi_tup (pe_slice sl_tupG (pv 0) (po_some pe_int) po_none)) (pg_name (i := 2) sc_l_threads.nd rfl (Or.inl rfl)) (pss_one (ps_if (pt_val (pe_callB call_isinst rfl T.b_isinstance PyProof.Rows.boot_isinstance (pac (pv 2) (pac (pe_bltn (v := .ty "tuple") rfl T.b_tuple PyProof.Rows.boot_tuple rfl) pa_nil)))) (pss_one (ps_set (i := 1) sc_l_threads.nd rfl (Or.inl rfl) (pe_callB (call_max2 rfl) rfl T.b_max PyProof.Rows.boot_max (pac (pv 1) (pac (pe_call G_l_threads hr_l_threads rfl T.m_l_threads F.kp b_l_threads .nil pass0 (pac (pv 2) pa_nil)) pa_nil))))) pss_nil)))
        (pss_one (ps_ret (pe_op op_add (pv 1) (pe_callTy call_int1 rfl T.b_int PyProof.Rows.boot_int (pac (pe_cmpR op_eq (pe_ix ix_tup (pv 0) pe_int (fun _ _ => rfl)) pe_str (nomark _)) pa_nil))))))), ?_⟩
    obtain ⟨ks, e, hl, hsub, hm⟩ := tt.kids
    have ec : cutV (V.str (nm1 t) :: ks.map (·.1)) (some 1) none = ks.map (·.1) := cut1 _ _
    refine ⟨_, rfl, _, rfl, p, _, rfl, e, fun q H1 s1 e1 => ?_⟩
    rw [ec] at e1
    refine ⟨q, rfl, ⟨_, SqT.of e1⟩, for_tup (K := K) (a := q) (xs := ks.map (·.1)) (fun i σ H2 => ∃ (o : Option V), σ = [some (.ref p), some (.int (mxs Tr.th ((ks.take i).filterMap (·.2)) : Int)), o] ∧ Same H H2 ∧ H2 q = some (.tup (ks.map (·.1)))) ⟨none, rfl, s1, e1⟩ (fun i σ H2 _ ⟨_, _, _, h⟩ => SqT.of h) ?_ ?_⟩
    · rintro i v σ H2 hi ⟨o, rfl, s2, e2⟩
      rw [List.getElem?_map] at hi
      cases ek : ks[i]? with
      | none => rw [ek] at hi; cases hi
      | some kd =>
        rw [ek] at hi
        cases hi
        have hkd := (hm kd (List.mem_of_getElem? ek)).mono s2
        have htk : ks.take (i + 1) = ks.take i ++ [kd] := by rw [List.take_add_one, ek]; rfl
        obtain ⟨v, ou⟩ := kd
        cases ou with
        | none =>
          have et : (ks.take (i + 1)).filterMap (·.2) = (ks.take i).filterMap (·.2) := by rw [htk, List.filterMap_append]; simp
          rcases hkd with ⟨y, rfl⟩ | ⟨y, rfl⟩
          · exact ⟨_, rfl, _, _, _, _, _, rfl, rfl, TyOf.str _, kitST, _, rfl, iteF ⟨_, by rw [et]; rfl, s2, e2⟩⟩
          · exact ⟨_, rfl, _, _, _, _, _, rfl, rfl, TyOf.int _, kitIT, _, rfl, iteF ⟨_, by rw [et]; rfl, s2, e2⟩⟩
        | some u =>
          obtain ⟨r, rfl, hu, hud, _⟩ := hkd
          have et : (ks.take (i + 1)).filterMap (·.2) = (ks.take i).filterMap (·.2) ++ [u] := by rw [htk, List.filterMap_append]; simp
          obtain ⟨ks', er, _⟩ := hu.kids
          refine ⟨_, rfl, _, _, _, _, _, rfl, rfl, TyOf.tup er, kitTT, _, rfl, iteT ⟨_, rfl, _, rfl, r, u, rfl, hu, by omega, fun H3 s3 => ?_⟩⟩
          refine ⟨_, _, rfl, some (.ref r), ?_, s2.trans s3, s3 _ _ e2⟩
          rw [et, mxs_snoc]
          show _ = [_, some (V.int _), _]
          rw [show (if (u.th : Int) > (mxs Tr.th ((ks.take i).filterMap (·.2)) : Int) then (u.th : Int) else (mxs Tr.th ((ks.take i).filterMap (·.2)) : Int)) = ((max (mxs Tr.th ((ks.take i).filterMap (·.2))) u.th : Nat) : Int) by split <;> omega]
          rfl
    · rintro σ H2 ⟨o, rfl, s2, e2⟩
      rw [List.length_map, List.take_of_length_le (Nat.le_refl _), ← hsub]
      have kk := k H2 s2
      rw [th_subs t] at kk
      refine ⟨_, rfl, _, rfl, p, _, _, V.str (nm1 t), rfl, rfl, SqT.of (s2 _ _ e), atI_nat (j := 0) rfl, rfl, .inr ⟨_, rfl, _, _, rfl, rfl, ?_⟩⟩
      rw [str_eq]
      by_cases hn : nm1 t = ("thread" : Str)
      · rw [if_pos hn] at kk
        rw [decide_eq_true hn, if_pos rfl]
        exact kk
      · rw [if_neg hn] at kk
        rw [decide_eq_false hn, if_neg (by decide)]
        exact kk
end
/-- a tree at its place, of which at most two thread stand within one another -/
structure TB (H : Hp) (p : Addr) (t : Tr) : Prop where
  a : TAt H p t
  th : t.th ≤ 2
theorem TB.mono {H H' : Hp} {p : Addr} {t : Tr} (h : TB H p t) (k : Same H H') : TB H' p t := ⟨h.a.mono k, h.th⟩
theorem TB.tups {H H' : Hp} {p : Addr} {t : Tr} (h : TB H p t) (k : ∀ c xs, H c = some (.tup xs) → H' c = some (.tup xs)) : TB H' p t := ⟨h.a.tups k, h.th⟩
theorem leaf_th : ∀ {t : Tr}, t.dp = 0 → t.th = 0
  | .any, _ => rfl
  | .ans, _ => rfl
  | .word _, _ => rfl
  | .title _, _ => rfl
  | .frm _, _ => rfl
  | .days _ _, _ => rfl
  | .inn _, _ => rfl
  | .mrk _, _ => rfl
structure PL (H0 H : Hp) (D : Addr) (ps : List (Addr × Tr)) (n : Nat) : Prop where
  s : Same H0 H
  nD : H0 D = none
  e : H D = some (.lst (ps.map fun x => V.ref x.1))
  t : ∀ x ∈ ps, TB H x.1 x.2 ∧ x.2.dp + ps.length ≤ n
theorem PL.app {H0 H H' : Hp} {D q : Addr} {t : Tr} {ps : List (Addr × Tr)} {n : Nat} (h : PL H0 H D ps n) (s : Same H H') (ht : TAt H' q t) (hd : t.dp = 0) (hn : ps.length ≤ n) : PL H0 (upd H' D (.lst ((ps.map fun x => V.ref x.1) ++ [.ref q]))) D (ps ++ [(q, t)]) (n + 1) := by
  have hD := s _ _ h.e
  have kt : ∀ c xs, H' c = some (.tup xs) → (upd H' D (.lst ((ps.map fun x => V.ref x.1) ++ [.ref q]))) c = some (.tup xs) := fun c xs e => by rw [upd_ne (ne_of e hD (fun z => nomatch z))]; exact e
  refine ⟨(h.s.trans s).upd_of h.nD, h.nD, by rw [upd_same, List.map_append]; rfl, fun x hx => ?_⟩
  rw [List.length_append, List.length_singleton]
  rcases List.mem_append.mp hx with hx | hx
  · exact ⟨((h.t x hx).1.mono s).tups kt, by have := (h.t x hx).2; omega⟩
  · rw [List.mem_singleton.mp hx]
    exact ⟨⟨ht.tups kt, by have := leaf_th hd; dsimp only; omega⟩, by dsimp only; omega⟩
theorem PL.repl {H0 H H' : Hp} {D D' p : Addr} {t : Tr} {ps l : List (Addr × Tr)} {n n' : Nat} (h : PL H0 H D (ps ++ l) n) (s : Same H H') (nD : H D' = none) (e : H' D' = some (.lst ((ps.map fun x => V.ref x.1) ++ [.ref p]))) (ht : TB H' p t) (hl : 1 ≤ l.length) (hd : t.dp + ps.length + 1 ≤ n') (hn : n ≤ n') : PL H0 H' D' (ps ++ [(p, t)]) n' := by
  refine ⟨h.s.trans s, h.s.free nD, by rw [e, List.map_append]; rfl, fun x hx => ?_⟩
  rw [List.length_append, List.length_singleton]
  rcases List.mem_append.mp hx with hx | hx
  · have q := h.t x (List.mem_append_left _ hx)
    rw [List.length_append] at q
    exact ⟨q.1.mono s, by have := q.2; omega⟩
  · rw [List.mem_singleton.mp hx]
    exact ⟨ht, by dsimp only; omega⟩
theorem snoc_of {α : Type} {l : List α} (h : 0 < l.length) : ∃ l0 x, l = l0 ++ [x] := ⟨l.dropLast, l.getLast (by intro z; rw [z] at h; cases h), (List.dropLast_concat_getLast _).symm⟩
theorem int_at {cs : List Int} {i : Nat} {x : V} (h : (cs.map V.int)[i]? = some x) : ∃ c, x = .int c ∧ cs[i]? = some c := by
  rw [List.getElem?_map] at h
  cases e : cs[i]? with
  | none => rw [e] at h; cases h
  | some c => rw [e] at h; cases h; exact ⟨c, rfl, rfl⟩
def lenAt (H : Hp) : Option V → Nat
  | some (.ref D) => (match H D with | some (.lst xs) => xs.length | _ => 0)
  | _ => 0
theorem cut_last2 {α : Type} (f : α → V) (xs : List α) (x y : α) : cutV ((xs ++ [x, y]).map f) none (some (-2)) = xs.map f := by
  have h1 : (-2 : Int) < 0 := by decide
  simp only [cutV, HT.sIx, if_pos h1, List.drop_zero, List.length_map, List.length_append, List.length_cons, List.length_nil, Nat.sub_zero, ← List.map_take]
  congr 1
  have e : (-2 + ((xs.length + (0 + 1 + 1) : Nat) : Int)).toNat = xs.length := by omega
  rw [e, List.take_left]
theorem atI_last2 {α : Type} (xs : List α) (u v : α) : atI (xs ++ [u, v]) (-2) = some u := by
  have hl : (xs ++ [u, v]).length = xs.length + 2 := by simp
  have e : ixN (xs ++ [u, v]).length (-2) = some xs.length := by
    unfold ixN
    rw [hl, if_neg (by decide), if_pos (by omega)]
    congr 1
    omega
  unfold atI
  rw [e]
  show (xs ++ [u, v])[xs.length]? = some u
  simp
theorem atI_last1 {α : Type} (xs : List α) (u v : α) : atI (xs ++ [u, v]) (-1) = some v := by
  have := atI_last (xs ++ [u]) v
  rwa [List.append_assoc] at this
theorem join_name : ∀ v ∈ ([.str "both", .str "either"] : List V), ∃ (s : Str) (f : Tr → Tr → Tr), v = .str s ∧ (∀ u v, (f u v).dp = max u.dp v.dp + 1) ∧ ∀ (H : Hp) p q r u v, H p = some (.tup [.str s, .ref q, .ref r]) → TB H q u → TB H r v → TB H p (f u v) := by
  intro v hv
  simp only [List.mem_cons, List.not_mem_nil, or_false] at hv
  rcases hv with rfl | rfl
  · exact ⟨_, .bth, rfl, fun _ _ => rfl, fun H p q r u v e h1 h2 => ⟨.bth e h1.a h2.a, by have := h1.th; have := h2.th; show max _ _ ≤ 2; omega⟩⟩
  · exact ⟨_, .eth, rfl, fun _ _ => rfl, fun H p q r u v e h1 h2 => ⟨.eth e h1.a h2.a, by have := h1.th; have := h2.th; show max _ _ ≤ 2; omega⟩⟩
inductive spTB_I (vs : List V) (H : Hp) (Q : VK) : Prop
  | mk : ∀ (sh : Int) (p : Addr) (cs : List Int), vs = [.int sh, .ref p] → 0 ≤ sh → sh < 2147483629 → H p = some (.lst (cs.map V.int)) → (∀ c ∈ cs, 0 ≤ c) → 1 ≤ cs.length → cs.length ≤ 10 → (∀ t q H', Same H H' → TB H' q t → t.dp < cs.length → Q (.ref q) H') → spTB_I vs H Q
def spTB : Sp := fun vs H Q _ => spTB_I vs H Q
section
variable {P : Program} {w : World} {K : PySem.W.Frag} {mg : Str → Option Value} {base : Heap} {a : Adr}
theorem ok_tb {fd : FuncData} (F : Fun K "_law_tree_by" "_law_tree_by" sl_tree_by a.f_l_tree_by fd) (T : Txt K mg a) (FF : Funs K a) : FnOk P w K mg base CX0 13 a.f_l_tree_by fd ["_law_shape", "_law_cells"] spTB := by
  obtain ⟨fdL, F_l_leaf_by, b_l_leaf_by⟩ := FF.F_l_leaf_by
  have G_l_leaf_by : FnOk P w K mg base CX0 2 a.f_l_leaf_by fdL ["_law_shape", "_law_cell"] spLeaf := ok_leaf F_l_leaf_by T FF
  obtain ⟨fdT, F_l_threads, b_l_threads⟩ := FF.F_l_threads
  have G_l_threads : FnOk P w K mg base CX0 12 a.f_l_threads fdT ["_law_tree"] (spThr 11) := ok_thr F_l_threads b_l_threads T 11
  refine F.ok sc_l_tree_by (fun vs H Q E h => ?_) (fun cdv A outer st H vs Q E hr h => ?_)
  · obtain ⟨sh, p, cs, rfl, _⟩ := h; rfl
  · obtain ⟨sh, p, cs, rfl, hs0, hs1, hp, hcs, hl1, hl8, k⟩ := h
    have hr_l_threads : Room 12 _ := hr
    have hr_l_leaf_by : Room 2 _ := hr_l_threads.mono (by decide)
    refine ⟨_, (pss_cons (ps_set (i := 2) sc_l_tree_by.nd rfl (Or.inl rfl) (pe_lstG pas_nil))
        (pss_cons (ps_for PassesOwn.never rfl (pi_list (pv 1)) (pg_name (i := 3) sc_l_tree_by.nd rfl (Or.inl rfl)) (pss_cons (ps_set (i := 4) sc_l_tree_by.nd rfl (Or.inl rfl) (pe_op op_mod (pv 3) pe_int))
        (pss_one (ps_if (PW.pt (pw_and (pt_cmpR op_lt (pv 4) pe_int (nomark _)) (pw_and1 (pt_cmpR op_gt (pe_callB call_len_seq rfl T.b_len PySem.boot_len (pac (pv 2) pa_nil)) pe_int (nomark _))))) (pss_one (ps_set (i := 2) sc_l_tree_by.nd rfl (Or.inl rfl) (pe_op op_catG (pe_slice sl_listG (pv 2) po_none (po_some (pe_un un_neg pe_int))) (pe_lstG (pas_cons (pe_tupG (pas_cons pe_str (pas_cons (pe_ix ix_list (pv 2) (pe_un un_neg pe_int) (fun _ _ => rfl)) pas_nil))) pas_nil))))) (pss_one (ps_if (PW.pt (pw_and (pt_cmpR op_eq (pv 4) pe_int (nomark _)) (pw_and (pt_cmpR op_gt (pe_callB call_len_seq rfl T.b_len PySem.boot_len (pac (pv 2) pa_nil)) pe_int (nomark _)) (pw_and1 (pt_cmpR op_lt (pe_call G_l_threads hr_l_threads rfl T.m_l_threads F_l_threads.kp b_l_threads .nil pass0 (pac (pe_ix ix_list (pv 2) (pe_un un_neg pe_int) (fun _ _ => rfl)) pa_nil)) pe_int (nomark _)))))) (pss_one (ps_set (i := 2) sc_l_tree_by.nd rfl (Or.inl rfl) (pe_op op_catG (pe_slice sl_listG (pv 2) po_none (po_some (pe_un un_neg pe_int))) (pe_lstG (pas_cons (pe_tupG (pas_cons pe_str (pas_cons (pe_ix ix_list (pv 2) (pe_un un_neg pe_int) (fun _ _ => rfl)) pas_nil))) pas_nil))))) (pss_one (ps_if (PW.pt (pw_and (pt_cmpR op_gt (pv 4) pe_int (nomark _)) (pw_and1 (pt_cmpR op_gt (pe_callB call_len_seq rfl T.b_len PySem.boot_len (pac (pv 2) pa_nil)) pe_int (nomark _))))) (pss_one (ps_set (i := 2) sc_l_tree_by.nd rfl (Or.inl rfl) (pe_op op_catG (pe_slice sl_listG (pv 2) po_none (po_some (pe_un un_neg pe_int))) (pe_lstG (pas_cons (pe_tupG (pas_cons (pe_ix ix_list (pe_lstG (pas_cons pe_str (pas_cons pe_str pas_nil))) (pe_op op_mod (pv 4) pe_int) (fun _ _ => rfl)) (pas_cons (pe_ix ix_list (pv 2) (pe_un un_neg pe_int) (fun _ _ => rfl)) (pas_cons (pe_ix ix_list (pv 2) (pe_un un_neg pe_int) (fun _ _ => rfl)) pas_nil)))) pas_nil))))) (pss_one (ps_expr (pe_bm PySem.F.plainAttrs_list PySem.F.slot_list_append PySem.F.type_list_append mt_append (pv 2) (pac (pe_call G_l_leaf_by hr_l_leaf_by rfl T.m_l_leaf_by F_l_leaf_by.kp b_l_leaf_by .nil pass0 (pac (pv 0) (pac (pe_op op_fdiv (pv 3) pe_int) pa_nil))) pa_nil))))))))))))
        (pss_cons (ps_while PassesOwn.never (pt_cmpR op_gt (pe_callB call_len_seq rfl T.b_len PySem.boot_len (pac (pv 2) pa_nil)) pe_int (nomark _)) (pss_one (ps_set (i := 2) sc_l_tree_by.nd rfl (Or.inl rfl) (pe_op op_catG (pe_slice sl_listG (pv 2) po_none (po_some (pe_un un_neg pe_int))) (pe_lstG (pas_cons (pe_tupG (pas_cons (pe_ix ix_list (pe_lstG (pas_cons pe_str (pas_cons pe_str pas_nil))) (pe_op op_mod (pe_op op_fdiv (pe_ix ix_list (pv 1) pe_int (fun _ _ => rfl)) pe_int) pe_int) (fun _ _ => rfl)) (pas_cons (pe_ix ix_list (pv 2) (pe_un un_neg pe_int) (fun _ _ => rfl)) (pas_cons (pe_ix ix_list (pv 2) (pe_un un_neg pe_int) (fun _ _ => rfl)) pas_nil)))) pas_nil))))))
        (pss_one (ps_ret (pe_ix ix_list (pv 2) pe_int (fun _ _ => rfl))))))), ?_⟩
    refine ⟨(by show 0 ≤ sizeLine; decide), fun D0 H1 nD0 s1 e1 => ?_⟩
    refine ⟨_, rfl, p, rfl, ⟨_, SqL.of (s1 _ _ hp)⟩, for_list (K := K) (a := p) (xs := cs.map V.int) (fun i σ H2 => ∃ (D : Addr) (ps : List (Addr × Tr)) (o3 o4 : Option V), σ = [some (.int sh), some (.ref p), some (.ref D), o3, o4] ∧ PL H H2 D ps i ∧ (1 ≤ i → 0 < ps.length) ∧ ps.length ≤ i)
      ⟨D0, [], none, none, rfl, ⟨s1, nD0, e1, fun x hx => nomatch hx⟩, (fun z => absurd z (by decide)), Nat.le_refl _⟩ (fun i σ H2 _ ⟨_, _, _, _, _, h, _⟩ => SqL.of (h.s _ _ hp)) ?_ ?_⟩
    · rintro i x σ H2 hi ⟨D, ps, o3, o4, rfl, pl, hne, hle⟩
      obtain ⟨c, rfl, hci⟩ := int_at hi
      have hi8 : i < cs.length := (List.getElem?_eq_some_iff.mp hci).1
      have hc0 := hcs c (List.mem_of_getElem? hci)
      have hc9 : 0 ≤ c / 9 := Int.ediv_nonneg hc0 (by decide)
      have n0 : 0 ≤ c % 9 := Int.emod_nonneg _ (by decide)
      have n1 : c % 9 < 9 := Int.emod_lt_of_pos _ (by decide)
      have hD := pl.e
      have hll : ((ps.map fun x => V.ref x.1).length : Int) = (ps.length : Int) := by rw [List.length_map]
      refine ⟨_, rfl, _, _, rfl, rfl, (by show (0 : Int) < 9; decide), ?_⟩
      by_cases k2 : c % 9 < 2
      · by_cases hlen : 0 < ps.length
        · refine ⟨_, rfl, _, _, rfl, rfl, _, rfl, ?_⟩
          rw [decide_eq_true (k2)]
          refine iteT ⟨_, rfl, D, _, rfl, .inl (SqL.of hD), _, _, rfl, rfl, _, rfl, ?_⟩
          rw [decide_eq_true (by rw [hll]; omega)]
          refine iteT ?_
          obtain ⟨ps0, ⟨q, t⟩, rfl⟩ := snoc_of (l := ps) (by omega)
          have ht := pl.t (q, t) (by simp)
          rw [List.length_append, List.length_singleton] at ht hle
          dsimp only at ht
          refine ⟨_, rfl, _, rfl, _, rfl, D, _, rfl, SqL.of hD, fun l1 H3 n1 s3 e3 => ?_⟩
          rw [cut_last] at e3
          refine ⟨_, rfl, _, rfl, D, _, _, V.ref q, rfl, rfl, SqL.of (s3 _ _ hD), (by rw [List.map_append]; exact atI_last _ _), (by show 2 ≤ sizeLine; decide), fun p1 H4 np s4 e4 => ⟨(by show 1 ≤ sizeLine; decide), fun l2 H5 n5 s5 e5 => ?_⟩⟩
          refine ⟨l1, l2, _, _, rfl, rfl, s5 _ _ (s4 _ _ e3), e5, Nat.le_of_lt (small1000 (by rw [List.length_map, List.length_singleton]; omega)), fun D2 H6 n6 s6 e6 => ?_⟩
          have s36 : Same H2 H6 := ((s3.trans s4).trans s5).trans s6
          exact ⟨D2, ps0 ++ [(p1, .nt t)], _, _, rfl, pl.repl (l := [(q, t)]) ( s36) (s3.free (s4.free (s5.free n6))) e6 ⟨.nt (s6 _ _ (s5 _ _ e4)) (ht.1.a.mono s36), ht.1.th⟩ (Nat.le_refl _) (by show t.dp + 1 + ps0.length + 1 ≤ i + 1; omega) (Nat.le_succ _), (fun _ => by rw [List.length_append, List.length_singleton]; omega), by rw [List.length_append, List.length_singleton]; omega⟩
        · refine ⟨_, rfl, _, _, rfl, rfl, _, rfl, ?_⟩
          rw [decide_eq_true (k2)]
          refine iteT ⟨_, rfl, D, _, rfl, .inl (SqL.of hD), _, _, rfl, rfl, _, rfl, ?_⟩
          rw [decide_eq_false (by rw [hll]; omega)]
          refine iteF ⟨_, rfl, rfl, _, rfl, ?_⟩
          rw [int_eq, decide_eq_false (by omega)]
          refine iteF (iteF ⟨_, rfl, _, _, rfl, rfl, _, rfl, ?_⟩)
          rw [decide_eq_false (by omega)]
          refine iteF (iteF ?_)
          refine ⟨_, rfl, .inl ⟨rfl, _, SqL.of hD⟩, _, rfl, _, rfl, _, _, rfl, rfl, ⟨by decide, by decide⟩, sh, c / 9, rfl, hs0, hs1, hc9, fun t q H4 nq s4 ht hd0 => ?_⟩
          exact ⟨D, _, _, rfl, rfl, s4 _ _ hD, (by rw [List.length_map]; exact small1000 (by omega)), D, ps ++ [(q, t)], _, _, rfl, pl.app (s4) ht hd0 hle, (fun _ => by rw [List.length_append, List.length_singleton]; omega), by rw [List.length_append, List.length_singleton]; omega⟩
      · refine ⟨_, rfl, _, _, rfl, rfl, _, rfl, ?_⟩
        rw [decide_eq_false (k2)]
        refine iteF (iteF ⟨_, rfl, rfl, _, rfl, ?_⟩)
        rw [int_eq]
        by_cases k3 : c % 9 = 2
        · rw [decide_eq_true k3]
          by_cases hlen : 0 < ps.length
          · refine iteT ⟨_, rfl, D, _, rfl, .inl (SqL.of hD), _, _, rfl, rfl, _, rfl, ?_⟩
            rw [decide_eq_true (by rw [hll]; omega)]
            have hlast : ∃ q t ps0, ps = ps0 ++ [(q, t)] := by
              obtain ⟨ps0, ⟨q, t⟩, e⟩ := snoc_of hlen
              exact ⟨q, t, ps0, e⟩
            obtain ⟨q9, t9, ps9, e9⟩ := hlast
            have ht9 := pl.t (q9, t9) (by rw [e9]; simp)
            refine iteT ⟨_, rfl, _, rfl, D, _, _, V.ref q9, rfl, rfl, SqL.of hD, (by rw [e9, List.map_append]; exact atI_last _ _), q9, t9, rfl, ht9.1.a, (by have := ht9.2; dsimp only at this; omega), fun H2b s2b => ?_⟩
            have hDb := s2b _ _ hD
            refine ⟨_, _, rfl, rfl, _, rfl, ?_⟩
            by_cases hz : (t9.th : Int) < 2
            · rw [decide_eq_true (hz)]
              refine iteT ?_
              obtain ⟨ps0, ⟨q, t⟩, rfl⟩ := snoc_of (l := ps) (by omega)
              have ht := pl.t (q, t) (by simp)
              have ht9e : t9 = t := by
                have e9' := congrArg List.getLast? e9
                rw [List.getLast?_append, List.getLast?_append] at e9'
                simp at e9'
                exact e9'.2.symm
              rw [List.length_append, List.length_singleton] at ht hle
              dsimp only at ht
              refine ⟨_, rfl, _, rfl, _, rfl, D, _, rfl, SqL.of hDb, fun l1 H3 n1 s3 e3 => ?_⟩
              rw [cut_last] at e3
              refine ⟨_, rfl, _, rfl, D, _, _, V.ref q, rfl, rfl, SqL.of (s3 _ _ hDb), (by rw [List.map_append]; exact atI_last _ _), (by show 2 ≤ sizeLine; decide), fun p1 H4 np s4 e4 => ⟨(by show 1 ≤ sizeLine; decide), fun l2 H5 n5 s5 e5 => ?_⟩⟩
              refine ⟨l1, l2, _, _, rfl, rfl, s5 _ _ (s4 _ _ e3), e5, Nat.le_of_lt (small1000 (by rw [List.length_map, List.length_singleton]; omega)), fun D2 H6 n6 s6 e6 => ?_⟩
              have s36 : Same H2b H6 := ((s3.trans s4).trans s5).trans s6
              exact ⟨D2, ps0 ++ [(p1, .thr t)], _, _, rfl, pl.repl (l := [(q, t)]) (s2b.trans s36) (s2b.free (s3.free (s4.free (s5.free n6)))) e6 ⟨.thr (s6 _ _ (s5 _ _ e4)) (ht.1.a.mono (s2b.trans s36)), by show t.th + 1 ≤ 2; rw [ht9e] at hz; omega⟩ (Nat.le_refl _) (by show t.dp + 1 + ps0.length + 1 ≤ i + 1; omega) (Nat.le_succ _), (fun _ => by rw [List.length_append, List.length_singleton]; omega), by rw [List.length_append, List.length_singleton]; omega⟩
            · rw [decide_eq_false (hz)]
              refine iteF ⟨_, rfl, _, _, rfl, rfl, _, rfl, ?_⟩
              rw [decide_eq_false (by omega)]
              refine iteF (iteF ?_)
              refine ⟨_, rfl, .inl ⟨rfl, _, SqL.of hDb⟩, _, rfl, _, rfl, _, _, rfl, rfl, ⟨by decide, by decide⟩, sh, c / 9, rfl, hs0, hs1, hc9, fun t q H4 nq s4 ht hd0 => ?_⟩
              exact ⟨D, _, _, rfl, rfl, s4 _ _ hDb, (by rw [List.length_map]; exact small1000 (by omega)), D, ps ++ [(q, t)], _, _, rfl, pl.app (s2b.trans s4) ht hd0 hle, (fun _ => by rw [List.length_append, List.length_singleton]; omega), by rw [List.length_append, List.length_singleton]; omega⟩
          · refine iteT ⟨_, rfl, D, _, rfl, .inl (SqL.of hD), _, _, rfl, rfl, _, rfl, ?_⟩
            rw [decide_eq_false (by rw [hll]; omega)]
            refine iteF (iteF ⟨_, rfl, _, _, rfl, rfl, _, rfl, ?_⟩)
            rw [decide_eq_false (by omega)]
            refine iteF (iteF ?_)
            refine ⟨_, rfl, .inl ⟨rfl, _, SqL.of hD⟩, _, rfl, _, rfl, _, _, rfl, rfl, ⟨by decide, by decide⟩, sh, c / 9, rfl, hs0, hs1, hc9, fun t q H4 nq s4 ht hd0 => ?_⟩
            exact ⟨D, _, _, rfl, rfl, s4 _ _ hD, (by rw [List.length_map]; exact small1000 (by omega)), D, ps ++ [(q, t)], _, _, rfl, pl.app (s4) ht hd0 hle, (fun _ => by rw [List.length_append, List.length_singleton]; omega), by rw [List.length_append, List.length_singleton]; omega⟩
        · rw [decide_eq_false k3]
          refine iteF (iteF ⟨_, rfl, _, _, rfl, rfl, _, rfl, ?_⟩)
          by_cases k5 : 4 < c % 9
          · rw [decide_eq_true (k5)]
            by_cases hlen : 1 < ps.length
            · refine iteT ⟨_, rfl, D, _, rfl, .inl (SqL.of hD), _, _, rfl, rfl, _, rfl, ?_⟩
              rw [decide_eq_true (by rw [hll]; omega)]
              refine iteT ?_
              obtain ⟨ps1, ⟨r, v⟩, rfl⟩ := snoc_of (l := ps) (by omega)
              rw [List.length_append, List.length_singleton] at hlen hle
              obtain ⟨ps0, ⟨q, u⟩, rfl⟩ := snoc_of (l := ps1) (by omega)
              rw [List.append_assoc] at pl hD
              have hu := pl.t (q, u) (by simp)
              have hv := pl.t (r, v) (by simp)
              have hln : (ps0 ++ ([(q, u)] ++ [(r, v)])).length = ps0.length + 2 := by simp
              rw [hln] at hu hv
              dsimp only at hu hv
              rw [List.length_append, List.length_singleton] at hle
              refine ⟨_, rfl, _, rfl, _, rfl, D, _, rfl, SqL.of hD, fun l1 H3 nl1 s3 e3 => ?_⟩
              rw [show ps0 ++ ([(q, u)] ++ [(r, v)]) = ps0 ++ [(q, u), (r, v)] from rfl, cut_last2] at e3
              refine ⟨(by show 2 ≤ sizeLine; decide), fun lb H3b nlb s3b e3b => ?_⟩
              obtain ⟨vv, hvv, hvm, _⟩ := atI_some (xs := [V.str "both", V.str "either"]) (i := (c % 9) % 2) (Int.emod_nonneg _ (by decide)) (Int.emod_lt_of_pos _ (by decide))
              obtain ⟨nm, f, rfl, fdp, ft⟩ := join_name vv hvm
              have s33 := s3.trans s3b
              refine ⟨_, rfl, _, _, rfl, rfl, (by show (0 : Int) < 2; decide), lb, _, _, _, rfl, rfl, SqL.of e3b, hvv, ?_⟩
              refine ⟨_, rfl, _, rfl, D, _, _, V.ref q, rfl, rfl, SqL.of (s33 _ _ hD), (by rw [List.map_append]; exact atI_last2 _ _ _), _, rfl, _, rfl, D, _, _, V.ref r, rfl, rfl, SqL.of (s33 _ _ hD), (by rw [List.map_append]; exact atI_last1 _ _ _), (by show 3 ≤ sizeLine; decide), fun p1 H4 np s4 e4 => ⟨(by show 1 ≤ sizeLine; decide), fun l2 H5 n5 s5 e5 => ?_⟩⟩
              refine ⟨l1, l2, _, _, rfl, rfl, s5 _ _ (s4 _ _ (s3b _ _ e3)), e5, Nat.le_of_lt (small1000 (by rw [List.length_map, List.length_singleton]; omega)), fun D2 H6 n6 s6 e6 => ?_⟩
              have s36 : Same H2 H6 := ((s33.trans s4).trans s5).trans s6
              have pl2 := pl.repl (l := [(q, u), (r, v)]) (n' := i + 1) s36 (s33.free (s4.free (s5.free n6))) e6 (ft _ p1 q r u v (s6 _ _ (s5 _ _ e4)) (hu.1.mono s36) (hv.1.mono s36)) (by show 1 ≤ 2; decide) (by rw [fdp]; omega) (by omega)
              exact ⟨D2, ps0 ++ [(p1, f u v)], _, _, rfl, pl2, (fun _ => by rw [List.length_append, List.length_singleton]; omega), by rw [List.length_append, List.length_singleton]; omega⟩
            · refine iteT ⟨_, rfl, D, _, rfl, .inl (SqL.of hD), _, _, rfl, rfl, _, rfl, ?_⟩
              rw [decide_eq_false (by rw [hll]; omega)]
              refine iteF ?_
              refine ⟨_, rfl, .inl ⟨rfl, _, SqL.of hD⟩, _, rfl, _, rfl, _, _, rfl, rfl, ⟨by decide, by decide⟩, sh, c / 9, rfl, hs0, hs1, hc9, fun t q H4 nq s4 ht hd0 => ?_⟩
              exact ⟨D, _, _, rfl, rfl, s4 _ _ hD, (by rw [List.length_map]; exact small1000 (by omega)), D, ps ++ [(q, t)], _, _, rfl, pl.app (s4) ht hd0 hle, (fun _ => by rw [List.length_append, List.length_singleton]; omega), by rw [List.length_append, List.length_singleton]; omega⟩
          · rw [decide_eq_false (k5)]
            refine iteF (iteF ?_)
            refine ⟨_, rfl, .inl ⟨rfl, _, SqL.of hD⟩, _, rfl, _, rfl, _, _, rfl, rfl, ⟨by decide, by decide⟩, sh, c / 9, rfl, hs0, hs1, hc9, fun t q H4 nq s4 ht hd0 => ?_⟩
            exact ⟨D, _, _, rfl, rfl, s4 _ _ hD, (by rw [List.length_map]; exact small1000 (by omega)), D, ps ++ [(q, t)], _, _, rfl, pl.app (s4) ht hd0 hle, (fun _ => by rw [List.length_append, List.length_singleton]; omega), by rw [List.length_append, List.length_singleton]; omega⟩
    · rintro σ H2 ⟨D, ps, o3, o4, rfl, pl, hne, hle⟩
      rw [List.length_map] at hne hle pl
      have hn1 := hne hl1
      obtain ⟨z0, _, ez0⟩ := at_ints (xs := cs) (i := 0) (Int.le_refl _) (by omega)
      refine while_by (fun σ H3 => ∃ (D : Addr) (ps : List (Addr × Tr)), σ = [some (.int sh), some (.ref p), some (.ref D), o3, o4] ∧ PL H H3 D ps cs.length ∧ 0 < ps.length ∧ ps.length ≤ cs.length) (fun σ H3 => lenAt H3 (σ.getD 2 none)) ⟨D, ps, rfl, pl, hn1, hle⟩ ?_ ?_
      · rintro σ H2 ⟨D, ps, rfl, pl, hn1, hle⟩
        have hD := pl.e
        have hll : ((ps.map fun x => V.ref x.1).length : Int) = (ps.length : Int) := by rw [List.length_map]
        refine ⟨_, rfl, D, _, rfl, .inl (SqL.of hD), _, _, rfl, rfl, _, rfl, ?_⟩
        by_cases hlen : 1 < ps.length
        · rw [decide_eq_true (by rw [hll]; omega)]
          refine iteT ?_
          obtain ⟨ps1, ⟨r, v⟩, rfl⟩ := snoc_of (l := ps) (by omega)
          rw [List.length_append, List.length_singleton] at hlen hle
          obtain ⟨ps0, ⟨q, u⟩, rfl⟩ := snoc_of (l := ps1) (by omega)
          rw [List.append_assoc] at pl hD
          have hu := pl.t (q, u) (by simp)
          have hv := pl.t (r, v) (by simp)
          have hln : (ps0 ++ ([(q, u)] ++ [(r, v)])).length = ps0.length + 2 := by simp
          rw [hln] at hu hv
          dsimp only at hu hv
          rw [List.length_append, List.length_singleton] at hle
          refine ⟨_, rfl, _, rfl, _, rfl, D, _, rfl, SqL.of hD, fun l1 H3 nl1 s3 e3 => ?_⟩
          rw [show ps0 ++ ([(q, u)] ++ [(r, v)]) = ps0 ++ [(q, u), (r, v)] from rfl, cut_last2] at e3
          refine ⟨(by show 2 ≤ sizeLine; decide), fun lb H3b nlb s3b e3b => ?_⟩
          obtain ⟨vv, hvv, hvm, _⟩ := atI_some (xs := [V.str "both", V.str "either"]) (i := (z0 / 9) % 2) (Int.emod_nonneg _ (by decide)) (Int.emod_lt_of_pos _ (by decide))
          obtain ⟨nm, f, rfl, fdp, ft⟩ := join_name vv hvm
          have s33 := s3.trans s3b
          refine ⟨_, rfl, p, _, _, _, rfl, rfl, SqL.of ((pl.s.trans s33) _ _ hp), ez0, _, _, rfl, rfl, ⟨by decide, by decide⟩, _, _, rfl, rfl, (by show (0 : Int) < 2; decide), lb, _, _, _, rfl, rfl, SqL.of e3b, hvv, ?_⟩
          refine ⟨_, rfl, _, rfl, D, _, _, V.ref q, rfl, rfl, SqL.of (s33 _ _ hD), (by rw [List.map_append]; exact atI_last2 _ _ _), _, rfl, _, rfl, D, _, _, V.ref r, rfl, rfl, SqL.of (s33 _ _ hD), (by rw [List.map_append]; exact atI_last1 _ _ _), (by show 3 ≤ sizeLine; decide), fun p1 H4 np s4 e4 => ⟨(by show 1 ≤ sizeLine; decide), fun l2 H5 n5 s5 e5 => ?_⟩⟩
          refine ⟨l1, l2, _, _, rfl, rfl, s5 _ _ (s4 _ _ (s3b _ _ e3)), e5, Nat.le_of_lt (small1000 (by rw [List.length_map, List.length_singleton]; omega)), fun D2 H6 n6 s6 e6 => ?_⟩
          have s36 : Same H2 H6 := ((s33.trans s4).trans s5).trans s6
          have pl2 := pl.repl (l := [(q, u), (r, v)]) (n' := cs.length) s36 (s33.free (s4.free (s5.free n6))) e6 (ft _ p1 q r u v (s6 _ _ (s5 _ _ e4)) (hu.1.mono s36) (hv.1.mono s36)) (by show 1 ≤ 2; decide) (by rw [fdp]; omega) (by omega)
          refine ⟨⟨D2, ps0 ++ [(p1, f u v)], rfl, pl2, by rw [List.length_append, List.length_singleton]; omega, by rw [List.length_append, List.length_singleton]; omega⟩, ?_⟩
          show (match H6 D2 with | some (.lst xs) => xs.length | _ => 0) < (match H2 D with | some (.lst xs) => xs.length | _ => 0)
          rw [e6, hD]
          simp
        · rw [decide_eq_false (by rw [hll]; omega)]
          refine iteF ?_
          obtain ⟨ps0, ⟨q, t⟩, rfl⟩ := snoc_of (l := ps) hn1
          have e0 : ps0 = [] := by
            rw [List.length_append, List.length_singleton] at hlen
            exact List.length_eq_zero_iff.mp (by omega)
          subst e0
          have ht := pl.t (q, t) (by simp)
          exact ⟨_, rfl, D, _, _, V.ref q, rfl, rfl, SqL.of hD, rfl, k t q H2 pl.s ht.1 (by have := ht.2; simp at this; omega)⟩
      · rintro σ H3 Q1 Q2 hq ⟨x, e, D1, xs, e1, e2, i1, j1, e3, e4, b1, e5, h⟩
        exact ⟨x, e, D1, xs, e1, e2, i1, j1, e3, e4, b1, e5, hq _ _ h⟩
end
def openN : List Str := ["not", "thread", "both", "either"]
theorem dq_subs (t : Tr) : t.dp = mxs Tr.dp (subs t) + (if decide (nm1 t ∈ openN) = true then 1 else 0) := by
  cases t with
  | any => exact (by rw [if_neg (by show ¬ decide (("any" : Str) ∈ openN) = true; decide +kernel)]; rfl)
  | ans => exact (by rw [if_neg (by show ¬ decide (("answers" : Str) ∈ openN) = true; decide +kernel)]; rfl)
  | word w => exact (by rw [if_neg (by show ¬ decide (("word" : Str) ∈ openN) = true; decide +kernel)]; rfl)
  | title w => exact (by rw [if_neg (by show ¬ decide (("title" : Str) ∈ openN) = true; decide +kernel)]; rfl)
  | frm w => exact (by rw [if_neg (by show ¬ decide (("from" : Str) ∈ openN) = true; decide +kernel)]; rfl)
  | days l h => exact (by rw [if_neg (by show ¬ decide (("day" : Str) ∈ openN) = true; decide +kernel)]; rfl)
  | inn w => exact (by rw [if_neg (by show ¬ decide (("in" : Str) ∈ openN) = true; decide +kernel)]; rfl)
  | mrk w => exact (by rw [if_neg (by show ¬ decide (("marked" : Str) ∈ openN) = true; decide +kernel)]; rfl)
  | nt u => rw [if_pos (by show decide (("not" : Str) ∈ openN) = true; decide +kernel)]; show u.dp + 1 = max 0 u.dp + 1; omega
  | thr u => rw [if_pos (by show decide (("thread" : Str) ∈ openN) = true; decide +kernel)]; show u.dp + 1 = max 0 u.dp + 1; omega
  | bth u v => rw [if_pos (by show decide (("both" : Str) ∈ openN) = true; decide +kernel)]; show max u.dp v.dp + 1 = max (max 0 u.dp) v.dp + 1; omega
  | eth u v => rw [if_pos (by show decide (("either" : Str) ∈ openN) = true; decide +kernel)]; show max u.dp v.dp + 1 = max (max 0 u.dp) v.dp + 1; omega
inductive spOpn_I (n : Nat) (vs : List V) (H : Hp) (Q : VK) : Prop
  | mk : ∀ p t, vs = [.ref p] → TAt H p t → t.dp < n → (∀ H', Same H H' → Q (.int (t.dp : Int)) H') → spOpn_I n vs H Q
def spOpn (n : Nat) : Sp := fun vs H Q _ => spOpn_I n vs H Q
section
variable {P : Program} {w : World} {K : PySem.W.Frag} {mg : Str → Option Value} {base : Heap} {a : Adr}
theorem ok_opn {fd : FuncData} (F : Fun K "_law_open" "_law_open" sl_open a.f_l_open fd) (b_l_open : Binds K fd ["_law_tree"] []) (T : Txt K mg a) : ∀ n, FnOk P w K mg base CX0 (n + 1) a.f_l_open fd ["_law_tree"] (spOpn n)
  | 0 => by
    refine F.ok sc_l_open (fun vs H Q E h => ?_) (fun cdv A outer st H vs Q E hr h => ?_)
    · obtain ⟨p, t, rfl, _⟩ := h; rfl
    · obtain ⟨p, t, _, _, h, _⟩ := h; exact absurd h (Nat.not_lt_zero _)
  | n + 1 => by
    have G_l_open := ok_opn F b_l_open T n
    refine F.ok sc_l_open (fun vs H Q E h => ?_) (fun cdv A outer st H vs Q E hr h => ?_)
    · obtain ⟨p, t, rfl, _⟩ := h; rfl
    obtain ⟨p, t, rfl, tt, hd, k⟩ := h
    have hr_l_open : Room (n + 1) _ := hr
    refine ⟨_, (pss_cons (ps_set (i := 1) sc_l_open.nd rfl (Or.inl rfl) pe_int)
        (pss_cons (ps_for PassesOwn.never rfl (pi_tup (pe_slice sl_tupG (pv 0) (po_some pe_int) po_none)) (pg_name (i := 2) sc_l_open.nd rfl (Or.inl rfl)) (pss_one (ps_if (pt_val (pe_callB call_isinst rfl T.b_isinstance PyProof.Rows.boot_isinstance (pac (pv 2) (pac (pe_bltn (v := .ty "tuple") rfl T.b_tuple PyProof.Rows.boot_tuple rfl) pa_nil)))) (pss_one (ps_set (i := 1) sc_l_open.nd rfl (Or.inl rfl) (pe_callB (call_max2 rfl) rfl T.b_max PyProof.Rows.boot_max (pac (pv 1) (pac (pe_call G_l_open hr_l_open rfl T.m_l_open F.kp b_l_open .nil pass0 (pac (pv 2) pa_nil)) pa_nil))))) pss_nil)))
        (pss_one (ps_ret (pe_op op_add (pv 1) (pe_callTy call_int1 rfl T.b_int PyProof.Rows.boot_int (pac (pe_cmpR op_in_seq (pe_ix ix_tup (pv 0) pe_int (fun _ _ => rfl)) (pe_lstG (pas_cons pe_str (pas_cons pe_str (pas_cons pe_str (pas_cons pe_str pas_nil))))) (by with_unfolding_all rfl)) pa_nil))))))), ?_⟩
    obtain ⟨ks, e, hl, hsub, hm⟩ := tt.kids
    have ec : cutV (V.str (nm1 t) :: ks.map (·.1)) (some 1) none = ks.map (·.1) := cut1 _ _
    refine ⟨_, rfl, _, rfl, p, _, rfl, e, fun q H1 s1 e1 => ?_⟩
    rw [ec] at e1
    refine ⟨q, rfl, ⟨_, SqT.of e1⟩, for_tup (K := K) (a := q) (xs := ks.map (·.1)) (fun i σ H2 => ∃ (o : Option V), σ = [some (.ref p), some (.int (mxs Tr.dp ((ks.take i).filterMap (·.2)) : Int)), o] ∧ Same H H2 ∧ H2 q = some (.tup (ks.map (·.1)))) ⟨none, rfl, s1, e1⟩ (fun i σ H2 _ ⟨_, _, _, h⟩ => SqT.of h) ?_ ?_⟩
    · rintro i v σ H2 hi ⟨o, rfl, s2, e2⟩
      rw [List.getElem?_map] at hi
      cases ek : ks[i]? with
      | none => rw [ek] at hi; cases hi
      | some kd =>
        rw [ek] at hi
        cases hi
        have hkd := (hm kd (List.mem_of_getElem? ek)).mono s2
        have htk : ks.take (i + 1) = ks.take i ++ [kd] := by rw [List.take_add_one, ek]; rfl
        obtain ⟨v, ou⟩ := kd
        cases ou with
        | none =>
          have et : (ks.take (i + 1)).filterMap (·.2) = (ks.take i).filterMap (·.2) := by rw [htk, List.filterMap_append]; simp
          rcases hkd with ⟨y, rfl⟩ | ⟨y, rfl⟩
          · exact ⟨_, rfl, _, _, _, _, _, rfl, rfl, TyOf.str _, kitST, _, rfl, iteF ⟨_, by rw [et]; rfl, s2, e2⟩⟩
          · exact ⟨_, rfl, _, _, _, _, _, rfl, rfl, TyOf.int _, kitIT, _, rfl, iteF ⟨_, by rw [et]; rfl, s2, e2⟩⟩
        | some u =>
          obtain ⟨r, rfl, hu, hud, _⟩ := hkd
          have et : (ks.take (i + 1)).filterMap (·.2) = (ks.take i).filterMap (·.2) ++ [u] := by rw [htk, List.filterMap_append]; simp
          obtain ⟨ks', er, _⟩ := hu.kids
          refine ⟨_, rfl, _, _, _, _, _, rfl, rfl, TyOf.tup er, kitTT, _, rfl, iteT ⟨_, rfl, _, rfl, r, u, rfl, hu, by omega, fun H3 s3 => ?_⟩⟩
          refine ⟨_, _, rfl, some (.ref r), ?_, s2.trans s3, s3 _ _ e2⟩
          rw [et, mxs_snoc]
          show _ = [_, some (V.int _), _]
          rw [show (if (u.dp : Int) > (mxs Tr.dp ((ks.take i).filterMap (·.2)) : Int) then (u.dp : Int) else (mxs Tr.dp ((ks.take i).filterMap (·.2)) : Int)) = ((max (mxs Tr.dp ((ks.take i).filterMap (·.2))) u.dp : Nat) : Int) by split <;> omega]
          rfl
    · rintro σ H2 ⟨o, rfl, s2, e2⟩
      rw [List.length_map, List.take_of_length_le (Nat.le_refl _), ← hsub]
      refine ⟨_, rfl, _, rfl, p, _, _, V.str (nm1 t), rfl, rfl, SqT.of (s2 _ _ e), atI_nat (j := 0) rfl, (by show 4 ≤ sizeLine; decide), fun D H3 nD s3 e3 => ?_⟩
      refine ⟨D, openN.map V.str, rfl, .inl (SqL.of e3), rfl, flat_strs _, ?_⟩
      have kk := k H3 (s2.trans s3)
      rw [dq_subs t] at kk
      refine .inr ⟨_, rfl, _, _, rfl, rfl, ?_⟩
      have ei : (if false = true then !inV (.str (nm1 t)) (openN.map V.str) else inV (.str (nm1 t)) (openN.map V.str)) = decide (nm1 t ∈ openN) := by rw [if_neg Bool.false_ne_true, inV_strs]
      rw [ei]
      cases hq : decide (nm1 t ∈ openN) with
      | true => rw [hq, if_pos rfl] at kk; exact kk
      | false => rw [hq, if_neg (by decide)] at kk; exact kk
end
def tdat : Tr → PyData
  | .any => .tuple [.str "any"]
  | .ans => .tuple [.str "answers"]
  | .word w => .tuple [.str "word", .str w]
  | .title w => .tuple [.str "title", .str w]
  | .frm w => .tuple [.str "from", .str w]
  | .days l h => .tuple [.str "day", .int l, .int h]
  | .inn w => .tuple [.str "in", .str w]
  | .mrk w => .tuple [.str "marked", .str w]
  | .nt u => .tuple [.str "not", tdat u]
  | .thr u => .tuple [.str "thread", tdat u]
  | .bth u v => .tuple [.str "both", tdat u, tdat v]
  | .eth u v => .tuple [.str "either", tdat u, tdat v]
theorem TAt.rd {K : PySem.W.Frag} {H : Hp} {p : Addr} {t : Tr} (h : TAt H p t) : RD K H (.ref p) (tdat t) := by
  induction h with
  | any e => exact .tup (SqT.of e) (.cons (.str _) .nil)
  | ans e => exact .tup (SqT.of e) (.cons (.str _) .nil)
  | word e w => exact .tup (SqT.of e) (.cons (.str _) (.cons (.str _) .nil))
  | title e w => exact .tup (SqT.of e) (.cons (.str _) (.cons (.str _) .nil))
  | frm e w => exact .tup (SqT.of e) (.cons (.str _) (.cons (.str _) .nil))
  | days e _ => exact .tup (SqT.of e) (.cons (.str _) (.cons (.int _) (.cons (.int _) .nil)))
  | inn e w => exact .tup (SqT.of e) (.cons (.str _) (.cons (.str _) .nil))
  | mrk e w => exact .tup (SqT.of e) (.cons (.str _) (.cons (.str _) .nil))
  | nt e _ ih => exact .tup (SqT.of e) (.cons (.str _) (.cons ih .nil))
  | thr e _ ih => exact .tup (SqT.of e) (.cons (.str _) (.cons ih .nil))
  | bth e _ _ i1 i2 => exact .tup (SqT.of e) (.cons (.str _) (.cons i1 (.cons i2 .nil)))
  | eth e _ _ i1 i2 => exact .tup (SqT.of e) (.cons (.str _) (.cons i1 (.cons i2 .nil)))
theorem TAt.lay {H : Hp} {p : Addr} {t : Tr} (h : TAt H p t) : PyData.canLay0 (tdat t) = true ∧ PyData.depth (tdat t) ≤ t.dp + 1 := by
  have z1 : PyData.strOk "any" = true := by decide +kernel
  have z2 : PyData.strOk "answers" = true := by decide +kernel
  have z3 : PyData.strOk "word" = true := by decide +kernel
  have z4 : PyData.strOk "title" = true := by decide +kernel
  have z5 : PyData.strOk "from" = true := by decide +kernel
  have z6 : PyData.strOk "day" = true := by decide +kernel
  have z7 : PyData.strOk "in" = true := by decide +kernel
  have z8 : PyData.strOk "marked" = true := by decide +kernel
  have z9 : PyData.strOk "not" = true := by decide +kernel
  have z10 : PyData.strOk "thread" = true := by decide +kernel
  have z11 : PyData.strOk "both" = true := by decide +kernel
  have z12 : PyData.strOk "either" = true := by decide +kernel
  induction h with
  | any e => exact ⟨by simp [tdat, PyData.canLay0, PyData.canLayAll0, z1], by simp [tdat, PyData.depth, PyData.depthAll]⟩
  | ans e => exact ⟨by simp [tdat, PyData.canLay0, PyData.canLayAll0, z2], by simp [tdat, PyData.depth, PyData.depthAll]⟩
  | word e w => exact ⟨by simp [tdat, PyData.canLay0, PyData.canLayAll0, z3, w.asc.ok], by simp [tdat, PyData.depth, PyData.depthAll]⟩
  | title e w => exact ⟨by simp [tdat, PyData.canLay0, PyData.canLayAll0, z4, w.asc.ok], by simp [tdat, PyData.depth, PyData.depthAll]⟩
  | frm e w => exact ⟨by simp [tdat, PyData.canLay0, PyData.canLayAll0, z5, w.asc.ok], by simp [tdat, PyData.depth, PyData.depthAll]⟩
  | days e _ => exact ⟨by simp [tdat, PyData.canLay0, PyData.canLayAll0, z6], by simp [tdat, PyData.depth, PyData.depthAll]⟩
  | inn e w => exact ⟨by simp [tdat, PyData.canLay0, PyData.canLayAll0, z7, w.asc.ok], by simp [tdat, PyData.depth, PyData.depthAll]⟩
  | mrk e w => exact ⟨by simp [tdat, PyData.canLay0, PyData.canLayAll0, z8, w.asc.ok], by simp [tdat, PyData.depth, PyData.depthAll]⟩
  | nt e _ ih => exact ⟨by simp [tdat, PyData.canLay0, PyData.canLayAll0, z9, ih.1], by have := ih.2; simp only [tdat, PyData.depth, PyData.depthAll, Tr.dp]; omega⟩
  | thr e _ ih => exact ⟨by simp [tdat, PyData.canLay0, PyData.canLayAll0, z10, ih.1], by have := ih.2; simp only [tdat, PyData.depth, PyData.depthAll, Tr.dp]; omega⟩
  | bth e _ _ i1 i2 => exact ⟨by simp [tdat, PyData.canLay0, PyData.canLayAll0, z11, i1.1, i2.1], by have := i1.2; have := i2.2; simp only [tdat, PyData.depth, PyData.depthAll, Tr.dp]; omega⟩
  | eth e _ _ i1 i2 => exact ⟨by simp [tdat, PyData.canLay0, PyData.canLayAll0, z12, i1.1, i2.1], by have := i1.2; have := i2.2; simp only [tdat, PyData.depth, PyData.depthAll, Tr.dp]; omega⟩
theorem TAt.shaped {H : Hp} {p : Addr} {t : Tr} (h : TAt H p t) (hd : t.dp < 60) : SeqAt.shaped (tdat t) = true := by
  unfold SeqAt.shaped
  rw [Bool.and_eq_true]
  have := h.lay.2
  exact ⟨h.lay.1, decide_eq_true (by omega)⟩
theorem Txt.mtree {K : PySem.W.Frag} {mg : Str → Option Value} {a : Adr} (T : Txt K mg a) : ∀ t : Tr, Meth K (clsOf a t) "tree" a.f_Condition_tree
  | .any => T.M_Always_tree
  | .ans => T.M_DoesAnswer_tree
  | .word _ => T.M_HasWord_tree
  | .title _ => T.M_HasTitleWord_tree
  | .frm _ => T.M_IsFrom_tree
  | .days _ _ => T.M_IsOfDays_tree
  | .inn _ => T.M_IsIn_tree
  | .mrk _ => T.M_IsMarked_tree
  | .nt _ => T.M_Not_tree
  | .thr _ => T.M_InThread_tree
  | .bth _ _ => T.M_Both_tree
  | .eth _ _ => T.M_Either_tree
def spLaw (K : PySem.W.Frag) : Sp := fun vs H Q _ => ∃ (p : Addr) (ns : List Int), vs = [.ref p] ∧ SqL K H p (ns.map V.int) ∧ ns.length ≤ 63 ∧ ∀ H', Q (.bl true) H'
theorem mul_zero (x : Str) : Txt.mul x ((0 : Nat) : Int) = "" := str_ext (by rw [mul_signs]; rfl)
theorem mul_succ (x : Str) (k : Nat) : Txt.mul x ((k + 1 : Nat) : Int) = x ++ Txt.mul x (k : Int) := str_ext (by
  rw [mul_signs, cat_list, mul_signs, show ((k + 1 : Nat) : Int).toNat = k + 1 by omega, show ((k : Nat) : Int).toNat = k by omega, List.replicate_succ, List.flatten_cons])
theorem mul_succ' (x : Str) (k : Nat) : Txt.mul x ((k + 1 : Nat) : Int) = Txt.mul x (k : Int) ++ x := str_ext (by
  rw [mul_signs, cat_list, mul_signs, show ((k + 1 : Nat) : Int).toNat = k + 1 by omega, show ((k : Nat) : Int).toNat = k by omega, List.replicate_succ', List.flatten_append]; simp)
theorem pcs_opens (x : Str) : ∀ k : Nat, pcs (Txt.mul "(" (k : Int) ++ x) = List.replicate k ("(" : Str) ++ pcs x
  | 0 => by rw [mul_zero, str_nil1]; rfl
  | k + 1 => by rw [mul_succ, str_assoc, pcs_open, pcs_opens x k, List.replicate_succ]; rfl
theorem pcs_closes (x : Str) : ∀ k : Nat, pcs (x ++ Txt.mul ")" (k : Int)) = pcs x ++ List.replicate k (")" : Str)
  | 0 => by rw [mul_zero, str_nil2, List.replicate_zero, List.append_nil]
  | k + 1 => by rw [mul_succ', ← str_assoc, pcs_close, pcs_closes x k, List.replicate_succ', List.append_assoc]
def slimN : List Str := ["not", "thread"]
theorem TAt.slim {H : Hp} {p : Addr} {t : Tr} (h : TAt H p t) : ∃ xs, H p = some (.tup (V.str (nm1 t) :: xs)) ∧ (xs.length + 1 < 3 → decide (nm1 t ∈ slimN) = false → t.dp = 0) := by
  cases h with
  | any e => exact ⟨_, e, fun _ _ => rfl⟩
  | ans e => exact ⟨_, e, fun _ _ => rfl⟩
  | word e w => exact ⟨_, e, fun _ _ => rfl⟩
  | title e w => exact ⟨_, e, fun _ _ => rfl⟩
  | frm e w => exact ⟨_, e, fun _ _ => rfl⟩
  | days e b => exact ⟨_, e, fun _ _ => rfl⟩
  | inn e w => exact ⟨_, e, fun _ _ => rfl⟩
  | mrk e w => exact ⟨_, e, fun _ _ => rfl⟩
  | nt e h => exact ⟨_, e, fun _ z => absurd z (by show ¬ decide (("not" : Str) ∈ slimN) = false; decide +kernel)⟩
  | thr e h => exact ⟨_, e, fun _ z => absurd z (by show ¬ decide (("thread" : Str) ∈ slimN) = false; decide +kernel)⟩
  | bth e h1 h2 => exact ⟨_, e, fun z _ => absurd z (by show ¬ 3 < 3; decide)⟩
  | eth e h1 h2 => exact ⟨_, e, fun z _ => absurd z (by show ¬ 3 < 3; decide)⟩
theorem TAt.text {H : Hp} {p : Addr} {t : Tr} (h : TAt H p t) (hd : t.dp < 30) (ht : t.th ≤ 2) : RE (RS 41 0) (pcs (wr t)) t [] := by
  rw [h.pieces]
  have := h.reads 41 0 [] (by omega) hd (by omega)
  rw [List.append_nil] at this
  exact reads_whole this
theorem TAt.braced {H : Hp} {p : Addr} {t : Tr} (h : TAt H p t) (hd : t.dp < 30) (ht : t.th ≤ 2) (k : Nat) (hk : t.dp + k < 41) : RE (RS 41 0) (pcs ((Txt.mul "(" (k : Int) ++ wr t) ++ Txt.mul ")" (k : Int))) t [] := by
  rw [pcs_closes, pcs_opens, h.pieces, List.append_assoc]
  have := reads_in (fun n th rest h1 h2 => h.reads n th rest h1 hd h2) k 41 [] hk ht
  rw [List.append_nil] at this
  exact reads_whole this
theorem by_main {tb : TE} {σ : St} {H : Hp} {k : VK} {c : Bool} (R : Prop) (main : ∀ b H6, Same H H6 → (b = true → R) → k (.bl b) H6) (ht : c = true → (∀ b H6, Same H H6 → (b = true → R) → k (.bl b) H6) → tb σ H k) : if c = true then tb σ H k else k (.bl false) H := by
  cases c with
  | true => exact iteT (ht rfl main)
  | false => exact iteF (main false H (Same.refl H) (fun z => nomatch z))
section
variable {P : Program} {w : World} {K : PySem.W.Frag} {mg : Str → Option Value} {base : Heap} {a : Adr}
theorem ok_law {fd : FuncData} (F : Fun K "law" "law" slaw a.f_law fd) (T : Txt K mg a) (FF : Funs K a) : FnOk P w K mg base CX0 220 a.f_law fd ["_law_script"] (spLaw K) := by
  obtain ⟨fd1, F_l_mixed, b_l_mixed⟩ := FF.F_l_mixed
  have G_l_mixed : FnOk P w K mg base CX0 2 a.f_l_mixed fd1 ["_law_script", "_law_start", "_law_many"] (spMixed K) := ok_mixed F_l_mixed T FF
  obtain ⟨fd2, F_l_tree_by, b_l_tree_by⟩ := FF.F_l_tree_by
  have G_l_tree_by : FnOk P w K mg base CX0 13 a.f_l_tree_by fd2 ["_law_shape", "_law_cells"] spTB := ok_tb F_l_tree_by T FF
  obtain ⟨fd3, F_condition_of, b_condition_of⟩ := FF.F_condition_of
  have G_condition_of : FnOk P w K mg base CX0 93 a.f_condition_of fd3 ["tree"] (spCond a 30) := ok_co F_condition_of b_condition_of T FF 30
  obtain ⟨fd4, F_l_written, b_l_written⟩ := FF.F_l_written
  have G_l_written : FnOk P w K mg base CX0 31 a.f_l_written fd4 ["_law_tree"] (spLW 30) := ok_lw F_l_written b_l_written T 30
  obtain ⟨fd5, F_l_open, b_l_open⟩ := FF.F_l_open
  have G_l_open : FnOk P w K mg base CX0 31 a.f_l_open fd5 ["_law_tree"] (spOpn 30) := ok_opn F_l_open b_l_open T 30
  obtain ⟨fd6, F_read_condition, b_read_condition⟩ := FF.F_read_condition
  have G_read_condition : FnOk P w K mg base CX0 167 a.f_read_condition fd6 ["text"] (spRC a) := ok_rc F_read_condition T FF
  obtain ⟨fd7, F_tree, b_tree⟩ := FF.F_Condition_tree
  have G_tree : FnOk P w K mg base CX0 1 a.f_Condition_tree fd7 ["self"] (spTree a) := ok_tree F_tree T
  refine F.ok sc_law (fun vs H Q E h => ?_) (fun cdv A outer st H vs Q E hr h => ?_)
  · obtain ⟨p, ns, rfl, _⟩ := h; rfl
  · obtain ⟨p, ns, rfl, hp, hl, k⟩ := h
    have hu64 := hr.units
    have hr219 : Room 219 _ := hr
    have hr_l_mixed : Room 2 _ := hr219.mono (by decide)
    have hr_l_tree_by : Room 13 _ := hr219.mono (by decide)
    have hr_condition_of : Room 93 _ := hr219.mono (by decide)
    have hr_l_written : Room 31 _ := hr219.mono (by decide)
    have hr_l_open : Room 31 _ := hr219.mono (by decide)
    have hr_read_condition : Room 167 _ := hr219.mono (by decide)
    have hr_tree : Room 1 _ := hr219.mono (by decide)
    have hr_w : Room 61 _ := hr219.mono (by decide)
    obtain ⟨t8, h8, sp8⟩ : ∃ t, PSs (cxOf CX0 P w K mg base n_law "law" (defScope slaw) a.f_law cdv A outer st H E).nox ((defBody slaw).drop 8) t ∧
        ∀ (H1 : Hp) (R q : Addr) (z m : Int) (o4 : Option V) (tr : Tr), TB H1 q tr → tr.dp < 30 → tr.sz ≤ 1100 →
          t { nx := fun _ H' => Q .non H', rt := Q } [some (.ref p), some (.ref R), some (.int z), some (.ref q), o4, some (.str (wr tr)), some (.int m), none] H1 := by
      refine ⟨_, (pss_cons (ps_set (i := 7) sc_law.nd rfl (Or.inl rfl) (pe_call G_read_condition hr_read_condition rfl T.m_read_condition F_read_condition.kp b_read_condition .nil pass0 (pac (pe_call G_l_written hr_l_written rfl T.m_l_written F_l_written.kp b_l_written .nil pass0 (pac (pv 3) pa_nil)) pa_nil)))
        (pss_one (ps_ret (pe_and (pe_cmpR (op_eqD hu64) (pe_methD0 (pv 7)) (pv 3) (nomark _)) (pe_one (pe_cmpR op_eq (pe_methD0 (pv 7)) (pv 5) (nomark _))))))), fun H1 R q z m o4 tr ht hd hz => ?_⟩
      obtain ⟨fW, fdW, MW, bW, GW⟩ := askW (P := P) (w := w) (base := base) T FF tr
      have hrW : Room (2 * tr.dp + 1) _ := hr_w.mono (by omega)
      have hlen := ht.a.wlen
      refine ⟨_, rfl, q, tr, rfl, ht.a, hd, hz, _, tr, rfl, by omega, ht.a.text hd ht.th, hd, fun y H2 s2 hc => ?_⟩
      obtain ⟨dy, fs, ey, ly⟩ := hc.objW
      obtain ⟨dy', fs', ey', _, _, lt', pp, lp, htp⟩ := hc.obj
      refine ⟨_, rfl, y, dy', fs', _, _, _, _, _, _, rfl, ey', T.cls tr, T.mtree tr, G_tree, hr_tree, b_tree, lt', y, tr, rfl, hc, fun r hr' => ⟨_, rfl, eq_refl hr'.rd (ht.a.mono s2).rd (hr'.shaped (by omega)) ⟨_, rfl, iteT ⟨_, rfl, y, dy, fs, _, fW, fdW, _, _, _, rfl, ey, T.cls tr, MW, GW, hrW, bW, ly, y, rfl, hc, hz, _, rfl, rfl, ?_⟩⟩⟩⟩
      rw [decide_eq_true rfl]
      exact k H2
    obtain ⟨t4, h4, sp4⟩ : ∃ t, PSs (cxOf CX0 P w K mg base n_law "law" (defScope slaw) a.f_law cdv A outer st H E).nox ((defBody slaw).drop 4) t ∧
        ∀ (H1 : Hp) (R q : Addr) (cs : List Int) (z : Int) (o4 : Option V) (tr : Tr), cs.length = 13 → (∀ c ∈ cs, 0 ≤ c ∧ c < 2147483629) → H1 R = some (.lst (cs.map V.int)) → TB H1 q tr → tr.dp < 30 → tr.sz ≤ 1100 →
          t { nx := fun _ H' => Q .non H', rt := Q } [some (.ref p), some (.ref R), some (.int z), some (.ref q), o4, none, none, none] H1 := by
      refine ⟨_, (pss_cons (ps_set (i := 5) sc_law.nd rfl (Or.inl rfl) (pe_methD0 (pe_call G_condition_of hr_condition_of rfl T.m_condition_of F_condition_of.kp b_condition_of .nil pass0 (pac (pv 3) pa_nil))))
        (pss_cons (ps_if (PW.pt (pw_or (pt_not (pt_val (pe_callB call_isinst rfl T.b_isinstance PyProof.Rows.boot_isinstance (pac (pv 5) (pac (pe_bltn (v := .ty "str") rfl T.b_str PyProof.Rows.boot_str rfl) pa_nil))))) (pw_or1 (pt_cmpR op_ne (pv 5) (pe_call G_l_written hr_l_written rfl T.m_l_written F_l_written.kp b_l_written .nil pass0 (pac (pv 3) pa_nil)) (nomark _))))) (pss_one (ps_ret pe_bl)) pss_nil)
        (pss_cons (ps_set (i := 6) sc_law.nd rfl (Or.inl rfl) (pe_op op_sub pe_int (pe_call G_l_open hr_l_open rfl T.m_l_open F_l_open.kp b_l_open .nil pass0 (pac (pv 3) pa_nil))))
        (pss_cons (ps_if (PW.pt (pw_and (pt_cmpR op_eq (pe_op op_mod (pe_op op_fdiv (pe_ix ix_list (pv 1) pe_int (fun _ _ => rfl)) pe_int) pe_int) pe_int (nomark _)) (pw_and1 (pt_cmpR (op_neD hu64) (pe_methD0 (pe_call G_read_condition hr_read_condition rfl T.m_read_condition F_read_condition.kp b_read_condition .nil pass0 (pac (pe_op op_add_str (pe_op op_add_str (pe_op op_mul_str pe_str (pv 6)) (pv 5)) (pe_op op_mul_str pe_str (pv 6))) pa_nil))) (pv 3) (nomark _))))) (pss_one (ps_ret pe_bl)) pss_nil)
        h8)))), fun H1 R q cs z o4 tr hcl hcs hR ht hd hz => ?_⟩
      obtain ⟨z12, e12, b0, b1⟩ := row_pick hcs 12 (by decide) (by omega)
      obtain ⟨fW, fdW, MW, bW, GW⟩ := askW (P := P) (w := w) (base := base) T FF tr
      have hrW : Room (2 * tr.dp + 1) _ := hr_w.mono (by omega)
      have hlen := ht.a.wlen
      refine ⟨_, rfl, q, tr, rfl, ht.a, hd, fun y H2 s2 cn => ?_⟩
      have hc := cn.at
      obtain ⟨dy, fs, ey, ly⟩ := hc.objW
      refine ⟨y, dy, fs, _, fW, fdW, _, _, _, rfl, ey, T.cls tr, MW, GW, hrW, bW, ly, y, rfl, hc, hz, ?_⟩
      refine ⟨_, rfl, _, _, _, _, _, rfl, rfl, TyOf.str _, kitSS, _, rfl, iteF ⟨_, rfl, _, rfl, q, tr, rfl, ht.a.mono s2, hd, hz, rfl, _, rfl, ?_⟩⟩
      rw [decide_eq_true rfl]
      refine iteF ⟨_, rfl, q, tr, rfl, ht.a.mono s2, hd, fun H3 s3 => ⟨_, _, rfl, rfl, ?_⟩⟩
      have s13 := s2.trans s3
      have hm0 : (40 - (tr.dp : Int)) = ((40 - tr.dp : Nat) : Int) := by omega
      have lst : ∀ H4, Same H1 H4 → t8 { nx := fun _ H' => Q .non H', rt := Q } [some (.ref p), some (.ref R), some (.int z), some (.ref q), o4, some (.str (wr tr)), some (.int (40 - (tr.dp : Int))), none] H4 := fun H4 s4 => sp8 H4 R q z _ o4 tr (ht.mono s4) hd hz
      refine ⟨_, rfl, R, _, _, _, rfl, rfl, SqL.of (s13 _ _ hR), e12, _, _, rfl, rfl, ⟨by decide, by decide⟩, _, _, rfl, rfl, (by show (0 : Int) < 4; decide), rfl, _, rfl, ?_⟩
      by_cases h1 : z12 / 8 % 4 = 1
      · rw [h1, decide_eq_true rfl]
        have l1 : ("(" : Str).length ≤ 100 := by decide +kernel
        have l2 : (")" : Str).length ≤ 100 := by decide +kernel
        have n1 : (Txt.mul "(" (40 - (tr.dp : Int))).length ≤ 40 := by rw [mul_len, show ("(" : Str).length = 1 by decide +kernel]; omega
        have n2 : (Txt.mul ")" (40 - (tr.dp : Int))).length ≤ 40 := by rw [mul_len, show (")" : Str).length = 1 by decide +kernel]; omega
        have n3 : (Txt.mul "(" (40 - (tr.dp : Int)) ++ wr tr).length ≤ 60000 := by rw [app_len]; omega
        have hb := ht.a.braced hd ht.th (40 - tr.dp) (by omega)
        rw [← hm0] at hb
        refine iteT ⟨_, rfl, _, _, rfl, rfl, l1, by omega, by omega, _, rfl, _, _, rfl, rfl, bigS (by omega), _, rfl, _, _, rfl, rfl, l2, by omega, by omega, _, _, rfl, rfl, bigS (by omega), _, tr, rfl, (by rw [app_len]; omega), hb, hd, fun y2 H4 s4 hc4 => ?_⟩
        obtain ⟨dy', fs', ey', _, _, lt', pp, lp, htp⟩ := hc4.obj
        have s14 := s13.trans s4
        refine ⟨y2, dy', fs', _, _, _, _, _, _, rfl, ey', T.cls tr, T.mtree tr, G_tree, hr_tree, b_tree, lt', y2, tr, rfl, hc4, fun r hr' => ⟨_, rfl, ne_refl hr'.rd (ht.a.mono s14).rd (hr'.shaped (by omega)) ⟨_, rfl, iteF (lst H4 s14)⟩⟩⟩
      · rw [decide_eq_false (fun z => h1 (by injection z))]
        exact iteF (iteF (lst H3 s13))
    refine ⟨_, (pss_cons (ps_set (i := 1) sc_law.nd rfl (Or.inl rfl) (pe_call G_l_mixed hr_l_mixed rfl T.m_l_mixed F_l_mixed.kp b_l_mixed .nil pass0 (pac (pv 0) (pac pe_int (pac pe_int pa_nil)))))
        (pss_cons (ps_set (i := 2) sc_law.nd rfl (Or.inl rfl) (pe_ix ix_list (pv 1) pe_int (fun _ _ => rfl)))
        (pss_cons (ps_set (i := 3) sc_law.nd rfl (Or.inl rfl) (pe_call G_l_tree_by hr_l_tree_by rfl T.m_l_tree_by F_l_tree_by.kp b_l_tree_by .nil pass0 (pac (pv 2) (pac (pe_slice sl_listG (pv 1) po_none (po_some (pe_op op_add pe_int (pe_op op_mod (pe_ix ix_list (pv 1) pe_int (fun _ _ => rfl)) pe_int)))) pa_nil))))
        (pss_cons (ps_if (pt_cmpR op_eq (pe_op op_mod (pe_ix ix_list (pv 1) pe_int (fun _ _ => rfl)) pe_int) pe_int (nomark _)) (pss_cons (ps_set (i := 3) sc_law.nd rfl (Or.inl rfl) (pe_call G_l_tree_by hr_l_tree_by rfl T.m_l_tree_by F_l_tree_by.kp b_l_tree_by .nil pass0 (pac (pv 2) (pac (pe_slice sl_listG (pv 1) po_none (po_some pe_int)) pa_nil))))
        (pss_one (ps_for PassesOwn.never rfl (pi_range1 rfl T.b_range (pac (pe_op op_add pe_int (pe_callTy call_int1 rfl T.b_int PyProof.Rows.boot_int (pac (pe_and (pe_cmpR op_lt (pe_callB call_len_seq rfl T.b_len PySem.boot_len (pac (pv 3) pa_nil)) pe_int (nomark _)) (pe_one (pe_cmpR op_notIn_seq (pe_ix ix_tup (pv 3) pe_int (fun _ _ => rfl)) (pe_lstG (pas_cons pe_str (pas_cons pe_str pas_nil))) (by with_unfolding_all rfl)))) pa_nil))) pa_nil)) (pg_name (i := 4) sc_law.nd rfl (Or.inl rfl)) (pss_one (ps_set (i := 3) sc_law.nd rfl (Or.inl rfl) (pe_tupG (pas_cons pe_str (pas_cons (pv 3) pas_nil)))))))) pss_nil)
        h4)))), ?_⟩
    refine ⟨_, rfl, p, ns, 0, 13, rfl, hp, by decide, by decide, fun R cs H1 hcl hcs nR s1 hR => ?_⟩
    obtain ⟨z10, e10, z0, z1⟩ := row_pick hcs 10 (by decide) (by omega)
    obtain ⟨z11, e11, y0, y1⟩ := row_pick hcs 11 (by decide) (by omega)
    obtain ⟨z12, e12, b0, b1⟩ := row_pick hcs 12 (by decide) (by omega)
    have m0 : 0 ≤ z11 % 10 := Int.emod_nonneg _ (by decide)
    have m1 : z11 % 10 < 10 := Int.emod_lt_of_pos _ (by decide)
    refine ⟨_, rfl, R, _, _, _, rfl, rfl, SqL.of hR, e10, ?_⟩
    refine ⟨_, rfl, _, rfl, _, rfl, R, _, _, _, rfl, rfl, SqL.of hR, e11, _, _, rfl, rfl, (by show (0 : Int) < 10; decide), _, _, rfl, rfl, _, rfl, R, _, rfl, SqL.of hR, fun l1 H2 n2 s2 e2 => ?_⟩
    rw [cut_front V.int cs _ (by omega)] at e2
    have lc1 : (cs.take (1 + z11 % 10).toNat).length = (1 + z11 % 10).toNat := by rw [List.length_take]; omega
    refine ⟨z10, l1, _, rfl, z0, z1, e2, (fun c hc => (hcs c (List.mem_of_mem_take hc)).1), by omega, by omega, fun tr q H3 s3 ht hd => ?_⟩
    have s13 := s2.trans s3
    have hR3 := s13 _ _ hR
    refine ⟨_, rfl, R, _, _, _, rfl, rfl, SqL.of hR3, e12, _, _, rfl, rfl, (by show (0 : Int) < 8; decide), rfl, _, rfl, ?_⟩
    by_cases h1 : z12 % 8 = 1
    · rw [h1, decide_eq_true rfl]
      refine iteT ⟨_, rfl, _, rfl, _, rfl, R, _, rfl, SqL.of hR3, fun l2 H4 n4 s4 e4 => ?_⟩
      rw [cut_front V.int cs _ (by decide)] at e4
      have lc2 : (cs.take (2 : Int).toNat).length = 2 := by rw [List.length_take]; show min 2 cs.length = 2; omega
      refine ⟨z10, l2, _, rfl, z0, z1, e4, (fun c hc => (hcs c (List.mem_of_mem_take hc)).1), by omega, by omega, fun tr2 q2 H5 s5 ht2 hd2 => ?_⟩
      have s35 := s4.trans s5
      have hp2 := sz_pow tr2
      have hsz2 : tr2.sz ≤ 3 := by
        have : 2 ^ (tr2.dp + 1) ≤ 2 ^ 2 := Nat.pow_le_pow_right (by decide) (by omega)
        omega
      obtain ⟨xs, exs, hslim⟩ := ht2.a.slim
      refine ⟨_, rfl, q2, _, rfl, .inr (SqT.of exs), _, _, rfl, rfl, _, rfl, by_main (tr2.dp = 0) (fun b H6 s6 hb => .inr ⟨_, rfl, _, _, rfl, rfl, ?_⟩) (fun hc kk => ?_)⟩
      · have hm : (28 + (if b = true then (1 : Int) else 0)) = 28 ∨ ((28 + (if b = true then (1 : Int) else 0)) = 29 ∧ tr2.dp = 0) := by
          cases b with
          | true => exact .inr ⟨rfl, hb rfl⟩
          | false => exact .inl rfl
        have s36 := s35.trans s6
        refine ⟨28 + (if b = true then (1 : Int) else 0), rfl, by omega, by omega, ?_⟩
        generalize (28 + (if b = true then (1 : Int) else 0)) = m at hm ⊢
        refine for_range (n := m.toNat) (fun i σ H7 => ∃ (q3 : Addr) (t3 : Tr) (o : Option V), σ = [some (.ref p), some (.ref R), some (.int z10), some (.ref q3), o, none, none, none] ∧ Same H3 H7 ∧ TB H7 q3 t3 ∧ t3.dp = tr2.dp + i ∧ t3.sz = tr2.sz + i) ⟨q2, tr2, none, rfl, s36, ht2.mono s6, rfl, rfl⟩ ?_ ?_
        · rintro i σ H7 hi ⟨q3, t3, o, rfl, s7, ht3, hd3, hs3⟩
          refine ⟨_, rfl, (by show 2 ≤ sizeLine; decide), fun q4 H8 n8 s8 e8 => ?_⟩
          have h8 := ht3.mono s8
          exact ⟨q4, .nt t3, _, rfl, s7.trans s8, ⟨.nt e8 h8.a, h8.th⟩, by show t3.dp + 1 = _; omega, by show t3.sz + 1 = _; omega⟩
        · rintro σ H7 ⟨q3, t3, o, rfl, s7, ht3, hd3, hs3⟩
          exact sp4 H7 R q3 cs z10 o t3 hcl hcs (s7 _ _ hR3) ht3 (by omega) (by omega)
      · refine ⟨_, rfl, q2, _, _, V.str (nm1 tr2), rfl, rfl, SqT.of exs, atI_nat (j := 0) rfl, (by show 2 ≤ sizeLine; decide), fun D H6 nD s6 e6 => ⟨D, slimN.map V.str, rfl, .inl (SqL.of e6), rfl, flat_strs _, kk _ H6 s6 fun hb => hslim ?_ ?_⟩⟩
        · have := of_decide_eq_true hc
          simp only [List.length_cons] at this
          omega
        · rw [if_pos rfl, inV_strs] at hb
          cases hq : decide (nm1 tr2 ∈ slimN) with
          | true => rw [hq] at hb; cases hb
          | false => rfl
    · rw [decide_eq_false (fun z => h1 (by injection z))]
      have hsz : tr.sz ≤ 1100 := by
        have hp1 := sz_pow tr
        have : 2 ^ (tr.dp + 1) ≤ 2 ^ 10 := Nat.pow_le_pow_right (by decide) (by omega)
        omega
      exact iteF (sp4 H3 R q cs z10 none tr hcl hcs hR3 ht (by omega) hsz)
end
/-- what the walk asks of the things behind the top -/
def obs (K : PySem.W.Frag) : List (Option (FuncData × Option (List Value)) × Bool) × Bool :=
  ([Hd.see K (Hd.gl K "_wall") "_wall",
    Hd.see K (Hd.gl K "condition_of") "condition_of",
    Hd.see K (Hd.gl K "all_among") "all_among",
    Hd.see K (Hd.gl K "is_word") "is_word",
    Hd.see K (Hd.gl K "pieces_of") "pieces_of",
    Hd.see K (Hd.gl K "deep") "deep",
    Hd.see K (Hd.gl K "read_condition") "read_condition",
    Hd.see K (Hd.gl K "_law_cell_at") "_law_cell_at",
    Hd.see K (Hd.gl K "_law_mixed") "_law_mixed",
    Hd.see K (Hd.gl K "_law_word_by") "_law_word_by",
    Hd.see K (Hd.gl K "_law_leaf_by") "_law_leaf_by",
    Hd.see K (Hd.gl K "_law_threads") "_law_threads",
    Hd.see K (Hd.gl K "_law_tree_by") "_law_tree_by",
    Hd.see K (Hd.gl K "_law_written") "_law_written",
    Hd.see K (Hd.gl K "_law_open") "_law_open",
    Hd.see K (Hd.gl K "law") "law",
    Hd.see K (PySem.W.findIn K (.ref (Hd.cl K "Condition")) "__init__") "Condition.__init__",
    Hd.see K (PySem.W.findIn K (.ref (Hd.cl K "Condition")) "holds") "Condition.holds",
    Hd.see K (PySem.W.findIn K (.ref (Hd.cl K "Condition")) "truths") "Condition.truths",
    Hd.see K (PySem.W.findIn K (.ref (Hd.cl K "Condition")) "tree") "Condition.tree",
    Hd.see K (PySem.W.findIn K (.ref (Hd.cl K "Condition")) "written") "Condition.written",
    Hd.see K (PySem.W.findIn K (.ref (Hd.cl K "HasWord")) "holds") "HasWord.holds",
    Hd.see K (PySem.W.findIn K (.ref (Hd.cl K "HasTitleWord")) "holds") "HasTitleWord.holds",
    Hd.see K (PySem.W.findIn K (.ref (Hd.cl K "IsFrom")) "holds") "IsFrom.holds",
    Hd.see K (PySem.W.findIn K (.ref (Hd.cl K "IsOfDays")) "holds") "IsOfDays.holds",
    Hd.see K (PySem.W.findIn K (.ref (Hd.cl K "IsOfDays")) "written") "IsOfDays.written",
    Hd.see K (PySem.W.findIn K (.ref (Hd.cl K "IsIn")) "holds") "IsIn.holds",
    Hd.see K (PySem.W.findIn K (.ref (Hd.cl K "IsMarked")) "holds") "IsMarked.holds",
    Hd.see K (PySem.W.findIn K (.ref (Hd.cl K "DoesAnswer")) "holds") "DoesAnswer.holds",
    Hd.see K (PySem.W.findIn K (.ref (Hd.cl K "Wrapped")) "__init__") "Wrapped.__init__",
    Hd.see K (PySem.W.findIn K (.ref (Hd.cl K "Wrapped")) "written") "Wrapped.written",
    Hd.see K (PySem.W.findIn K (.ref (Hd.cl K "Not")) "holds") "Not.holds",
    Hd.see K (PySem.W.findIn K (.ref (Hd.cl K "Not")) "truths") "Not.truths",
    Hd.see K (PySem.W.findIn K (.ref (Hd.cl K "InThread")) "holds") "InThread.holds",
    Hd.see K (PySem.W.findIn K (.ref (Hd.cl K "InThread")) "truths") "InThread.truths",
    Hd.see K (PySem.W.findIn K (.ref (Hd.cl K "Joined")) "__init__") "Joined.__init__",
    Hd.see K (PySem.W.findIn K (.ref (Hd.cl K "Joined")) "written_with") "Joined.written_with",
    Hd.see K (PySem.W.findIn K (.ref (Hd.cl K "Both")) "holds") "Both.holds",
    Hd.see K (PySem.W.findIn K (.ref (Hd.cl K "Both")) "truths") "Both.truths",
    Hd.see K (PySem.W.findIn K (.ref (Hd.cl K "Both")) "written") "Both.written",
    Hd.see K (PySem.W.findIn K (.ref (Hd.cl K "Either")) "holds") "Either.holds",
    Hd.see K (PySem.W.findIn K (.ref (Hd.cl K "Either")) "truths") "Either.truths",
    Hd.see K (PySem.W.findIn K (.ref (Hd.cl K "Either")) "written") "Either.written",
    Hd.see K (PySem.W.findIn K (.ref (Hd.cl K "Reader")) "__init__") "Reader.__init__",
    Hd.see K (PySem.W.findIn K (.ref (Hd.cl K "Reader")) "ahead") "Reader.ahead",
    Hd.see K (PySem.W.findIn K (.ref (Hd.cl K "Reader")) "step") "Reader.step",
    Hd.see K (PySem.W.findIn K (.ref (Hd.cl K "Reader")) "passes") "Reader.passes",
    Hd.see K (PySem.W.findIn K (.ref (Hd.cl K "Reader")) "expect") "Reader.expect",
    Hd.see K (PySem.W.findIn K (.ref (Hd.cl K "Reader")) "read_word") "Reader.read_word",
    Hd.see K (PySem.W.findIn K (.ref (Hd.cl K "Reader")) "read_number") "Reader.read_number",
    Hd.see K (PySem.W.findIn K (.ref (Hd.cl K "Reader")) "read_leaf") "Reader.read_leaf",
    Hd.see K (PySem.W.findIn K (.ref (Hd.cl K "Reader")) "checked") "Reader.checked",
    Hd.see K (PySem.W.findIn K (.ref (Hd.cl K "Reader")) "read_single") "Reader.read_single",
    Hd.see K (PySem.W.findIn K (.ref (Hd.cl K "Reader")) "read_both") "Reader.read_both",
    Hd.see K (PySem.W.findIn K (.ref (Hd.cl K "Reader")) "read_either") "Reader.read_either",
    Hd.see K (PySem.W.findIn K (.ref (Hd.cl K "Reader")) "read_whole") "Reader.read_whole",
    Hd.see K (PySem.W.findIn K (.ref (Hd.cl K "Reader")) "read_act") "Reader.read_act"],
   [decide (Hd.gl K "Condition" = some (some (.ref (Hd.cl K "Condition")))),
    decide (Hd.gl K "Always" = some (some (.ref (Hd.cl K "Always")))),
    decide (Hd.gl K "HasWord" = some (some (.ref (Hd.cl K "HasWord")))),
    decide (Hd.gl K "HasTitleWord" = some (some (.ref (Hd.cl K "HasTitleWord")))),
    decide (Hd.gl K "IsFrom" = some (some (.ref (Hd.cl K "IsFrom")))),
    decide (Hd.gl K "IsOfDays" = some (some (.ref (Hd.cl K "IsOfDays")))),
    decide (Hd.gl K "IsIn" = some (some (.ref (Hd.cl K "IsIn")))),
    decide (Hd.gl K "IsMarked" = some (some (.ref (Hd.cl K "IsMarked")))),
    decide (Hd.gl K "DoesAnswer" = some (some (.ref (Hd.cl K "DoesAnswer")))),
    decide (Hd.gl K "Wrapped" = some (some (.ref (Hd.cl K "Wrapped")))),
    decide (Hd.gl K "Not" = some (some (.ref (Hd.cl K "Not")))),
    decide (Hd.gl K "InThread" = some (some (.ref (Hd.cl K "InThread")))),
    decide (Hd.gl K "Joined" = some (some (.ref (Hd.cl K "Joined")))),
    decide (Hd.gl K "Both" = some (some (.ref (Hd.cl K "Both")))),
    decide (Hd.gl K "Either" = some (some (.ref (Hd.cl K "Either")))),
    decide (Hd.gl K "Reader" = some (some (.ref (Hd.cl K "Reader")))),
    decide ((Hd.gl K "FIGURES").map (Option.map Hd.bareV) = some (some (Hd.bv (.str "0123456789")))),
    decide ((Hd.gl K "WORD_SIGNS").map (Option.map Hd.bareV) = some (some (Hd.bv (.str "abcdefghijklmnopqrstuvwxyz0123456789")))),
    decide ((Hd.gl K "MOST_WORD").map (Option.map Hd.bareV) = some (some (Hd.bv (.int 20)))),
    decide ((Hd.gl K "LAST_DAY").map (Option.map Hd.bareV) = some (some (Hd.bv (.int 9999)))),
    decide ((Hd.gl K "DAY_FIGURES").map (Option.map Hd.bareV) = some (some (Hd.bv (.int 4)))),
    decide ((Hd.gl K "MOST_DEEP").map (Option.map Hd.bareV) = some (some (Hd.bv (.int 30)))),
    decide ((Hd.gl K "MOST_WITHIN").map (Option.map Hd.bareV) = some (some (Hd.bv (.int 40)))),
    decide ((Hd.gl K "MOST_THREADS").map (Option.map Hd.bareV) = some (some (Hd.bv (.int 2)))),
    decide ((Hd.gl K "END").map (Option.map Hd.bareV) = some (some (Hd.bv (.str "")))),
    Hd.tupStrs K "BARE" ["any", "answers"],
    Hd.tupStrs K "WORDED" ["word", "title", "from", "in", "marked"],
    Hd.tupStrs K "OPENING" ["(", "not", "thread"],
    PySem.W.plainGet K (Hd.cl K "Condition") Str.empty,
    PySem.W.hasDictIn K (Hd.cl K "Condition"),
    PySem.W.plainOver K (Hd.cl K "Condition"),
    decide (PySem.W.findIn K (.ref (Hd.cl K "Condition")) "__setattr__" = some (some (.builtin "object.__setattr__"))),
    PySem.W.keepIn K (.ref (Hd.cl K "Condition")),
    PySem.W.makesIn K (Hd.cl K "Condition"),
    decide (PySem.W.findIn K (.ref (Hd.cl K "Condition")) "shape" = some none),
    PySem.W.plainGet K (Hd.cl K "Always") Str.empty,
    PySem.W.hasDictIn K (Hd.cl K "Always"),
    PySem.W.plainOver K (Hd.cl K "Always"),
    decide (PySem.W.findIn K (.ref (Hd.cl K "Always")) "__setattr__" = some (some (.builtin "object.__setattr__"))),
    PySem.W.keepIn K (.ref (Hd.cl K "Always")),
    PySem.W.makesIn K (Hd.cl K "Always"),
    decide (PySem.W.findIn K (.ref (Hd.cl K "Always")) "__init__" = PySem.W.findIn K (.ref (Hd.cl K "Condition")) "__init__"),
    decide (PySem.W.findIn K (.ref (Hd.cl K "Always")) "holds" = PySem.W.findIn K (.ref (Hd.cl K "Condition")) "holds"),
    decide (PySem.W.findIn K (.ref (Hd.cl K "Always")) "truths" = PySem.W.findIn K (.ref (Hd.cl K "Condition")) "truths"),
    decide (PySem.W.findIn K (.ref (Hd.cl K "Always")) "tree" = PySem.W.findIn K (.ref (Hd.cl K "Condition")) "tree"),
    decide (PySem.W.findIn K (.ref (Hd.cl K "Always")) "written" = PySem.W.findIn K (.ref (Hd.cl K "Condition")) "written"),
    decide (PySem.W.findIn K (.ref (Hd.cl K "Always")) "shape" = some none),
    PySem.W.plainGet K (Hd.cl K "HasWord") Str.empty,
    PySem.W.hasDictIn K (Hd.cl K "HasWord"),
    PySem.W.plainOver K (Hd.cl K "HasWord"),
    decide (PySem.W.findIn K (.ref (Hd.cl K "HasWord")) "__setattr__" = some (some (.builtin "object.__setattr__"))),
    PySem.W.keepIn K (.ref (Hd.cl K "HasWord")),
    PySem.W.makesIn K (Hd.cl K "HasWord"),
    decide (PySem.W.findIn K (.ref (Hd.cl K "HasWord")) "__init__" = PySem.W.findIn K (.ref (Hd.cl K "Condition")) "__init__"),
    decide (PySem.W.findIn K (.ref (Hd.cl K "HasWord")) "truths" = PySem.W.findIn K (.ref (Hd.cl K "Condition")) "truths"),
    decide (PySem.W.findIn K (.ref (Hd.cl K "HasWord")) "tree" = PySem.W.findIn K (.ref (Hd.cl K "Condition")) "tree"),
    decide (PySem.W.findIn K (.ref (Hd.cl K "HasWord")) "written" = PySem.W.findIn K (.ref (Hd.cl K "Condition")) "written"),
    decide (PySem.W.findIn K (.ref (Hd.cl K "HasWord")) "shape" = some none),
    PySem.W.plainGet K (Hd.cl K "HasTitleWord") Str.empty,
    PySem.W.hasDictIn K (Hd.cl K "HasTitleWord"),
    PySem.W.plainOver K (Hd.cl K "HasTitleWord"),
    decide (PySem.W.findIn K (.ref (Hd.cl K "HasTitleWord")) "__setattr__" = some (some (.builtin "object.__setattr__"))),
    PySem.W.keepIn K (.ref (Hd.cl K "HasTitleWord")),
    PySem.W.makesIn K (Hd.cl K "HasTitleWord"),
    decide (PySem.W.findIn K (.ref (Hd.cl K "HasTitleWord")) "__init__" = PySem.W.findIn K (.ref (Hd.cl K "Condition")) "__init__"),
    decide (PySem.W.findIn K (.ref (Hd.cl K "HasTitleWord")) "truths" = PySem.W.findIn K (.ref (Hd.cl K "Condition")) "truths"),
    decide (PySem.W.findIn K (.ref (Hd.cl K "HasTitleWord")) "tree" = PySem.W.findIn K (.ref (Hd.cl K "Condition")) "tree"),
    decide (PySem.W.findIn K (.ref (Hd.cl K "HasTitleWord")) "written" = PySem.W.findIn K (.ref (Hd.cl K "Condition")) "written"),
    decide (PySem.W.findIn K (.ref (Hd.cl K "HasTitleWord")) "shape" = some none),
    PySem.W.plainGet K (Hd.cl K "IsFrom") Str.empty,
    PySem.W.hasDictIn K (Hd.cl K "IsFrom"),
    PySem.W.plainOver K (Hd.cl K "IsFrom"),
    decide (PySem.W.findIn K (.ref (Hd.cl K "IsFrom")) "__setattr__" = some (some (.builtin "object.__setattr__"))),
    PySem.W.keepIn K (.ref (Hd.cl K "IsFrom")),
    PySem.W.makesIn K (Hd.cl K "IsFrom"),
    decide (PySem.W.findIn K (.ref (Hd.cl K "IsFrom")) "__init__" = PySem.W.findIn K (.ref (Hd.cl K "Condition")) "__init__"),
    decide (PySem.W.findIn K (.ref (Hd.cl K "IsFrom")) "truths" = PySem.W.findIn K (.ref (Hd.cl K "Condition")) "truths"),
    decide (PySem.W.findIn K (.ref (Hd.cl K "IsFrom")) "tree" = PySem.W.findIn K (.ref (Hd.cl K "Condition")) "tree"),
    decide (PySem.W.findIn K (.ref (Hd.cl K "IsFrom")) "written" = PySem.W.findIn K (.ref (Hd.cl K "Condition")) "written"),
    decide (PySem.W.findIn K (.ref (Hd.cl K "IsFrom")) "shape" = some none),
    PySem.W.plainGet K (Hd.cl K "IsOfDays") Str.empty,
    PySem.W.hasDictIn K (Hd.cl K "IsOfDays"),
    PySem.W.plainOver K (Hd.cl K "IsOfDays"),
    decide (PySem.W.findIn K (.ref (Hd.cl K "IsOfDays")) "__setattr__" = some (some (.builtin "object.__setattr__"))),
    PySem.W.keepIn K (.ref (Hd.cl K "IsOfDays")),
    PySem.W.makesIn K (Hd.cl K "IsOfDays"),
    decide (PySem.W.findIn K (.ref (Hd.cl K "IsOfDays")) "__init__" = PySem.W.findIn K (.ref (Hd.cl K "Condition")) "__init__"),
    decide (PySem.W.findIn K (.ref (Hd.cl K "IsOfDays")) "truths" = PySem.W.findIn K (.ref (Hd.cl K "Condition")) "truths"),
    decide (PySem.W.findIn K (.ref (Hd.cl K "IsOfDays")) "tree" = PySem.W.findIn K (.ref (Hd.cl K "Condition")) "tree"),
    decide (PySem.W.findIn K (.ref (Hd.cl K "IsOfDays")) "shape" = some none),
    PySem.W.plainGet K (Hd.cl K "IsIn") Str.empty,
    PySem.W.hasDictIn K (Hd.cl K "IsIn"),
    PySem.W.plainOver K (Hd.cl K "IsIn"),
    decide (PySem.W.findIn K (.ref (Hd.cl K "IsIn")) "__setattr__" = some (some (.builtin "object.__setattr__"))),
    PySem.W.keepIn K (.ref (Hd.cl K "IsIn")),
    PySem.W.makesIn K (Hd.cl K "IsIn"),
    decide (PySem.W.findIn K (.ref (Hd.cl K "IsIn")) "__init__" = PySem.W.findIn K (.ref (Hd.cl K "Condition")) "__init__"),
    decide (PySem.W.findIn K (.ref (Hd.cl K "IsIn")) "truths" = PySem.W.findIn K (.ref (Hd.cl K "Condition")) "truths"),
    decide (PySem.W.findIn K (.ref (Hd.cl K "IsIn")) "tree" = PySem.W.findIn K (.ref (Hd.cl K "Condition")) "tree"),
    decide (PySem.W.findIn K (.ref (Hd.cl K "IsIn")) "written" = PySem.W.findIn K (.ref (Hd.cl K "Condition")) "written"),
    decide (PySem.W.findIn K (.ref (Hd.cl K "IsIn")) "shape" = some none),
    PySem.W.plainGet K (Hd.cl K "IsMarked") Str.empty,
    PySem.W.hasDictIn K (Hd.cl K "IsMarked"),
    PySem.W.plainOver K (Hd.cl K "IsMarked"),
    decide (PySem.W.findIn K (.ref (Hd.cl K "IsMarked")) "__setattr__" = some (some (.builtin "object.__setattr__"))),
    PySem.W.keepIn K (.ref (Hd.cl K "IsMarked")),
    PySem.W.makesIn K (Hd.cl K "IsMarked"),
    decide (PySem.W.findIn K (.ref (Hd.cl K "IsMarked")) "__init__" = PySem.W.findIn K (.ref (Hd.cl K "Condition")) "__init__"),
    decide (PySem.W.findIn K (.ref (Hd.cl K "IsMarked")) "truths" = PySem.W.findIn K (.ref (Hd.cl K "Condition")) "truths"),
    decide (PySem.W.findIn K (.ref (Hd.cl K "IsMarked")) "tree" = PySem.W.findIn K (.ref (Hd.cl K "Condition")) "tree"),
    decide (PySem.W.findIn K (.ref (Hd.cl K "IsMarked")) "written" = PySem.W.findIn K (.ref (Hd.cl K "Condition")) "written"),
    decide (PySem.W.findIn K (.ref (Hd.cl K "IsMarked")) "shape" = some none),
    PySem.W.plainGet K (Hd.cl K "DoesAnswer") Str.empty,
    PySem.W.hasDictIn K (Hd.cl K "DoesAnswer"),
    PySem.W.plainOver K (Hd.cl K "DoesAnswer"),
    decide (PySem.W.findIn K (.ref (Hd.cl K "DoesAnswer")) "__setattr__" = some (some (.builtin "object.__setattr__"))),
    PySem.W.keepIn K (.ref (Hd.cl K "DoesAnswer")),
    PySem.W.makesIn K (Hd.cl K "DoesAnswer"),
    decide (PySem.W.findIn K (.ref (Hd.cl K "DoesAnswer")) "__init__" = PySem.W.findIn K (.ref (Hd.cl K "Condition")) "__init__"),
    decide (PySem.W.findIn K (.ref (Hd.cl K "DoesAnswer")) "truths" = PySem.W.findIn K (.ref (Hd.cl K "Condition")) "truths"),
    decide (PySem.W.findIn K (.ref (Hd.cl K "DoesAnswer")) "tree" = PySem.W.findIn K (.ref (Hd.cl K "Condition")) "tree"),
    decide (PySem.W.findIn K (.ref (Hd.cl K "DoesAnswer")) "written" = PySem.W.findIn K (.ref (Hd.cl K "Condition")) "written"),
    decide (PySem.W.findIn K (.ref (Hd.cl K "DoesAnswer")) "shape" = some none),
    PySem.W.plainGet K (Hd.cl K "Wrapped") Str.empty,
    PySem.W.hasDictIn K (Hd.cl K "Wrapped"),
    PySem.W.plainOver K (Hd.cl K "Wrapped"),
    decide (PySem.W.findIn K (.ref (Hd.cl K "Wrapped")) "__setattr__" = some (some (.builtin "object.__setattr__"))),
    PySem.W.keepIn K (.ref (Hd.cl K "Wrapped")),
    PySem.W.makesIn K (Hd.cl K "Wrapped"),
    decide (PySem.W.findIn K (.ref (Hd.cl K "Wrapped")) "holds" = PySem.W.findIn K (.ref (Hd.cl K "Condition")) "holds"),
    decide (PySem.W.findIn K (.ref (Hd.cl K "Wrapped")) "truths" = PySem.W.findIn K (.ref (Hd.cl K "Condition")) "truths"),
    decide (PySem.W.findIn K (.ref (Hd.cl K "Wrapped")) "tree" = PySem.W.findIn K (.ref (Hd.cl K "Condition")) "tree"),
    decide (PySem.W.findIn K (.ref (Hd.cl K "Wrapped")) "shape" = some none),
    decide (PySem.W.findIn K (.ref (Hd.cl K "Wrapped")) "inner" = some none),
    PySem.W.plainGet K (Hd.cl K "Not") Str.empty,
    PySem.W.hasDictIn K (Hd.cl K "Not"),
    PySem.W.plainOver K (Hd.cl K "Not"),
    decide (PySem.W.findIn K (.ref (Hd.cl K "Not")) "__setattr__" = some (some (.builtin "object.__setattr__"))),
    PySem.W.keepIn K (.ref (Hd.cl K "Not")),
    PySem.W.makesIn K (Hd.cl K "Not"),
    decide (PySem.W.findIn K (.ref (Hd.cl K "Not")) "__init__" = PySem.W.findIn K (.ref (Hd.cl K "Wrapped")) "__init__"),
    decide (PySem.W.findIn K (.ref (Hd.cl K "Not")) "tree" = PySem.W.findIn K (.ref (Hd.cl K "Condition")) "tree"),
    decide (PySem.W.findIn K (.ref (Hd.cl K "Not")) "written" = PySem.W.findIn K (.ref (Hd.cl K "Wrapped")) "written"),
    decide (PySem.W.findIn K (.ref (Hd.cl K "Not")) "shape" = some none),
    decide (PySem.W.findIn K (.ref (Hd.cl K "Not")) "inner" = some none),
    PySem.W.plainGet K (Hd.cl K "InThread") Str.empty,
    PySem.W.hasDictIn K (Hd.cl K "InThread"),
    PySem.W.plainOver K (Hd.cl K "InThread"),
    decide (PySem.W.findIn K (.ref (Hd.cl K "InThread")) "__setattr__" = some (some (.builtin "object.__setattr__"))),
    PySem.W.keepIn K (.ref (Hd.cl K "InThread")),
    PySem.W.makesIn K (Hd.cl K "InThread"),
    decide (PySem.W.findIn K (.ref (Hd.cl K "InThread")) "__init__" = PySem.W.findIn K (.ref (Hd.cl K "Wrapped")) "__init__"),
    decide (PySem.W.findIn K (.ref (Hd.cl K "InThread")) "tree" = PySem.W.findIn K (.ref (Hd.cl K "Condition")) "tree"),
    decide (PySem.W.findIn K (.ref (Hd.cl K "InThread")) "written" = PySem.W.findIn K (.ref (Hd.cl K "Wrapped")) "written"),
    decide (PySem.W.findIn K (.ref (Hd.cl K "InThread")) "shape" = some none),
    decide (PySem.W.findIn K (.ref (Hd.cl K "InThread")) "inner" = some none),
    PySem.W.plainGet K (Hd.cl K "Joined") Str.empty,
    PySem.W.hasDictIn K (Hd.cl K "Joined"),
    PySem.W.plainOver K (Hd.cl K "Joined"),
    decide (PySem.W.findIn K (.ref (Hd.cl K "Joined")) "__setattr__" = some (some (.builtin "object.__setattr__"))),
    PySem.W.keepIn K (.ref (Hd.cl K "Joined")),
    PySem.W.makesIn K (Hd.cl K "Joined"),
    decide (PySem.W.findIn K (.ref (Hd.cl K "Joined")) "holds" = PySem.W.findIn K (.ref (Hd.cl K "Condition")) "holds"),
    decide (PySem.W.findIn K (.ref (Hd.cl K "Joined")) "truths" = PySem.W.findIn K (.ref (Hd.cl K "Condition")) "truths"),
    decide (PySem.W.findIn K (.ref (Hd.cl K "Joined")) "tree" = PySem.W.findIn K (.ref (Hd.cl K "Condition")) "tree"),
    decide (PySem.W.findIn K (.ref (Hd.cl K "Joined")) "written" = PySem.W.findIn K (.ref (Hd.cl K "Condition")) "written"),
    decide (PySem.W.findIn K (.ref (Hd.cl K "Joined")) "shape" = some none),
    decide (PySem.W.findIn K (.ref (Hd.cl K "Joined")) "one" = some none),
    decide (PySem.W.findIn K (.ref (Hd.cl K "Joined")) "other" = some none),
    PySem.W.plainGet K (Hd.cl K "Both") Str.empty,
    PySem.W.hasDictIn K (Hd.cl K "Both"),
    PySem.W.plainOver K (Hd.cl K "Both"),
    decide (PySem.W.findIn K (.ref (Hd.cl K "Both")) "__setattr__" = some (some (.builtin "object.__setattr__"))),
    PySem.W.keepIn K (.ref (Hd.cl K "Both")),
    PySem.W.makesIn K (Hd.cl K "Both"),
    decide (PySem.W.findIn K (.ref (Hd.cl K "Both")) "__init__" = PySem.W.findIn K (.ref (Hd.cl K "Joined")) "__init__"),
    decide (PySem.W.findIn K (.ref (Hd.cl K "Both")) "tree" = PySem.W.findIn K (.ref (Hd.cl K "Condition")) "tree"),
    decide (PySem.W.findIn K (.ref (Hd.cl K "Both")) "written_with" = PySem.W.findIn K (.ref (Hd.cl K "Joined")) "written_with"),
    decide (PySem.W.findIn K (.ref (Hd.cl K "Both")) "shape" = some none),
    decide (PySem.W.findIn K (.ref (Hd.cl K "Both")) "one" = some none),
    decide (PySem.W.findIn K (.ref (Hd.cl K "Both")) "other" = some none),
    PySem.W.plainGet K (Hd.cl K "Either") Str.empty,
    PySem.W.hasDictIn K (Hd.cl K "Either"),
    PySem.W.plainOver K (Hd.cl K "Either"),
    decide (PySem.W.findIn K (.ref (Hd.cl K "Either")) "__setattr__" = some (some (.builtin "object.__setattr__"))),
    PySem.W.keepIn K (.ref (Hd.cl K "Either")),
    PySem.W.makesIn K (Hd.cl K "Either"),
    decide (PySem.W.findIn K (.ref (Hd.cl K "Either")) "__init__" = PySem.W.findIn K (.ref (Hd.cl K "Joined")) "__init__"),
    decide (PySem.W.findIn K (.ref (Hd.cl K "Either")) "tree" = PySem.W.findIn K (.ref (Hd.cl K "Condition")) "tree"),
    decide (PySem.W.findIn K (.ref (Hd.cl K "Either")) "written_with" = PySem.W.findIn K (.ref (Hd.cl K "Joined")) "written_with"),
    decide (PySem.W.findIn K (.ref (Hd.cl K "Either")) "shape" = some none),
    decide (PySem.W.findIn K (.ref (Hd.cl K "Either")) "one" = some none),
    decide (PySem.W.findIn K (.ref (Hd.cl K "Either")) "other" = some none),
    PySem.W.plainGet K (Hd.cl K "Reader") Str.empty,
    PySem.W.hasDictIn K (Hd.cl K "Reader"),
    PySem.W.plainOver K (Hd.cl K "Reader"),
    decide (PySem.W.findIn K (.ref (Hd.cl K "Reader")) "__setattr__" = some (some (.builtin "object.__setattr__"))),
    PySem.W.keepIn K (.ref (Hd.cl K "Reader")),
    PySem.W.makesIn K (Hd.cl K "Reader"),
    decide (PySem.W.findIn K (.ref (Hd.cl K "Reader")) "pieces" = some none),
    decide (PySem.W.findIn K (.ref (Hd.cl K "Reader")) "at" = some none),
    decide (PySem.W.findIn K (.ref (Hd.cl K "Reader")) "row" = some none),
    decide (PySem.W.specialIn K (.ref (Hd.cl K "Condition")) "__getattribute__" = some (some (.builtin "type.__getattribute__"))),
    PySem.W.readsIn K (Hd.cl K "Condition") (.type "type"),
    Hd.isVal (PySem.W.findCls K (.ref (Hd.cl K "Condition")) (.type "type") "__init__") (.ref (Hd.adOf (PySem.W.findIn K (.ref (Hd.cl K "Condition")) "__init__"))),
    decide (Hd.gl K "len" = some none),
    decide (Hd.gl K "range" = some none),
    decide (Hd.gl K "isinstance" = some none),
    decide (Hd.gl K "str" = some none),
    decide (Hd.gl K "int" = some none),
    decide (Hd.gl K "tuple" = some none),
    decide (Hd.gl K "max" = some none),
    decide (Hd.gl K "all" = some none),
    decide (Hd.gl K "sorted" = some none)].all id)
def good : List (Option (FuncData × Option (List Value)) × Bool) × Bool :=
  ([(some (Hd.bareFn "_wall" "_wall" swall, none), true),
    (some (Hd.bareFn "condition_of" "condition_of" scondition_of, none), true),
    (some (Hd.bareFn "all_among" "all_among" sall_among, none), true),
    (some (Hd.bareFn "is_word" "is_word" sis_word, none), true),
    (some (Hd.bareFn "pieces_of" "pieces_of" spieces_of, none), true),
    (some (Hd.bareFn "deep" "deep" sdeep, none), true),
    (some (Hd.bareFn "read_condition" "read_condition" sread_condition, none), true),
    (some (Hd.bareFn "_law_cell_at" "_law_cell_at" sl_cell_at, none), true),
    (some (Hd.bareFn "_law_mixed" "_law_mixed" sl_mixed, none), true),
    (some (Hd.bareFn "_law_word_by" "_law_word_by" sl_word_by, none), true),
    (some (Hd.bareFn "_law_leaf_by" "_law_leaf_by" sl_leaf_by, none), true),
    (some (Hd.bareFn "_law_threads" "_law_threads" sl_threads, none), true),
    (some (Hd.bareFn "_law_tree_by" "_law_tree_by" sl_tree_by, none), true),
    (some (Hd.bareFn "_law_written" "_law_written" sl_written, none), true),
    (some (Hd.bareFn "_law_open" "_law_open" sl_open, none), true),
    (some (Hd.bareFn "law" "law" slaw, none), true),
    (some (Hd.bareFn "__init__" "Condition.__init__" sCondition_init, none), true),
    (some (Hd.bareFn "holds" "Condition.holds" sCondition_holds, none), true),
    (some (Hd.bareFn "truths" "Condition.truths" sCondition_truths, none), true),
    (some (Hd.bareFn "tree" "Condition.tree" sCondition_tree, none), true),
    (some (Hd.bareFn "written" "Condition.written" sCondition_written, none), true),
    (some (Hd.bareFn "holds" "HasWord.holds" sHasWord_holds, none), true),
    (some (Hd.bareFn "holds" "HasTitleWord.holds" sHasTitleWord_holds, none), true),
    (some (Hd.bareFn "holds" "IsFrom.holds" sIsFrom_holds, none), true),
    (some (Hd.bareFn "holds" "IsOfDays.holds" sIsOfDays_holds, none), true),
    (some (Hd.bareFn "written" "IsOfDays.written" sIsOfDays_written, none), true),
    (some (Hd.bareFn "holds" "IsIn.holds" sIsIn_holds, none), true),
    (some (Hd.bareFn "holds" "IsMarked.holds" sIsMarked_holds, none), true),
    (some (Hd.bareFn "holds" "DoesAnswer.holds" sDoesAnswer_holds, none), true),
    (some (Hd.bareFn "__init__" "Wrapped.__init__" sWrapped_init, none), true),
    (some (Hd.bareFn "written" "Wrapped.written" sWrapped_written, none), true),
    (some (Hd.bareFn "holds" "Not.holds" sNot_holds, none), true),
    (some (Hd.bareFn "truths" "Not.truths" sNot_truths, none), true),
    (some (Hd.bareFn "holds" "InThread.holds" sInThread_holds, none), true),
    (some (Hd.bareFn "truths" "InThread.truths" sInThread_truths, none), true),
    (some (Hd.bareFn "__init__" "Joined.__init__" sJoined_init, none), true),
    (some (Hd.bareFn "written_with" "Joined.written_with" sJoined_written_with, none), true),
    (some (Hd.bareFn "holds" "Both.holds" sBoth_holds, none), true),
    (some (Hd.bareFn "truths" "Both.truths" sBoth_truths, none), true),
    (some (Hd.bareFn "written" "Both.written" sBoth_written, none), true),
    (some (Hd.bareFn "holds" "Either.holds" sEither_holds, none), true),
    (some (Hd.bareFn "truths" "Either.truths" sEither_truths, none), true),
    (some (Hd.bareFn "written" "Either.written" sEither_written, none), true),
    (some (Hd.bareFn "__init__" "Reader.__init__" sReader_init, none), true),
    (some (Hd.bareFn "ahead" "Reader.ahead" sReader_ahead, none), true),
    (some (Hd.bareFn "step" "Reader.step" sReader_step, none), true),
    (some (Hd.bareFn "passes" "Reader.passes" sReader_passes, none), true),
    (some (Hd.bareFn "expect" "Reader.expect" sReader_expect, none), true),
    (some (Hd.bareFn "read_word" "Reader.read_word" sReader_read_word, none), true),
    (some (Hd.bareFn "read_number" "Reader.read_number" sReader_read_number, none), true),
    (some (Hd.bareFn "read_leaf" "Reader.read_leaf" sReader_read_leaf, none), true),
    (some (Hd.bareFn "checked" "Reader.checked" sReader_checked, none), true),
    (some (Hd.bareFn "read_single" "Reader.read_single" sReader_read_single, none), true),
    (some (Hd.bareFn "read_both" "Reader.read_both" sReader_read_both, none), true),
    (some (Hd.bareFn "read_either" "Reader.read_either" sReader_read_either, none), true),
    (some (Hd.bareFn "read_whole" "Reader.read_whole" sReader_read_whole, none), true),
    (some (Hd.bareFn "read_act" "Reader.read_act" sReader_read_act, none), true)], true)
theorem all_mk {l : PySem.W.OpenLaw} {w : World} {K : PySem.W.Frag} {h : Heap} {mg : Str → Option Value} {fa : Addr} (X : K.In h) (E : obs K = good) (G : h.Ns mainGlobals mg) (hfa : mg "law" = some (.ref fa)) :
    ∃ fd : FuncData, (∀ (s : Shared) (v : Value), BindsTo s fd ⟨[v], []⟩ [("_law_script", v)]) ∧ ∀ base : Heap, K.In base → base.Ns mainGlobals mg → FnOk l.prog w K mg base CX0 220 fa fd ["_law_script"] (spLaw K) := by
  have e1 := congrArg Prod.fst E
  have e2 := congrArg Prod.snd E
  obtain ⟨a1, k1, i1, _, F1⟩ := Hd.see_fun (st := swall) (Hd.eq_at e1 0 rfl rfl)
  have b1 := F1.binds (ps := ["k"]) fun _ _ _ _ _ _ => by refine us_1 ?_; intros; rfl
  obtain ⟨a2, k2, i2, _, F2⟩ := Hd.see_fun (st := scondition_of) (Hd.eq_at e1 1 rfl rfl)
  have b2 := F2.binds (ps := ["tree"]) fun _ _ _ _ _ _ => by refine us_1 ?_; intros; rfl
  obtain ⟨a3, k3, i3, _, F3⟩ := Hd.see_fun (st := sall_among) (Hd.eq_at e1 2 rfl rfl)
  have b3 := F3.binds (ps := ["text", "signs"]) fun _ _ _ _ _ _ => by refine us_2 ?_; intros; rfl
  obtain ⟨a4, k4, i4, _, F4⟩ := Hd.see_fun (st := sis_word) (Hd.eq_at e1 3 rfl rfl)
  have b4 := F4.binds (ps := ["thing"]) fun _ _ _ _ _ _ => by refine us_1 ?_; intros; rfl
  obtain ⟨a5, k5, i5, _, F5⟩ := Hd.see_fun (st := spieces_of) (Hd.eq_at e1 4 rfl rfl)
  have b5 := F5.binds (ps := ["text"]) fun _ _ _ _ _ _ => by refine us_1 ?_; intros; rfl
  obtain ⟨a6, k6, i6, _, F6⟩ := Hd.see_fun (st := sdeep) (Hd.eq_at e1 5 rfl rfl)
  have b6 := F6.binds (ps := ["tree"]) fun _ _ _ _ _ _ => by refine us_1 ?_; intros; rfl
  obtain ⟨a7, k7, i7, _, F7⟩ := Hd.see_fun (st := sread_condition) (Hd.eq_at e1 6 rfl rfl)
  have b7 := F7.binds (ps := ["text"]) fun _ _ _ _ _ _ => by refine us_1 ?_; intros; rfl
  obtain ⟨a8, k8, i8, _, F8⟩ := Hd.see_fun (st := sl_cell_at) (Hd.eq_at e1 7 rfl rfl)
  have b8 := F8.binds (ps := ["_law_script", "_law_k"]) fun _ _ _ _ _ _ => by refine us_2 ?_; intros; rfl
  obtain ⟨a9, k9, i9, _, F9⟩ := Hd.see_fun (st := sl_mixed) (Hd.eq_at e1 8 rfl rfl)
  have b9 := F9.binds (ps := ["_law_script", "_law_start", "_law_many"]) fun _ _ _ _ _ _ => by refine us_3 ?_; intros; rfl
  obtain ⟨a10, k10, i10, _, F10⟩ := Hd.see_fun (st := sl_word_by) (Hd.eq_at e1 9 rfl rfl)
  have b10 := F10.binds (ps := ["_law_shape", "_law_k"]) fun _ _ _ _ _ _ => by refine us_2 ?_; intros; rfl
  obtain ⟨a11, k11, i11, _, F11⟩ := Hd.see_fun (st := sl_leaf_by) (Hd.eq_at e1 10 rfl rfl)
  have b11 := F11.binds (ps := ["_law_shape", "_law_cell"]) fun _ _ _ _ _ _ => by refine us_2 ?_; intros; rfl
  obtain ⟨a12, k12, i12, _, F12⟩ := Hd.see_fun (st := sl_threads) (Hd.eq_at e1 11 rfl rfl)
  have b12 := F12.binds (ps := ["_law_tree"]) fun _ _ _ _ _ _ => by refine us_1 ?_; intros; rfl
  obtain ⟨a13, k13, i13, _, F13⟩ := Hd.see_fun (st := sl_tree_by) (Hd.eq_at e1 12 rfl rfl)
  have b13 := F13.binds (ps := ["_law_shape", "_law_cells"]) fun _ _ _ _ _ _ => by refine us_2 ?_; intros; rfl
  obtain ⟨a14, k14, i14, _, F14⟩ := Hd.see_fun (st := sl_written) (Hd.eq_at e1 13 rfl rfl)
  have b14 := F14.binds (ps := ["_law_tree"]) fun _ _ _ _ _ _ => by refine us_1 ?_; intros; rfl
  obtain ⟨a15, k15, i15, _, F15⟩ := Hd.see_fun (st := sl_open) (Hd.eq_at e1 14 rfl rfl)
  have b15 := F15.binds (ps := ["_law_tree"]) fun _ _ _ _ _ _ => by refine us_1 ?_; intros; rfl
  obtain ⟨a16, k16, i16, _, F16⟩ := Hd.see_fun (st := slaw) (Hd.eq_at e1 15 rfl rfl)
  have b16 := F16.binds (ps := ["_law_script"]) fun _ _ _ _ _ _ => by refine us_1 ?_; intros; rfl
  obtain ⟨a17, k17, i17, _, F17⟩ := Hd.see_fun (st := sCondition_init) (Hd.eq_at e1 16 rfl rfl)
  have b17 := F17.binds (ps := ["self", "tree"]) fun _ _ _ _ _ _ => by refine us_2 ?_; intros; rfl
  obtain ⟨a18, k18, i18, _, F18⟩ := Hd.see_fun (st := sCondition_holds) (Hd.eq_at e1 17 rfl rfl)
  have b18 := F18.binds (ps := ["self", "card", "others"]) fun _ _ _ _ _ _ => by refine us_3 ?_; intros; rfl
  obtain ⟨a19, k19, i19, _, F19⟩ := Hd.see_fun (st := sCondition_truths) (Hd.eq_at e1 18 rfl rfl)
  have b19 := F19.binds (ps := ["self", "cards"]) fun _ _ _ _ _ _ => by refine us_2 ?_; intros; rfl
  obtain ⟨a20, k20, i20, _, F20⟩ := Hd.see_fun (st := sCondition_tree) (Hd.eq_at e1 19 rfl rfl)
  have b20 := F20.binds (ps := ["self"]) fun _ _ _ _ _ _ => by refine us_1 ?_; intros; rfl
  obtain ⟨a21, k21, i21, _, F21⟩ := Hd.see_fun (st := sCondition_written) (Hd.eq_at e1 20 rfl rfl)
  have b21 := F21.binds (ps := ["self"]) fun _ _ _ _ _ _ => by refine us_1 ?_; intros; rfl
  obtain ⟨a22, k22, i22, _, F22⟩ := Hd.see_fun (st := sHasWord_holds) (Hd.eq_at e1 21 rfl rfl)
  have b22 := F22.binds (ps := ["self", "card", "others"]) fun _ _ _ _ _ _ => by refine us_3 ?_; intros; rfl
  obtain ⟨a23, k23, i23, _, F23⟩ := Hd.see_fun (st := sHasTitleWord_holds) (Hd.eq_at e1 22 rfl rfl)
  have b23 := F23.binds (ps := ["self", "card", "others"]) fun _ _ _ _ _ _ => by refine us_3 ?_; intros; rfl
  obtain ⟨a24, k24, i24, _, F24⟩ := Hd.see_fun (st := sIsFrom_holds) (Hd.eq_at e1 23 rfl rfl)
  have b24 := F24.binds (ps := ["self", "card", "others"]) fun _ _ _ _ _ _ => by refine us_3 ?_; intros; rfl
  obtain ⟨a25, k25, i25, _, F25⟩ := Hd.see_fun (st := sIsOfDays_holds) (Hd.eq_at e1 24 rfl rfl)
  have b25 := F25.binds (ps := ["self", "card", "others"]) fun _ _ _ _ _ _ => by refine us_3 ?_; intros; rfl
  obtain ⟨a26, k26, i26, _, F26⟩ := Hd.see_fun (st := sIsOfDays_written) (Hd.eq_at e1 25 rfl rfl)
  have b26 := F26.binds (ps := ["self"]) fun _ _ _ _ _ _ => by refine us_1 ?_; intros; rfl
  obtain ⟨a27, k27, i27, _, F27⟩ := Hd.see_fun (st := sIsIn_holds) (Hd.eq_at e1 26 rfl rfl)
  have b27 := F27.binds (ps := ["self", "card", "others"]) fun _ _ _ _ _ _ => by refine us_3 ?_; intros; rfl
  obtain ⟨a28, k28, i28, _, F28⟩ := Hd.see_fun (st := sIsMarked_holds) (Hd.eq_at e1 27 rfl rfl)
  have b28 := F28.binds (ps := ["self", "card", "others"]) fun _ _ _ _ _ _ => by refine us_3 ?_; intros; rfl
  obtain ⟨a29, k29, i29, _, F29⟩ := Hd.see_fun (st := sDoesAnswer_holds) (Hd.eq_at e1 28 rfl rfl)
  have b29 := F29.binds (ps := ["self", "card", "others"]) fun _ _ _ _ _ _ => by refine us_3 ?_; intros; rfl
  obtain ⟨a30, k30, i30, _, F30⟩ := Hd.see_fun (st := sWrapped_init) (Hd.eq_at e1 29 rfl rfl)
  have b30 := F30.binds (ps := ["self", "tree"]) fun _ _ _ _ _ _ => by refine us_2 ?_; intros; rfl
  obtain ⟨a31, k31, i31, _, F31⟩ := Hd.see_fun (st := sWrapped_written) (Hd.eq_at e1 30 rfl rfl)
  have b31 := F31.binds (ps := ["self"]) fun _ _ _ _ _ _ => by refine us_1 ?_; intros; rfl
  obtain ⟨a32, k32, i32, _, F32⟩ := Hd.see_fun (st := sNot_holds) (Hd.eq_at e1 31 rfl rfl)
  have b32 := F32.binds (ps := ["self", "card", "others"]) fun _ _ _ _ _ _ => by refine us_3 ?_; intros; rfl
  obtain ⟨a33, k33, i33, _, F33⟩ := Hd.see_fun (st := sNot_truths) (Hd.eq_at e1 32 rfl rfl)
  have b33 := F33.binds (ps := ["self", "cards"]) fun _ _ _ _ _ _ => by refine us_2 ?_; intros; rfl
  obtain ⟨a34, k34, i34, _, F34⟩ := Hd.see_fun (st := sInThread_holds) (Hd.eq_at e1 33 rfl rfl)
  have b34 := F34.binds (ps := ["self", "card", "others"]) fun _ _ _ _ _ _ => by refine us_3 ?_; intros; rfl
  obtain ⟨a35, k35, i35, _, F35⟩ := Hd.see_fun (st := sInThread_truths) (Hd.eq_at e1 34 rfl rfl)
  have b35 := F35.binds (ps := ["self", "cards"]) fun _ _ _ _ _ _ => by refine us_2 ?_; intros; rfl
  obtain ⟨a36, k36, i36, _, F36⟩ := Hd.see_fun (st := sJoined_init) (Hd.eq_at e1 35 rfl rfl)
  have b36 := F36.binds (ps := ["self", "tree"]) fun _ _ _ _ _ _ => by refine us_2 ?_; intros; rfl
  obtain ⟨a37, k37, i37, _, F37⟩ := Hd.see_fun (st := sJoined_written_with) (Hd.eq_at e1 36 rfl rfl)
  have b37 := F37.binds (ps := ["self", "between"]) fun _ _ _ _ _ _ => by refine us_2 ?_; intros; rfl
  obtain ⟨a38, k38, i38, _, F38⟩ := Hd.see_fun (st := sBoth_holds) (Hd.eq_at e1 37 rfl rfl)
  have b38 := F38.binds (ps := ["self", "card", "others"]) fun _ _ _ _ _ _ => by refine us_3 ?_; intros; rfl
  obtain ⟨a39, k39, i39, _, F39⟩ := Hd.see_fun (st := sBoth_truths) (Hd.eq_at e1 38 rfl rfl)
  have b39 := F39.binds (ps := ["self", "cards"]) fun _ _ _ _ _ _ => by refine us_2 ?_; intros; rfl
  obtain ⟨a40, k40, i40, _, F40⟩ := Hd.see_fun (st := sBoth_written) (Hd.eq_at e1 39 rfl rfl)
  have b40 := F40.binds (ps := ["self"]) fun _ _ _ _ _ _ => by refine us_1 ?_; intros; rfl
  obtain ⟨a41, k41, i41, _, F41⟩ := Hd.see_fun (st := sEither_holds) (Hd.eq_at e1 40 rfl rfl)
  have b41 := F41.binds (ps := ["self", "card", "others"]) fun _ _ _ _ _ _ => by refine us_3 ?_; intros; rfl
  obtain ⟨a42, k42, i42, _, F42⟩ := Hd.see_fun (st := sEither_truths) (Hd.eq_at e1 41 rfl rfl)
  have b42 := F42.binds (ps := ["self", "cards"]) fun _ _ _ _ _ _ => by refine us_2 ?_; intros; rfl
  obtain ⟨a43, k43, i43, _, F43⟩ := Hd.see_fun (st := sEither_written) (Hd.eq_at e1 42 rfl rfl)
  have b43 := F43.binds (ps := ["self"]) fun _ _ _ _ _ _ => by refine us_1 ?_; intros; rfl
  obtain ⟨a44, k44, i44, _, F44⟩ := Hd.see_fun (st := sReader_init) (Hd.eq_at e1 43 rfl rfl)
  have b44 := F44.binds (ps := ["self", "text", "row"]) fun _ _ _ _ _ _ => by refine us_3 ?_; intros; rfl
  obtain ⟨a45, k45, i45, _, F45⟩ := Hd.see_fun (st := sReader_ahead) (Hd.eq_at e1 44 rfl rfl)
  have b45 := F45.binds (ps := ["self"]) fun _ _ _ _ _ _ => by refine us_1 ?_; intros; rfl
  obtain ⟨a46, k46, i46, _, F46⟩ := Hd.see_fun (st := sReader_step) (Hd.eq_at e1 45 rfl rfl)
  have b46 := F46.binds (ps := ["self"]) fun _ _ _ _ _ _ => by refine us_1 ?_; intros; rfl
  obtain ⟨a47, k47, i47, _, F47⟩ := Hd.see_fun (st := sReader_passes) (Hd.eq_at e1 46 rfl rfl)
  have b47 := F47.binds (ps := ["self", "wanted"]) fun _ _ _ _ _ _ => by refine us_2 ?_; intros; rfl
  obtain ⟨a48, k48, i48, _, F48⟩ := Hd.see_fun (st := sReader_expect) (Hd.eq_at e1 47 rfl rfl)
  have b48 := F48.binds (ps := ["self", "wanted"]) fun _ _ _ _ _ _ => by refine us_2 ?_; intros; rfl
  obtain ⟨a49, k49, i49, _, F49⟩ := Hd.see_fun (st := sReader_read_word) (Hd.eq_at e1 48 rfl rfl)
  have b49 := F49.binds (ps := ["self"]) fun _ _ _ _ _ _ => by refine us_1 ?_; intros; rfl
  obtain ⟨a50, k50, i50, _, F50⟩ := Hd.see_fun (st := sReader_read_number) (Hd.eq_at e1 49 rfl rfl)
  have b50 := F50.binds (ps := ["self", "least", "most"]) fun _ _ _ _ _ _ => by refine us_3 ?_; intros; rfl
  obtain ⟨a51, k51, i51, _, F51⟩ := Hd.see_fun (st := sReader_read_leaf) (Hd.eq_at e1 50 rfl rfl)
  have b51 := F51.binds (ps := ["self", "kind"]) fun _ _ _ _ _ _ => by refine us_2 ?_; intros; rfl
  obtain ⟨a52, k52, i52, _, F52⟩ := Hd.see_fun (st := sReader_checked) (Hd.eq_at e1 51 rfl rfl)
  have b52 := F52.binds (ps := ["self", "tree"]) fun _ _ _ _ _ _ => by refine us_2 ?_; intros; rfl
  obtain ⟨a53, k53, i53, _, F53⟩ := Hd.see_fun (st := sReader_read_single) (Hd.eq_at e1 52 rfl rfl)
  have b53 := F53.binds (ps := ["self", "within", "threads"]) fun _ _ _ _ _ _ => by refine us_3 ?_; intros; rfl
  obtain ⟨a54, k54, i54, _, F54⟩ := Hd.see_fun (st := sReader_read_both) (Hd.eq_at e1 53 rfl rfl)
  have b54 := F54.binds (ps := ["self", "within", "threads"]) fun _ _ _ _ _ _ => by refine us_3 ?_; intros; rfl
  obtain ⟨a55, k55, i55, _, F55⟩ := Hd.see_fun (st := sReader_read_either) (Hd.eq_at e1 54 rfl rfl)
  have b55 := F55.binds (ps := ["self", "within", "threads"]) fun _ _ _ _ _ _ => by refine us_3 ?_; intros; rfl
  obtain ⟨a56, k56, i56, _, F56⟩ := Hd.see_fun (st := sReader_read_whole) (Hd.eq_at e1 55 rfl rfl)
  have b56 := F56.binds (ps := ["self"]) fun _ _ _ _ _ _ => by refine us_1 ?_; intros; rfl
  obtain ⟨a57, k57, i57, _, F57⟩ := Hd.see_fun (st := sReader_read_act) (Hd.eq_at e1 56 rfl rfl)
  have b57 := F57.binds (ps := ["self"]) fun _ _ _ _ _ _ => by refine us_1 ?_; intros; rfl
  have e : Value.ref fa = .ref (Hd.adOf (Hd.gl K "law")) := Option.some.inj (hfa.symm.trans (PySem.W.mg_of X G a16))
  injection e with e
  subst e
  let A : Adr := { f_wall := Hd.adOf (Hd.gl K "_wall"), f_condition_of := Hd.adOf (Hd.gl K "condition_of"), f_all_among := Hd.adOf (Hd.gl K "all_among"), f_is_word := Hd.adOf (Hd.gl K "is_word"), f_pieces_of := Hd.adOf (Hd.gl K "pieces_of"), f_deep := Hd.adOf (Hd.gl K "deep"), f_read_condition := Hd.adOf (Hd.gl K "read_condition"), f_l_cell_at := Hd.adOf (Hd.gl K "_law_cell_at"), f_l_mixed := Hd.adOf (Hd.gl K "_law_mixed"), f_l_word_by := Hd.adOf (Hd.gl K "_law_word_by"), f_l_leaf_by := Hd.adOf (Hd.gl K "_law_leaf_by"), f_l_threads := Hd.adOf (Hd.gl K "_law_threads"), f_l_tree_by := Hd.adOf (Hd.gl K "_law_tree_by"), f_l_written := Hd.adOf (Hd.gl K "_law_written"), f_l_open := Hd.adOf (Hd.gl K "_law_open"), f_law := Hd.adOf (Hd.gl K "law"), f_Condition_init := Hd.adOf (PySem.W.findIn K (.ref (Hd.cl K "Condition")) "__init__"), f_Condition_holds := Hd.adOf (PySem.W.findIn K (.ref (Hd.cl K "Condition")) "holds"), f_Condition_truths := Hd.adOf (PySem.W.findIn K (.ref (Hd.cl K "Condition")) "truths"), f_Condition_tree := Hd.adOf (PySem.W.findIn K (.ref (Hd.cl K "Condition")) "tree"), f_Condition_written := Hd.adOf (PySem.W.findIn K (.ref (Hd.cl K "Condition")) "written"), f_HasWord_holds := Hd.adOf (PySem.W.findIn K (.ref (Hd.cl K "HasWord")) "holds"), f_HasTitleWord_holds := Hd.adOf (PySem.W.findIn K (.ref (Hd.cl K "HasTitleWord")) "holds"), f_IsFrom_holds := Hd.adOf (PySem.W.findIn K (.ref (Hd.cl K "IsFrom")) "holds"), f_IsOfDays_holds := Hd.adOf (PySem.W.findIn K (.ref (Hd.cl K "IsOfDays")) "holds"), f_IsOfDays_written := Hd.adOf (PySem.W.findIn K (.ref (Hd.cl K "IsOfDays")) "written"), f_IsIn_holds := Hd.adOf (PySem.W.findIn K (.ref (Hd.cl K "IsIn")) "holds"), f_IsMarked_holds := Hd.adOf (PySem.W.findIn K (.ref (Hd.cl K "IsMarked")) "holds"), f_DoesAnswer_holds := Hd.adOf (PySem.W.findIn K (.ref (Hd.cl K "DoesAnswer")) "holds"), f_Wrapped_init := Hd.adOf (PySem.W.findIn K (.ref (Hd.cl K "Wrapped")) "__init__"), f_Wrapped_written := Hd.adOf (PySem.W.findIn K (.ref (Hd.cl K "Wrapped")) "written"), f_Not_holds := Hd.adOf (PySem.W.findIn K (.ref (Hd.cl K "Not")) "holds"), f_Not_truths := Hd.adOf (PySem.W.findIn K (.ref (Hd.cl K "Not")) "truths"), f_InThread_holds := Hd.adOf (PySem.W.findIn K (.ref (Hd.cl K "InThread")) "holds"), f_InThread_truths := Hd.adOf (PySem.W.findIn K (.ref (Hd.cl K "InThread")) "truths"), f_Joined_init := Hd.adOf (PySem.W.findIn K (.ref (Hd.cl K "Joined")) "__init__"), f_Joined_written_with := Hd.adOf (PySem.W.findIn K (.ref (Hd.cl K "Joined")) "written_with"), f_Both_holds := Hd.adOf (PySem.W.findIn K (.ref (Hd.cl K "Both")) "holds"), f_Both_truths := Hd.adOf (PySem.W.findIn K (.ref (Hd.cl K "Both")) "truths"), f_Both_written := Hd.adOf (PySem.W.findIn K (.ref (Hd.cl K "Both")) "written"), f_Either_holds := Hd.adOf (PySem.W.findIn K (.ref (Hd.cl K "Either")) "holds"), f_Either_truths := Hd.adOf (PySem.W.findIn K (.ref (Hd.cl K "Either")) "truths"), f_Either_written := Hd.adOf (PySem.W.findIn K (.ref (Hd.cl K "Either")) "written"), f_Reader_init := Hd.adOf (PySem.W.findIn K (.ref (Hd.cl K "Reader")) "__init__"), f_Reader_ahead := Hd.adOf (PySem.W.findIn K (.ref (Hd.cl K "Reader")) "ahead"), f_Reader_step := Hd.adOf (PySem.W.findIn K (.ref (Hd.cl K "Reader")) "step"), f_Reader_passes := Hd.adOf (PySem.W.findIn K (.ref (Hd.cl K "Reader")) "passes"), f_Reader_expect := Hd.adOf (PySem.W.findIn K (.ref (Hd.cl K "Reader")) "expect"), f_Reader_read_word := Hd.adOf (PySem.W.findIn K (.ref (Hd.cl K "Reader")) "read_word"), f_Reader_read_number := Hd.adOf (PySem.W.findIn K (.ref (Hd.cl K "Reader")) "read_number"), f_Reader_read_leaf := Hd.adOf (PySem.W.findIn K (.ref (Hd.cl K "Reader")) "read_leaf"), f_Reader_checked := Hd.adOf (PySem.W.findIn K (.ref (Hd.cl K "Reader")) "checked"), f_Reader_read_single := Hd.adOf (PySem.W.findIn K (.ref (Hd.cl K "Reader")) "read_single"), f_Reader_read_both := Hd.adOf (PySem.W.findIn K (.ref (Hd.cl K "Reader")) "read_both"), f_Reader_read_either := Hd.adOf (PySem.W.findIn K (.ref (Hd.cl K "Reader")) "read_either"), f_Reader_read_whole := Hd.adOf (PySem.W.findIn K (.ref (Hd.cl K "Reader")) "read_whole"), f_Reader_read_act := Hd.adOf (PySem.W.findIn K (.ref (Hd.cl K "Reader")) "read_act"), C_Condition := Hd.cl K "Condition", C_Always := Hd.cl K "Always", C_HasWord := Hd.cl K "HasWord", C_HasTitleWord := Hd.cl K "HasTitleWord", C_IsFrom := Hd.cl K "IsFrom", C_IsOfDays := Hd.cl K "IsOfDays", C_IsIn := Hd.cl K "IsIn", C_IsMarked := Hd.cl K "IsMarked", C_DoesAnswer := Hd.cl K "DoesAnswer", C_Wrapped := Hd.cl K "Wrapped", C_Not := Hd.cl K "Not", C_InThread := Hd.cl K "InThread", C_Joined := Hd.cl K "Joined", C_Both := Hd.cl K "Both", C_Either := Hd.cl K "Either", C_Reader := Hd.cl K "Reader" }
  have T : Txt K mg A := ⟨PySem.W.mg_of X G a1,
    PySem.W.mg_of X G a2,
    PySem.W.mg_of X G a3,
    PySem.W.mg_of X G a4,
    PySem.W.mg_of X G a5,
    PySem.W.mg_of X G a6,
    PySem.W.mg_of X G a7,
    PySem.W.mg_of X G a8,
    PySem.W.mg_of X G a9,
    PySem.W.mg_of X G a10,
    PySem.W.mg_of X G a11,
    PySem.W.mg_of X G a12,
    PySem.W.mg_of X G a13,
    PySem.W.mg_of X G a14,
    PySem.W.mg_of X G a15,
    PySem.W.mg_of X G a16,
    Hd.const_at X G (of_decide_eq_true (Hd.all_at e2 16 rfl)),
    Hd.const_at X G (of_decide_eq_true (Hd.all_at e2 17 rfl)),
    Hd.const_at X G (of_decide_eq_true (Hd.all_at e2 18 rfl)),
    Hd.const_at X G (of_decide_eq_true (Hd.all_at e2 19 rfl)),
    Hd.const_at X G (of_decide_eq_true (Hd.all_at e2 20 rfl)),
    Hd.const_at X G (of_decide_eq_true (Hd.all_at e2 21 rfl)),
    Hd.const_at X G (of_decide_eq_true (Hd.all_at e2 22 rfl)),
    Hd.const_at X G (of_decide_eq_true (Hd.all_at e2 23 rfl)),
    Hd.const_at X G (of_decide_eq_true (Hd.all_at e2 24 rfl)),
    Hd.tup_at X G (Hd.all_at e2 25 rfl),
    Hd.tup_at X G (Hd.all_at e2 26 rfl),
    Hd.tup_at X G (Hd.all_at e2 27 rfl),
    PySem.W.mg_none_of X G (of_decide_eq_true (Hd.all_at e2 205 rfl)),
    PySem.W.mg_none_of X G (of_decide_eq_true (Hd.all_at e2 206 rfl)),
    PySem.W.mg_none_of X G (of_decide_eq_true (Hd.all_at e2 207 rfl)),
    PySem.W.mg_none_of X G (of_decide_eq_true (Hd.all_at e2 208 rfl)),
    PySem.W.mg_none_of X G (of_decide_eq_true (Hd.all_at e2 209 rfl)),
    PySem.W.mg_none_of X G (of_decide_eq_true (Hd.all_at e2 210 rfl)),
    PySem.W.mg_none_of X G (of_decide_eq_true (Hd.all_at e2 211 rfl)),
    PySem.W.mg_none_of X G (of_decide_eq_true (Hd.all_at e2 212 rfl)),
    PySem.W.mg_none_of X G (of_decide_eq_true (Hd.all_at e2 213 rfl)),
    PySem.W.mg_of X G (of_decide_eq_true (Hd.all_at e2 0 rfl)),
    ⟨(Hd.all_at e2 28 rfl), (Hd.all_at e2 29 rfl), (Hd.all_at e2 30 rfl), (of_decide_eq_true (Hd.all_at e2 31 rfl))⟩,
    ⟨(Hd.all_at e2 33 rfl), a17, i17, (Hd.all_at e2 32 rfl)⟩,
    ⟨a18, i18, k18⟩,
    ⟨a19, i19, k19⟩,
    ⟨a20, i20, k20⟩,
    ⟨a21, i21, k21⟩,
    (Hd.no_at (Hd.all_at e2 34 rfl)),
    PySem.W.mg_of X G (of_decide_eq_true (Hd.all_at e2 1 rfl)),
    ⟨(Hd.all_at e2 35 rfl), (Hd.all_at e2 36 rfl), (Hd.all_at e2 37 rfl), (of_decide_eq_true (Hd.all_at e2 38 rfl))⟩,
    ⟨(Hd.all_at e2 40 rfl), ((of_decide_eq_true (Hd.all_at e2 41 rfl)).trans a17), i17, (Hd.all_at e2 39 rfl)⟩,
    ⟨((of_decide_eq_true (Hd.all_at e2 42 rfl)).trans a18), i18, k18⟩,
    ⟨((of_decide_eq_true (Hd.all_at e2 43 rfl)).trans a19), i19, k19⟩,
    ⟨((of_decide_eq_true (Hd.all_at e2 44 rfl)).trans a20), i20, k20⟩,
    ⟨((of_decide_eq_true (Hd.all_at e2 45 rfl)).trans a21), i21, k21⟩,
    (Hd.no_at (Hd.all_at e2 46 rfl)),
    PySem.W.mg_of X G (of_decide_eq_true (Hd.all_at e2 2 rfl)),
    ⟨(Hd.all_at e2 47 rfl), (Hd.all_at e2 48 rfl), (Hd.all_at e2 49 rfl), (of_decide_eq_true (Hd.all_at e2 50 rfl))⟩,
    ⟨(Hd.all_at e2 52 rfl), ((of_decide_eq_true (Hd.all_at e2 53 rfl)).trans a17), i17, (Hd.all_at e2 51 rfl)⟩,
    ⟨a22, i22, k22⟩,
    ⟨((of_decide_eq_true (Hd.all_at e2 54 rfl)).trans a19), i19, k19⟩,
    ⟨((of_decide_eq_true (Hd.all_at e2 55 rfl)).trans a20), i20, k20⟩,
    ⟨((of_decide_eq_true (Hd.all_at e2 56 rfl)).trans a21), i21, k21⟩,
    (Hd.no_at (Hd.all_at e2 57 rfl)),
    PySem.W.mg_of X G (of_decide_eq_true (Hd.all_at e2 3 rfl)),
    ⟨(Hd.all_at e2 58 rfl), (Hd.all_at e2 59 rfl), (Hd.all_at e2 60 rfl), (of_decide_eq_true (Hd.all_at e2 61 rfl))⟩,
    ⟨(Hd.all_at e2 63 rfl), ((of_decide_eq_true (Hd.all_at e2 64 rfl)).trans a17), i17, (Hd.all_at e2 62 rfl)⟩,
    ⟨a23, i23, k23⟩,
    ⟨((of_decide_eq_true (Hd.all_at e2 65 rfl)).trans a19), i19, k19⟩,
    ⟨((of_decide_eq_true (Hd.all_at e2 66 rfl)).trans a20), i20, k20⟩,
    ⟨((of_decide_eq_true (Hd.all_at e2 67 rfl)).trans a21), i21, k21⟩,
    (Hd.no_at (Hd.all_at e2 68 rfl)),
    PySem.W.mg_of X G (of_decide_eq_true (Hd.all_at e2 4 rfl)),
    ⟨(Hd.all_at e2 69 rfl), (Hd.all_at e2 70 rfl), (Hd.all_at e2 71 rfl), (of_decide_eq_true (Hd.all_at e2 72 rfl))⟩,
    ⟨(Hd.all_at e2 74 rfl), ((of_decide_eq_true (Hd.all_at e2 75 rfl)).trans a17), i17, (Hd.all_at e2 73 rfl)⟩,
    ⟨a24, i24, k24⟩,
    ⟨((of_decide_eq_true (Hd.all_at e2 76 rfl)).trans a19), i19, k19⟩,
    ⟨((of_decide_eq_true (Hd.all_at e2 77 rfl)).trans a20), i20, k20⟩,
    ⟨((of_decide_eq_true (Hd.all_at e2 78 rfl)).trans a21), i21, k21⟩,
    (Hd.no_at (Hd.all_at e2 79 rfl)),
    PySem.W.mg_of X G (of_decide_eq_true (Hd.all_at e2 5 rfl)),
    ⟨(Hd.all_at e2 80 rfl), (Hd.all_at e2 81 rfl), (Hd.all_at e2 82 rfl), (of_decide_eq_true (Hd.all_at e2 83 rfl))⟩,
    ⟨(Hd.all_at e2 85 rfl), ((of_decide_eq_true (Hd.all_at e2 86 rfl)).trans a17), i17, (Hd.all_at e2 84 rfl)⟩,
    ⟨a25, i25, k25⟩,
    ⟨((of_decide_eq_true (Hd.all_at e2 87 rfl)).trans a19), i19, k19⟩,
    ⟨((of_decide_eq_true (Hd.all_at e2 88 rfl)).trans a20), i20, k20⟩,
    ⟨a26, i26, k26⟩,
    (Hd.no_at (Hd.all_at e2 89 rfl)),
    PySem.W.mg_of X G (of_decide_eq_true (Hd.all_at e2 6 rfl)),
    ⟨(Hd.all_at e2 90 rfl), (Hd.all_at e2 91 rfl), (Hd.all_at e2 92 rfl), (of_decide_eq_true (Hd.all_at e2 93 rfl))⟩,
    ⟨(Hd.all_at e2 95 rfl), ((of_decide_eq_true (Hd.all_at e2 96 rfl)).trans a17), i17, (Hd.all_at e2 94 rfl)⟩,
    ⟨a27, i27, k27⟩,
    ⟨((of_decide_eq_true (Hd.all_at e2 97 rfl)).trans a19), i19, k19⟩,
    ⟨((of_decide_eq_true (Hd.all_at e2 98 rfl)).trans a20), i20, k20⟩,
    ⟨((of_decide_eq_true (Hd.all_at e2 99 rfl)).trans a21), i21, k21⟩,
    (Hd.no_at (Hd.all_at e2 100 rfl)),
    PySem.W.mg_of X G (of_decide_eq_true (Hd.all_at e2 7 rfl)),
    ⟨(Hd.all_at e2 101 rfl), (Hd.all_at e2 102 rfl), (Hd.all_at e2 103 rfl), (of_decide_eq_true (Hd.all_at e2 104 rfl))⟩,
    ⟨(Hd.all_at e2 106 rfl), ((of_decide_eq_true (Hd.all_at e2 107 rfl)).trans a17), i17, (Hd.all_at e2 105 rfl)⟩,
    ⟨a28, i28, k28⟩,
    ⟨((of_decide_eq_true (Hd.all_at e2 108 rfl)).trans a19), i19, k19⟩,
    ⟨((of_decide_eq_true (Hd.all_at e2 109 rfl)).trans a20), i20, k20⟩,
    ⟨((of_decide_eq_true (Hd.all_at e2 110 rfl)).trans a21), i21, k21⟩,
    (Hd.no_at (Hd.all_at e2 111 rfl)),
    PySem.W.mg_of X G (of_decide_eq_true (Hd.all_at e2 8 rfl)),
    ⟨(Hd.all_at e2 112 rfl), (Hd.all_at e2 113 rfl), (Hd.all_at e2 114 rfl), (of_decide_eq_true (Hd.all_at e2 115 rfl))⟩,
    ⟨(Hd.all_at e2 117 rfl), ((of_decide_eq_true (Hd.all_at e2 118 rfl)).trans a17), i17, (Hd.all_at e2 116 rfl)⟩,
    ⟨a29, i29, k29⟩,
    ⟨((of_decide_eq_true (Hd.all_at e2 119 rfl)).trans a19), i19, k19⟩,
    ⟨((of_decide_eq_true (Hd.all_at e2 120 rfl)).trans a20), i20, k20⟩,
    ⟨((of_decide_eq_true (Hd.all_at e2 121 rfl)).trans a21), i21, k21⟩,
    (Hd.no_at (Hd.all_at e2 122 rfl)),
    PySem.W.mg_of X G (of_decide_eq_true (Hd.all_at e2 9 rfl)),
    ⟨(Hd.all_at e2 123 rfl), (Hd.all_at e2 124 rfl), (Hd.all_at e2 125 rfl), (of_decide_eq_true (Hd.all_at e2 126 rfl))⟩,
    ⟨(Hd.all_at e2 128 rfl), a30, i30, (Hd.all_at e2 127 rfl)⟩,
    ⟨((of_decide_eq_true (Hd.all_at e2 129 rfl)).trans a18), i18, k18⟩,
    ⟨((of_decide_eq_true (Hd.all_at e2 130 rfl)).trans a19), i19, k19⟩,
    ⟨((of_decide_eq_true (Hd.all_at e2 131 rfl)).trans a20), i20, k20⟩,
    ⟨a31, i31, k31⟩,
    (Hd.no_at (Hd.all_at e2 132 rfl)),
    (Hd.no_at (Hd.all_at e2 133 rfl)),
    PySem.W.mg_of X G (of_decide_eq_true (Hd.all_at e2 10 rfl)),
    ⟨(Hd.all_at e2 134 rfl), (Hd.all_at e2 135 rfl), (Hd.all_at e2 136 rfl), (of_decide_eq_true (Hd.all_at e2 137 rfl))⟩,
    ⟨(Hd.all_at e2 139 rfl), ((of_decide_eq_true (Hd.all_at e2 140 rfl)).trans a30), i30, (Hd.all_at e2 138 rfl)⟩,
    ⟨a32, i32, k32⟩,
    ⟨a33, i33, k33⟩,
    ⟨((of_decide_eq_true (Hd.all_at e2 141 rfl)).trans a20), i20, k20⟩,
    ⟨((of_decide_eq_true (Hd.all_at e2 142 rfl)).trans a31), i31, k31⟩,
    (Hd.no_at (Hd.all_at e2 143 rfl)),
    (Hd.no_at (Hd.all_at e2 144 rfl)),
    PySem.W.mg_of X G (of_decide_eq_true (Hd.all_at e2 11 rfl)),
    ⟨(Hd.all_at e2 145 rfl), (Hd.all_at e2 146 rfl), (Hd.all_at e2 147 rfl), (of_decide_eq_true (Hd.all_at e2 148 rfl))⟩,
    ⟨(Hd.all_at e2 150 rfl), ((of_decide_eq_true (Hd.all_at e2 151 rfl)).trans a30), i30, (Hd.all_at e2 149 rfl)⟩,
    ⟨a34, i34, k34⟩,
    ⟨a35, i35, k35⟩,
    ⟨((of_decide_eq_true (Hd.all_at e2 152 rfl)).trans a20), i20, k20⟩,
    ⟨((of_decide_eq_true (Hd.all_at e2 153 rfl)).trans a31), i31, k31⟩,
    (Hd.no_at (Hd.all_at e2 154 rfl)),
    (Hd.no_at (Hd.all_at e2 155 rfl)),
    PySem.W.mg_of X G (of_decide_eq_true (Hd.all_at e2 12 rfl)),
    ⟨(Hd.all_at e2 156 rfl), (Hd.all_at e2 157 rfl), (Hd.all_at e2 158 rfl), (of_decide_eq_true (Hd.all_at e2 159 rfl))⟩,
    ⟨(Hd.all_at e2 161 rfl), a36, i36, (Hd.all_at e2 160 rfl)⟩,
    ⟨((of_decide_eq_true (Hd.all_at e2 162 rfl)).trans a18), i18, k18⟩,
    ⟨((of_decide_eq_true (Hd.all_at e2 163 rfl)).trans a19), i19, k19⟩,
    ⟨((of_decide_eq_true (Hd.all_at e2 164 rfl)).trans a20), i20, k20⟩,
    ⟨((of_decide_eq_true (Hd.all_at e2 165 rfl)).trans a21), i21, k21⟩,
    ⟨a37, i37, k37⟩,
    (Hd.no_at (Hd.all_at e2 166 rfl)),
    (Hd.no_at (Hd.all_at e2 167 rfl)),
    (Hd.no_at (Hd.all_at e2 168 rfl)),
    PySem.W.mg_of X G (of_decide_eq_true (Hd.all_at e2 13 rfl)),
    ⟨(Hd.all_at e2 169 rfl), (Hd.all_at e2 170 rfl), (Hd.all_at e2 171 rfl), (of_decide_eq_true (Hd.all_at e2 172 rfl))⟩,
    ⟨(Hd.all_at e2 174 rfl), ((of_decide_eq_true (Hd.all_at e2 175 rfl)).trans a36), i36, (Hd.all_at e2 173 rfl)⟩,
    ⟨a38, i38, k38⟩,
    ⟨a39, i39, k39⟩,
    ⟨((of_decide_eq_true (Hd.all_at e2 176 rfl)).trans a20), i20, k20⟩,
    ⟨a40, i40, k40⟩,
    ⟨((of_decide_eq_true (Hd.all_at e2 177 rfl)).trans a37), i37, k37⟩,
    (Hd.no_at (Hd.all_at e2 178 rfl)),
    (Hd.no_at (Hd.all_at e2 179 rfl)),
    (Hd.no_at (Hd.all_at e2 180 rfl)),
    PySem.W.mg_of X G (of_decide_eq_true (Hd.all_at e2 14 rfl)),
    ⟨(Hd.all_at e2 181 rfl), (Hd.all_at e2 182 rfl), (Hd.all_at e2 183 rfl), (of_decide_eq_true (Hd.all_at e2 184 rfl))⟩,
    ⟨(Hd.all_at e2 186 rfl), ((of_decide_eq_true (Hd.all_at e2 187 rfl)).trans a36), i36, (Hd.all_at e2 185 rfl)⟩,
    ⟨a41, i41, k41⟩,
    ⟨a42, i42, k42⟩,
    ⟨((of_decide_eq_true (Hd.all_at e2 188 rfl)).trans a20), i20, k20⟩,
    ⟨a43, i43, k43⟩,
    ⟨((of_decide_eq_true (Hd.all_at e2 189 rfl)).trans a37), i37, k37⟩,
    (Hd.no_at (Hd.all_at e2 190 rfl)),
    (Hd.no_at (Hd.all_at e2 191 rfl)),
    (Hd.no_at (Hd.all_at e2 192 rfl)),
    PySem.W.mg_of X G (of_decide_eq_true (Hd.all_at e2 15 rfl)),
    ⟨(Hd.all_at e2 193 rfl), (Hd.all_at e2 194 rfl), (Hd.all_at e2 195 rfl), (of_decide_eq_true (Hd.all_at e2 196 rfl))⟩,
    ⟨(Hd.all_at e2 198 rfl), a44, i44, (Hd.all_at e2 197 rfl)⟩,
    ⟨a45, i45, k45⟩,
    ⟨a46, i46, k46⟩,
    ⟨a47, i47, k47⟩,
    ⟨a48, i48, k48⟩,
    ⟨a49, i49, k49⟩,
    ⟨a50, i50, k50⟩,
    ⟨a51, i51, k51⟩,
    ⟨a52, i52, k52⟩,
    ⟨a53, i53, k53⟩,
    ⟨a54, i54, k54⟩,
    ⟨a55, i55, k55⟩,
    ⟨a56, i56, k56⟩,
    ⟨a57, i57, k57⟩,
    (Hd.no_at (Hd.all_at e2 199 rfl)),
    (Hd.no_at (Hd.all_at e2 200 rfl)),
    (Hd.no_at (Hd.all_at e2 201 rfl)),
    ⟨(of_decide_eq_true (Hd.all_at e2 202 rfl)), (Hd.all_at e2 203 rfl), Hd.isVal_of (Hd.all_at e2 204 rfl), rfl, k17⟩,
    trivial⟩
  have FF : Funs K A := ⟨⟨_, F1, b1⟩, ⟨_, F2, b2⟩, ⟨_, F3, b3⟩, ⟨_, F4, b4⟩, ⟨_, F5, b5⟩, ⟨_, F6, b6⟩, ⟨_, F7, b7⟩, ⟨_, F8, b8⟩, ⟨_, F9, b9⟩, ⟨_, F10, b10⟩, ⟨_, F11, b11⟩, ⟨_, F12, b12⟩, ⟨_, F13, b13⟩, ⟨_, F14, b14⟩, ⟨_, F15, b15⟩, ⟨_, F16, b16⟩, ⟨_, F17, b17⟩, ⟨_, F18, b18⟩, ⟨_, F19, b19⟩, ⟨_, F20, b20⟩, ⟨_, F21, b21⟩, ⟨_, F22, b22⟩, ⟨_, F23, b23⟩, ⟨_, F24, b24⟩, ⟨_, F25, b25⟩, ⟨_, F26, b26⟩, ⟨_, F27, b27⟩, ⟨_, F28, b28⟩, ⟨_, F29, b29⟩, ⟨_, F30, b30⟩, ⟨_, F31, b31⟩, ⟨_, F32, b32⟩, ⟨_, F33, b33⟩, ⟨_, F34, b34⟩, ⟨_, F35, b35⟩, ⟨_, F36, b36⟩, ⟨_, F37, b37⟩, ⟨_, F38, b38⟩, ⟨_, F39, b39⟩, ⟨_, F40, b40⟩, ⟨_, F41, b41⟩, ⟨_, F42, b42⟩, ⟨_, F43, b43⟩, ⟨_, F44, b44⟩, ⟨_, F45, b45⟩, ⟨_, F46, b46⟩, ⟨_, F47, b47⟩, ⟨_, F48, b48⟩, ⟨_, F49, b49⟩, ⟨_, F50, b50⟩, ⟨_, F51, b51⟩, ⟨_, F52, b52⟩, ⟨_, F53, b53⟩, ⟨_, F54, b54⟩, ⟨_, F55, b55⟩, ⟨_, F56, b56⟩, ⟨_, F57, b57⟩⟩
  obtain ⟨_, _, kV, doc, pm, an, cdv, ct, _, rfl, _, _⟩ := F16.ex
  exact ⟨_, fun s v => .of_eq rfl, fun base _ _ => ok_law F16 T FF⟩
abbrev PP : Program := PySem.Challenge.pw_mailroom_k13_conditions_written
def loose : List Str := (["_wall", "MailError", "NoRule", "Condition", "Always", "HasWord", "HasTitleWord", "IsFrom", "IsOfDays", "IsIn", "IsMarked", "DoesAnswer", "Wrapped", "Not", "InThread", "Joined", "Both", "Either", "condition_of", "FIGURES", "WORD_SIGNS", "MOST_WORD", "all_among", "is_word", "LAST_DAY", "DAY_FIGURES", "MOST_DEEP", "MOST_WITHIN", "MOST_THREADS", "BARE", "WORDED", "OPENING", "END", "pieces_of", "deep", "Reader", "read_condition", "_law_cell_at", "_law_mixed", "_law_word_by", "_law_text_by", "_law_parts_by", "_law_card_by", "_law_leaf_by", "_law_threads", "_law_tree_by", "_law_written", "_law_open"] : List String).map Str.ofString
theorem seen (w : World) (os : OsState) : (Hd.runT (Hd.stepQ Hd.denQ PP w) (Hd.okQ 11 (some (.ref 6))) 20000 (Hd.S0 w os) (PySem.W.topStub PP)).map (fun s => (Hd.chk PP w.params s.abs, Hd.seenQ (PySem.W.view PP [53]) loose (PySem.importedModules PP.main.body) (fun s => PySem.W.recOk [] s) true s.abs, obs (Hd.fragT s))) = some (true, PySem.W.openGood (PySem.W.view PP [53]) loose, good) := by kernel_rfl
theorem look : PySem.W.Fast.tw9446332074065402090 PySem.Challenge.rw_mailroom_k13_conditions_written = true := by kernel_rfl
theorem opens : PySem.W.opening PP = PySem.W.plainProg PP.main.scope.names := by kernel_rfl
theorem fence (s : Shared) : fenceModules? PP s = some s := by kernel_rfl
end K13
open PySem PySem.W PyProof.Rows
set_option maxRecDepth 100000 in
set_option maxHeartbeats 0 in
theorem PySem.Challenge.cw_mailroom_k13_conditions_written_holds : PySem.Challenge.rw_mailroom_k13_conditions_written.Holds := by
  refine Hd.close (q := view K13.PP [53]) (loose := K13.loose) (N := 20000) (obs := K13.obs) (good := K13.good) K13.look K13.opens rfl K13.fence K13.seen rfl rfl rfl rfl (by decide +kernel) ⟨rfl, rfl, rfl, rfl, rfl, by decide +kernel⟩ ?hw ?hc
  case hw => w_witness2
  case hc => exact Hd.walk (n := 63) (k := 220) (x := "_law_script") (sp := K13.spLaw) rfl (by decide) rfl ⟨rfl, by decide, by decide, rfl⟩ (fun w K mg fa h KX y G hmg => K13.all_mk KX y G hmg) (fun _ _ a ns hl _ hS => ⟨a, ns, rfl, hS, hl, fun _ => rfl⟩)
#print axioms PySem.Challenge.cw_mailroom_k13_conditions_written_holds
