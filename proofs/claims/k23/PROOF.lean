import PyProof.Rows.All
import Wide.All
import OpenK.AllK
import Wide.FinOn
import Lean
import PyProof.EqAt
import PyProof.EqKinds
import PyProof.TupleCall
import PyProof.P3In
import KE.KDictLaws
import PyProof.Rows.SetFrom
import KE.KRevSl
import KE.KIntText
import KE.KLcPair
import KE.KIsAll
import PyProof.ExcArgsOwn
import PyProof.ExcAttrAll.ValueError
import PyProof.NsDelKeeps
import PyProof.Rows.CountFlat
import KE.RegKIsAll
import PyProof.WalksMore
import PyProof.FString5
import KE.KListMore
import PyProof.ZipIter
import PyProof.FString
import PyProof.StrLawsReplace
import PyProof.MinMaxWalk
import PyProof.WalkInts
import PyProof.Rows.MinMaxN
import PyProof.Rows.CallKwBuiltin
import KE.KMinKey
import KE.KSortKey
import KE.KSortTup
import PyProof.DictValues
import PyProof.DictWalks
import KE.KDictOf
import KE.KEqDict
import PySem.Challenge.RW_mailroom_k23_great_threads
noncomputable section
set_option Elab.async false
set_option linter.all false
set_option maxRecDepth 100000
namespace L2
open PySem PySem.Spec PyProof.Rows
/-- a key: an int or a str -/
abbrev Key := Sum Int Str
def keyIs : Key → Value → Bool
  | .inl k, v => Value.isInt k v
  | .inr x, v => Value.isStrOf x v
def keyH (w : World) : Key → Int
  | .inl k => hashInt k
  | .inr x => hashStr w x
theorem keyIs_shape : ∀ {k : Key} {v : Value}, keyIs k v = true → (∃ i t, k = Sum.inl i ∧ v = Value.int i t) ∨ (∃ x t, k = Sum.inr x ∧ v = Value.str x t)
  | .inl i, v, h => by
    obtain ⟨t, e⟩ := Value.isInt_shape (k := i) (v := v) h
    exact .inl ⟨i, t, rfl, e⟩
  | .inr x, v, h => by
    obtain ⟨t, e⟩ := Value.isStrOf_shape (x := x) (v := v) h
    exact .inr ⟨x, t, rfl, e⟩
theorem keyIs_int (i : Int) (t : Tok) : keyIs (.inl i) (.int i t) = true := by simp [keyIs, Value.isInt]
theorem keyIs_str (x : Str) (t : Tok) : keyIs (.inr x) (.str x t) = true := by simp [keyIs, Value.isStrOf]
theorem key_ll (a b : Int) : decide ((Sum.inl a : Key) = Sum.inl b) = (a == b) := by
  by_cases e : a = b
  · subst e; simp
  · have h : ¬ (Sum.inl a : Key) = Sum.inl b := fun q => e (Sum.inl.inj q)
    rw [decide_eq_false h]
    exact (beq_eq_false_iff_ne.mpr e).symm
theorem key_rr (a b : Str) : decide ((Sum.inr a : Key) = Sum.inr b) = decide (a = b) := by
  by_cases e : a = b
  · subst e; simp
  · have h : ¬ (Sum.inr a : Key) = Sum.inr b := fun q => e (Sum.inr.inj q)
    rw [decide_eq_false h, decide_eq_false e]
theorem key_lr (a : Int) (b : Str) : decide ((Sum.inl a : Key) = Sum.inr b) = false := decide_eq_false (fun q => nomatch q)
theorem key_rl (a : Str) (b : Int) : decide ((Sum.inr a : Key) = Sum.inl b) = false := decide_eq_false (fun q => nomatch q)
def mixKind (prog : Program) (w : World) : PySem.KeyKind prog w Key where
  is := keyIs
  hash := keyH w
  inj := fun v a b ha hb => by
    rcases keyIs_shape ha with ⟨i, t, rfl, rfl⟩ | ⟨x, t, rfl, rfl⟩
    · rcases keyIs_shape hb with ⟨j, u, rfl, e⟩ | ⟨y, u, rfl, e⟩
      · injection e with e1 _; rw [e1]
      · exact nomatch e
    · rcases keyIs_shape hb with ⟨j, u, rfl, e⟩ | ⟨y, u, rfl, e⟩
      · exact nomatch e
      · injection e with e1 _; rw [e1]
  byValue := fun k v h => by
    rcases keyIs_shape h with ⟨i, t, rfl, rfl⟩ | ⟨x, t, rfl, rfl⟩ <;> rfl
  pyHash := fun hv h => by
    rcases keyIs_shape hv with ⟨i, t, rfl, rfl⟩ | ⟨x, t, rfl, rfl⟩
    · exact wpAny_pyHash_int h
    · exact wpAny_pyHash_str h
  eqBool := fun hu hv h => by
    rcases keyIs_shape hu with ⟨i, t, rfl, rfl⟩ | ⟨x, t, rfl, rfl⟩
    · rcases keyIs_shape hv with ⟨j, u, rfl, rfl⟩ | ⟨y, u, rfl, rfl⟩
      · rw [key_ll] at h; exact wpAny_eqBool_int h
      · rw [key_lr] at h; exact SeqAt.EqAt.int_str i t y u _ _ _ _ h
    · rcases keyIs_shape hv with ⟨j, u, rfl, rfl⟩ | ⟨y, u, rfl, rfl⟩
      · rw [key_rl] at h; exact SeqAt.EqAt.str_int x t j u _ _ _ _ h
      · rw [key_rr] at h; exact wpAny_eqBool_str h
  «strs» := fun k x t v h => by
    rcases keyIs_shape h with ⟨i, u, rfl, e⟩ | ⟨y, u, rfl, e⟩
    · exact nomatch e
    · injection e with e1 _
      subst e1
      cases v <;> rfl
theorem mixKind_int (prog : Program) (w : World) (i : Int) (t : Tok) : (mixKind prog w).is (.inl i) (.int i t) = true := keyIs_int i t
theorem mixKind_str (prog : Program) (w : World) (x : Str) (t : Tok) : (mixKind prog w).is (.inr x) (.str x t) = true := keyIs_str x t
end L2
namespace L2
open PySem PySem.Spec PyProof.Rows
/-- a value, without the heap -/
inductive V where
  | non | bl (b : Bool) | int (i : Int) | str (x : Str) | byt (b : Array UInt8) | flt (b : UInt64) | ref (a : Addr) | ty (n : String)
  deriving DecidableEq
def RelV : V → Value → Prop
  | .non, u => u = Value.none
  | .bl b, u => u = Value.bool b
  | .int i, u => ∃ t, u = Value.int i t
  | .str x, u => ∃ t, u = Value.str x t
  | .byt b, u => ∃ t, u = Value.bytes b t
  | .flt b, u => ∃ t, u = Value.float b t
  | .ref a, u => u = Value.ref a
  | .ty n, u => u = Value.type n
abbrev Vals : List V → List Value → Prop := Paired RelV
theorem Vals.length {xs : List V} {us : List Value} (r : Vals xs us) : xs.length = us.length := Paired.length r
theorem Vals.get : ∀ {xs : List V} {us : List Value} {i : Nat} {x : V}, Vals xs us → xs[i]? = some x → ∃ u, us[i]? = some u ∧ RelV x u
  | _, _, _, _, .nil, e => by simp at e
  | _, _, 0, _, .cons r _, e => by simp at e; subst e; exact ⟨_, rfl, r⟩
  | _, _, i + 1, x, .cons _ t, e => by
    obtain ⟨u, h1, h2⟩ := Vals.get (i := i) (x := x) t (by simpa using e)
    exact ⟨u, by simpa using h1, h2⟩
theorem Vals.append : ∀ {xs ys : List V} {us ws : List Value}, Vals xs us → Vals ys ws → Vals (xs ++ ys) (us ++ ws)
  | _, _, _, _, .nil, s => s
  | _, _, _, _, .cons r t, s => .cons r (Vals.append t s)
def RelO : Option V → Option Value → Prop
  | some v, some u => RelV v u
  | none, none => True
  | _, _ => False
def KV {κ : Type} : List (κ × V) → List (κ × Value) → Prop := Paired fun (p : κ × V) (q : κ × Value) => p.1 = q.1 ∧ RelV p.2 q.2
/-- a key of a dict (00_mix): an int or a text -/
def kV : Key → V
  | .inl i => .int i
  | .inr x => .str x
/-- what stands at a tracked address -/
inductive HO where
  /-- a list -/
  | lst (xs : List V)
  /-- a tuple (never changes) -/
  | tup (xs : List V)
  /-- a dict whose keys are ints and texts; one whose keys are tuples of ints and texts (the empty one is both) -/
  | dK (kvs : List (Key × V)) | dT (kvs : List (List Key × V))
  /-- a set of ints: its members, its size -/
  | set (S : Int → Bool) (n : Nat)
  /-- an instance of the class at C, its dict at dx, its attributes -/
  | ins (C dx : Addr) (fs : List (Str × V))
  /-- the dict of the instance at x -/
  | own (x : Addr)
  /-- the dict of an exception -/
  | xd (fs : List (Str × V))
  /-- a bound method, f of x -/
  | met (f x : Addr)
  /-- a range object lo, lo + 1, .. below hi -/
  | rng (lo hi : Int)
  /-- a thing that is known to the object (the script; a dict while a loop walks it): read, never written while it is so -/
  | frz (o : Obj) (u : HO)
  /-- a code object's table -/
  | tbl (ps : Array Value)
  /-- any other thing, by what is true of its one object (a def of one's own: SetO a S n := HO.ext fun h => ..) -/
  | ext (φ : Heap → Prop)
abbrev Hp := Addr → Option HO
def upd (H : Hp) (a : Addr) (o : HO) : Hp := fun b => if b = a then some o else H b
theorem upd_same {H : Hp} {a : Addr} {o : HO} : upd H a o a = some o := by unfold upd; rw [if_pos rfl]
theorem upd_ne {H : Hp} {a b : Addr} {o : HO} (h : b ≠ a) : upd H a o b = H b := by unfold upd; rw [if_neg h]
theorem upd_upd {H : Hp} {a : Addr} {o u : HO} : upd (upd H a o) a u = upd H a u := by
  funext b; unfold upd; split <;> rfl
/-- two objects of different content stand apart -/
theorem ne_of {H : Hp} {a b : Addr} {o u : HO} (h : H a = some o) (h' : H b = some u) (d : o ≠ u) : a ≠ b := by
  intro e; subst e; rw [h] at h'; exact d (Option.some.inj h')
theorem ne_of_none {H : Hp} {a b : Addr} {o : HO} (h : H a = some o) (h' : H b = none) : a ≠ b := by
  intro e; subst e; rw [h] at h'; cases h'
section
variable (P : Program) (w : World)
def ObjOk (H : Hp) (h : Heap) (a : Addr) : HO → Prop
  | .lst xs => xs.length ≤ sizeLine ∧ ∃ (its : List Value) (n : Nat), Vals xs its ∧ h.get? a = some { cls := .type "list", data := .seq its.toArray n }
  | .tup xs => xs.length ≤ sizeLine ∧ ∃ its : List Value, Vals xs its ∧ IsTup h a its.toArray
  | .dK kvs => kvs.length ≤ sizeLine ∧ (a == sysModules) = false ∧ ∃ vs, KV kvs vs ∧ h.DictOf (mixKind P w) a vs
  | .dT kvs => kvs.length ≤ sizeLine ∧ (a == sysModules) = false ∧ ∃ xs : List (List Key × Addr × Value),
      Paired (fun (p : List Key × V) (q : List Key × Addr × Value) => p.1 = q.1 ∧ H q.2.1 = some (.tup (p.1.map kV)) ∧ RelV p.2 q.2.2) kvs xs ∧
      ∃ o es ep, h.get? a = some o ∧ o.ExactDict ∧ o.data = .dict es ep ∧ es.toList = xs.map (entryOfKey (tupleKind (mixKind P w))) ∧ (xs.map (·.1)).Nodup
  | .set S n => h.SetOf (intKind P w) a S n
  | .ins C dx fs => H dx = some (.own a) ∧ fs.length ≤ 1000 ∧ dx ≠ a ∧ h.get? a = some (PySem.W.instObj C dx) ∧
      ∃ mA, h.Ns1 dx mA ∧ (∀ f, RelO (fs.lookup f) (mA f)) ∧ PySem.Within mA (fs.map (·.1))
  | .own _ => ∃ o, h.get? a = some o
  | .xd fs => ∃ mA, h.Ns1 a mA ∧ ∀ f, RelO (fs.lookup f) (mA f)
  | .rng lo hi => ∃ t u v, h.get? a = some { cls := .type "range", data := .fields #[.int lo t, .int hi u, .int 1 v] }
  | .frz o u => h.get? a = some o ∧ ObjOk H h a u
  | .tbl ps => h.get? a = some { cls := .none, data := .fields ps }
  | .met f x => h.get? a = some (PySem.W.methodObj (.ref f) (.ref x))
  | .ext φ => φ h ∧ (∃ o, h.get? a = some o) ∧ ∀ h1 h2 : Heap, φ h1 → (∀ o, h1.get? a = some o → h2.get? a = some o) → φ h2
/-- the abstract heap is held -/
def HOk (H : Hp) (h : Heap) : Prop := ∀ a o, H a = some o → ObjOk P w H h a o
end
section
variable {P : Program} {w : World} {H H' : Hp} {h h' : Heap} {a : Addr} {o : HO}
theorem ObjOk.lt (x : ObjOk P w H h a o) : a < h.objs.size := by
  cases o with
  | lst xs => obtain ⟨_, _, _, _, e⟩ := x; exact Heap.lt_size e
  | tup xs => obtain ⟨_, _, _, p⟩ := x; exact p.lt
  | dK kvs => obtain ⟨_, _, _, _, o, _, _, e, _⟩ := x; exact Heap.lt_size e
  | dT kvs => obtain ⟨_, _, _, _, o, _, _, e, _⟩ := x; exact Heap.lt_size e
  | set S n => obtain ⟨o, _, _, _, e, _⟩ := x; exact Heap.lt_size e
  | ins C dx fs => obtain ⟨_, _, _, e, _⟩ := x; exact Heap.lt_size e
  | own y => obtain ⟨_, e⟩ := x; exact Heap.lt_size e
  | xd fs => obtain ⟨_, ⟨_, _, _, e, _⟩, _⟩ := x; exact Heap.lt_size e
  | rng lo hi => obtain ⟨_, _, _, e⟩ := x; exact Heap.lt_size e
  | frz ob u => obtain ⟨e, _⟩ := x; exact Heap.lt_size e
  | tbl ps => exact Heap.lt_size (show h.get? a = some _ from x)
  | met f y => exact Heap.lt_size (show h.get? a = some _ from x)
  | ext φ => obtain ⟨_, ⟨_, e⟩, _⟩ := x; exact Heap.lt_size e
theorem Paired.mapP {α β : Type} {F G : α → β → Prop} : ∀ {l₁ : List α} {l₂ : List β}, Paired F l₁ l₂ → (∀ a b, F a b → G a b) → Paired G l₁ l₂
  | _, _, .nil, _ => .nil
  | _, _, .cons r t, f => .cons (f _ _ r) (Paired.mapP t f)
/-- what an object's description leans on: its own object, its own dict, the tuples -/
theorem ObjOk.stay (x : ObjOk P w H h a o) (k : ∀ b u, (b = a ∨ H b = some (.own a)) → h.get? b = some u → h'.get? b = some u)
    (ho : ∀ b, H b = some (.own a) → H' b = some (.own a)) (ht : ∀ b xs, H b = some (.tup xs) → H' b = some (.tup xs)) : ObjOk P w H' h' a o := by
  induction o with
  | lst xs => obtain ⟨z, its, n, r, e⟩ := x; exact ⟨z, its, n, r, k _ _ (.inl rfl) e⟩
  | tup xs => obtain ⟨z, its, r, ob, e, c⟩ := x; exact ⟨z, its, r, ob, k _ _ (.inl rfl) e, c⟩
  | dK kvs => obtain ⟨z, y, vs, r, ob, es, ep, e, c⟩ := x; exact ⟨z, y, vs, r, ob, es, ep, k _ _ (.inl rfl) e, c⟩
  | dT kvs =>
    obtain ⟨z, y, xs, r, ob, es, ep, e, c⟩ := x
    exact ⟨z, y, xs, Paired.mapP r fun p q z => ⟨z.1, ht _ _ z.2.1, z.2.2⟩, ob, es, ep, k _ _ (.inl rfl) e, c⟩
  | set S n => obtain ⟨ob, es, ep, t, e, c⟩ := x; exact ⟨ob, es, ep, t, k _ _ (.inl rfl) e, c⟩
  | ins C dx fs =>
    obtain ⟨d, z, ne, e, mA, ⟨od, es, ep, e2, c⟩, r⟩ := x
    exact ⟨ho _ d, z, ne, k _ _ (.inl rfl) e, mA, ⟨od, es, ep, k _ _ (.inr d) e2, c⟩, r⟩
  | own y => obtain ⟨ob, e⟩ := x; exact ⟨ob, k _ _ (.inl rfl) e⟩
  | xd fs => obtain ⟨mA, ⟨od, es, ep, e, c⟩, r⟩ := x; exact ⟨mA, ⟨od, es, ep, k _ _ (.inl rfl) e, c⟩, r⟩
  | rng lo hi => obtain ⟨t, u, v, e⟩ := x; exact ⟨t, u, v, k _ _ (.inl rfl) e⟩
  | frz ob u ih => obtain ⟨e, q⟩ := x; exact ⟨k _ _ (.inl rfl) e, ih q⟩
  | tbl ps =>
    have e : h.get? a = some { cls := .none, data := .fields ps } := x
    show h'.get? a = some { cls := .none, data := .fields ps }
    exact k a _ (.inl rfl) e
  | met f y =>
    have e : h.get? a = some (PySem.W.methodObj (.ref f) (.ref y)) := x
    show h'.get? a = some (PySem.W.methodObj (.ref f) (.ref y))
    exact k a _ (.inl rfl) e
  | ext φ => obtain ⟨p, ⟨o, e⟩, st⟩ := x; exact ⟨st _ _ p fun o q => k _ _ (.inl rfl) q, ⟨o, k _ _ (.inl rfl) e⟩, st⟩
theorem HOk.lt (x : HOk P w H h) (e : H a = some o) : a < h.objs.size := (x a o e).lt
theorem HOk.fresh (x : HOk P w H h) (e : h.objs.size ≤ a) : H a = none := by
  cases q : H a with
  | none => rfl
  | some u => exact absurd (Nat.lt_of_lt_of_le (x.lt q) e) (Nat.lt_irrefl _)
/-- every object of the heap is kept -/
theorem HOk.kept (x : HOk P w H h) (k : ∀ b u, h.get? b = some u → h'.get? b = some u) : HOk P w H h' := fun a o e =>
  (x a o e).stay (fun b u _ q => k b u q) (fun _ q => q) fun _ _ q => q
/-- a new object is laid and tracked -/
theorem HOk.laid (x : HOk P w H h) (k : ∀ b u, h.get? b = some u → h'.get? b = some u) (hp : h.objs.size ≤ a) (new : ObjOk P w (upd H a o) h' a o) : HOk P w (upd H a o) h' := fun b u e => by
  have hn := x.fresh hp
  by_cases hb : b = a
  · subst hb; rw [upd_same] at e; cases e; exact new
  · rw [upd_ne hb] at e
    exact (x b u e).stay (fun c v _ q => k c v q) (fun c q => by rw [upd_ne (ne_of_none q hn)]; exact q) fun c xs q => by rw [upd_ne (ne_of_none q hn)]; exact q
end
/-- what may be read as u: it is u, or a known u -/
def Rd (H : Hp) (a : Addr) (u : HO) : Prop := H a = some u ∨ ∃ o, H a = some (.frz o u)
theorem Rd.ok {P : Program} {w : World} {H : Hp} {h : Heap} {a : Addr} {u : HO} (r : Rd H a u) (x : HOk P w H h) : ObjOk P w H h a u := by
  rcases r with r | ⟨o, r⟩
  · exact x a u r
  · obtain ⟨_, q⟩ := x a _ r
    exact q
/-- what may be written -/
def Mut : Option HO → Prop
  | some (.lst _) => True
  | some (.dK _) => True
  | some (.dT _) => True
  | some (.set _ _) => True
  | some (.ins _ _ _) => True
  | some (.ext _) => True
  | _ => False
section
variable {P : Program} {w : World} {H : Hp} {h h' : Heap} {x e : Addr} {o' : HO}
/-- the object at e is changed: x itself, or the dict of the instance x -/
theorem HOk.write (ok : HOk P w H h) (mu : Mut (H x)) (he : e = x ∨ H e = some (.own x)) (k : ∀ b u, b ≠ e → h.get? b = some u → h'.get? b = some u) (heo : ∃ u, h'.get? e = some u)
    (new : ObjOk P w (upd H x o') h' x o') : HOk P w (upd H x o') h' := fun b u q => by
  have nown : ∀ c y, H c = some (.own y) → c ≠ x := fun c y r z => by subst z; rw [r] at mu; exact mu
  have ntup : ∀ c xs, H c = some (.tup xs) → c ≠ x := fun c xs r z => by subst z; rw [r] at mu; exact mu
  by_cases hb : b = x
  · subst hb; rw [upd_same] at q; cases q; exact new
  · rw [upd_ne hb] at q
    by_cases hbe : b = e
    · have q' : H b = some (.own x) := by
        rcases he with z | z
        · exact absurd (hbe.trans z) hb
        · rw [hbe]; exact z
      rw [q] at q'; cases q'
      obtain ⟨v, hv⟩ := heo
      exact ⟨v, by rw [hbe]; exact hv⟩
    · refine (ok b u q).stay (fun c v hc r => k c v ?_ r) (fun c r => by rw [upd_ne (nown c b r)]; exact r) fun c xs r => by rw [upd_ne (ntup c xs r)]; exact r
      rcases hc with rfl | hc
      · exact hbe
      · rintro rfl
        rcases he with z | z
        · exact nown c b hc z
        · rw [hc] at z; cases z; exact hb rfl
end
structure Un (fs ex : List Addr) (H H' : Hp) (h h' : Heap) : Prop where
  keep : ∀ b o, h.get? b = some o → H b = none → b ∉ fs → b ∉ ex → h'.get? b = some o
  slot : ∀ b o, h.get? b = some o → H b = none → b ∈ fs → b ∉ ex → ∃ sl, h'.get? b = some { o with slots := sl }
  free : ∀ b o, h.get? b = some o → H b = none → b ∉ ex → H' b = none
  there : ∀ b o, h.get? b = some o → b ∉ ex → ∃ o', h'.get? b = some o'
  tups : ∀ b xs, H b = some (.tup xs) → H' b = some (.tup xs)
  frzs : ∀ b o u, H b = some (.frz o u) → H' b = some (.frz o u)
  tbls : ∀ b ps, H b = some (.tbl ps) → ∃ more, H' b = some (.tbl (ps ++ more))
section
variable {fs fs' ex ex' : List Addr} {H H1 H2 : Hp} {h h1 h2 h' : Heap} {a x e : Addr} {o : HO}
theorem Un.any (u : Un fs ex H H1 h h1) {b : Addr} {ob : Obj} (q : h.get? b = some ob) (n : H b = none) (hx : b ∉ ex) : ∃ sl, h1.get? b = some { ob with slots := sl } := by
  by_cases hb : b ∈ fs
  · exact u.slot b ob q n hb hx
  · exact ⟨ob.slots, u.keep b ob q n hb hx⟩
theorem Un.kept (k : ∀ b u, h.get? b = some u → h'.get? b = some u) : Un fs ex H H h h' :=
  ⟨fun b ob q _ _ _ => k b ob q, fun b ob q _ _ _ => ⟨ob.slots, k b ob q⟩, fun _ _ _ n _ => n, fun b ob q _ => ⟨ob, k b ob q⟩, fun _ _ q => q, fun _ _ _ q => q, fun _ ps q => ⟨#[], by rw [q]; simp⟩⟩
theorem Un.refl : Un fs ex H H h h := Un.kept fun _ _ q => q
theorem Un.laid (k : ∀ b u, h.get? b = some u → h'.get? b = some u) (hp : h.objs.size ≤ a) (hn : H a = none) : Un fs ex H (upd H a o) h h' where
  keep := fun b u q _ _ _ => k b u q
  slot := fun b u q _ _ _ => ⟨u.slots, k b u q⟩
  free := fun b u q n _ => by rw [upd_ne (Nat.ne_of_lt (Nat.lt_of_lt_of_le (Heap.lt_size q) hp))]; exact n
  there := fun b u q _ => ⟨u, k b u q⟩
  tups := fun b xs q => by rw [upd_ne (ne_of_none q hn)]; exact q
  frzs := fun b u xs q => by rw [upd_ne (ne_of_none q hn)]; exact q
  tbls := fun b ps q => ⟨#[], by rw [upd_ne (ne_of_none q hn), q]; simp⟩
theorem Un.write (mu : Mut (H x)) (he : e = x ∨ H e = some (.own x)) (k : ∀ b u, b ≠ e → h.get? b = some u → h'.get? b = some u) (heo : ∃ u, h'.get? e = some u) : Un fs ex H (upd H x o) h h' := by
  have hx : ∀ b, H b = none → b ≠ x := fun b n z => by subst z; rw [n] at mu; exact mu
  have hb : ∀ b, H b = none → b ≠ e := fun b n z => by
    subst z
    rcases he with r | r
    · exact hx b n r
    · rw [n] at r; cases r
  have hm : ∀ b u, H b = some u → ¬ Mut (some u) → b ≠ x := fun b u q nm z => by subst z; rw [q] at mu; exact nm mu
  refine ⟨fun b u q n _ _ => k b u (hb b n) q, fun b u q n _ _ => ⟨u.slots, k b u (hb b n) q⟩, fun b u q n _ => by rw [upd_ne (hx b n)]; exact n, fun b u q _ => ?_,
    fun b xs q => by rw [upd_ne (hm b _ q fun z => z)]; exact q, fun b u xs q => by rw [upd_ne (hm b _ q fun z => z)]; exact q, fun b ps q => ⟨#[], by rw [upd_ne (hm b _ q fun z => z), q]; simp⟩⟩
  by_cases hbe : b = e
  · subst hbe; exact heo
  · exact ⟨u, k b u hbe q⟩
end
def trk (h : Heap) (H : Hp) : List Addr := (List.range h.objs.size).filter fun a => (H a).isSome
def hidT (h : Heap) (H : Hp) : Heap := PySem.W.hideAll h (trk h H)
theorem hidT_size (h : Heap) (H : Hp) : (hidT h H).objs.size = h.objs.size := PySem.W.hideAll_size _ _
theorem hidT_get {h : Heap} {H : Hp} {b : Addr} {o : Obj} (e : h.get? b = some o) (n : H b = none) : (hidT h H).get? b = some o :=
  PySem.W.hideAll_get _ e fun hm => by
    have q : (H b).isSome = true := (List.mem_filter.mp hm).2
    rw [n] at q; simp at q
theorem of_hidT {h : Heap} {H : Hp} {b : Addr} {o : Obj} (e : (hidT h H).get? b = some o) : h.get? b = some o ∧ H b = none := by
  have e' : h.get? b = some o := PySem.W.of_hideAll (trk h H) e
  refine ⟨e', ?_⟩
  cases q : H b with
  | none => rfl
  | some x =>
    have hm : b ∈ trk h H := List.mem_filter.mpr ⟨List.mem_range.mpr (Heap.lt_size e'), by simp [q]⟩
    have z : (hidT h H).get? b = none := PySem.W.hideAll_none (trk h H) hm
    rw [z] at e; cases e
end L2
namespace L2
open PySem PySem.Spec PyProof.Rows
/-- the module's facts, over the base: the heap at the law's entry without what is tracked there -/
structure Mod (K : PySem.W.Frag) (mg : Str → Option Value) (base : Heap) : Prop where
  kin : K.In base
  glob : base.Ns mainGlobals mg
  blt : ∃ mb, base.Ns builtinsNs mb ∧ ∀ x : Str, x ≠ "__name__" → mb x = bootBuiltins x
  nolimit : base.NoLimit
/-- the context: a def's body (or a comprehension's block) running. base: fixed through the whole law; s₀, H₀: the entry; outer: the frames whose slots others may change (a def's callers); stack: all frames that run;
   ex: iterators that were made ahead of the entry and are walked here (a comprehension's); fn: the names whose cells were made at the entry (a def: all; a comprehension's block: its own); calm: not within an except suite; pn: pins that every state bears; xe: what is wanted of an exception that leaves the code -/
structure Cx where
  prog : Program
  w : World
  K : PySem.W.Frag
  mg : Str → Option Value
  base : Heap
  A : Around
  N : List Str
  s₀ : Shared
  H₀ : Hp
  env : Env
  outer : List Env
  stack : List Env
  ex : List Addr
  fn : Str → Bool
  calm : Bool
  pn : List (Addr × Obj)
  xe : Value → Shared → Prop
/-- the callers' frames -/
def frs (l : List Env) : List Addr := l.filterMap (·.frame)
abbrev Cx.fs (X : Cx) : List Addr := frs X.outer
def Vis (sc : Scope) (x : Str) : Prop := sc.names.lookup x = some .local ∨ sc.names.lookup x = some .cell ∨ sc.names.lookup x = some .free
def Loc (sc : Scope) (x : Str) : Prop := sc.names.lookup x = some .local ∨ sc.names.lookup x = some .cell
def Look (env : Env) (h : Heap) (m : Str → Option Value) (x : Str) (u : Value) : Prop :=
  (env.kindOf x = some .local ∧ m x = some u) ∨ ((env.kindOf x = some .cell ∨ env.kindOf x = some .free) ∧ ∃ c, env.cells.lookup x = some c ∧ h.IsCell c (some u))
structure Cx.Ok (X : Cx) : Prop where
  mod : Mod X.K X.mg X.base
  kind : X.env.scope.kind = .function
  glob : X.env.globals = mainGlobals
  blt : X.env.builtins = builtinsNs
  above : X.s₀.heap.objs.size ≤ X.env.locals
  inj : ∀ x y c, X.env.cells.lookup x = some c → X.env.cells.lookup y = some c → x = y
  has : ∀ x, (X.env.kindOf x = some .cell ∨ X.env.kindOf x = some .free) → ∃ c, X.env.cells.lookup x = some c
  cab : ∀ x c, X.fn x = true → X.env.cells.lookup x = some c → X.s₀.heap.objs.size ≤ c
  hd : X.calm = true → X.A.handled = none
  frames : X.A.frames = some X.stack
  stk : X.stack = X.outer ∨ (X.stack = X.env :: X.outer ∧ X.env.frame = some X.env.locals)
  exf : ∀ b ∈ X.ex, b ≠ X.env.locals ∧ ∀ x c, X.env.cells.lookup x = some c → c ≠ b
  bs : ∀ b o, X.base.get? b = some o → X.s₀.heap.get? b = some o ∧ X.H₀ b = none
  bsz : X.base.objs.size ≤ X.s₀.heap.objs.size
  noex : ∀ b o, X.base.get? b = some o → b ∉ X.ex
  exfs : ∀ b ∈ X.ex, b ∉ X.fs
  funs : X.s₀.heap.FunFrames X.base X.outer
  frf : ∀ b ∈ X.fs, X.H₀ b = none
structure Inv (X : Cx) (pins : List (Addr × Obj)) (σ : List (Option V)) (H : Hp) (s : Shared) : Prop where
  ok : X.Ok
  os : s.os = X.s₀.os
  bare : AllBare s.gens
  base : Un X.fs X.ex X.H₀ H X.s₀.heap s.heap
  loc : ∃ m, s.heap.Ns X.env.locals m ∧ ∀ (i : Nat) (x : Str) (v : V), X.N[i]? = some x → σ[i]? = some (some v) → Vis X.env.scope x → ∃ u, RelV v u ∧ Look X.env s.heap m x u
  cell : ∀ x c, X.env.cells.lookup x = some c → ∃ v, s.heap.IsCell c v
  free : H X.env.locals = none
  freeC : ∀ x c, X.env.cells.lookup x = some c → H c = none
  pin : ∀ p ∈ X.pn ++ pins, s.heap.get? p.1 = some p.2 ∧ H p.1 = none ∧ p.1 ≠ X.env.locals ∧ p.1 ∉ X.fs ∧ ∀ v, p.2.data ≠ .cell v
  hok : HOk X.prog X.w H s.heap
  len : σ.length = X.N.length
section
variable {X : Cx} {pins : List (Addr × Obj)} {σ : List (Option V)} {H H' : Hp} {s : Shared} {h' : Heap}
theorem Cx.Ok.nofr (ok : X.Ok) {b : Addr} {o : Obj} (e : X.base.get? b = some o) : b ∉ X.fs := fun hb => by
  have := (ok.funs.mem hb).1
  rw [e] at this; cases this
theorem Inv.bs (I : Inv X pins σ H s) : ∀ b o, X.base.get? b = some o → s.heap.get? b = some o ∧ H b = none := fun b o e =>
  ⟨I.base.keep b o (I.ok.bs b o e).1 (I.ok.bs b o e).2 (I.ok.nofr e) (I.ok.noex b o e), I.base.free b o (I.ok.bs b o e).1 (I.ok.bs b o e).2 (I.ok.noex b o e)⟩
theorem Inv.bk (I : Inv X pins σ H s) : ∀ b o, X.base.get? b = some o → s.heap.get? b = some o := fun b o e => (I.bs b o e).1
theorem Inv.mod (I : Inv X pins σ H s) : Mod X.K X.mg X.base := I.ok.mod
theorem Inv.kIn (I : Inv X pins σ H s) : X.K.In s.heap := I.ok.mod.kin.keeps I.bk
theorem Inv.lt (I : Inv X pins σ H s) : X.env.locals < s.heap.objs.size := let ⟨_, hn, _⟩ := I.loc; hn.lt
theorem Inv.sz (I : Inv X pins σ H s) : X.s₀.heap.objs.size ≤ s.heap.objs.size := Nat.le_trans I.ok.above (Nat.le_of_lt I.lt)
theorem Inv.nofs (I : Inv X pins σ H s) {a : Addr} (h : s.heap.objs.size ≤ a) : a ∉ X.fs := fun hb => by
  obtain ⟨_, o, ho, _⟩ := I.ok.funs.mem hb
  exact absurd (Nat.lt_of_lt_of_le (Heap.lt_size ho) (Nat.le_trans I.sz h)) (Nat.lt_irrefl _)
theorem Inv.cne (I : Inv X pins σ H s) : ∀ x c, X.env.cells.lookup x = some c → c ≠ X.env.locals := fun x c e z => by
  obtain ⟨v, o, ho, hd⟩ := I.cell x c e
  obtain ⟨m, ⟨o', es, ep, ho', hd', _⟩, _⟩ := I.loc
  rw [z, ho'] at ho; cases ho; rw [hd'] at hd; cases hd
theorem Inv.funs (I : Inv X pins σ H s) : s.heap.FunFrames X.base X.outer := by
  have all : ∀ (l : List Env), (∀ b ∈ frs l, b ∈ X.fs) → X.s₀.heap.FunFrames X.base l → s.heap.FunFrames X.base l := by
    intro l
    induction l with
    | nil => intro _ _; trivial
    | cons env r ih =>
      intro hs hl
      obtain ⟨hk, ⟨L, o, hf, hn, ho, hd⟩, hr⟩ := hl
      have hL : L ∈ X.fs := hs L (by unfold frs; rw [List.filterMap_cons, hf]; exact List.mem_cons_self)
      obtain ⟨sl, e⟩ := I.base.slot L o ho (I.ok.frf L hL) hL fun z => I.ok.exfs L z hL
      exact ⟨hk, ⟨L, _, hf, hn, e, hd⟩, ih (fun b hb => hs b (by unfold frs; rw [List.filterMap_cons, hf]; exact List.mem_cons_of_mem _ hb)) hr⟩
  exact all X.outer (fun _ hb => hb) I.ok.funs
/-- the frames that run, for a call -/
theorem Inv.stack (I : Inv X pins σ H s) : s.heap.FunFrames X.base X.stack := by
  rcases I.ok.stk with e | ⟨e, hf⟩
  · rw [e]; exact I.funs
  · rw [e]
    obtain ⟨m, hn, _⟩ := I.loc
    refine .cons (by rw [I.ok.kind]; decide) hf hn ?_ I.funs
    exact Heap.get?_none_of_le (Nat.le_trans I.ok.bsz I.ok.above)
theorem Inv.stkSub (I : Inv X pins σ H s) : ∀ b ∈ frs X.stack, b ∈ X.env.locals :: X.fs := fun b hb => by
  rcases I.ok.stk with e | ⟨e, hf⟩
  · rw [e] at hb; exact List.mem_cons_of_mem _ hb
  · rw [e] at hb
    unfold frs at hb
    rw [List.filterMap_cons, hf] at hb
    exact hb
theorem Inv.stkFree (I : Inv X pins σ H s) : ∀ b ∈ frs X.stack, H b = none := fun b hb => by
  rcases List.mem_cons.mp (I.stkSub b hb) with e | hb
  · rw [e]; exact I.free
  · obtain ⟨_, o, ho, _⟩ := I.ok.funs.mem hb
    exact I.base.free b o ho (I.ok.frf b hb) fun z => I.ok.exfs b z hb
/-- THE STEP: the untracked objects but the frame and the records at ch are kept (the callers' frames up to slots), the frame's map is kept, the new abstract heap is held -/
theorem Inv.step {g' : Array GenState} {t' : Nat} {d' : Drawn} {ch : List Addr} (I : Inv X pins σ H s)
    (hch : ∀ b ∈ ch, (b ∈ X.ex ∨ X.s₀.heap.objs.size ≤ b) ∧ b ≠ X.env.locals ∧ (∀ x c, X.env.cells.lookup x = some c → c ≠ b) ∧ ∀ p ∈ X.pn ++ pins, p.1 ≠ b)
    (keep : ∀ b o, b ≠ X.env.locals → b ∉ X.fs → b ∉ ch → s.heap.get? b = some o → H b = none → h'.get? b = some o)
    (slot : ∀ b o, b ≠ X.env.locals → b ∈ X.fs → b ∉ ch → s.heap.get? b = some o → H b = none → ∃ sl, h'.get? b = some { o with slots := sl }) (free : ∀ b o, b ∉ ch → s.heap.get? b = some o → H b = none → H' b = none)
    (there : ∀ b o, b ∉ ch → s.heap.get? b = some o → ∃ o', h'.get? b = some o')
    (tups : ∀ b xs, H b = some (.tup xs) → H' b = some (.tup xs)) (frzs : ∀ b o u, H b = some (.frz o u) → H' b = some (.frz o u)) (tbls : ∀ b ps, H b = some (.tbl ps) → ∃ more, H' b = some (.tbl (ps ++ more)))
    (ns : ∀ m, s.heap.Ns X.env.locals m → h'.Ns X.env.locals m) (hok : HOk X.prog X.w H' h') (hg : AllBare g') :
    Inv X pins σ H' { s with heap := h', gens := g', drawn := d', toks := t' } := by
  have neL : ∀ b o, X.s₀.heap.get? b = some o → b ≠ X.env.locals := fun b o e => Nat.ne_of_lt (Nat.lt_of_lt_of_le (Heap.lt_size e) I.ok.above)
  have neC : ∀ b o, X.s₀.heap.get? b = some o → b ∉ X.ex → b ∉ ch := fun b o e hx hb => by
    rcases (hch b hb).1 with z | z
    · exact hx z
    · exact absurd (Nat.lt_of_lt_of_le (Heap.lt_size e) z) (Nat.lt_irrefl _)
  have cellK : ∀ x c, X.env.cells.lookup x = some c → ∀ v, s.heap.IsCell c v → h'.IsCell c v := fun x c e v ⟨o, ho, hd⟩ => by
    have nch : c ∉ ch := fun z => (hch c z).2.2.1 x c e rfl
    by_cases hc : c ∈ X.fs
    · obtain ⟨sl, q⟩ := slot c o (I.cne x c e) hc nch ho (I.freeC x c e)
      exact ⟨_, q, hd⟩
    · exact ⟨o, keep c o (I.cne x c e) hc nch ho (I.freeC x c e), hd⟩
  refine ⟨I.ok, I.os, hg, ⟨fun b o e n hb hx => ?_, fun b o e n hb hx => ?_, fun b o e n hx => ?_, fun b o e hx => ?_, fun b xs e => tups b xs (I.base.tups b xs e), fun b o xs e => frzs b o xs (I.base.frzs b o xs e), fun b ps e => ?_⟩, ?_, fun x c e => ?_, ?_, fun x c e => ?_, fun p hp => ?_, hok, I.len⟩
  · exact keep b o (neL b o e) hb (neC b o e hx) (I.base.keep b o e n hb hx) (I.base.free b o e n hx)
  · obtain ⟨sl, e1⟩ := I.base.slot b o e n hb hx
    obtain ⟨sl', e2⟩ := slot b _ (neL b o e) hb (neC b o e hx) e1 (I.base.free b o e n hx)
    exact ⟨sl', e2⟩
  · obtain ⟨o', e1⟩ := I.base.there b o e hx
    exact free b o' (neC b o e hx) e1 (I.base.free b o e n hx)
  · obtain ⟨o', e1⟩ := I.base.there b o e hx
    exact there b o' (neC b o e hx) e1
  · obtain ⟨m1, e1⟩ := I.base.tbls b ps e
    obtain ⟨m2, e2⟩ := tbls b _ e1
    exact ⟨m1 ++ m2, by rw [e2, Array.append_assoc]⟩
  · obtain ⟨m, hn, hl⟩ := I.loc
    refine ⟨m, ns m hn, fun i x v e1 e2 e3 => ?_⟩
    obtain ⟨u, r, l⟩ := hl i x v e1 e2 e3
    refine ⟨u, r, ?_⟩
    rcases l with l | ⟨k, c, e, z⟩
    · exact .inl l
    · exact .inr ⟨k, c, e, cellK x c e _ z⟩
  · obtain ⟨v, z⟩ := I.cell x c e
    exact ⟨v, cellK x c e v z⟩
  · obtain ⟨m, ⟨o, _, _, ho, _⟩, _⟩ := I.loc
    exact free _ o (fun z => (hch _ z).2.1 rfl) ho I.free
  · obtain ⟨v, o, ho, hd⟩ := I.cell x c e
    exact free c o (fun z => (hch c z).2.2.1 x c e rfl) ho (I.freeC x c e)
  · obtain ⟨e, n, ne, nf, d⟩ := I.pin p hp
    have nch : p.1 ∉ ch := fun z => (hch p.1 z).2.2.2 p hp rfl
    exact ⟨keep p.1 p.2 ne nf nch e n, free p.1 p.2 nch e n, ne, nf, d⟩
/-- .. where the frame's own object is kept too -/
theorem Inv.un {t' : Nat} (I : Inv X pins σ H s) (u : Un X.fs [] H H' s.heap h') (hok : HOk X.prog X.w H' h') : Inv X pins σ H' { s with heap := h', toks := t' } := by
  obtain ⟨m, ⟨o, es, ep, ho, r⟩, _⟩ := id I.loc
  obtain ⟨sl, hL⟩ := u.any ho I.free (by simp)
  exact I.step (g' := s.gens) (d' := s.drawn) (ch := []) (fun _ z => nomatch z) (fun b o _ hb _ e n => u.keep b o e n hb (by simp)) (fun b o _ hb _ e n => u.slot b o e n hb (by simp)) (fun b o _ e n => u.free b o e n (by simp)) (fun b o _ e => u.there b o e (by simp)) u.tups u.frzs u.tbls (fun m' hm => by
    obtain ⟨o', es', ep', ho', r'⟩ := hm
    rw [ho] at ho'; cases ho'
    exact ⟨_, es', ep', hL, r'⟩) hok I.bare
/-- behind a call (or a comprehension's block): the slots of this frame may have changed too, the records at ch may have turned -/
theorem Inv.call {g' : Array GenState} {t' : Nat} {d' : Drawn} {ch : List Addr} (I : Inv X pins σ H s) (u : Un (frs X.stack) ch H H' s.heap h') (hok : HOk X.prog X.w H' h') (hg : AllBare g')
    (hch : ∀ b ∈ ch, (b ∈ X.ex ∨ X.s₀.heap.objs.size ≤ b) ∧ b ≠ X.env.locals ∧ (∀ x c, X.env.cells.lookup x = some c → c ≠ b) ∧ ∀ p ∈ X.pn ++ pins, p.1 ≠ b) :
    Inv X pins σ H' { s with heap := h', gens := g', drawn := d', toks := t' } := by
  obtain ⟨m, ⟨o, es, ep, ho, r⟩, _⟩ := id I.loc
  obtain ⟨sl, hL⟩ := u.any ho I.free fun z => (hch _ z).2.1 rfl
  exact I.step (ch := ch) hch (fun b o hL hb hc e n => u.keep b o e n (fun z => (List.mem_cons.mp (I.stkSub b z)).elim hL hb) hc) (fun b o _ _ hc e n => u.any e n hc) (fun b o hc e n => u.free b o e n hc) (fun b o hc e => u.there b o e hc) u.tups u.frzs u.tbls (fun m' hm => by
    obtain ⟨o', es', ep', ho', r'⟩ := hm
    rw [ho] at ho'; cases ho'
    exact ⟨_, es', ep', hL, r'⟩) hok hg
/-- an untracked record of ours (an iterator) has turned -/
theorem Inv.turned {t' : Nat} {it : Addr} (I : Inv X pins σ H s) (k : ∀ b o, b ≠ it → s.heap.get? b = some o → h'.get? b = some o) (hn : H it = none) (hL : it ≠ X.env.locals)
    (h1 : it ∈ X.ex ∨ X.s₀.heap.objs.size ≤ it) (h2 : ∀ x c, X.env.cells.lookup x = some c → c ≠ it) (h3 : ∀ p ∈ X.pn ++ pins, p.1 ≠ it) : Inv X pins σ H { s with heap := h', toks := t' } := by
  have nit : ∀ b u, H b = some u → b ≠ it := fun b u e z => by rw [z, hn] at e; cases e
  refine I.step (g' := s.gens) (d' := s.drawn) (ch := [it]) (fun b hb => ?_) (fun b o _ _ hc e _ => k b o (fun z => hc (by simp [z])) e) (fun b o _ _ hc e _ => ⟨o.slots, k b o (fun z => hc (by simp [z])) e⟩) (fun _ _ _ _ n => n)
    (fun b o hc e => ⟨o, k b o (fun z => hc (by simp [z])) e⟩) (fun _ _ e => e) (fun _ _ _ e => e) (fun b ps e => ⟨#[], by rw [e]; simp⟩) (fun m hm => ?_) (fun b u e => ?_) I.bare
  · have e : b = it := by simpa using hb
    subst e
    exact ⟨h1, hL, h2, h3⟩
  · obtain ⟨o, es, ep, ho, r⟩ := hm
    exact ⟨o, es, ep, k _ o (Ne.symm hL) ho, r⟩
  · refine (I.hok b u e).stay (fun c v hc q => k c v ?_ q) (fun _ q => q) fun _ _ q => q
    rcases hc with z | z
    · rw [z]; exact nit b u e
    · exact nit c _ z
theorem Inv.tok (I : Inv X pins σ H s) (t : Nat) : Inv X pins σ H { s with toks := t } := I.un (h' := s.heap) (t' := t) Un.refl I.hok
/-- all objects kept -/
theorem Inv.kept {t' : Nat} (I : Inv X pins σ H s) (k : ∀ b u, s.heap.get? b = some u → h'.get? b = some u) : Inv X pins σ H { s with heap := h', toks := t' } := I.un (Un.kept k) (I.hok.kept k)
/-- a new object laid and tracked -/
theorem Inv.laid {a : Addr} {o : HO} {t' : Nat} (I : Inv X pins σ H s) (k : ∀ b u, s.heap.get? b = some u → h'.get? b = some u) (hp : s.heap.objs.size ≤ a) (new : ObjOk X.prog X.w (upd H a o) h' a o) :
    Inv X pins σ (upd H a o) { s with heap := h', toks := t' } := I.un (Un.laid k hp (I.hok.fresh hp)) (I.hok.laid k hp new)
/-- an object written -/
theorem Inv.write {x e : Addr} {o : HO} {t' : Nat} (I : Inv X pins σ H s) (mu : Mut (H x)) (he : e = x ∨ H e = some (.own x)) (k : ∀ b u, b ≠ e → s.heap.get? b = some u → h'.get? b = some u) (heo : ∃ u, h'.get? e = some u)
    (new : ObjOk X.prog X.w (upd H x o) h' x o) : Inv X pins σ (upd H x o) { s with heap := h', toks := t' } := I.un (Un.write mu he k heo) (I.hok.write mu he k heo new)
theorem Inv.pins_of {pins' : List (Addr × Obj)} (I : Inv X pins σ H s) (h : ∀ p ∈ pins', s.heap.get? p.1 = some p.2 ∧ H p.1 = none ∧ p.1 ≠ X.env.locals ∧ p.1 ∉ X.fs ∧ ∀ v, p.2.data ≠ .cell v) : Inv X pins' σ H s :=
  ⟨I.ok, I.os, I.bare, I.base, I.loc, I.cell, I.free, I.freeC, fun p hp => (List.mem_append.mp hp).elim (fun z => I.pin p (List.mem_append_left _ z)) (h p), I.hok, I.len⟩
theorem nodup_ix {N : List Str} (hN : N.Nodup) {i j : Nat} {x : Str} (a : N[i]? = some x) (b : N[j]? = some x) : i = j := by
  obtain ⟨h1, e1⟩ := List.getElem?_eq_some_iff.mp a
  obtain ⟨h2, e2⟩ := List.getElem?_eq_some_iff.mp b
  exact (List.getElem_inj hN).mp (e1.trans e2.symm)
/-- a name is stored; what changed -/
theorem store_ok2 {M : Model} {A : Around} {E : Value → Shared → Prop} {i : Nat} {x : Str} {v : V} {u : Value} {Q : Unit → Shared → Prop} (I : Inv X pins σ H s) (hN : X.N.Nodup) (hi : X.N[i]? = some x) (hx : Loc X.env.scope x) (r : RelV v u)
    (h : ∀ s', Inv X pins (σ.set i (some v)) H s' → (∃ a, Heap.SameBut a s.heap s'.heap ∧ (a = X.env.locals ∨ X.env.cells.lookup x = some a)) → Q () s') (hf : X.fn x = true ∨ X.env.scope.names.lookup x = some .local := by first | exact .inl rfl | exact .inr rfl | assumption) : wpAny M A (storeName X.env x u) Q E s := by
  obtain ⟨m, hn, hl⟩ := id I.loc
  have hcls : (X.env.scope.kind == .class || (X.env.scope.kind == .module && X.env.locals != X.env.globals)) = false := by rw [I.ok.kind]; rfl
  have hiσ : i < σ.length := by rw [I.len]; exact (List.getElem?_eq_some_iff.mp hi).1
  have cne := I.cne
  have tracked : ∀ {a : Addr} {h' : Heap}, (∃ o, s.heap.get? a = some o ∧ H a = none) → Heap.SameBut a s.heap h' → HOk X.prog X.w H h' := fun {a h'} ha hs b ob e => by
    obtain ⟨_, _, hfree⟩ := ha
    refine (I.hok b ob e).stay (fun c w' hc q => (hs.2 c ?_).trans q) (fun _ q => q) fun _ _ q => q
    rintro rfl
    rcases hc with rfl | hc
    · rw [hfree] at e; cases e
    · rw [hfree] at hc; cases hc
  rcases hx with hk | hk
  · refine wpAny_storeName_local hk hn (fun h' hn' hs => ?_) hcls
    obtain ⟨oL, _, _, hoL, _⟩ := id hn
    refine h _ ⟨I.ok, I.os, I.bare, ⟨fun b o e n hb hx => ?_, fun b o e n hb hx => ?_, I.base.free, fun b o e hx => ?_, I.base.tups, I.base.frzs, I.base.tbls⟩, ⟨_, hn', fun j y v' e1 e2 e3 => ?_⟩, fun y c e => ?_, I.free, I.freeC, fun p hp => ?_, tracked ⟨oL, hoL, I.free⟩ hs, by simpa using I.len⟩ ⟨_, hs, .inl rfl⟩
    · exact (hs.2 b (Nat.ne_of_lt (Nat.lt_of_lt_of_le (Heap.lt_size e) I.ok.above))).trans (I.base.keep b o e n hb hx)
    · obtain ⟨sl, e1⟩ := I.base.slot b o e n hb hx
      exact ⟨sl, (hs.2 b (Nat.ne_of_lt (Nat.lt_of_lt_of_le (Heap.lt_size e) I.ok.above))).trans e1⟩
    · obtain ⟨o', e1⟩ := I.base.there b o e hx
      exact ⟨o', (hs.2 b (Nat.ne_of_lt (Nat.lt_of_lt_of_le (Heap.lt_size e) I.ok.above))).trans e1⟩
    · by_cases hj : j = i
      · subst hj
        rw [hi] at e1; cases e1
        rw [List.getElem?_set_self hiσ] at e2
        cases e2
        exact ⟨u, r, .inl ⟨hk, by simp⟩⟩
      · rw [List.getElem?_set_ne (Ne.symm hj)] at e2
        obtain ⟨u', r', q⟩ := hl j y v' e1 e2 e3
        refine ⟨u', r', ?_⟩
        rcases q with ⟨k, e⟩ | ⟨k, c, e, z⟩
        · refine .inl ⟨k, ?_⟩
          have : y ≠ x := fun e => hj (nodup_ix hN e1 (e ▸ hi))
          simp [this, e]
        · exact .inr ⟨k, c, e, z.sameBut hs (cne y c e)⟩
    · obtain ⟨w', z⟩ := I.cell y c e
      exact ⟨w', z.sameBut hs (cne y c e)⟩
    · obtain ⟨e, n, ne, nf, d⟩ := I.pin p hp
      exact ⟨(hs.2 p.1 ne).trans e, n, ne, nf, d⟩
  · have hfn : X.fn x = true := by
      rcases hf with z | z
      · exact z
      · rw [z] at hk; cases hk
    obtain ⟨c, hc⟩ := I.ok.has x (.inl hk)
    obtain ⟨w', z⟩ := I.cell x c hc
    refine wpAny_storeName_cell I.ok.kind hk hc z (fun h' hc' hs => ?_)
    obtain ⟨oc, hoc, hocd⟩ := id z
    refine h { s with heap := h' } ⟨I.ok, I.os, I.bare, ⟨fun b o e n hb hx => ?_, fun b o e n hb hx => ?_, I.base.free, fun b o e hx => ?_, I.base.tups, I.base.frzs, I.base.tbls⟩, ⟨m, hn.sameBut hs (Ne.symm (cne x c hc)), fun j y v' e1 e2 e3 => ?_⟩, fun y c' e => ?_, I.free, I.freeC, fun p hp => ?_, tracked ⟨oc, hoc, I.freeC x c hc⟩ hs, by simpa using I.len⟩ ⟨c, hs, .inr hc⟩
    · exact (hs.2 b (Nat.ne_of_lt (Nat.lt_of_lt_of_le (Heap.lt_size e) (I.ok.cab x c hfn hc)))).trans (I.base.keep b o e n hb hx)
    · obtain ⟨sl, e1⟩ := I.base.slot b o e n hb hx
      exact ⟨sl, (hs.2 b (Nat.ne_of_lt (Nat.lt_of_lt_of_le (Heap.lt_size e) (I.ok.cab x c hfn hc)))).trans e1⟩
    · obtain ⟨o', e1⟩ := I.base.there b o e hx
      exact ⟨o', (hs.2 b (Nat.ne_of_lt (Nat.lt_of_lt_of_le (Heap.lt_size e) (I.ok.cab x c hfn hc)))).trans e1⟩
    · by_cases hj : j = i
      · subst hj
        rw [hi] at e1; cases e1
        rw [List.getElem?_set_self hiσ] at e2
        cases e2
        exact ⟨u, r, .inr ⟨.inl hk, c, hc, hc'⟩⟩
      · rw [List.getElem?_set_ne (Ne.symm hj)] at e2
        obtain ⟨u', r', q⟩ := hl j y v' e1 e2 e3
        refine ⟨u', r', ?_⟩
        rcases q with q | ⟨k, c', e, z'⟩
        · exact .inl q
        · refine .inr ⟨k, c', e, z'.sameBut hs ?_⟩
          rintro rfl
          exact hj (nodup_ix hN e1 (I.ok.inj _ _ _ e hc ▸ hi))
    · by_cases hcc : c' = c
      · subst hcc; exact ⟨_, hc'⟩
      · obtain ⟨w2, z2⟩ := I.cell y c' e
        exact ⟨w2, z2.sameBut hs hcc⟩
    · obtain ⟨e, n, ne, nf, d⟩ := I.pin p hp
      refine ⟨(hs.2 p.1 ?_).trans e, n, ne, nf, d⟩
      intro q
      rw [q, hoc] at e
      have q' : oc = p.2 := Option.some.inj e
      exact d w' (by rw [← q']; exact hocd)
theorem store_ok {M : Model} {A : Around} {E : Value → Shared → Prop} {i : Nat} {x : Str} {v : V} {u : Value} {Q : Unit → Shared → Prop} (I : Inv X pins σ H s) (hN : X.N.Nodup) (hi : X.N[i]? = some x) (hx : Loc X.env.scope x) (r : RelV v u)
    (h : ∀ s', Inv X pins (σ.set i (some v)) H s' → Q () s') (hf : X.fn x = true ∨ X.env.scope.names.lookup x = some .local := by first | exact .inl rfl | exact .inr rfl | assumption) : wpAny M A (storeName X.env x u) Q E s :=
  store_ok2 I hN hi hx r (fun s' I' _ => h s' I') hf
/-- behind a call or a block, the state as it is -/
theorem Inv.call' {s' : Shared} {ch : List Addr} (I : Inv X pins σ H s) (ho : s'.os = s.os) (u : Un (frs X.stack) ch H H' s.heap s'.heap) (hok : HOk X.prog X.w H' s'.heap) (hg : AllBare s'.gens)
    (hch : ∀ b ∈ ch, (b ∈ X.ex ∨ X.s₀.heap.objs.size ≤ b) ∧ b ≠ X.env.locals ∧ (∀ x c, X.env.cells.lookup x = some c → c ≠ b) ∧ ∀ p ∈ X.pn ++ pins, p.1 ≠ b) : Inv X pins σ H' s' := by
  obtain ⟨h', g', d', t', o'⟩ := s'
  have e : o' = s.os := ho
  subst e
  exact I.call (g' := g') (t' := t') (d' := d') u hok hg hch
end
/-- an exception: its class, its own dict's address (where it has one), the abstract heap behind it -/
abbrev XK := Value → Option Addr → Hp → Prop
abbrev St := List (Option V)
abbrev VK := V → Hp → Prop
/-- an expression's reading; a test's; an argument list's -/
abbrev TE := St → Hp → VK → Prop
abbrev TT := St → Hp → (Bool → Hp → Prop) → Prop
abbrev TA := St → Hp → (List V → Hp → Prop) → Prop
/-- what is wanted behind a statement -/
structure Ends where
  nx : St → Hp → Prop
  rt : VK
  bk : St → Hp → Prop := fun _ _ => False
  ct : St → Hp → Prop := fun _ _ => False
abbrev TS := Ends → St → Hp → Prop
inductive EP (X : Cx) (pins : List (Addr × Obj)) (σ : St) (Q : VK) (u : Value) (s' : Shared) : Prop
  | mk : ∀ v H', Inv X pins σ H' s' → RelV v u → Q v H' → EP X pins σ Q u s'
inductive TP (X : Cx) (pins : List (Addr × Obj)) (σ : St) (Q : Bool → Hp → Prop) (b : Bool) (s' : Shared) : Prop
  | mk : ∀ H', Inv X pins σ H' s' → Q b H' → TP X pins σ Q b s'
inductive AP (X : Cx) (pins : List (Addr × Obj)) (σ : St) (Q : List V → Hp → Prop) (us : List Value) (s' : Shared) : Prop
  | mk : ∀ vs H', Inv X pins σ H' s' → Vals vs us → Q vs H' → AP X pins σ Q us s'
inductive SPn (X : Cx) (pins : List (Addr × Obj)) (N : St → Hp → Prop) (s' : Shared) : Prop
  | mk : ∀ σ' H', Inv X pins σ' H' s' → N σ' H' → SPn X pins N s'
inductive SPr (X : Cx) (pins : List (Addr × Obj)) (N : VK) (u : Value) (s' : Shared) : Prop
  | mk : ∀ v σ' H', Inv X pins σ' H' s' → RelV v u → N v H' → SPr X pins N u s'
def SP (X : Cx) (pins : List (Addr × Obj)) (D : Ends) (f : Flow) (s' : Shared) : Prop :=
  match f with
  | .next => SPn X pins D.nx s'
  | .brk => SPn X pins D.bk s'
  | .cont => SPn X pins D.ct s'
  | .ret u => SPr X pins D.rt u s'
def PE (X : Cx) (e : Expr) (t : TE) : Prop :=
  ∀ (pins : List (Addr × Obj)) (s : Shared) (σ : St) (H : Hp) (Q : VK), Inv X pins σ H s → t σ H Q → wpAny (model X.prog X.w) X.A (eval e X.env) (EP X pins σ Q) X.xe s
def PT (X : Cx) (e : Expr) (t : TT) : Prop :=
  ∀ (pins : List (Addr × Obj)) (s : Shared) (σ : St) (H : Hp) (Q : Bool → Hp → Prop), Inv X pins σ H s → t σ H Q → wpAny (model X.prog X.w) X.A (isTrue e X.env (eval e X.env)) (TP X pins σ Q) X.xe s
/-- a test whatever its 'whole' is (and, or) -/
def PW (X : Cx) (e : Expr) (t : TT) : Prop :=
  ∀ (whole : Sem Value) (pins : List (Addr × Obj)) (s : Shared) (σ : St) (H : Hp) (Q : Bool → Hp → Prop), Inv X pins σ H s → t σ H Q → wpAny (model X.prog X.w) X.A (isTrue e X.env whole) (TP X pins σ Q) X.xe s
theorem PW.pt {X : Cx} {e : Expr} {t : TT} (h : PW X e t) : PT X e t := h _
/-- an argument list (no star), from the left -/
def PA (X : Cx) (es : List Expr) (t : TA) : Prop :=
  ∀ (pos : Pos) (pins : List (Addr × Obj)) (s : Shared) (σ : St) (H : Hp) (Q : List V → Hp → Prop), Inv X pins σ H s → t σ H Q → wpAny (model X.prog X.w) X.A (spliced (backTo pos (starEach es X.env))) (AP X pins σ Q) X.xe s
def PS (X : Cx) (st : Stmt) (t : TS) : Prop :=
  ∀ (pins : List (Addr × Obj)) (s : Shared) (σ : St) (H : Hp) (D : Ends), Inv X pins σ H s → t D σ H → wpAny (model X.prog X.w) X.A (exec st X.env) (SP X pins D) X.xe s
def PSs (X : Cx) (st : List Stmt) (t : TS) : Prop :=
  ∀ (pins : List (Addr × Obj)) (s : Shared) (σ : St) (H : Hp) (D : Ends), Inv X pins σ H s → t D σ H → wpAny (model X.prog X.w) X.A (execs st X.env) (SP X pins D) X.xe s
/-- weaken the end -/
theorem thn {α : Type} {t : Sem α} {Q Q' : α → Shared → Prop} {M : Model} {A : Around} {E : Value → Shared → Prop} {s : Shared} (h : wpAny M A t Q E s) (hQ : ∀ a s, Q a s → Q' a s) : wpAny M A t Q' E s := wpAny_mono h hQ fun _ _ x => x
end L2
namespace L2
open PySem PySem.Spec PyProof.Rows
section
variable {X : Cx}
inductive tVar_I (i : Nat) (σ : St) (H : Hp) (Q : VK) : Prop
  | mk : ∀ v, σ[i]? = some (some v) → Q v H → tVar_I i σ H Q
def tVar (i : Nat) : TE := fun σ H Q => tVar_I i σ H Q
def tC (v : V) : TE := fun _ H Q => Q v H
theorem pe_var {i : Nat} {x : Str} {pos : Pos} (hN : X.N[i]? = some x) (hv : Vis X.env.scope x) (hd : (x == ("__debug__" : Str)) = false := by decide) (hcd : (x == ("__classdict__" : Str)) = false := by decide) : PE X (.Name x pos) (tVar i) := by
  intro pins s σ H Q I h
  obtain ⟨v, e, h⟩ := h
  obtain ⟨m, hn, hl⟩ := I.loc
  obtain ⟨u, r, l⟩ := hl i x v hN e hv
  have fin : EP X pins σ Q u s := ⟨v, H, I, r, h⟩
  rcases l with ⟨hk, hm⟩ | ⟨hk, c, hc, hcell⟩
  · exact wpAny_Name (wpAny_loadName_local I.ok.kind hk hn hm fin) hd
  · rcases hk with hk | hk
    · exact wpAny_Name (wpAny_loadName_cell I.ok.kind hk hc hcell fin) hd
    · exact wpAny_Name (wpAny_loadName_free I.ok.kind hk hc hcell fin hcd) hd
theorem pe_int {i j pos} : PE X (.Constant (.int i) j pos) (tC (.int i)) := fun _ _ _ H _ I h => wpAny_Constant_int ⟨.int i, H, I.tok _, ⟨_, rfl⟩, h⟩
theorem pe_bl {b j pos} : PE X (.Constant (.bool b) j pos) (tC (.bl b)) := fun _ _ _ H _ I h => Constant_bool ⟨.bl b, H, I, rfl, h⟩
theorem pe_str {x j pos} : PE X (.Constant (.str x) j pos) (tC (.str x)) := fun _ _ _ H _ I h => Calls.Constant_str ⟨.str x, H, I.tok _, ⟨_, rfl⟩, h⟩
/-- a global name of the def -/
def Gl (X : Cx) (x : Str) : Prop := X.env.kindOf x = some .globalImplicit
theorem ld_glob {E : Value → Shared → Prop} {pins : List (Addr × Obj)} {s : Shared} {σ : St} {H : Hp} {x : Str} {u : Value} {pos : Pos} {Q : Value → Shared → Prop} (I : Inv X pins σ H s) (hg : Gl X x) (hm : X.mg x = some u) (h : Q u s)
    (hd : (x == ("__debug__" : Str)) = false := by decide) : wpAny (model X.prog X.w) X.A (eval (.Name x pos) X.env) Q E s :=
  Calls.Name_function_global I.ok.kind hg (Calls.loadGlobal_global (by rw [I.ok.glob]; exact I.mod.glob.keeps I.bk) hm h) hd
theorem ld_blt {E : Value → Shared → Prop} {pins : List (Addr × Obj)} {s : Shared} {σ : St} {H : Hp} {x : Str} {u : Value} {pos : Pos} {Q : Value → Shared → Prop} (I : Inv X pins σ H s) (hg : Gl X x) (hm : X.mg x = none) (hv : bootBuiltins x = some u) (h : Q u s)
    (hn : x ≠ "__name__" := by decide) (hd : (x == ("__debug__" : Str)) = false := by decide) : wpAny (model X.prog X.w) X.A (eval (.Name x pos) X.env) Q E s := by
  obtain ⟨mb, h1, h2⟩ := I.mod.blt
  exact Calls.Name_function_global I.ok.kind hg (Calls.loadGlobal_builtin (by rw [I.ok.glob]; exact I.mod.glob.keeps I.bk) hm (by rw [I.ok.blt]; exact h1.keeps I.bk) ((h2 x hn).trans hv) h) hd
theorem pe_bltn {x : Str} {v : V} {u : Value} {pos : Pos} (hg : Gl X x) (hm : X.mg x = none) (hv : bootBuiltins x = some u) (r : RelV v u) (hn : x ≠ "__name__" := by decide) (hd : (x == ("__debug__" : Str)) = false := by decide) : PE X (.Name x pos) (tC v) :=
  fun _ _ _ H _ I h => ld_blt I hg hm hv ⟨v, H, I, r, h⟩ hn hd
variable {a b : Expr} {ta tb : TE} {pos : Pos}
def PC (X : Cx) (op : CmpOp) (a b : Expr) (t : TE) : Prop :=
  ∀ (pins : List (Addr × Obj)) (s : Shared) (σ : St) (H : Hp) (Q : VK), Inv X pins σ H s → t σ H Q →
    wpAny (model X.prog X.w) X.A (eval a X.env) (fun v s₁ => wpAny (model X.prog X.w) X.A (eval b X.env) (fun u s₂ => wpAny (model X.prog X.w) X.A (compareOp op v u) (EP X pins σ Q) X.xe s₂) X.xe s₁) X.xe s
/-- a comparison as a value, as a test -/
inductive tB_I (Q : (Bool → Hp → Prop)) (x : V) (H1 : Hp) : Prop
  | mk : ∀ c, x = .bl c → Q c H1 → tB_I Q x H1
def tB (t : TE) : TT := fun σ H Q => t σ H fun x H1 => tB_I Q x H1
theorem pt_cmp {op : CmpOp} {t : TE} (h : PC X op a b t) (h1 : behindInMarks op b = false := by first | exact nobehind _ (by decide) (by decide) | rfl) : PT X (.Compare a [op] [b] pos) (tB t) := by
  intro pins s σ H Q I hw
  refine wpAny_isTrue_Compare1 (thn (h pins s σ H _ I hw) fun v s1 h1 => thn h1 fun u s2 h2 => thn h2 fun c s3 ⟨x, H1, I1, r1, q1⟩ => ?_) h1
  obtain ⟨d, rfl, q⟩ := q1
  cases r1
  exact wpAny_truthy_bool ⟨H1, I1, q⟩
/-- an expression whose value is a bool, as a test -/
theorem pt_val {e : Expr} {t : TE} (h : PE X e t) (he : ∀ whole, isTrue e X.env whole = (do let v ← whole; standAt e.pos; holding [v] (truthy v)) := by intro _; rfl) : PT X e (tB t) := by
  intro pins s σ H Q I hw
  refine isTrue_plain (thn (h pins s σ H _ I hw) fun v s1 ⟨x, H1, I1, r1, q1⟩ => ?_) (he _)
  obtain ⟨d, rfl, q⟩ := q1
  cases r1
  exact wpAny_truthy_bool ⟨H1, I1, q⟩
variable {tA tB' : TT} {rest : List Expr}
def tAnd (t u : TT) : TT := fun σ H Q => t σ H fun c H1 => if c = true then u σ H1 Q else Q false H1
def tOr (t u : TT) : TT := fun σ H Q => t σ H fun c H1 => if c = true then Q true H1 else u σ H1 Q
def tNot (t : TT) : TT := fun σ H Q => t σ H fun c H1 => Q (!c) H1
theorem pw_and1 (ha : PT X a tA) : PW X (.BoolOp .And [a] pos) tA := by
  intro wh pins s σ H Q I h
  refine isTrue_and (thn (ha pins s σ H Q I h) fun c s1 e => ?_)
  cases c with
  | true => exact isTrue_and_nil e
  | false => exact e
theorem pw_or1 (ha : PT X a tA) : PW X (.BoolOp .Or [a] pos) tA := by
  intro wh pins s σ H Q I h
  refine isTrue_or (thn (ha pins s σ H Q I h) fun c s1 e => ?_)
  cases c with
  | false => exact isTrue_or_nil e
  | true => exact e
theorem pw_and (ha : PT X a tA) (hb : PW X (.BoolOp .And (b :: rest) pos) tB') : PW X (.BoolOp .And (a :: b :: rest) pos) (tAnd tA tB') := by
  intro wh pins s σ H Q I h
  refine isTrue_and (thn (ha pins s σ H _ I h) fun c s1 ⟨H1, I1, q1⟩ => ?_)
  cases c with
  | true => exact hb wh pins s1 σ H1 Q I1 q1
  | false => exact ⟨H1, I1, q1⟩
theorem pw_or (ha : PT X a tA) (hb : PW X (.BoolOp .Or (b :: rest) pos) tB') : PW X (.BoolOp .Or (a :: b :: rest) pos) (tOr tA tB') := by
  intro wh pins s σ H Q I h
  refine isTrue_or (thn (ha pins s σ H _ I h) fun c s1 ⟨H1, I1, q1⟩ => ?_)
  cases c with
  | true => exact ⟨H1, I1, q1⟩
  | false => exact hb wh pins s1 σ H1 Q I1 q1
theorem pt_not (ha : PT X a tA) : PT X (.UnaryOp .Not a pos) (tNot tA) := by
  intro pins s σ H Q I h
  exact isTrue_not (thn (ha pins s σ H (fun c H1 => Q (!c) H1) I h) fun c s1 ⟨H1, I1, q1⟩ => ⟨H1, I1, q1⟩)
/-- .. as values (bools) -/
inductive tAndV_I (tb : TE) (σ : St) (Q : VK) (x : V) (H1 : Hp) : Prop
  | mk : ∀ c, x = .bl c → (if c = true then tb σ H1 Q else Q (.bl false) H1) → tAndV_I tb σ Q x H1
def tAndV (ta tb : TE) : TE := fun σ H Q => ta σ H fun x H1 => tAndV_I tb σ Q x H1
theorem pe_one {op} {t : TE} (h : PE X a t) : PE X (.BoolOp op [a] pos) t := fun pins s σ H Q I hw => BoolOp_one (h pins s σ H Q I hw)
theorem pe_and (ha : PE X a ta) (hb : PE X (.BoolOp .And (b :: rest) pos) tb) : PE X (.BoolOp .And (a :: b :: rest) pos) (tAndV ta tb) := by
  intro pins s σ H Q I h
  refine BoolOp_and (thn (ha pins s σ H _ I h) fun v s1 ⟨x, H1, I1, r1, q1⟩ => ?_)
  obtain ⟨c, rfl, q1⟩ := q1
  cases r1
  refine wpAny_truthy_bool ?_
  cases c with
  | true => exact hb pins s1 σ H1 Q I1 q1
  | false => exact ⟨.bl false, H1, I1, rfl, q1⟩
end
end L2
namespace L2
open PySem PySem.Spec PyProof.Rows
def SqL (K : PySem.W.Frag) (H : Hp) (a : Addr) (xs : List V) : Prop :=
  Rd H a (.lst xs) ∨
    ∃ (o : Obj) (its : Array Value) (n : Nat), K.lookup a = some o ∧ o.cls = .type "list" ∧ o.dict = none ∧ o.data = .seq its n ∧ its.size ≤ sizeLine ∧ Vals xs its.toList
def SqT (K : PySem.W.Frag) (H : Hp) (a : Addr) (xs : List V) : Prop :=
  Rd H a (.tup xs) ∨
    ∃ (o : Obj) (its : Array Value) (n : Nat), K.lookup a = some o ∧ o.cls = .type "tuple" ∧ o.data = .seq its n ∧ its.size ≤ sizeLine ∧ Vals xs its.toList
def absV : Value → Option V
  | .none => some .non
  | .bool b => some (.bl b)
  | .int i _ => some (.int i)
  | .str x _ => some (.str x)
  | .bytes b _ => some (.byt b)
  | .float b _ => some (.flt b)
  | .ref a => some (.ref a)
  | .type n => some (.ty n)
  | _ => none
theorem RelV.abs {x : V} {u : Value} (r : RelV x u) : absV u = some x := by
  cases x with
  | non => cases r; rfl
  | bl _ => cases r; rfl
  | int _ => obtain ⟨t, rfl⟩ := r; rfl
  | str _ => obtain ⟨t, rfl⟩ := r; rfl
  | byt _ => obtain ⟨t, rfl⟩ := r; rfl
  | flt _ => obtain ⟨t, rfl⟩ := r; rfl
  | ref _ => cases r; rfl
  | ty _ => cases r; rfl
theorem RelV.inj {x y : V} {u : Value} (r : RelV x u) (q : RelV y u) : x = y := Option.some.inj (r.abs.symm.trans q.abs)
theorem Vals.inj : ∀ {xs ys : List V} {us : List Value}, Vals xs us → Vals ys us → xs = ys
  | _, _, _, .nil, .nil => rfl
  | _, _, _, .cons r t, .cons r' t' => by rw [r.inj r', Vals.inj t t']
section
variable {X : Cx} {pins : List (Addr × Obj)} {σ : St} {H : Hp} {s : Shared} {a : Addr} {xs ys : List V}
theorem SqL.of {K : PySem.W.Frag} (h : H a = some (.lst xs)) : SqL K H a xs := .inl (.inl h)
theorem SqT.of {K : PySem.W.Frag} (h : H a = some (.tup xs)) : SqT K H a xs := .inl (.inl h)
theorem Inv.list (I : Inv X pins σ H s) (h : SqL X.K H a xs) : ∃ its : List Value, Vals xs its ∧ PlainL s.heap a its.toArray ∧ xs.length ≤ sizeLine := by
  rcases h with h | ⟨o, its, n, hk, hc, hd, hs, hz, r⟩
  · obtain ⟨z, its, n, r, e⟩ := h.ok I.hok
    exact ⟨its, r, ⟨_, n, e, rfl, rfl, rfl⟩, z⟩
  · refine ⟨its.toList, r, ⟨o, n, I.kIn a o hk, hc, hd, by simpa using hs⟩, ?_⟩
    have e := r.length
    simp only [Array.length_toList] at e
    omega
theorem Inv.tuple (I : Inv X pins σ H s) (h : SqT X.K H a xs) : ∃ its : List Value, Vals xs its ∧ IsTup s.heap a its.toArray ∧ xs.length ≤ sizeLine := by
  rcases h with h | ⟨o, its, n, hk, hc, hs, hz, r⟩
  · obtain ⟨z, its, r, p⟩ := h.ok I.hok
    exact ⟨its, r, p, z⟩
  · refine ⟨its.toList, r, ⟨o, I.kIn a o hk, hc, n, by simpa using hs⟩, ?_⟩
    have e := r.length
    simp only [Array.length_toList] at e
    omega
theorem Inv.list_inj (I : Inv X pins σ H s) (h : SqL X.K H a xs) (h' : SqL X.K H a ys) : xs = ys := by
  obtain ⟨its, r, ⟨o, n, e, _, _, d⟩, _⟩ := I.list h
  obtain ⟨its', r', ⟨o', n', e', _, _, d'⟩, _⟩ := I.list h'
  rw [e] at e'; cases e'
  rw [d] at d'
  injection d' with d1 _
  have : its = its' := by simpa using congrArg Array.toList d1
  subst this
  exact r.inj r'
end
abbrev Cx.wish (X : Cx) (E : Value → Shared → Prop) : Cx := { X with xe := E }
/-- no exception leaves -/
abbrev Cx.nox (X : Cx) : Cx := X.wish fun _ _ => False
theorem Cx.Ok.wish {X : Cx} (ok : X.Ok) (E : Value → Shared → Prop) : (X.wish E).Ok :=
  ⟨ok.mod, ok.kind, ok.glob, ok.blt, ok.above, ok.inj, ok.has, ok.cab, ok.hd, ok.frames, ok.stk, ok.exf, ok.bs, ok.bsz, ok.noex, ok.exfs, ok.funs, ok.frf⟩
theorem Cx.Ok.unwish {X : Cx} {E : Value → Shared → Prop} (ok : (X.wish E).Ok) : X.Ok :=
  ⟨ok.mod, ok.kind, ok.glob, ok.blt, ok.above, ok.inj, ok.has, ok.cab, ok.hd, ok.frames, ok.stk, ok.exf, ok.bs, ok.bsz, ok.noex, ok.exfs, ok.funs, ok.frf⟩
section
variable {X : Cx} {pins : List (Addr × Obj)} {σ : St} {H : Hp} {s : Shared} {E : Value → Shared → Prop}
theorem Inv.wish (I : Inv X pins σ H s) (E : Value → Shared → Prop) : Inv (X.wish E) pins σ H s := ⟨I.ok.wish E, I.os, I.bare, I.base, I.loc, I.cell, I.free, I.freeC, I.pin, I.hok, I.len⟩
theorem Inv.unwish (I : Inv (X.wish E) pins σ H s) : Inv X pins σ H s := ⟨I.ok.unwish, I.os, I.bare, I.base, I.loc, I.cell, I.free, I.freeC, I.pin, I.hok, I.len⟩
theorem SP.unwish {D : Ends} {f : Flow} {s' : Shared} (h : SP (X.wish E) pins D f s') : SP X pins D f s' := by
  cases f with
  | next => obtain ⟨σ', H', I, q⟩ := h; exact ⟨σ', H', I.unwish, q⟩
  | brk => obtain ⟨σ', H', I, q⟩ := h; exact ⟨σ', H', I.unwish, q⟩
  | cont => obtain ⟨σ', H', I, q⟩ := h; exact ⟨σ', H', I.unwish, q⟩
  | ret u => obtain ⟨v, σ', H', I, r, q⟩ := h; exact ⟨v, σ', H', I.unwish, r, q⟩
theorem PSs.nox {st : List Stmt} {t : TS} (h : PSs X.nox st t) : PSs X st t := fun pins s σ H D I hw =>
  wpAny_mono (h pins s σ H D (I.wish _) hw) (fun _ _ q => q.unwish) fun _ _ z => False.elim z
end
section
variable {X : Cx} {st : Stmt} {rest : List Stmt} {t u : TS} {e : Expr} {te : TE} {pos : Pos}
def tNext : TS := fun D σ H => D.nx σ H
def tSeq (t u : TS) : TS := fun D σ H => t { D with nx := u D } σ H
theorem pss_nil : PSs X [] tNext := fun _ _ σ H _ I h => wpAny_execs_nil ⟨σ, H, I, h⟩
theorem pss_cons (h1 : PS X st t) (h2 : PSs X rest u) : PSs X (st :: rest) (tSeq t u) := by
  intro pins s σ H D I h
  refine wpAny_execs_cons (thn (h1 pins s σ H { D with nx := u D } I h) fun f s1 q => ?_)
  cases f with
  | next =>
    obtain ⟨σ', H', I', q⟩ := q
    exact h2 pins s1 σ' H' D I' q
  | ret v => exact q
  | brk => exact q
  | cont => exact q
theorem pss_one (h1 : PS X st t) : PSs X [st] t := by
  intro pins s σ H D I h
  refine wpAny_execs_cons (thn (h1 pins s σ H D I h) fun f s1 q => ?_)
  cases f with
  | next => exact wpAny_execs_nil q
  | ret v => exact q
  | brk => exact q
  | cont => exact q
/-- in a def's body nothing is shown -/
theorem Inv.quiet {pins : List (Addr × Obj)} {σ : St} {H : Hp} {s : Shared} (I : Inv X pins σ H s) : interactive X.env = false := by simp [interactive, I.ok.kind]
/-- an expression whose value is dropped -/
def tDrop (te : TE) : TS := fun D σ H => te σ H fun _ H1 => D.nx σ H1
theorem ps_expr (he : PE X e te) (hs : swapsWith e none pos.line X.env = pure false := by rfl) : PS X (.Expr e pos) (tDrop te) := by
  intro pins s σ H D I h
  exact wpAny_Expr_any (thn (he pins s σ H _ I h) fun v s1 ⟨x, H1, I1, r1, q1⟩ => ⟨σ, H1, I1, q1⟩) I.quiet hs
def tRet (te : TE) : TS := fun D σ H => te σ H D.rt
theorem ps_ret (he : PE X e te) : PS X (.Return (some e) pos) (tRet te) := by
  intro pins s σ H D I h
  exact wpAny_Return_some (thn (he pins s σ H _ I h) fun v s1 ⟨x, H1, I1, r1, q1⟩ => ⟨x, σ, H1, I1, r1, q1⟩)
def tIfS (c : TT) (t u : TS) : TS := fun D σ H => c σ H fun b H1 => if b = true then t D σ H1 else u D σ H1
theorem ps_if {c : Expr} {a b : List Stmt} {tc : TT} (hc : PT X c tc) (ha : PSs X a t) (hb : PSs X b u) : PS X (.If c a b pos) (tIfS tc t u) := by
  intro pins s σ H D I h
  refine wpAny_If (thn (hc pins s σ H _ I h) fun d s1 ⟨H1, I1, q1⟩ => ?_)
  cases d with
  | true => exact ha pins s1 σ H1 D I1 q1
  | false => exact hb pins s1 σ H1 D I1 q1
/-- code that the proof never comes to -/
def tNever : TS := fun _ _ _ => False
theorem ps_never : PS X st tNever := fun _ _ _ _ _ _ h => h.elim
end
abbrev TG := V → St → Hp → (St → Hp → Prop) → Prop
abbrev TGs := List V → St → Hp → (St → Hp → Prop) → Prop
def PG (X : Cx) (target : Expr) (t : TG) : Prop :=
  ∀ (pins : List (Addr × Obj)) (s : Shared) (σ : St) (H : Hp) (v : V) (u : Value) (Q : St → Hp → Prop), Inv X pins σ H s → RelV v u → t v σ H Q →
    wpAny (model X.prog X.w) X.A (assign target X.env u) (fun _ s' => ∃ σ' H', Inv X pins σ' H' s' ∧ Q σ' H') X.xe s
/-- several targets, one after another -/
def PGs (X : Cx) (ts : List Expr) (t : TGs) : Prop :=
  ∀ (pins : List (Addr × Obj)) (s : Shared) (σ : St) (H : Hp) (vs : List V) (us : List Value) (Q : St → Hp → Prop), Inv X pins σ H s → Vals vs us → t vs σ H Q →
    wpAny (model X.prog X.w) X.A (assignInOrder ((assignEach ts X.env).map (·.2)) us) (fun _ s' => ∃ σ' H', Inv X pins σ' H' s' ∧ Q σ' H') X.xe s
section
variable {X : Cx} {pos : Pos}
def gName (i : Nat) : TG := fun v σ H Q => Q (σ.set i (some v)) H
theorem pg_name {i : Nat} {x : Str} (hN : X.N.Nodup) (hi : X.N[i]? = some x) (hx : Loc X.env.scope x) (hf : X.fn x = true ∨ X.env.scope.names.lookup x = some .local := by first | exact .inl rfl | exact .inr rfl | assumption) : PG X (.Name x pos) (gName i) := by
  intro pins s σ H v u Q I r h
  exact wpAny_assign_Name (store_ok I hN hi hx r (fun s' I' => ⟨_, H, I', h⟩) hf)
def gNil : TGs := fun vs σ H Q => vs = [] ∧ Q σ H
def gCons (t : TG) (u : TGs) : TGs := fun vs σ H Q => ∃ v r, vs = v :: r ∧ t v σ H fun σ' H' => u r σ' H' Q
theorem pgs_nil : PGs X [] gNil := by
  intro pins s σ H vs us Q I r h
  obtain ⟨e, h⟩ := h
  subst e
  cases r
  exact assignInOrder_nil ⟨σ, H, I, h⟩
theorem pgs_cons {e : Expr} {es : List Expr} {t : TG} {u : TGs} (h1 : PG X e t) (h2 : PGs X es u)
    (hs : (assignEach (e :: es) X.env).map (·.2) = assign e X.env :: (assignEach es X.env).map (·.2) := by rfl) : PGs X (e :: es) (gCons t u) := by
  intro pins s σ H vs us Q I r h
  obtain ⟨v, vr, e1, h⟩ := h
  subst e1
  cases r with
  | cons r rr =>
    rw [hs]
    refine assignInOrder_cons (thn (h1 pins s σ H _ _ _ I r h) fun _ s1 ⟨σ1, H1, I1, q1⟩ => ?_)
    exact h2 pins s1 σ1 H1 _ _ Q I1 rr q1
/-- (a, b, ..) = a tuple of that length -/
def gTup (K : PySem.W.Frag) (n : Nat) (t : TGs) : TG := fun v σ H Q => ∃ a xs, v = .ref a ∧ SqT K H a xs ∧ xs.length = n ∧ t xs σ H Q
theorem pg_tup {es : List Expr} {k : Nat} {t : TGs} {n : Nat} (hc : X.calm = true) (h : PGs X es t)
    (hn : (assignEach es X.env).length = n := by rfl) (hst : (assignEach es X.env).findIdx? (·.1) = none := by rfl) : PG X (.Tuple es k pos) (gTup X.K n t) := by
  intro pins s σ H v u Q I r hw
  obtain ⟨a, xs, e1, hq, hl, hw⟩ := hw
  subst e1
  cases r
  obtain ⟨its, rv, ht, hz⟩ := I.tuple hq
  refine assign_Tuple_tuple (I.ok.hd hc) ht (by simp [hn, ← hl, rv.length]) hst fun h' hx => ?_
  have I1 : Inv X pins σ H { s with heap := h' } := I.kept (t' := s.toks) fun b o e => hx b o (Nat.ne_of_lt (Heap.lt_size e)) e
  exact h pins _ σ H xs _ Q I1 (by simpa using rv) hw
/-- target = value -/
def tAsg (te : TE) (g : TG) : TS := fun D σ H => te σ H fun x H1 => g x σ H1 D.nx
/-- name = value -/
theorem ps_set {i : Nat} {x : Str} {e : Expr} {te : TE} {pos' : Pos} (hN : X.N.Nodup) (hi : X.N[i]? = some x) (hx : Loc X.env.scope x) (he : PE X e te) (hs : swapsWith e (some (.Name x pos')) pos.line X.env = pure false := by rfl) (hf : X.fn x = true ∨ X.env.scope.names.lookup x = some .local := by first | exact .inl rfl | exact .inr rfl | assumption) :
    PS X (.Assign [.Name x pos'] e pos) (tAsg te (gName i)) := by
  intro pins s σ H D I h
  refine wpAny_Assign_Name (thn (he pins s σ H _ I h) fun v s1 ⟨y, H1, I1, r1, q1⟩ => ?_) hs
  exact store_ok I1 hN hi hx r1 (fun s2 I2 => ⟨_, H1, I2, q1⟩) hf
end
section
variable {X : Cx} {pos : Pos}
/-- the invariant W with its measure -/
inductive tWhile_I (c : TT) (tb : TS) (D : Ends) (σ : St) (H : Hp) : Prop
  | mk : ∀ W : Nat → St → Hp → Prop, (∃ m, W m σ H) → (∀ m σ H, W m σ H → c σ H fun b H1 => if b = true then ∃ N : St → Hp → Prop, (∀ σ' H', N σ' H' → ∃ m', m' < m ∧ W m' σ' H') ∧ tb { D with nx := N, ct := N, bk := D.nx } σ H1 else D.nx σ H1) → tWhile_I c tb D σ H
def tWhile (c : TT) (tb : TS) : TS := fun D σ H => tWhile_I c tb D σ H
theorem ps_while {c : Expr} {body : List Stmt} {tc : TT} {tb : TS} (hp : PassesOwn (model X.prog X.w) X.A X.env X.xe) (hc : PT X c tc) (hb : PSs X body tb) : PS X (.While c body [] pos) (tWhile tc tb) := by
  intro pins s σ H D I h
  obtain ⟨W, ⟨m0, w0⟩, turn⟩ := h
  refine wpAny_While (codeAny_whileLoop (fun n s' => ∃ σ' H', Inv X pins σ' H' s' ∧ W n σ' H') ?_ m0 ⟨σ, H, I, w0⟩)
  rintro n s1 ⟨σ1, H1, I1, w1⟩
  refine wpAny_passesOwn hp (thn (hc pins s1 σ1 H1 _ I1 (turn n σ1 H1 w1)) fun b s2 ⟨H2, I2, q2⟩ => ?_)
  cases b with
  | true =>
    obtain ⟨N, hN, q2⟩ := q2
    rw [if_pos rfl]
    refine wpAny_passesOwn hp (thn (hb pins s2 σ1 H2 _ I2 q2) fun f s3 q3 => ?_)
    cases f with
    | next =>
      obtain ⟨σ3, H3, I3, n3⟩ := q3
      obtain ⟨m', hm, w3⟩ := hN σ3 H3 n3
      exact ⟨m', hm, σ3, H3, I3, w3⟩
    | cont =>
      obtain ⟨σ3, H3, I3, n3⟩ := q3
      obtain ⟨m', hm, w3⟩ := hN σ3 H3 n3
      exact ⟨m', hm, σ3, H3, I3, w3⟩
    | brk => exact q3
    | ret v => exact q3
  | false =>
    rw [if_neg Bool.false_ne_true]
    exact wpAny_execs_nil ⟨σ1, H2, I2, q2⟩
end
/-- at turn i: it yields x (the heap may grow), or it stops -/
structure It where
  go : Nat → Hp → Prop
  yld : Nat → Hp → V → Hp → Prop
  stop : Nat → Hp → Prop
/-- the iterator's own objects may turn: they are not the frame's, not pinned, younger than the entry (or a comprehension's own) -/
def FpOk (X : Cx) (pins : List (Addr × Obj)) (H : Hp) (b : Addr) : Prop :=
  H b = none ∧ b ≠ X.env.locals ∧ b ∉ X.fs ∧ (b ∈ X.ex ∨ X.s₀.heap.objs.size ≤ b) ∧ (∀ x c, X.env.cells.lookup x = some c → c ≠ b) ∧ ∀ p ∈ X.pn ++ pins, p.1 ≠ b
theorem Inv.fpOk {X : Cx} {pins : List (Addr × Obj)} {σ : St} {H H' : Hp} {s : Shared} {b : Addr} (I : Inv X pins σ H s) (hb : s.heap.objs.size ≤ b) (hn : H' b = none) : FpOk X pins H' b := by
  refine ⟨hn, Nat.ne_of_gt (Nat.lt_of_lt_of_le I.lt hb), I.nofs hb, .inr (Nat.le_trans I.sz hb), fun x c e z => ?_, fun p hp z => ?_⟩
  · obtain ⟨v, q⟩ := I.cell x c e
    exact absurd (Nat.lt_of_lt_of_le q.lt (by rw [z]; exact hb)) (Nat.lt_irrefl _)
  · exact absurd (Nat.lt_of_lt_of_le (Heap.lt_size (I.pin p hp).1) (by rw [z]; exact hb)) (Nat.lt_irrefl _)
structure Turn (P : Program) (w : World) (K : PySem.W.Frag) (tg : Expr) (J : It) (fp : List Addr) (it : Addr) (tn : Nat → Heap → Prop) : Prop where
  mem : it ∈ fp
  obj : ∀ i h, tn i h → ∀ b ∈ fp, ∃ o, h.get? b = some o ∧ ∀ v, o.data ≠ .cell v
  keep : ∀ i h h', tn i h → (∀ b ∈ fp, ∀ o, h.get? b = some o → h'.get? b = some o) → tn i h'
  item : ∀ (X : Cx), X.prog = P → X.w = w → X.K = K → X.calm = true → ∀ (i : Nat) (pins : List (Addr × Obj)) (s : Shared) (σ : St) (H : Hp) (E : Value → Shared → Prop), Inv X pins σ H s → (∀ b ∈ fp, FpOk X pins H b) → tn i s.heap → J.go i H →
    wpAny (model P w) X.A (pyNext (.ref it)) (fun r s1 => ∃ u, r = some u ∧
      wpAny (model P w) X.A (letOwnedTupleGo tg (.ref it) u) (fun _ s2 => ∃ x H', Inv X pins σ H' s2 ∧ RelV x u ∧ J.yld i H x H' ∧ tn (i + 1) s2.heap ∧ ∀ b ∈ fp, H' b = none) E s1) E s
  done : ∀ (X : Cx), X.prog = P → X.w = w → X.K = K → X.calm = true → ∀ (i : Nat) (pins : List (Addr × Obj)) (s : Shared) (σ : St) (H : Hp) (E : Value → Shared → Prop), Inv X pins σ H s → (∀ b ∈ fp, FpOk X pins H b) → tn i s.heap → J.stop i H →
    wpAny (model P w) X.A (pyNext (.ref it)) (fun r s1 => r = none ∧ Inv X pins σ H s1) E s
  self : ∀ (A : Around) (i : Nat) (s : Shared) (Q : Value → Shared → Prop) (E : Value → Shared → Prop), tn i s.heap → Q (.ref it) s → wpAny (model P w) A (pyIter (.ref it)) Q E s
abbrev TI := St → Hp → (It → Hp → Prop) → Prop
/-- an iterator has come -/
def PIE (X : Cx) (pins : List (Addr × Obj)) (σ : St) (tg : Expr) (R : It → Hp → Prop) (itv : Value) (s2 : Shared) : Prop :=
  ∃ (it : Addr) (fp : List Addr) (tn : Nat → Heap → Prop) (J : It) (H' : Hp), itv = .ref it ∧ Inv X pins σ H' s2 ∧ Turn X.prog X.w X.K tg J fp it tn ∧ tn 0 s2.heap ∧ (∀ b ∈ fp, FpOk X pins H' b) ∧ R J H'
def PI (X : Cx) (tg iter : Expr) (wi : TI) : Prop :=
  ∀ (pins : List (Addr × Obj)) (s : Shared) (σ : St) (H : Hp) (R : It → Hp → Prop), Inv X pins σ H s → wi σ H R →
    wpAny (model X.prog X.w) X.A (eval iter X.env) (fun v s1 => wpAny (model X.prog X.w) X.A (pyIter v) (PIE X pins σ tg R) X.xe s1) X.xe s
/-- the step ahead of the store is nothing for an iterator that keeps no tuple -/
theorem go_of {M : Model} {A : Around} {E : Value → Shared → Prop} {s : Shared} {tg : Expr} {it : Addr} {u : Value} {o : Obj} {n : String} {vs : Array Value} {Q : Unit → Shared → Prop} (ho : s.heap.get? it = some o) (hc : o.cls = .type n) (hd : o.data = .fields vs)
    (hn : ["enumerate", "zip", "dict_itemiterator", "dict_reverseitemiterator", "odict_iterator", "itertools.zip_longest", "itertools.pairwise"].contains n = false) (hQ : Q () s) : wpAny M A (letOwnedTupleGo tg (.ref it) u) Q E s := by
  unfold letOwnedTupleGo
  cases tg <;> first
    | exact wpAny_pure hQ
    | (cases u <;> first
        | exact wpAny_pure hQ
        | (refine wpAny_bind (wpAny_load ho ?_)
           rw [hc, hd]
           show wpAny M A (if (["enumerate", "zip", "dict_itemiterator", "dict_reverseitemiterator", "odict_iterator", "itertools.zip_longest", "itertools.pairwise"].contains n && vs[0]? == some (rawInt _)) = true then _ else _) Q E s
           rw [if_neg (by intro h; rw [hn, Bool.false_and] at h; cases h)]
           exact wpAny_pure hQ))
/-- the list at a, as it stands at each turn (a loop may append to it) -/
def Itl (K : PySem.W.Frag) (a : Addr) : It :=
  ⟨fun i H => ∃ xs x, SqL K H a xs ∧ xs[i]? = some x, fun i H x H' => H' = H ∧ ∀ xs, SqL K H a xs → xs[i]? = some x, fun i H => ∃ xs, SqL K H a xs ∧ xs.length ≤ i⟩
/-- lo, lo + 1, .. (n of them) -/
def Itr (lo : Int) (n : Nat) : It := ⟨fun i _ => i < n, fun i H x H' => H' = H ∧ x = .int (lo + i), fun i _ => n ≤ i⟩
theorem turn_list {P : Program} {w : World} {K : PySem.W.Frag} {tg : Expr} (a it : Addr) : Turn P w K tg (Itl K a) [it] it (fun i h => h.IsListIter it a i) where
  mem := by simp
  obj := fun i h st b hb => by
    have e : b = it := by simpa using hb
    subst e
    obtain ⟨o, e, c, d⟩ := st
    exact ⟨o, e, fun v z => by rw [d] at z; cases z⟩
  keep := fun i h h' st k => st.at fun o e => k it (by simp) o e
  item := by
    intro X hP hw hK hc i pins s σ H E I hf st hg
    subst hP hw hK
    obtain ⟨xs, x, hq, hx⟩ := hg
    obtain ⟨its, rv, p, hz⟩ := I.list hq
    obtain ⟨u, hu, ru⟩ := rv.get hx
    obtain ⟨f0, f1, f2, f3, f4, f5⟩ := hf it (by simp)
    refine wpAny_pyNext_list_item st p.isList (x := u) (by simpa using hu) fun h' st' sb => ?_
    have I1 : Inv X pins σ H { s with heap := h' } := I.turned (t' := s.toks) (fun b o hb e => (sb.2 b hb).trans e) f0 f1 f3 f4 f5
    obtain ⟨o, e, c, d⟩ := id st'
    exact ⟨u, rfl, go_of (s := { s with heap := h' }) e c d (by decide) ⟨x, H, I1, ru, ⟨rfl, fun ys hy => by rw [I.list_inj hy hq]; exact hx⟩, st', fun b hb => (hf b hb).1⟩⟩
  done := by
    intro X hP hw hK hc i pins s σ H E I hf st hg
    subst hP hw hK
    obtain ⟨xs, hq, hx⟩ := hg
    obtain ⟨its, rv, p, hz⟩ := I.list hq
    obtain ⟨f0, f1, f2, f3, f4, f5⟩ := hf it (by simp)
    have hl := rv.length
    exact wpAny_pyNext_list_end (I.ok.hd hc) st p.isList (by simp; omega) fun h' eb => ⟨rfl, I.turned (t' := s.toks) (fun b o hb e => eb b o hb e) f0 f1 f3 f4 f5⟩
  self := fun _ _ _ _ _ st h => wpAny_pyIter_listiter st h
theorem turn_range {P : Program} {w : World} {K : PySem.W.Frag} {tg : Expr} (it : Addr) (lo : Int) (n : Nat) : Turn P w K tg (Itr lo n) [it] it (fun i h => IsRangeIter h it (lo + (i : Nat) * 1) ((n : Int) - (i : Nat)) 1) where
  mem := by simp
  obj := fun i h st b hb => by
    have e : b = it := by simpa using hb
    subst e
    exact ⟨_, st, fun v z => by
      have z' : Data.fields _ = Data.cell v := z
      cases z'⟩
  keep := fun i h h' st k => k it (by simp) _ st
  item := by
    intro X hP hw hK hc i pins s σ H E I hf st hg
    subst hP hw hK
    obtain ⟨f0, f1, f2, f3, f4, f5⟩ := hf it (by simp)
    have W := Walks.range (prog := X.prog) (w := X.w) (I.ok.hd hc) it lo 1 n
    refine W.item i s _ _ hg st fun v h' tk hv st' kk => ?_
    obtain ⟨t, rfl⟩ := hv
    have I1 : Inv X pins σ H { s with heap := h', toks := tk } := I.turned (fun b o hb e => kk b o (by simpa using hb) e) f0 f1 f3 f4 f5
    refine ⟨_, rfl, go_of (s := { s with heap := h', toks := tk }) (n := "range_iterator") st' rfl rfl (by decide) ⟨.int (lo + i), H, I1, ⟨t, ?_⟩, ⟨rfl, rfl⟩, st', fun b hb => (hf b hb).1⟩⟩
    rw [Int.mul_one]
  done := by
    intro X hP hw hK hc i pins s σ H E I hf st hg
    subst hP hw hK
    obtain ⟨f0, f1, f2, f3, f4, f5⟩ := hf it (by simp)
    exact wpAny_pyNext_range_end (I.ok.hd hc) st (by have : n ≤ i := hg; omega) fun h' eb => ⟨rfl, I.turned (t' := s.toks) (fun b o hb e => eb b o hb e) f0 f1 f3 f4 f5⟩
  self := fun _ _ _ _ _ st h => wpAny_pyIter_rangeiter st h
end L2
namespace L2
open PySem PySem.Spec PyProof.Rows
section
variable {X : Cx} {tg : Expr}
inductive iList_I (K : PySem.W.Frag) (R : (It → Hp → Prop)) (x : V) (H1 : Hp) : Prop
  | mk : ∀ a, x = .ref a → (∃ xs, SqL K H1 a xs) → R (Itl K a) H1 → iList_I K R x H1
def iList (K : PySem.W.Frag) (tl : TE) : TI := fun σ H R => tl σ H fun x H1 => iList_I K R x H1
theorem pi_list {l : Expr} {tl : TE} (hl : PE X l tl) : PI X tg l (iList X.K tl) := by
  intro pins s σ H R I h
  refine thn (hl pins s σ H _ I h) fun v s1 ⟨x, H1, I1, r1, q1⟩ => ?_
  obtain ⟨a, e, ⟨xs, hq⟩, q⟩ := q1
  subst e
  cases r1
  obtain ⟨its, rv, p, hz⟩ := I1.list hq
  refine wpAny_pyIter_list p.isList ?_
  refine ⟨s1.heap.objs.size, [s1.heap.objs.size], _, _, H1, rfl, I1.kept (t' := s1.toks) fun b o e => Heap.get?_push_of_some _ e, turn_list a _, ⟨_, Heap.get?_push_size _ rfl, rfl, rfl⟩, fun b hb => ?_, q⟩
  have e : b = s1.heap.objs.size := by simpa using hb
  subst e
  exact I1.fpOk (Nat.le_refl _) (I1.hok.fresh (Nat.le_refl _))
/-- a range object just made, walked -/
theorem range_it {pins : List (Addr × Obj)} {σ : St} {H : Hp} {s : Shared} {R : It → Hp → Prop} {E : Value → Shared → Prop} {lo hi : Int} {t u v : Tok} {tk : Nat} (I : Inv X pins σ H s) (h1 : -(2 ^ 62) ≤ lo) (h2 : lo < 2 ^ 62) (h3 : -(2 ^ 62) ≤ hi) (h4 : hi < 2 ^ 62)
    (q : R (Itr lo (hi - lo).toNat) H) : wpAny (model X.prog X.w) X.A (pyIter (.ref s.heap.objs.size)) (PIE X pins σ tg R) E { s with heap := s.heap.push { cls := .type "range", data := .fields #[.int lo t, .int hi u, .int 1 v] }, toks := tk } := by
  refine wpAny_pyIter_range (IsRange.new ..) (small_one h1 h2 h3 h4) ?_
  have I1 : Inv X pins σ H { s with heap := s.heap.push { cls := .type "range", data := .fields #[.int lo t, .int hi u, .int 1 v] }, toks := tk } := I.kept fun b o e => Heap.get?_push_of_some _ e
  refine ⟨(s.heap.push { cls := .type "range", data := .fields #[.int lo t, .int hi u, .int 1 v] }).objs.size, [(s.heap.push { cls := .type "range", data := .fields #[.int lo t, .int hi u, .int 1 v] }).objs.size], _, _, H, rfl,
    I1.kept (t' := tk) fun b o e => Heap.get?_push_of_some _ e, turn_range _ lo (hi - lo).toNat, ?_, fun b hb => ?_, q⟩
  · have e1 : lo + ((0 : Nat) : Int) * 1 = lo := by simp
    have e2 : (((hi - lo).toNat : Nat) : Int) - ((0 : Nat) : Int) = Builtin.Range.rangeSize lo hi 1 := by rw [rangeSize_one]; split <;> omega
    show IsRangeIter _ _ (lo + ((0 : Nat) : Int) * 1) ((((hi - lo).toNat : Nat) : Int) - ((0 : Nat) : Int)) 1
    rw [e1, e2]
    exact Heap.get?_push_size _ rfl
  · have e : b = (s.heap.push { cls := .type "range", data := .fields #[.int lo t, .int hi u, .int 1 v] }).objs.size := by simpa using hb
    subst e
    exact I1.fpOk (Nat.le_refl _) (I1.hok.fresh (Nat.le_refl _))
inductive iRng1_I (R : (It → Hp → Prop)) (vs : List V) (H1 : Hp) : Prop
  | mk : ∀ j : Int, vs = [.int j] → -(2 ^ 62) ≤ j → j < 2 ^ 62 → R (Itr 0 j.toNat) H1 → iRng1_I R vs H1
def iRng1 (ta : TA) : TI := fun σ H R => ta σ H fun vs H1 => iRng1_I R vs H1
theorem pi_range1 {a : Expr} {ta : TA} {p pos : Pos} (hg : Gl X "range") (hm : X.mg "range" = none) (ha : PA X [a] ta) (hs : starEach [a] X.env = [(false, eval a X.env)] := by rfl) : PI X tg (.Call (.Name "range" p) [a] [] pos) (iRng1 ta) := by
  intro pins s σ H R I h
  refine Call_ (ld_blt I hg hm boot_range (PyProof.Rows.callWith_type1 (thn (ha pos pins s σ H _ I h) fun us s1 ⟨vs, H1, I1, r1, q1⟩ => ?_) hs rfl))
  obtain ⟨j, e, q1, q2, q⟩ := q1
  subst e
  cases r1 with
  | cons r rr =>
    cases rr
    obtain ⟨t, rfl⟩ := r
    exact call_range_1 (range_it I1 (by omega) (by omega) q1 q2 (by simpa using q))
/-- W: the invariant by the turn and a measure; N: what the body is to reach -/
inductive tFor_I (g : TG) (tb : TS) (D : Ends) (σ : St) (J : It) (H1 : Hp) : Prop
  | mk : ∀ W : Nat → Nat → St → Hp → Prop, (∃ m, W 0 m σ H1) → (∀ i m σ H, W i m σ H → (J.stop i H ∧ D.nx σ H) ∨ (J.go i H ∧ ∃ N : St → Hp → Prop, (∀ σ' H', N σ' H' → ∃ m', m' < m ∧ W (i + 1) m' σ' H') ∧ ∀ x H', J.yld i H x H' → g x σ H' fun σ2 H2 => tb { D with nx := N, ct := N, bk := D.nx } σ2 H2)) → tFor_I g tb D σ J H1
def tFor (wi : TI) (g : TG) (tb : TS) : TS := fun D σ H => wi σ H fun J H1 => tFor_I g tb D σ J H1
/-- the records at fp as they stand -/
def pinsAt (fp : List Addr) (h : Heap) : List (Addr × Obj) := fp.filterMap fun b => (h.get? b).map fun o => (b, o)
theorem mem_pinsAt {fp : List Addr} {h : Heap} {b : Addr} {o : Obj} (hb : b ∈ fp) (e : h.get? b = some o) : (b, o) ∈ pinsAt fp h := List.mem_filterMap.mpr ⟨b, hb, by rw [e]; rfl⟩
theorem of_pinsAt {fp : List Addr} {h : Heap} {p : Addr × Obj} (hp : p ∈ pinsAt fp h) : p.1 ∈ fp ∧ h.get? p.1 = some p.2 := by
  obtain ⟨b, hb, e⟩ := List.mem_filterMap.mp hp
  cases q : h.get? b with
  | none => rw [q] at e; cases e
  | some o =>
    rw [q] at e
    have e' : (b, o) = p := Option.some.inj e
    subst e'
    exact ⟨hb, q⟩
theorem Inv.pinned {pins : List (Addr × Obj)} {σ : St} {H : Hp} {s : Shared} {fp : List Addr} (I : Inv X pins σ H s) (hf : ∀ b ∈ fp, FpOk X pins H b) (ho : ∀ b ∈ fp, ∃ o, s.heap.get? b = some o ∧ ∀ v, o.data ≠ .cell v) : Inv X (pins ++ pinsAt fp s.heap) σ H s :=
  I.pins_of fun p hp => (List.mem_append.mp hp).elim (fun z => I.pin p (List.mem_append_right _ z)) fun z => by
    obtain ⟨hb, e⟩ := of_pinsAt z
    obtain ⟨f0, f1, f2, _⟩ := hf p.1 hb
    obtain ⟨o, e', d⟩ := ho p.1 hb
    rw [e] at e'; cases e'
    exact ⟨e, f0, f1, f2, d⟩
theorem Inv.unpinned {pins pl : List (Addr × Obj)} {σ : St} {H : Hp} {s : Shared} (I : Inv X (pins ++ pl) σ H s) : Inv X pins σ H s := I.pins_of fun p hp => I.pin p (List.mem_append_right _ (List.mem_append_left _ hp))
theorem ps_for {iter : Expr} {body : List Stmt} {wi : TI} {g : TG} {tb : TS} {pos : Pos} (hp : PassesOwn (model X.prog X.w) X.A X.env X.xe) (hc : X.calm = true) (hi : PI X tg iter wi) (hg : PG X tg g) (hb : PSs X body tb)
    (hs : ∀ x, foldedSetIterable iter X.env x = pure x := by intro _; rfl) : PS X (.For tg iter body [] pos) (tFor wi g tb) := by
  intro pins s σ H D I h
  refine wpAny_For (thn (hi pins s σ H _ I h) fun v s1 h1 => thn h1 fun itv s2 h2 => ?_) hs
  obtain ⟨it, fp, tn, J, H2, e, I2, T, st2, f2, W, ⟨m0, w0⟩, turn⟩ := h2
  subst e
  -- what stays true of the iterator's objects through the loop
  have stat : ∀ {H' : Hp}, (∀ b ∈ fp, H' b = none) → ∀ b ∈ fp, FpOk X pins H' b := fun hn b hb => ⟨hn b hb, (f2 b hb).2⟩
  refine codeAny_forLoop_any (fun n s' => ∃ i σ' H', Inv X pins σ' H' s' ∧ tn i s'.heap ∧ (∀ b ∈ fp, H' b = none) ∧ W i n σ' H') ?_ m0 ⟨0, σ, H2, I2, st2, fun b hb => (f2 b hb).1, w0⟩
  rintro n s3 ⟨i, σ3, H3, I3, st3, fr3, w3⟩
  rcases turn i n σ3 H3 w3 with ⟨stop, qn⟩ | ⟨go, N, hN, step⟩
  · refine wpAny_passesOwn hp (thn (T.done X rfl rfl rfl hc i pins s3 σ3 H3 X.xe I3 (stat fr3) st3 stop) fun r s4 ⟨hr, I4⟩ => ?_)
    subst hr
    exact wpAny_execs_nil ⟨σ3, H3, I4, qn⟩
  · refine wpAny_passesOwn hp (thn (T.item X rfl rfl rfl hc i pins s3 σ3 H3 X.xe I3 (stat fr3) st3 go) fun r s4 ⟨u, hr, h4⟩ => ?_)
    subst hr
    refine wpAny_passesOwn hp (thn h4 fun _ s5 ⟨x, H5, I5, r5, y5, st5, fr5⟩ => ?_)
    have I5' := I5.pinned (stat fr5) (T.obj _ _ st5)
    refine wpAny_passesOwn hp (thn (hg _ s5 σ3 H5 x u _ I5' r5 (step x H5 y5)) fun _ s6 ⟨σ6, H6, I6, q6⟩ => ?_)
    refine wpAny_passesOwn hp (thn (hb _ s6 σ6 H6 _ I6 q6) fun f s7 q7 => ?_)
    have again : ∀ {σ7 : St} {H7 : Hp}, Inv X (pins ++ pinsAt fp s5.heap) σ7 H7 s7 → N σ7 H7 → ∃ m, m < n ∧ ∃ i σ' H', Inv X pins σ' H' s7 ∧ tn i s7.heap ∧ (∀ b ∈ fp, H' b = none) ∧ W i m σ' H' := fun {σ7 H7} I7 n7 => by
      obtain ⟨m', hm, w7⟩ := hN σ7 H7 n7
      refine ⟨m', hm, i + 1, σ7, H7, I7.unpinned, T.keep _ _ _ st5 fun b hb o e => (I7.pin (b, o) (List.mem_append_right _ (List.mem_append_right _ (mem_pinsAt hb e)))).1, fun b hb => ?_, w7⟩
      obtain ⟨o, e, d⟩ := T.obj _ _ st5 b hb
      exact (I7.pin (b, o) (List.mem_append_right _ (List.mem_append_right _ (mem_pinsAt hb e)))).2.1
    cases f with
    | next => obtain ⟨σ7, H7, I7, n7⟩ := q7; exact again I7 n7
    | cont => obtain ⟨σ7, H7, I7, n7⟩ := q7; exact again I7 n7
    | brk => obtain ⟨σ7, H7, I7, q7⟩ := q7; exact ⟨σ7, H7, I7.unpinned, q7⟩
    | ret v => obtain ⟨x7, σ7, H7, I7, r7, q7⟩ := q7; exact ⟨x7, σ7, H7, I7.unpinned, r7, q7⟩
end
/-- over a list that the body leaves as it is -/
theorem for_list {K : PySem.W.Frag} {a : Addr} {xs : List V} {g : TG} {tb : TS} {D : Ends} {σ : St} {H : Hp} (Pv : Nat → St → Hp → Prop) (h0 : Pv 0 σ H) (hl : ∀ i σ H, i ≤ xs.length → Pv i σ H → SqL K H a xs)
    (hs : ∀ i x σ H, xs[i]? = some x → Pv i σ H → g x σ H fun σ2 H2 => tb { D with nx := Pv (i + 1), ct := Pv (i + 1), bk := D.nx } σ2 H2) (hd : ∀ σ H, Pv xs.length σ H → D.nx σ H) :
    tFor_I g tb D σ (Itl K a) H := by
  refine ⟨fun i m σ H => m = xs.length - i ∧ i ≤ xs.length ∧ Pv i σ H, ⟨xs.length, by simp, Nat.zero_le _, h0⟩, ?_⟩
  rintro i m σ H ⟨rfl, hi, p⟩
  have q := hl i σ H hi p
  by_cases hlt : i < xs.length
  · refine .inr ⟨⟨xs, xs[i], q, by simp [hlt]⟩, Pv (i + 1), fun σ' H' p' => ⟨xs.length - (i + 1), by omega, rfl, hlt, p'⟩, fun x H' y => ?_⟩
    obtain ⟨e, y⟩ := y
    subst e
    exact hs i x σ _ (y xs q) p
  · have e : i = xs.length := by omega
    subst e
    exact .inl ⟨⟨xs, q, Nat.le_refl _⟩, hd σ H p⟩
theorem for_range {lo : Int} {n : Nat} {g : TG} {tb : TS} {D : Ends} {σ : St} {H : Hp} (Pv : Nat → St → Hp → Prop) (h0 : Pv 0 σ H)
    (hs : ∀ i σ H, i < n → Pv i σ H → g (.int (lo + i)) σ H fun σ2 H2 => tb { D with nx := Pv (i + 1), ct := Pv (i + 1), bk := D.nx } σ2 H2) (hd : ∀ σ H, Pv n σ H → D.nx σ H) :
    tFor_I g tb D σ (Itr lo n) H := by
  refine ⟨fun i m σ H => m = n - i ∧ i ≤ n ∧ Pv i σ H, ⟨n, by simp, Nat.zero_le _, h0⟩, ?_⟩
  rintro i m σ H ⟨rfl, hi, p⟩
  by_cases hlt : i < n
  · refine .inr ⟨hlt, Pv (i + 1), fun σ' H' p' => ⟨n - (i + 1), by omega, rfl, hlt, p'⟩, fun x H' y => ?_⟩
    obtain ⟨e, y⟩ := y
    subst e y
    exact hs i σ _ hlt p
  · have e : i = n := by omega
    subst e
    exact .inl ⟨Nat.le_refl _, hd σ H p⟩
end L2
namespace L2
open PySem PySem.Spec PyProof.Rows
abbrev R2 := V → V → Hp → VK → Prop
/-- a two-place operation on values: f is binaryOp op, inplaceOp op or compareOp op -/
def OpR (X : Cx) (f : Value → Value → Sem Value) (r : R2) : Prop :=
  ∀ (pins : List (Addr × Obj)) (s : Shared) (σ : St) (H : Hp) (x y : V) (v u : Value) (Q : VK), Inv X pins σ H s → RelV x v → RelV y u → r x y H Q →
    wpAny (model X.prog X.w) X.A (f v u) (EP X pins σ Q) X.xe s
/-- a one-place operation -/
def UnR (X : Cx) (f : Value → Sem Value) (r : V → Hp → VK → Prop) : Prop :=
  ∀ (pins : List (Addr × Obj)) (s : Shared) (σ : St) (H : Hp) (x : V) (v : Value) (Q : VK), Inv X pins σ H s → RelV x v → r x H Q →
    wpAny (model X.prog X.w) X.A (f v) (EP X pins σ Q) X.xe s
/-- a call of a value that is known (a builtin, a type) with values -/
def CallR (X : Cx) (f : Value) (r : List V → Hp → VK → Prop) : Prop :=
  ∀ (pins : List (Addr × Obj)) (s : Shared) (σ : St) (H : Hp) (xs : List V) (us : List Value) (Q : VK), Inv X pins σ H s → Vals xs us → r xs H Q →
    wpAny (model X.prog X.w) X.A (call f us) (EP X pins σ Q) X.xe s
/-- a value's truth -/
def TruR (X : Cx) (r : V → Hp → (Bool → Hp → Prop) → Prop) : Prop :=
  ∀ (pins : List (Addr × Obj)) (s : Shared) (σ : St) (H : Hp) (x : V) (v : Value) (Q : Bool → Hp → Prop), Inv X pins σ H s → RelV x v → r x H Q →
    wpAny (model X.prog X.w) X.A (truthy v) (TP X pins σ Q) X.xe s
def tOp (r : R2) (ta tb : TE) : TE := fun σ H Q => ta σ H fun x H1 => tb σ H1 fun y H2 => r x y H2 Q
def tUn (r : V → Hp → VK → Prop) (ta : TE) : TE := fun σ H Q => ta σ H fun x H1 => r x H1 Q
/-- ints in, under C, and a value out -/
inductive rI_I (C : Int → Int → Prop) (g : Int → Int → V) (x : V) (y : V) (H : Hp) (Q : VK) : Prop
  | mk : ∀ i j, x = .int i → y = .int j → C i j → Q (g i j) H → rI_I C g x y H Q
def rI (C : Int → Int → Prop) (g : Int → Int → V) : R2 := fun x y H Q => rI_I C g x y H Q
inductive rI0_I (g : Int → Int → V) (x : V) (y : V) (H : Hp) (Q : VK) : Prop
  | mk : ∀ i j, x = .int i → y = .int j → Q (g i j) H → rI0_I g x y H Q
def rI0 (g : Int → Int → V) : R2 := fun x y H Q => rI0_I g x y H Q
inductive rU_I (g : Int → V) (x : V) (H : Hp) (Q : VK) : Prop
  | mk : ∀ i, x = .int i → Q (g i) H → rU_I g x H Q
def rU (g : Int → V) : V → Hp → VK → Prop := fun x H Q => rU_I g x H Q
section
variable {X : Cx} {a b c : Expr} {ta tb tc : TE} {pos : Pos}
theorem binT (ha : PE X a ta) (hb : PE X b tb) {pins : List (Addr × Obj)} {s : Shared} {σ : St} {H : Hp} {R : V → V → Hp → Prop} (I : Inv X pins σ H s)
    (h : ta σ H fun x H1 => tb σ H1 fun y H2 => R x y H2) {Q : Value → Shared → Prop} {f : Value → Value → Sem Value}
    (hf : ∀ v u s2 x y H2, Inv X pins σ H2 s2 → RelV x v → RelV y u → R x y H2 → wpAny (model X.prog X.w) X.A (f v u) Q X.xe s2) :
    wpAny (model X.prog X.w) X.A (eval a X.env) (fun v s₁ => wpAny (model X.prog X.w) X.A (eval b X.env) (fun u s₂ => wpAny (model X.prog X.w) X.A (f v u) Q X.xe s₂) X.xe s₁) X.xe s := by
  refine thn (ha pins s σ H _ I h) fun v s1 ⟨x, H1, I1, r1, q1⟩ => ?_
  refine thn (hb pins s1 σ H1 _ I1 q1) fun u s2 ⟨y, H2, I2, r2, q2⟩ => ?_
  exact hf v u s2 x y H2 I2 r1 r2 q2
theorem pe_op {op : Operator} {r : R2} (ho : OpR X (binaryOp op) r) (ha : PE X a ta) (hb : PE X b tb) : PE X (.BinOp a op b pos) (tOp r ta tb) := by
  intro pins s σ H Q I h
  exact wpAny_BinOp (binT ha hb I h fun v u s2 x y H2 I2 rx ry q => ho pins s2 σ H2 x y v u Q I2 rx ry q)
theorem pe_un {op : UnaryOp} {r : V → Hp → VK → Prop} (ho : UnR X (unaryOp op) r) (ha : PE X a ta) : PE X (.UnaryOp op a pos) (tUn r ta) := by
  intro pins s σ H Q I h
  exact UnaryOp_ (thn (ha pins s σ H _ I h) fun v s1 ⟨x, H1, I1, r1, q1⟩ => ho pins s1 σ H1 x v Q I1 r1 q1)
theorem opI {f : Value → Value → Sem Value} {C : Int → Int → Prop} {g : Int → Int → Int}
    (rule : ∀ (i j : Int) (t u : Tok) (s : Shared) (Q : Value → Shared → Prop) (E : Value → Shared → Prop), C i j → Q (.int (g i j) s.toks) { s with toks := s.toks + 1 } → wpAny (model X.prog X.w) X.A (f (.int i t) (.int j u)) Q E s) :
    OpR X f (rI C fun i j => .int (g i j)) := by
  intro pins s σ H x y v u Q I rx ry h
  obtain ⟨i, j, rfl, rfl, hc, q⟩ := h
  obtain ⟨t, rfl⟩ := rx
  obtain ⟨t', rfl⟩ := ry
  exact rule i j t t' s _ _ hc ⟨.int (g i j), H, I.tok _, ⟨_, rfl⟩, q⟩
theorem opI0 {f : Value → Value → Sem Value} {g : Int → Int → Int}
    (rule : ∀ (i j : Int) (t u : Tok) (s : Shared) (Q : Value → Shared → Prop) (E : Value → Shared → Prop), Q (.int (g i j) s.toks) { s with toks := s.toks + 1 } → wpAny (model X.prog X.w) X.A (f (.int i t) (.int j u)) Q E s) :
    OpR X f (rI0 fun i j => .int (g i j)) := by
  intro pins s σ H x y v u Q I rx ry h
  obtain ⟨i, j, rfl, rfl, q⟩ := h
  obtain ⟨t, rfl⟩ := rx
  obtain ⟨t', rfl⟩ := ry
  exact rule i j t t' s _ _ ⟨.int (g i j), H, I.tok _, ⟨_, rfl⟩, q⟩
theorem opB0 {f : Value → Value → Sem Value} {g : Int → Int → Bool}
    (rule : ∀ (i j : Int) (t u : Tok) (s : Shared) (Q : Value → Shared → Prop) (E : Value → Shared → Prop), Q (.bool (g i j)) s → wpAny (model X.prog X.w) X.A (f (.int i t) (.int j u)) Q E s) :
    OpR X f (rI0 fun i j => .bl (g i j)) := by
  intro pins s σ H x y v u Q I rx ry h
  obtain ⟨i, j, rfl, rfl, q⟩ := h
  obtain ⟨t, rfl⟩ := rx
  obtain ⟨t', rfl⟩ := ry
  exact rule i j t t' s _ _ ⟨.bl (g i j), H, I, rfl, q⟩
def CDiv (i j : Int) : Prop := 0 < j ∧ j < 1073741824
def CMul (i j : Int) : Prop := (-(2 ^ 64) < i ∧ i < 2 ^ 64) ∨ (-(2 ^ 64) < j ∧ j < 2 ^ 64)
theorem CMul.ok {i j : Int} (h : CMul i j) : IntMulOk i j := by
  rcases h with ⟨h1, h2⟩ | ⟨h1, h2⟩
  · exact .of_left (intBits_le_64 h1 h2)
  · exact .of_right (intBits_le_64 h1 h2)
theorem op_add : OpR X (binaryOp .Add) (rI0 fun i j => .int (i + j)) := opI0 fun _ _ _ _ _ _ _ q => add_int q
theorem op_sub : OpR X (binaryOp .Sub) (rI0 fun i j => .int (i - j)) := opI0 fun _ _ _ _ _ _ _ q => sub_int q
theorem op_mul : OpR X (binaryOp .Mult) (rI CMul fun i j => .int (i * j)) := opI fun _ _ _ _ _ _ _ hc q => mul_int q hc.ok
/-- // by a positive divisor -/
theorem op_fdiv : OpR X (binaryOp .FloorDiv) (rI CDiv fun i j => .int (i / j)) := opI fun i j _ _ _ _ _ hc q => by
  have h1 : (0 : Int) < j := hc.1
  have h2 : j < 1073741824 := hc.2
  exact floordiv_int (by omega) (by rw [Int.fdiv_eq_ediv_of_nonneg i (by omega)]; exact q) (.inl (PyProof.noPylong_small (by omega)))
/-- % by a positive divisor of any size -/
theorem op_mod : OpR X (binaryOp .Mod) (rI (fun _ j => 0 < j) fun i j => .int (i % j)) := opI fun i j _ _ _ _ _ hc q => by
  have h1 : (0 : Int) < j := hc
  exact mod_int' (by omega) (by rw [Int.fmod_eq_emod_of_nonneg i (by omega)]; exact q)
theorem unI {f : Value → Sem Value} {g : Int → Int}
    (rule : ∀ (i : Int) (t : Tok) (s : Shared) (Q : Value → Shared → Prop) (E : Value → Shared → Prop), Q (.int (g i) s.toks) { s with toks := s.toks + 1 } → wpAny (model X.prog X.w) X.A (f (.int i t)) Q E s) :
    UnR X f (rU fun i => .int (g i)) := by
  intro pins s σ H x v Q I rx h
  obtain ⟨i, rfl, q⟩ := h
  obtain ⟨t, rfl⟩ := rx
  exact rule i t s _ _ ⟨.int (g i), H, I.tok _, ⟨_, rfl⟩, q⟩
theorem un_neg : UnR X (unaryOp .USub) (rU fun i => .int (-i)) := unI fun _ _ _ _ _ q => neg_int q
end
/-- the scalars that == tells apart as data does -/
def scal : V → V → Bool
  | .non, .non => true | .non, .int _ => true | .int _, .non => true | .non, .bl _ => true | .bl _, .non => true | .non, .str _ => true | .str _, .non => true
  | .int _, .int _ => true | .bl _, .bl _ => true | .str _, .str _ => true | .byt _, .byt _ => true
  | .int _, .str _ => true | .str _, .int _ => true | .bl _, .str _ => true | .str _, .bl _ => true
  | _, _ => false
def rEq : R2 := fun x y H Q => scal x y = true ∧ Q (.bl (decide (x = y))) H
def rNe : R2 := fun x y H Q => scal x y = true ∧ Q (.bl (!decide (x = y))) H
theorem dec_int {i j : Int} : decide (V.int i = V.int j) = (i == j) := by
  rw [Bool.eq_iff_iff]
  simp
theorem dec_bl {i j : Bool} : decide (V.bl i = V.bl j) = (i == j) := by
  rw [Bool.eq_iff_iff]
  simp
theorem dec_str {i j : Str} : decide (V.str i = V.str j) = (i == j) := by
  rw [Bool.eq_iff_iff]
  simp
theorem dec_byt {i j : Array UInt8} : decide (V.byt i = V.byt j) = (i.toList == j.toList) := by
  rw [Bool.eq_iff_iff]
  cases i
  cases j
  simp
section
variable {X : Cx} {a b c : Expr} {ta tb tc : TE} {pos : Pos}
theorem fin_bl {pins : List (Addr × Obj)} {σ : St} {H : Hp} {s : Shared} {Q : VK} {k k' : Bool} (I : Inv X pins σ H s) (q : Q (.bl k) H) (e : k = k') : EP X pins σ Q (.bool k') s := by
  subst e
  exact ⟨.bl k, H, I, rfl, q⟩
theorem op_eq : OpR X (compareOp .Eq) rEq := by
  intro pins s σ H x y v u Q I rx ry h
  obtain ⟨hs, q⟩ := h
  cases x with
  | non =>
    cases rx
    cases y with
    | non => cases ry; exact PySem.EqNone.eq_none_none (fin_bl I q (by simp))
    | bl j => cases ry; exact PySem.EqNone.eq_none_bool (fin_bl I q (by simp))
    | int j => obtain ⟨t', rfl⟩ := ry; exact PySem.EqNone.eq_none_int (fin_bl I q (by simp))
    | str j => obtain ⟨t', rfl⟩ := ry; exact PySem.EqNone.eq_none_str (fin_bl I q (by simp))
    | _ => exact absurd (show false = true from hs) Bool.false_ne_true
  | bl i =>
    cases rx
    cases y with
    | non => cases ry; exact PySem.EqNone.eq_bool_none (fin_bl I q (by simp))
    | bl j => cases ry; exact eq_bool (fin_bl I q dec_bl)
    | str j => obtain ⟨t', rfl⟩ := ry; exact PySem.EqMixed.eq_bool_str (fin_bl I q (by simp))
    | _ => exact absurd (show false = true from hs) Bool.false_ne_true
  | int i =>
    obtain ⟨t, rfl⟩ := rx
    cases y with
    | non => cases ry; exact PySem.EqNone.eq_int_none (fin_bl I q (by simp))
    | int j => obtain ⟨t', rfl⟩ := ry; exact eq_int (fin_bl I q dec_int)
    | str j => obtain ⟨t', rfl⟩ := ry; exact PySem.EqMixed.eq_int_str (fin_bl I q (by simp))
    | _ => exact absurd (show false = true from hs) Bool.false_ne_true
  | str i =>
    obtain ⟨t, rfl⟩ := rx
    cases y with
    | non => cases ry; exact PySem.EqNone.eq_str_none (fin_bl I q (by simp))
    | bl j => cases ry; exact PySem.EqMixed.eq_str_bool (fin_bl I q (by simp))
    | int j => obtain ⟨t', rfl⟩ := ry; exact PySem.EqMixed.eq_str_int (fin_bl I q (by simp))
    | str j => obtain ⟨t', rfl⟩ := ry; exact eq_str (fin_bl I q dec_str)
    | _ => exact absurd (show false = true from hs) Bool.false_ne_true
  | byt i =>
    obtain ⟨t, rfl⟩ := rx
    cases y with
    | byt j => obtain ⟨t', rfl⟩ := ry; exact PySem.W.eq_bytes (fin_bl I q dec_byt)
    | _ => exact absurd (show false = true from hs) Bool.false_ne_true
  | _ => cases y <;> exact absurd (show false = true from hs) Bool.false_ne_true
theorem op_ne : OpR X (compareOp .NotEq) rNe := by
  intro pins s σ H x y v u Q I rx ry h
  obtain ⟨hs, q⟩ := h
  cases x with
  | non =>
    cases rx
    cases y with
    | non => cases ry; exact PySem.EqNone.ne_none_none (fin_bl I q (by simp))
    | bl j => cases ry; exact PySem.EqNone.ne_none_bool (fin_bl I q (by simp))
    | int j => obtain ⟨t', rfl⟩ := ry; exact PySem.EqNone.ne_none_int (fin_bl I q (by simp))
    | str j => obtain ⟨t', rfl⟩ := ry; exact PySem.EqNone.ne_none_str (fin_bl I q (by simp))
    | _ => exact absurd (show false = true from hs) Bool.false_ne_true
  | bl i =>
    cases rx
    cases y with
    | non => cases ry; exact PySem.EqNone.ne_bool_none (fin_bl I q (by simp))
    | bl j => cases ry; exact ne_bool (fin_bl I q (congrArg not dec_bl))
    | str j => obtain ⟨t', rfl⟩ := ry; exact PySem.EqMixed.ne_bool_str (fin_bl I q (by simp))
    | _ => exact absurd (show false = true from hs) Bool.false_ne_true
  | int i =>
    obtain ⟨t, rfl⟩ := rx
    cases y with
    | non => cases ry; exact PySem.EqNone.ne_int_none (fin_bl I q (by simp))
    | int j => obtain ⟨t', rfl⟩ := ry; exact ne_int (fin_bl I q (congrArg not dec_int))
    | str j => obtain ⟨t', rfl⟩ := ry; exact PySem.EqMixed.ne_int_str (fin_bl I q (by simp))
    | _ => exact absurd (show false = true from hs) Bool.false_ne_true
  | str i =>
    obtain ⟨t, rfl⟩ := rx
    cases y with
    | non => cases ry; exact PySem.EqNone.ne_str_none (fin_bl I q (by simp))
    | bl j => cases ry; exact PySem.EqMixed.ne_str_bool (fin_bl I q (by simp))
    | int j => obtain ⟨t', rfl⟩ := ry; exact PySem.EqMixed.ne_str_int (fin_bl I q (by simp))
    | str j => obtain ⟨t', rfl⟩ := ry; exact ne_str (fin_bl I q (congrArg not dec_str))
    | _ => exact absurd (show false = true from hs) Bool.false_ne_true
  | byt i =>
    obtain ⟨t, rfl⟩ := rx
    cases y with
    | byt j => obtain ⟨t', rfl⟩ := ry; exact PySem.W.ne_bytes (fin_bl I q (congrArg not dec_byt))
    | _ => exact absurd (show false = true from hs) Bool.false_ne_true
  | _ => cases y <;> exact absurd (show false = true from hs) Bool.false_ne_true
theorem op_gt : OpR X (compareOp .Gt) (rI0 fun i j => .bl (decide (j < i))) := opB0 fun _ _ _ _ _ _ _ q => gt_int q
theorem nomark (b : Expr) {op : CmpOp} (h : op ≠ .In := by decide) (h2 : op ≠ .NotIn := by decide) : behindInMarks op b = false := by
  have e1 : (op == CmpOp.In) = false := by cases op <;> first | rfl | exact absurd rfl h
  have e2 : (op == CmpOp.NotIn) = false := by cases op <;> first | rfl | exact absurd rfl h2
  cases b <;> simp [behindInMarks, e1, e2]
/-- a comparison as a value; hm: nomark b, or (for in, not in) by with_unfolding_all rfl -/
theorem pe_cmpR {op : CmpOp} {r : R2} (ho : OpR X (compareOp op) r) (ha : PE X a ta) (hb : PE X b tb) (hm : behindInMarks op b = false) : PE X (.Compare a [op] [b] pos) (tOp r ta tb) := by
  intro pins s σ H Q I h
  exact wpAny_Compare1 (binT ha hb I h fun v u s2 x y H2 I2 rx ry q => ho pins s2 σ H2 x y v u Q I2 rx ry q) hm
/-- a reading of a value as a test -/
inductive tTest_I (Q : (Bool → Hp → Prop)) (x : V) (H' : Hp) : Prop
  | mk : ∀ k, x = .bl k → Q k H' → tTest_I Q x H'
def tTest (t : TE) : TT := fun σ H Q => t σ H fun x H' => tTest_I Q x H'
theorem pt_cmpR {op : CmpOp} {r : R2} (ho : OpR X (compareOp op) r) (ha : PE X a ta) (hb : PE X b tb) (hm : behindInMarks op b = false) : PT X (.Compare a [op] [b] pos) (tTest (tOp r ta tb)) := by
  intro pins s σ H Q I h
  refine wpAny_isTrue_Compare1 (thn (ha pins s σ H _ I h) fun v s1 ⟨x, H1, I1, r1, q1⟩ => thn (hb pins s1 σ H1 _ I1 q1) fun u s2 ⟨y, H2, I2, r2, q2⟩ =>
    thn (ho pins s2 σ H2 x y v u _ I2 r1 r2 q2) fun c s3 ⟨z, H3, I3, r3, k, e, q3⟩ => ?_) hm
  subst e
  cases r3
  exact wpAny_truthy_bool ⟨H3, I3, q3⟩
/-- a value's truth by the abstract heap -/
def TruV (K : PySem.W.Frag) (x : V) (H : Hp) (k : Bool) : Prop :=
  match x with
  | .non => k = false
  | .bl b => k = b
  | .int i => k = (i != 0)
  | .str y => y.length ≤ sizeLine ∧ k = ((y.length : Int) != 0)
  | .byt y => y.size ≤ sizeLine ∧ k = ((y.size : Int) != 0)
  | .ref p => (∃ xs, SqL K H p xs ∧ k = !xs.isEmpty) ∨ (∃ xs, SqT K H p xs ∧ k = !xs.isEmpty) ∨ ∃ kvs, H p = some (.dK kvs) ∧ k = !kvs.isEmpty
  | _ => False
theorem isEmpty_kv {κ : Type} {kvs : List (κ × V)} {vs : List (κ × Value)} (r : KV kvs vs) : (!vs.isEmpty) = !kvs.isEmpty := by
  cases r <;> rfl
theorem isEmpty_of {xs : List V} {its : List Value} (r : Vals xs its) : (!its.toArray.isEmpty) = !xs.isEmpty := by
  cases r <;> simp
theorem line63 : (sizeLine : Nat) < 2 ^ 63 := by rw [sizeLine_eq]; decide
theorem tru_ok : TruR X (fun x H Q => ∃ k, TruV X.K x H k ∧ Q k H) := by
  intro pins s σ H x v Q I rx h
  obtain ⟨k, e, q⟩ := h
  have hl := line63
  have hs : sizeLine = 16777216 := sizeLine_eq
  cases x with
  | non =>
    cases rx
    have e' : k = false := e
    subst e'
    exact truthy_none ⟨H, I, q⟩
  | bl b =>
    cases rx
    have e' : k = b := e
    subst e'
    exact wpAny_truthy_bool ⟨H, I, q⟩
  | int i =>
    obtain ⟨t, rfl⟩ := rx
    have e' : k = (i != 0) := e
    subst e'
    exact PySem.P.truthy_int ⟨H, I, q⟩
  | str y =>
    obtain ⟨t, rfl⟩ := rx
    obtain ⟨hy, e'⟩ : y.length ≤ sizeLine ∧ k = ((y.length : Int) != 0) := e
    subst e'
    exact PySem.P.truthy_str (by omega) ⟨H, I.tok _, q⟩
  | byt y =>
    obtain ⟨t, rfl⟩ := rx
    obtain ⟨hy, e'⟩ : y.size ≤ sizeLine ∧ k = ((y.size : Int) != 0) := e
    subst e'
    exact PySem.W.truthy_bytes (by omega) ⟨H, I.tok _, q⟩
  | ref p =>
    cases rx
    have e' : (∃ xs, SqL X.K H p xs ∧ k = !xs.isEmpty) ∨ (∃ xs, SqT X.K H p xs ∧ k = !xs.isEmpty) ∨ ∃ kvs, H p = some (.dK kvs) ∧ k = !kvs.isEmpty := e
    rcases e' with ⟨xs, hx, e'⟩ | ⟨xs, hx, e'⟩ | ⟨kvs, hx, e'⟩
    · subst e'
      obtain ⟨its, r, pl, hz⟩ := I.list hx
      have hlen := r.length
      exact wpAny_truthy_list pl.isList (by simp only [List.size_toArray]; omega) ⟨H, I.tok _, by rw [isEmpty_of r]; exact q⟩
    · subst e'
      obtain ⟨its, r, pl, hz⟩ := I.tuple hx
      have hlen := r.length
      exact truthy_tuple pl (by simp only [List.size_toArray]; omega) ⟨H, I.tok _, by rw [isEmpty_of r]; exact q⟩
    · subst e'
      obtain ⟨hz, hS, vs, r, m⟩ : kvs.length ≤ sizeLine ∧ (p == sysModules) = false ∧ ∃ vs, KV kvs vs ∧ s.heap.DictOf (mixKind X.prog X.w) p vs := I.hok p _ hx
      have hlen : kvs.length = vs.length := Paired.length r
      exact wpAny_truthy_dict hS m (by omega) ⟨H, I.tok _, by rw [isEmpty_kv r]; exact q⟩
  | _ => exact (show False from e).elim
/-- any expression whose test is its value's truth (a name, a call, a subscript, a field ..: he by fun _ => rfl) -/
theorem pt_truth (ha : PE X a ta) (he : ∀ whole, isTrue a X.env whole = (do let v ← whole; standAt a.pos; holding [v] (truthy v))) :
    PT X a (fun σ H Q => ta σ H fun x H' => ∃ k, TruV X.K x H' k ∧ Q k H') := by
  intro pins s σ H Q I h
  exact isTrue_plain (thn (ha pins s σ H _ I h) fun v s1 ⟨x, H1, I1, r1, q1⟩ => tru_ok pins s1 σ H1 x v Q I1 r1 q1) (he _)
theorem op_add_str : OpR X (binaryOp .Add) (fun x y H Q => ∃ i j, x = .str i ∧ y = .str j ∧ i.length + j.length ≤ sizeLine ∧ Q (.str (i ++ j)) H) := by
  intro pins s σ H x y v u Q I rx ry h
  obtain ⟨i, j, rfl, rfl, hz, q⟩ := h
  obtain ⟨t, rfl⟩ := rx
  obtain ⟨t', rfl⟩ := ry
  exact add_str (fun t' tk => ⟨.str (i ++ j), H, I.tok _, ⟨_, rfl⟩, q⟩) hz
theorem vals1 {x : V} {us : List Value} (r : Vals [x] us) : ∃ u, us = [u] ∧ RelV x u := by
  cases r with
  | cons r1 r2 => cases r2; exact ⟨_, rfl, r1⟩
theorem vals2 {x y : V} {us : List Value} (r : Vals [x, y] us) : ∃ u w', us = [u, w'] ∧ RelV x u ∧ RelV y w' := by
  cases r with
  | cons r1 r2 =>
    cases r2 with
    | cons r3 r4 => cases r4; exact ⟨_, _, rfl, r1, r3⟩
theorem call_max2 (hc : X.calm = true) : CallR X (.builtin "max") (fun xs H Q => ∃ i j, xs = [.int i, .int j] ∧ Q (.int (if j > i then j else i)) H) := by
  intro pins s σ H xs us Q I r h
  obtain ⟨i, j, rfl, q⟩ := h
  obtain ⟨u, w', rfl, ⟨t, rfl⟩, ⟨t', rfl⟩⟩ := vals2 r
  refine max_two_ints (I.ok.hd hc) fun h' tk k => ⟨_, H, I.kept k, ?_, q⟩
  by_cases hj : j > i
  · rw [if_pos hj, if_pos hj]; exact ⟨_, rfl⟩
  · rw [if_neg hj, if_neg hj]; exact ⟨_, rfl⟩
theorem call_min2 (hc : X.calm = true) : CallR X (.builtin "min") (fun xs H Q => ∃ i j, xs = [.int i, .int j] ∧ Q (.int (if j < i then j else i)) H) := by
  intro pins s σ H xs us Q I r h
  obtain ⟨i, j, rfl, q⟩ := h
  obtain ⟨u, w', rfl, ⟨t, rfl⟩, ⟨t', rfl⟩⟩ := vals2 r
  refine min_two_ints (I.ok.hd hc) fun h' tk k => ⟨_, H, I.kept k, ?_, q⟩
  by_cases hj : j < i
  · rw [if_pos hj, if_pos hj]; exact ⟨_, rfl⟩
  · rw [if_neg hj, if_neg hj]; exact ⟨_, rfl⟩
theorem call_int1 : CallR X (.type "int") (fun xs H Q => (∃ i, xs = [.int i] ∧ Q (.int i) H) ∨ ∃ k, xs = [.bl k] ∧ Q (.int (if k then 1 else 0)) H) := by
  intro pins s σ H xs us Q I r h
  rcases h with ⟨i, rfl, q⟩ | ⟨k, rfl, q⟩
  · obtain ⟨u, rfl, t, rfl⟩ := vals1 r
    exact call_int_int ⟨.int i, H, I, ⟨_, rfl⟩, q⟩
  · obtain ⟨u, rfl, r1⟩ := vals1 r
    cases r1
    exact call_int_bool ⟨.int (if k then 1 else 0), H, I.tok _, ⟨_, rfl⟩, q⟩
end
end L2
namespace L2
open PySem PySem.Spec PyProof.Rows
structure ObjM (h : Heap) (x dx C : Addr) (mA : Str → Option Value) : Prop where
  obj : h.get? x = some (PySem.W.instObj C dx)
  ns : h.Ns1 dx mA
  ne : dx ≠ x
theorem lookIn_ns {h : Heap} {dx : Addr} {mA : Str → Option Value} (n : h.Ns1 dx mA) : ∃ od, h.get? dx = some od ∧ ∀ name, PySem.W.lookIn name od = some (mA name) := by
  obtain ⟨o, es, ep, ho, hd, hk, _, hm⟩ := n
  refine ⟨o, ho, fun name => ?_⟩
  have e := hm name
  unfold nsFind findBy at e
  rw [← Array.find?_toList] at e
  unfold PySem.W.lookIn
  rw [hd]
  dsimp only
  split
  · rename_i y q
    rw [q] at e
    exact congrArg some e
  · rename_i q
    rw [q] at e
    have a : es.toList.any (·.refKey) = false := by
      rw [List.any_eq_false]
      intro y hy
      obtain ⟨z, t, hkey⟩ := hk y (Array.mem_toList_iff.mp hy)
      simp [DictEntry.refKey, hkey]
    have a' : ¬ es.toList.any (·.refKey) = true := by rw [a]; exact Bool.false_ne_true
    rw [if_neg a']
    exact congrArg some e
theorem ObjM.look {h : Heap} {x dx C : Addr} {mA : Str → Option Value} (I : ObjM h x dx C mA) : ∃ od, PySem.W.InstAt h x (PySem.W.instObj C dx) C (some od) ∧ ∀ name, PySem.W.lookIn name od = some (mA name) :=
  let ⟨od, ho, hl⟩ := lookIn_ns I.ns
  ⟨od, ⟨I.obj, rfl, rfl, ho⟩, hl⟩
section
variable {prog : Program} {w : World} {A : Around} {E : Value → Shared → Prop} {s : Shared} {K : PySem.W.Frag} {x dx C f : Addr} {mA : Str → Option Value} {name : Str} {v : Value}
theorem get_map {expr : Bool} {Q : Value → Shared → Prop} (X : K.In s.heap) (I : ObjM s.heap x dx C mA) (hg : PySem.W.plainGet K C name = true) (hh : PySem.W.hasDictIn K C = true)
    (ha : PySem.W.findIn K (.ref C) name = some none) (hv : mA name = some v) (hv' : PySem.W.handedIn v = true) (h : Q v { s with toks := s.toks + 1 }) :
    wpAny (model prog w) A (getAttr (.ref x) name expr) Q E s := by
  obtain ⟨od, J, hl⟩ := I.look
  exact PySem.W.get_value X J (PySem.W.plainGet_of hg).1 (PySem.W.findObj_own hh ha rfl (by rw [hl, hv])) hv' h
theorem get_meth {pl : Sem Bool} {Q : Value × List Value → Shared → Prop} (X : K.In s.heap) (I : ObjM s.heap x dx C mA) (hg : PySem.W.plainGet K C name = true)
    (hf : PySem.W.findIn K (.ref C) name = some (some (.ref f))) (ht : PySem.W.isFn K (.ref f) = true) (hv : mA name = none) (h : Q (.ref f, [.ref x]) s) :
    wpAny (model prog w) A (getMethod (.ref x) name pl) Q E s := by
  obtain ⟨od, J, hl⟩ := I.look
  exact PySem.W.method_fn X J (PySem.W.plainGet_of hg).1 (PySem.W.plainGet_of hg).2 hf (beq_iff_eq.mp ht) (by show (PySem.W.lookIn name od).map (·.isSome) = some false; rw [hl, hv]; rfl) h
theorem set_map {ns : List Str} {Q : Unit → Shared → Prop} (X : K.In s.heap) (I : ObjM s.heap x dx C mA)
    (hs : PySem.W.findIn K (.ref C) "__setattr__" = some (some (.builtin "object.__setattr__"))) (hp : PySem.W.plainOver K C = true) (ht : PySem.W.takerIn K C name = some none) (hh : PySem.W.hasDictIn K C = true)
    (hw : PySem.Within mA ns) (hsz : ns.length ≤ sizeLine)
    (h : ∀ h', ObjM h' x dx C (fun y => if y = name then some v else mA y) → Heap.SameBut dx s.heap h' → Q () { s with heap := h', toks := s.toks + 2 }) :
    wpAny (model prog w) A (setAttr (.ref x) name v) Q E s := by
  obtain ⟨od, J, hl⟩ := I.look
  refine PySem.W.set_plain X J hs (PySem.W.osa_open (s := { s with toks := s.toks + 1 }) (r := none) X J hp ht fun b => ?_)
  obtain ⟨cd, hc, hd'⟩ := PySem.W.any_some hh
  have hx : s.heap.get? x = some ⟨.ref C, some dx, .plain, #[]⟩ := I.obj
  refine wpAny_bind (wpAny_pure (wpAny_bind (wpAny_bind (wpAny_loadPart hx (wpAny_bind (PySem.W.Looks.here (s := { s with toks := s.toks + 1 }) (PySem.W.looks_clsIn X hc) ?_))))))
  rw [hd']
  refine wpAny_pure (a := some dx) (wpAny_bind (wpAny_pure (wpAny_bind ?_)))
  refine wpAny_nsSet1 (s := { s with toks := s.toks + 1 }) I.ns fun h' hn2 hs2 => ?_
  obtain ⟨oD, esD, epD, hoD, hdD, hcD⟩ := hn2.count (PySem.Within.cons name v hw)
  refine wpAny_bind (wpAny_lookBehind hoD (by rw [hdD]; exact pastItsLine_dict (Nat.le_trans hcD (by rw [List.length_cons]; omega))) ?_)
  exact wpAny_pure (h _ ⟨(hs2.2 _ (Ne.symm I.ne)).trans I.obj, hn2, I.ne⟩ hs2)
/-- C(..): the dict at the heap's end, the instance behind it; then its __init__ -/
theorem make_map {R : Result → Shared → Prop} {vs : List Value} {kw : List (Str × Value)} (X : K.In s.heap) (hm : PySem.W.makesIn K C = true)
    (hi : PySem.W.findIn K (.ref C) "__init__" = some (some (.ref f))) (hf : PySem.W.typeIn K (.ref f) = some (.type "function"))
    (h : codeAny (model prog w) (A.under (.builtin "type.__call__" ⟨.ref C :: vs, kw⟩)) (.call (.ref f) ⟨.ref (s.heap.objs.size + 1) :: vs, kw⟩) (PySem.W.InitBack (s.heap.objs.size + 1) R)
      { s with heap := (s.heap.push PySem.W.emptyDict).push (PySem.W.instObj C s.heap.objs.size) }) :
    codeAny (model prog w) A (.call (.ref C) ⟨vs, kw⟩) R s := by
  obtain ⟨hh, g, d, t, os⟩ := s
  exact PySem.W.make_core (PySem.W.makes_of X hm) (PySem.W.looks_findIn X hi) (fun self => PySem.W.bind_fn X self hf) (.inl rfl) h
end
def putF (f : Str) (v : V) : List (Str × V) → List (Str × V)
  | [] => [(f, v)]
  | (g, x) :: r => if g = f then (g, v) :: r else (g, x) :: putF f v r
theorem lookup_putF (f g : Str) (v : V) : ∀ fs : List (Str × V), (putF f v fs).lookup g = if g = f then some v else fs.lookup g
  | [] => by
    show List.lookup g [(f, v)] = _
    by_cases h : g = f
    · have hb : (g == f) = true := beq_iff_eq.mpr h
      simp only [List.lookup, hb, if_pos h]
    · have hb : (g == f) = false := beq_eq_false_iff_ne.mpr h
      simp only [List.lookup, hb, if_neg h]
  | (k, x) :: r => by
    have ih := lookup_putF f g v r
    rw [show putF f v ((k, x) :: r) = (if k = f then (k, v) :: r else (k, x) :: putF f v r) from rfl]
    by_cases hk : k = f
    · rw [if_pos hk]
      by_cases h : g = k
      · have hb : (g == k) = true := beq_iff_eq.mpr h
        simp only [List.lookup, hb, if_pos (h.trans hk)]
      · have hb : (g == k) = false := beq_eq_false_iff_ne.mpr h
        simp only [List.lookup, hb, if_neg (fun e : g = f => h (e.trans hk.symm))]
    · rw [if_neg hk]
      by_cases h : g = k
      · have hb : (g == k) = true := beq_iff_eq.mpr h
        simp only [List.lookup, hb, if_neg (fun e : g = f => hk (h.symm.trans e))]
      · have hb : (g == k) = false := beq_eq_false_iff_ne.mpr h
        simp only [List.lookup, hb]
        exact ih
theorem keys_putF (f : Str) (v : V) : ∀ fs : List (Str × V), f ∈ (putF f v fs).map (·.1) ∧ ∀ g, g ∈ fs.map (·.1) → g ∈ (putF f v fs).map (·.1)
  | [] => ⟨by simp [putF], fun g h => by simp at h⟩
  | (k, x) :: r => by
    obtain ⟨i1, i2⟩ := keys_putF f v r
    rw [show putF f v ((k, x) :: r) = (if k = f then (k, v) :: r else (k, x) :: putF f v r) from rfl]
    by_cases hk : k = f
    · rw [if_pos hk]
      subst hk
      exact ⟨by simp, fun g h => by simpa using h⟩
    · rw [if_neg hk]
      refine ⟨?_, fun g h => ?_⟩
      · rw [List.map_cons]
        exact List.mem_cons_of_mem _ i1
      · rw [List.map_cons] at h ⊢
        rcases List.mem_cons.mp h with e | e
        · exact List.mem_cons.mpr (.inl e)
        · exact List.mem_cons_of_mem _ (i2 g e)
theorem length_putF (f : Str) (v : V) : ∀ fs : List (Str × V), (putF f v fs).length ≤ fs.length + 1
  | [] => by simp [putF]
  | (k, x) :: r => by
    have ih := length_putF f v r
    rw [show putF f v ((k, x) :: r) = (if k = f then (k, v) :: r else (k, x) :: putF f v r) from rfl]
    by_cases hk : k = f
    · rw [if_pos hk, List.length_cons, List.length_cons]; omega
    · rw [if_neg hk, List.length_cons, List.length_cons]; omega
theorem RelO.some_of {v : V} {o : Option Value} (r : RelO (some v) o) : ∃ u, o = some u ∧ RelV v u := by
  cases o with
  | none => exact (show False from r).elim
  | some u => exact ⟨u, rfl, r⟩
theorem RelO.none_of {o : Option Value} (r : RelO none o) : o = none := by
  cases o with
  | none => rfl
  | some u => exact (show False from r).elim
theorem handed_of {v : V} {u : Value} (r : RelV v u) : PySem.W.handedIn u = true := by
  cases v with
  | non => cases (show u = Value.none from r); rfl
  | bl b => cases (show u = Value.bool b from r); rfl
  | int i => obtain ⟨t, e⟩ := (show ∃ t, u = Value.int i t from r); cases e; rfl
  | str x => obtain ⟨t, e⟩ := (show ∃ t, u = Value.str x t from r); cases e; rfl
  | byt b => obtain ⟨t, e⟩ := (show ∃ t, u = Value.bytes b t from r); cases e; rfl
  | flt b => obtain ⟨t, e⟩ := (show ∃ t, u = Value.float b t from r); cases e; rfl
  | ref a => cases (show u = Value.ref a from r); rfl
  | ty n => cases (show u = Value.type n from r); rfl
section
variable {P : Program} {w : World} {H H' : Hp} {h h' : Heap} {a C dx : Addr} {fs fs' : List (Str × V)}
theorem ins_get (hok : HOk P w H h) (e : H a = some (.ins C dx fs)) : ∃ mA, ObjM h a dx C mA ∧ (∀ f, RelO (fs.lookup f) (mA f)) ∧ PySem.Within mA (fs.map (·.1)) ∧ fs.length ≤ 1000 ∧ H dx = some (.own a) := by
  obtain ⟨d, z, ne, ob, mA, n, r, q⟩ := (show ObjOk P w H h a (.ins C dx fs) from hok a _ e)
  exact ⟨mA, ⟨ob, n, ne⟩, r, q, z, d⟩
end
structure Cls (K : PySem.W.Frag) (C : Addr) : Prop where
  pg : PySem.W.plainGet K C Str.empty = true
  hd : PySem.W.hasDictIn K C = true
  po : PySem.W.plainOver K C = true
  sa : PySem.W.findIn K (.ref C) "__setattr__" = some (some (.builtin "object.__setattr__"))
theorem Cls.get {K : PySem.W.Frag} {C : Addr} (c : Cls K C) (f : Str) : PySem.W.plainGet K C f = true := c.pg
/-- no class of it has the name -/
def NoAttr (K : PySem.W.Frag) (C : Addr) (f : Str) : Prop := PySem.W.findIn K (.ref C) f = some none
theorem NoAttr.taker {K : PySem.W.Frag} {C : Addr} {f : Str} (n : NoAttr K C f) : PySem.W.takerIn K C f = some none := by
  unfold PySem.W.takerIn
  rw [show PySem.W.findIn K (.ref C) f = some none from n]
  rfl
/-- a method: a plain def of the class or of one above it -/
structure Meth (K : PySem.W.Frag) (C : Addr) (m : Str) (f : Addr) : Prop where
  at_ : PySem.W.findIn K (.ref C) m = some (some (.ref f))
  fn : PySem.W.isFn K (.ref f) = true
  kp : PySem.W.keepIn K (.ref f) = true
section
variable {X : Cx} {pins : List (Addr × Obj)} {σ : St} {H : Hp} {s : Shared} {a C dx : Addr} {fs : List (Str × V)} {f : Str} {v : V} {A : Around} {E : Value → Shared → Prop}
theorem getattr_ok {b : Bool} {Q : Value → Shared → Prop} (I : Inv X pins σ H s) (e : H a = some (.ins C dx fs)) (c : Cls X.K C) (n : NoAttr X.K C f) (l : fs.lookup f = some v)
    (h : ∀ u s', Inv X pins σ H s' → RelV v u → Q u s') : wpAny (model X.prog X.w) A (getAttr (.ref a) f b) Q E s := by
  obtain ⟨mA, O, r, _, _, _⟩ := ins_get I.hok e
  obtain ⟨u, hu, ru⟩ := RelO.some_of (v := v) (o := mA f) (by rw [← l]; exact r f)
  exact get_map I.kIn O (c.get f) c.hd n hu (handed_of ru) (h u _ (I.tok _) ru)
theorem getmeth_ok {m : Str} {g : Addr} {pl : Sem Bool} {Q : Value × List Value → Shared → Prop} (I : Inv X pins σ H s) (e : H a = some (.ins C dx fs)) (c : Cls X.K C) (k : Meth X.K C m g) (l : fs.lookup m = none)
    (h : Q (.ref g, [.ref a]) s) : wpAny (model X.prog X.w) A (getMethod (.ref a) m pl) Q E s := by
  obtain ⟨mA, O, r, _, _, _⟩ := ins_get I.hok e
  have hn : mA m = none := RelO.none_of (by rw [← l]; exact r m)
  exact get_meth I.kIn O (c.get m) k.at_ k.fn hn h
theorem setattr_ok {y : V} {u : Value} {Q : Unit → Shared → Prop} (I : Inv X pins σ H s) (e : H a = some (.ins C dx fs)) (c : Cls X.K C) (n : NoAttr X.K C f) (hl : fs.length < 1000) (ry : RelV y u)
    (h : ∀ s', Inv X pins σ (upd H a (.ins C dx (putF f y fs))) s' → Q () s') : wpAny (model X.prog X.w) A (setAttr (.ref a) f u) Q E s := by
  obtain ⟨mA, O, r, wi, _, ho⟩ := ins_get I.hok e
  have hz : (fs.map (·.1)).length ≤ sizeLine := by rw [List.length_map, sizeLine_eq]; omega
  refine set_map I.kIn O c.sa c.po n.taker c.hd wi hz fun h' O' sb => h _ ?_
  have hd : ∃ o, h'.get? dx = some o := let ⟨o, _, _, e', _⟩ := O'.ns; ⟨o, e'⟩
  refine I.write (x := a) (e := dx) (by rw [e]; exact True.intro) (.inr ho) (fun b q hb z => (sb.2 b hb).trans z) hd ?_
  refine ⟨by rw [upd_ne O.ne]; exact ho, ?_, O.ne, O'.obj, _, O'.ns, fun g => ?_, fun g hg => ?_⟩
  · have := length_putF f y fs; omega
  · show RelO ((putF f y fs).lookup g) (if g = f then some u else mA g)
    rw [lookup_putF]
    by_cases q : g = f
    · rw [if_pos q, if_pos q]; exact ry
    · rw [if_neg q, if_neg q]; exact r g
  · by_cases q : g = f
    · rw [q]; exact (keys_putF f y fs).1
    · refine (keys_putF f y fs).2 g (wi g fun z => hg ?_)
      show (if g = f then some u else mA g) = none
      rw [if_neg q]; exact z
/-- a new instance, tracked, without attributes -/
theorem Inv.made (I : Inv X pins σ H s) : Inv X pins σ (upd (upd H s.heap.objs.size (.own (s.heap.objs.size + 1))) (s.heap.objs.size + 1) (.ins C s.heap.objs.size []))
    { s with heap := (s.heap.push PySem.W.emptyDict).push (PySem.W.instObj C s.heap.objs.size) } := by
  have e1 : (s.heap.push PySem.W.emptyDict).get? s.heap.objs.size = some PySem.W.emptyDict := Heap.get?_push_size s.heap rfl
  have e2 : ((s.heap.push PySem.W.emptyDict).push (PySem.W.instObj C s.heap.objs.size)).get? (s.heap.objs.size + 1) = some (PySem.W.instObj C s.heap.objs.size) := by
    have := Heap.get?_push_size (s.heap.push PySem.W.emptyDict) (o := PySem.W.instObj C s.heap.objs.size) rfl
    rwa [Heap.size_push] at this
  have e3 : (s.heap.push PySem.W.emptyDict).Ns s.heap.objs.size (fun _ => none) := ⟨PySem.W.emptyDict, #[], _, e1, rfl, (fun e he => absurd he (by simp)), fun _ => rfl⟩
  have I1 := I.laid (a := s.heap.objs.size) (o := .own (s.heap.objs.size + 1)) (h' := s.heap.push PySem.W.emptyDict) (t' := s.toks) (fun b u q => Heap.get?_push_of_some _ q) (Nat.le_refl _) ⟨_, e1⟩
  refine I1.laid (a := s.heap.objs.size + 1) (o := .ins C s.heap.objs.size []) (t' := s.toks) (fun b u q => Heap.get?_push_of_some _ q) (Nat.le_of_eq (Heap.size_push _ _)) ?_
  have ne : s.heap.objs.size ≠ s.heap.objs.size + 1 := Nat.ne_of_lt (Nat.lt_succ_self _)
  refine ⟨by rw [upd_ne ne, upd_same], Nat.zero_le _, ne, e2, fun _ => none, (Heap.Ns1.of_empty e3).at fun o q => Heap.get?_push_of_some _ q, fun _ => True.intro, fun y hy => absurd rfl hy⟩
/-- e.f where nothing but the object is asked: through attributeBase (super) and the last hold -/
theorem attr_of {prog : Program} {w : World} {env : Env} {e : Expr} {f : Str} {pos : Pos} {s : Shared} {Q : Value → Shared → Prop} (hb : attributeBase e f env (eval e env) = eval e env)
    (h : wpAny (model prog w) A (eval e env) (fun o s₁ => wpAny (model prog w) A (getAttr o f true) Q E s₁) E s) : wpAny (model prog w) A (eval (.Attribute e f pos) env) Q E s :=
  Attribute_any_ h (by rw [arm_eval_Attribute, hb])
end
/-- e.f, an attribute of the instance -/
inductive tFld_I (K : PySem.W.Frag) (f : Str) (Q : VK) (x : V) (H1 : Hp) : Prop
  | mk : ∀ a C dx fs v, x = .ref a → H1 a = some (.ins C dx fs) → Cls K C → NoAttr K C f → fs.lookup f = some v → Q v H1 → tFld_I K f Q x H1
def tFld (K : PySem.W.Frag) (ta : TE) (f : Str) : TE := fun σ H Q => ta σ H fun x H1 => tFld_I K f Q x H1
/-- e.f = value -/
inductive sFld_I (K : PySem.W.Frag) (f : Str) (D : Ends) (σ : St) (y : V) (x : V) (H2 : Hp) : Prop
  | mk : ∀ a C dx fs, x = .ref a → H2 a = some (.ins C dx fs) → Cls K C → NoAttr K C f → fs.length < 1000 → D.nx σ (upd H2 a (.ins C dx (putF f y fs))) → sFld_I K f D σ y x H2
def sFld (K : PySem.W.Frag) (ta tv : TE) (f : Str) : TS := fun D σ H => tv σ H fun y H1 => ta σ H1 fun x H2 => sFld_I K f D σ y x H2
section
variable {X : Cx} {o e value : Expr} {f : Str} {pos pos' tpos : Pos} {ta tv : TE}
theorem pe_fld (he : PE X e ta) (hb : attributeBase e f X.env (eval e X.env) = eval e X.env) : PE X (.Attribute e f pos) (tFld X.K ta f) := by
  intro pins s σ H Q I h
  refine attr_of hb (thn (he pins s σ H _ I h) fun u s1 ⟨x, H1, I1, rx, a, C, dx, fs, v, ex, ea, c, n, l, q⟩ => ?_)
  subst ex
  obtain rfl : u = Value.ref a := rx
  exact getattr_ok I1 ea c n l fun u' s2 I2 ru => ⟨v, H1, I2, ru, q⟩
theorem ps_fld (ha : PE X o ta) (hv : PE X value tv) (hs : swapsWith value (some (.Attribute o f pos')) pos.line X.env = pure false) : PS X (.Assign [.Attribute o f pos'] value pos) (sFld X.K ta tv f) := by
  intro pins s σ H D I h
  refine plainObj_wpAny_Assign_Attribute (thn (hv pins s σ H _ I h) fun u s1 ⟨y, H1, I1, ry, q⟩ => thn (ha pins s1 σ H1 _ I1 q) fun ov s2 ⟨x, H2, I2, rx, a, C, dx, fs, ex, ea, c, n, l, q2⟩ => ?_) hs
  subst ex
  obtain rfl : ov = Value.ref a := rx
  exact setattr_ok I2 ea c n l ry fun s3 I3 => ⟨σ, _, I3, q2⟩
end
section
variable {X : Cx} {pins : List (Addr × Obj)} {σ : St} {H : Hp} {s : Shared} {A : Around} {E : Value → Shared → Prop} {Q : Value → Shared → Prop} {c : Value} {b : Bool}
/-- the type of a value, as the fragment's deciders take it; for an instance its class -/
inductive TyOf (K : PySem.W.Frag) (H : Hp) : V → Value → Prop where
  | non : TyOf K H .non (.type "NoneType")
  | bl (x : Bool) : TyOf K H (.bl x) (.type "bool")
  | int (i : Int) : TyOf K H (.int i) (.type "int")
  | str (x : Str) : TyOf K H (.str x) (.type "str")
  | flt (x : UInt64) : TyOf K H (.flt x) (.type "float")
  | lst {a : Addr} {xs : List V} (e : H a = some (.lst xs)) : TyOf K H (.ref a) (.type "list")
  | frz {a : Addr} {o : Obj} {xs : List V} (e : H a = some (.frz o (.lst xs))) : TyOf K H (.ref a) (.type "list")
  | tup {a : Addr} {xs : List V} (e : H a = some (.tup xs)) : TyOf K H (.ref a) (.type "tuple")
  | dK {a : Addr} {kvs : List (Key × V)} (e : H a = some (.dK kvs)) : TyOf K H (.ref a) (.type "dict")
  | dT {a : Addr} {kvs : List (List Key × V)} (e : H a = some (.dT kvs)) : TyOf K H (.ref a) (.type "dict")
  | ins {a C dx : Addr} {fs : List (Str × V)} (e : H a = some (.ins C dx fs)) (cl : Cls K C) (ha : PySem.W.findIn K (.ref C) "__class__" = some (some (.builtin "object.__class__")))
      (hn : PySem.W.specialIn K (.builtin "object.__class__") "__get__" = some (some (.builtin "getset_descriptor.__get__"))) (htk : PySem.W.takesIn K (.builtin "object.__class__") = some true)
      (hm : PySem.W.mroIn K C (.type "object") = some true) : TyOf K H (.ref a) (.ref C)
/-- isinstance(x, c) for one class c, a built-in or an own one: kitOne's answer -/
theorem isinst_ok {x : V} {u t : Value} (I : Inv X pins σ H s) (rx : RelV x u) (ty : TyOf X.K H x t) (e : PySem.W.kitOne X.K t c = some b) (h : ∀ tk, Q (.bool b) { s with toks := tk }) :
    wpAny (model X.prog X.w) A (call (.builtin "isinstance") [u, c]) Q E s := by
  cases ty with
  | non => cases (show u = Value.none from rx); exact PySem.W.kia_one PySem.W.kitx_none I.kIn True.intro e (fun z => nomatch z) h
  | bl y => cases (show u = Value.bool y from rx); exact PySem.W.kia_one PySem.W.kitx_bool I.kIn True.intro e (fun z => nomatch z) h
  | int i => obtain ⟨t, q⟩ := (show ∃ t, u = Value.int i t from rx); cases q; exact PySem.W.kia_one PySem.W.kitx_int I.kIn True.intro e (fun z => nomatch z) h
  | str y => obtain ⟨t, q⟩ := (show ∃ t, u = Value.str y t from rx); cases q; exact PySem.W.kia_one PySem.W.kitx_str I.kIn True.intro e (fun z => nomatch z) h
  | flt y => obtain ⟨t, q⟩ := (show ∃ t, u = Value.float y t from rx); cases q; exact PySem.W.kia_one PySem.W.kitx_float I.kIn True.intro e (fun z => nomatch z) h
  | @lst a xs ea =>
    cases (show u = Value.ref a from rx)
    obtain ⟨_, _, n, _, h1⟩ := (show ObjOk X.prog X.w H s.heap a (.lst xs) from I.hok a _ ea)
    exact PySem.W.kia_one PySem.W.kitx_list I.kIn ⟨_, h1, rfl⟩ e (fun z => nomatch z) h
  | @frz a ob xs ea =>
    cases (show u = Value.ref a from rx)
    obtain ⟨_, _, _, n, _, h1⟩ := (show ObjOk X.prog X.w H s.heap a (.frz ob (.lst xs)) from I.hok a _ ea)
    exact PySem.W.kia_one PySem.W.kitx_list I.kIn ⟨_, h1, rfl⟩ e (fun z => nomatch z) h
  | @tup a xs ea =>
    cases (show u = Value.ref a from rx)
    obtain ⟨_, _, _, p⟩ := (show ObjOk X.prog X.w H s.heap a (.tup xs) from I.hok a _ ea)
    obtain ⟨o, h1, h2, _⟩ := p
    exact PySem.W.kia_one PySem.W.kitx_tuple I.kIn ⟨o, h1, h2⟩ e (fun z => nomatch z) h
  | @dK a kvs ea =>
    cases (show u = Value.ref a from rx)
    obtain ⟨_, _, vs, _, p⟩ := (show ObjOk X.prog X.w H s.heap a (.dK kvs) from I.hok a _ ea)
    obtain ⟨o, es, ep, h1, h2, _⟩ := p
    exact PySem.W.kia_one PySem.W.kitx_dict I.kIn ⟨o, h1, h2.1⟩ e (fun z => nomatch z) h
  | @dT a kvs ea =>
    cases (show u = Value.ref a from rx)
    obtain ⟨_, _, xs, _, o, es, ep, h1, h2, _⟩ := (show ObjOk X.prog X.w H s.heap a (.dT kvs) from I.hok a _ ea)
    exact PySem.W.kia_one PySem.W.kitx_dict I.kIn ⟨o, h1, h2.1⟩ e (fun z => nomatch z) h
  | @ins a C dx fs ea cl ha hn htk hm =>
    cases (show u = Value.ref a from rx)
    obtain ⟨mA, O, _⟩ := ins_get I.hok ea
    obtain ⟨od, J, _⟩ := O.look
    exact PySem.W.kia_one (PySem.W.kitx_own (cl.get _) cl.hd ha hn htk hm) I.kIn J e (fun z => nomatch z) h
end
end L2
namespace L2
open PySem PySem.Spec PyProof.Rows
structure Room (k : Nat) (A : Around) : Prop where
  hd : A.handled = none
  dp : A.depth + 3 * k + 5 < recursionLimit
  un : A.units + 16 * k + 200 < cLine
  gd : A.guards = some []
theorem Room.mono {j k : Nat} {A : Around} (r : Room k A) (h : j ≤ k) : Room j A := ⟨r.hd, by have := r.dp; omega, by have := r.un; omega, r.gd⟩
theorem Room.deeper {k : Nat} {A : Around} (r : Room (k + 1) A) (env : Env) : Room k (A.deeper env) :=
  ⟨r.hd, by have := r.dp; show A.depth + 1 + 3 * k + 5 < _; omega, by have := r.un; show A.units + 3 + 16 * k + 200 < _; omega, r.gd⟩
theorem make_depth {A : Around} {C : Addr} {us : List Value} {kw : List (Str × Value)} : (A.under (.builtin "type.__call__" ⟨.ref C :: us, kw⟩)).depth = A.depth + 1 := by
  first | rfl | simp [Around.under, Code.weight, Code.isCreation, Code.isGuard, Code.isCaller, Code.frames, Code.isFrame, guardIds]
theorem make_units {A : Around} {C : Addr} {us : List Value} {kw : List (Str × Value)} : (A.under (.builtin "type.__call__" ⟨.ref C :: us, kw⟩)).units = A.units + 1 := by
  first | rfl | simp [Around.under, Code.cUnits, Code.frames, Code.isFrame]
theorem make_guards {A : Around} {C : Addr} {us : List Value} {kw : List (Str × Value)} (h : A.guards = some []) : (A.under (.builtin "type.__call__" ⟨.ref C :: us, kw⟩)).guards = some [] := by
  first | exact h | simp [Around.under, Code.guards, Code.isGuard, pushGuards, guardIds, h]
theorem Room.make {k : Nat} {A : Around} (r : Room (k + 1) A) (C : Addr) (us : List Value) (kw : List (Str × Value)) : Room k (A.under (.builtin "type.__call__" ⟨.ref C :: us, kw⟩)) :=
  ⟨r.hd, by have := r.dp; rw [make_depth]; omega, by have := r.un; rw [make_units]; omega, make_guards r.gd⟩
theorem Room.depth {k : Nat} {A : Around} (r : Room k A) : A.depth < recursionLimit := by have := r.dp; omega
theorem Room.units {k : Nat} {A : Around} (r : Room k A) : A.units + 64 < cLine := by have := r.un; omega
def tNil : TA := fun _ H Q => Q [] H
def tCons (ta : TE) (tr : TA) : TA := fun σ H Q => ta σ H fun x H1 => tr σ H1 fun xs H2 => Q (x :: xs) H2
section
variable {X : Cx} {e : Expr} {es : List Expr} {te : TE} {t : TA} {pos : Pos}
theorem pa_nil : PA X [] tNil := fun _ _ _ _ H Q I h => Calls.spliced_nil ⟨[], H, I, .nil, h⟩
theorem pa_cons (ha : PE X e te) (hr : PA X es t) (hs : starEach (e :: es) X.env = (false, eval e X.env) :: starEach es X.env := by rfl) : PA X (e :: es) (tCons te t) := by
  intro pos pins s σ H Q I h
  rw [hs]
  show wpAny _ _ (spliced ((false, eval e X.env) :: backTo pos (starEach es X.env))) _ _ s
  refine Calls.spliced_cons (thn (ha pins s σ H _ I h) fun u s1 ⟨x, H1, I1, r1, q1⟩ => ?_)
  exact thn (hr pos pins s1 σ H1 _ I1 q1) fun us s2 ⟨xs, H2, I2, r2, q2⟩ => ⟨x :: xs, H2, I2, .cons r1 r2, q2⟩
/-- a tuple, a list of written items -/
def tTup (t : TA) : TE := fun σ H Q => t σ H fun xs H1 => xs.length ≤ sizeLine ∧ ∀ p, H1 p = none → Q (.ref p) (upd H1 p (.tup xs))
def tLst (t : TA) : TE := fun σ H Q => t σ H fun xs H1 => xs.length ≤ sizeLine ∧ ∀ p, H1 p = none → Q (.ref p) (upd H1 p (.lst xs))
theorem pe_tup {x1} (h : PA X es t) : PE X (.Tuple es x1 pos) (tTup t) := by
  intro pins s σ H Q I hq
  refine wpAny_Tuple_spliced (thn (h pos pins s σ H _ I hq) fun us s1 ⟨xs, H1, I1, r, z, q⟩ => ⟨by rw [← r.length]; exact z, ?_⟩)
  have hf : H1 s1.heap.objs.size = none := I1.hok.fresh (Nat.le_refl _)
  refine ⟨.ref s1.heap.objs.size, upd H1 s1.heap.objs.size (.tup xs), I1.laid (t' := s1.toks) (fun b u e => Heap.get?_push_of_some _ e) (Nat.le_refl _) ?_, rfl, q _ hf⟩
  exact ⟨z, us, r, ⟨_, Heap.get?_push_size _ rfl, rfl, _, rfl⟩⟩
theorem pe_lst (h : PA X es t) : PE X (.List es pos) (tLst t) := by
  intro pins s σ H Q I hq
  refine wpAny_List_spliced (thn (h pos pins s σ H _ I hq) fun us s1 ⟨xs, H1, I1, r, z, q⟩ => ⟨by rw [← r.length]; exact z, ?_⟩)
  have hf : H1 s1.heap.objs.size = none := I1.hok.fresh (Nat.le_refl _)
  refine ⟨.ref s1.heap.objs.size, upd H1 s1.heap.objs.size (.lst xs), I1.laid (t' := s1.toks) (fun b u e => Heap.get?_push_of_some _ e) (Nat.le_refl _) ?_, rfl, q _ hf⟩
  exact ⟨z, us, 0, r, Heap.get?_push_size _ rfl⟩
end
/-- a def's promise: the bound arguments in the parameters' order, the heap, the wanted end, the wanted exception -/
abbrev Sp := List V → Hp → VK → XK → Prop
/-- how an exception lies behind a call (file 08 gives it): the callers' frames, abstract heap and state ahead of the call, the wish, the exception, the state -/
abbrev CXT := List Env → Hp → Shared → XK → Value → Shared → Prop
/-- the state at a call -/
structure Env0 (P : Program) (w : World) (K : PySem.W.Frag) (mg : Str → Option Value) (base : Heap) (A : Around) (outer : List Env) (s : Shared) (H : Hp) : Prop where
  frames : A.frames = some outer
  mod : Mod K mg base
  bs : ∀ b o, base.get? b = some o → s.heap.get? b = some o ∧ H b = none
  bsz : base.objs.size ≤ s.heap.objs.size
  funs : s.heap.FunFrames base outer
  frf : ∀ b ∈ frs outer, H b = none
  hok : HOk P w H s.heap
  bare : AllBare s.gens
/-- a call's end -/
def CE (outer : List Env) (P : Program) (w : World) (H : Hp) (s : Shared) (Q : VK) (u : Value) (s' : Shared) : Prop :=
  ∃ v H', s'.os = s.os ∧ AllBare s'.gens ∧ Un (frs outer) [] H H' s.heap s'.heap ∧ HOk P w H' s'.heap ∧ RelV v u ∧ Q v H'
def CR (CX : CXT) (outer : List Env) (P : Program) (w : World) (H : Hp) (s : Shared) (Q : VK) (E : XK) (r : Result) (s' : Shared) : Prop :=
  match r with
  | .ok (.ret u) => CE outer P w H s Q u s'
  | .ok _ => False
  | .error e => CX outer H s E e s'
structure FnOk (P : Program) (w : World) (K : PySem.W.Frag) (mg : Str → Option Value) (base : Heap) (CX : CXT) (k : Nat) (f : Addr) (fd : FuncData) (ps : List Str) (sp : Sp) : Prop where
  len : ∀ vs H Q E, sp vs H Q E → vs.length = ps.length
  run : ∀ (A : Around) (outer : List Env) (s : Shared) (H : Hp) (args : Args) (us : List Value) (vs : List V) (Q : VK) (E : XK), Room k A → Env0 P w K mg base A outer s H → BindsTo s fd args (ps.zip us) → Vals vs us → sp vs H Q E →
    codeAny (model P w) A (.call (.ref f) args) (CR CX outer P w H s Q E) s
theorem Env0.make {P : Program} {w : World} {K : PySem.W.Frag} {mg : Str → Option Value} {base : Heap} {A : Around} {outer : List Env} {s : Shared} {H : Hp} (e : Env0 P w K mg base A outer s H) (C : Addr) (us : List Value) (kw : List (Str × Value)) :
    Env0 P w K mg base (A.under (.builtin "type.__call__" ⟨.ref C :: us, kw⟩)) outer s H := ⟨by first | exact e.frames | (simpa [Around.under, Code.envs, Code.isFrame, pushEnvs] using e.frames), e.mod, e.bs, e.bsz, e.funs, e.frf, e.hok, e.bare⟩
section
variable {X : Cx} {pins : List (Addr × Obj)} {σ : St} {H : Hp} {s s' : Shared}
/-- from a body: what a callee wants -/
theorem Inv.env0 (I : Inv X pins σ H s) : Env0 X.prog X.w X.K X.mg X.base X.A X.stack s H :=
  ⟨I.ok.frames, I.ok.mod, I.bs, Nat.le_trans I.ok.bsz I.sz, I.stack, I.stkFree, I.hok, I.bare⟩
/-- behind a call -/
theorem Inv.after {Q : VK} {u : Value} (I : Inv X pins σ H s) (h : CE X.stack X.prog X.w H s Q u s') : EP X pins σ Q u s' := by
  obtain ⟨v, H', os, bare, un, hok, r, q⟩ := h
  obtain ⟨hh, g, d, t, os'⟩ := s'
  obtain rfl : os' = s.os := os
  exact ⟨v, H', I.call (h' := hh) (g' := g) (d' := d) (t' := t) (ch := []) un hok bare (fun b z => absurd z (by simp)), r, q⟩
end
/-- f(..): the written arguments, then the defaults dvs; E: what is wanted of an exception -/
def tCall (sp : Sp) (dvs : List V) (E : XK) (t : TA) : TE := fun σ H Q => t σ H fun vs H1 => sp (vs ++ dvs) H1 Q E
/-- o.m(..) of an instance of the class at C -/
inductive tMeth_I (C : Addr) (m : Str) (sp : Sp) (dvs : List V) (E : XK) (t : TA) (σ : St) (Q : VK) (x : V) (H1 : Hp) : Prop
  | mk : ∀ a dx fs, x = .ref a → H1 a = some (.ins C dx fs) → fs.lookup m = none → (t σ H1 fun vs H2 => sp (x :: (vs ++ dvs)) H2 Q E) → tMeth_I C m sp dvs E t σ Q x H1
def tMeth (C : Addr) (m : Str) (sp : Sp) (dvs : List V) (E : XK) (ta : TE) (t : TA) : TE := fun σ H Q => ta σ H fun x H1 => tMeth_I C m sp dvs E t σ Q x H1
/-- C(..): a new instance and its dict, then __init__ -/
def tMake (C : Addr) (sp : Sp) (dvs : List V) (E : XK) (t : TA) : TE := fun σ H Q => t σ H fun vs H1 => ∀ x dx, H1 x = none → H1 dx = none → dx ≠ x →
  sp (.ref x :: (vs ++ dvs)) (upd (upd H1 dx (.own x)) x (.ins C dx [])) (fun v H2 => v = .non ∧ Q (.ref x) H2) E
/-- how the parameters are bound: us the positional arguments, kw the keywords' values by name, ds the defaults that fill up -/
def Binds (K : PySem.W.Frag) (fd : FuncData) (ps : List Str) (ds : List Value) : Prop :=
  ∀ (s : Shared) (us : List Value), K.In s.heap → (us ++ ds).length = ps.length → BindsTo s fd ⟨us, []⟩ (ps.zip (us ++ ds))
/-- every parameter is given -/
theorem Binds.all {K : PySem.W.Frag} {fd : FuncData} {ps : List Str} (h : ∀ us : List Value, us.length = ps.length → bindArgs fd ⟨us, []⟩ = pure (ps.zip us)) : Binds K fd ps [] := fun s us _ hl => by
  rw [List.append_nil] at hl ⊢
  exact .of_eq (h us hl)
/-- an exception of a callee reaches what this body wants of exceptions -/
def Passes (CX : CXT) (X : Cx) (E : XK) : Prop := ∀ (pins : List (Addr × Obj)) (σ : St) (H : Hp) (s : Shared) (e : Value) (s' : Shared), Inv X pins σ H s → CX X.stack H s E e s' → X.xe e s'
section
variable {X : Cx} {CX : CXT} {k : Nat} {f C : Addr} {fd : FuncData} {ps : List Str} {sp : Sp} {dvs : List V} {ds : List Value} {E : XK} {x m : Str} {p pos apos : Pos} {e o : Expr} {es : List Expr} {ta : TE} {t : TA}
/-- the callee runs -/
theorem run_fn {pins : List (Addr × Obj)} {σ : St} {H : Hp} {s : Shared} {Q : VK} {us : List Value} {vs : List V} (F : FnOk X.prog X.w X.K X.mg X.base CX k f fd ps sp) (hr : Room k X.A) (hb : Binds X.K fd ps ds) (hd : Vals dvs ds) (hx : Passes CX X E)
    (I : Inv X pins σ H s) (r : Vals vs us) (h : sp (vs ++ dvs) H Q E) : wpAny (model X.prog X.w) X.A (call (.ref f) us) (EP X pins σ Q) X.xe s := by
  have r2 : Vals (vs ++ dvs) (us ++ ds) := r.append hd
  have hl : (us ++ ds).length = ps.length := by rw [← r2.length]; exact F.len _ _ _ _ h
  refine wpAny_call (codeAny_mono (F.run X.A X.stack s H ⟨us, []⟩ (us ++ ds) (vs ++ dvs) Q E hr I.env0 (hb s us I.kIn hl) r2 h) fun r s' hq => ?_)
  cases r with
  | error e => exact hx pins σ H s e s' I hq
  | ok fl =>
    cases fl with
    | ret u => exact I.after hq
    | next => exact False.elim hq
    | brk => exact False.elim hq
    | cont => exact False.elim hq
theorem pe_call (F : FnOk X.prog X.w X.K X.mg X.base CX k f fd ps sp) (hr : Room k X.A) (hg : Gl X x) (hm : X.mg x = some (.ref f)) (hk : PySem.W.keepIn X.K (.ref f) = true) (hb : Binds X.K fd ps ds) (hd : Vals dvs ds) (hx : Passes CX X E)
    (ha : PA X (e :: es) t) (hdb : (x == ("__debug__" : Str)) = false := by decide) (he : starEach (e :: es) X.env = (false, eval e X.env) :: starEach es X.env := by rfl) (hpl : (backTo pos (starEach es X.env)).any (·.1) = false := by rfl) :
    PE X (.Call (.Name x p) (e :: es) [] pos) (tCall sp dvs E t) := by
  intro pins s σ H Q I h
  refine wpAny_Call_Name_kw (ld_glob I hg hm ?_ hdb)
  refine PySem.W.callWith_K (h₀ := X.base) I.ok.mod.kin hk (thn (ha pos pins s σ H _ I h) fun us s1 ⟨vs, H1, I1, r, q⟩ => ⟨I1.kIn, ?_⟩) he hpl
  exact run_fn F hr hb hd hx I1 r q
/-- o.m(e, ..) -/
theorem pe_meth {pl : Sem Bool} (he : PE X o ta) (c : Cls X.K C) (hm : Meth X.K C m f) (F : FnOk X.prog X.w X.K X.mg X.base CX k f fd ps sp) (hr : Room k X.A) (hb : Binds X.K fd ps ds) (hd : Vals dvs ds) (hx : Passes CX X E) (ha : PA X (e :: es) t)
    (hst : starEach (e :: es) X.env = (false, eval e X.env) :: starEach es X.env := by rfl) (hpl : (backTo pos (starEach es X.env)).any (·.1) = false := by rfl)
    (ht : eval (.Call (.Attribute o m apos) (e :: es) [] pos) X.env = (do
      let ov ← eval o X.env
      standAt apos.atName
      let (f, first) ← holding [ov] (getMethod ov m pl)
      callWith pos f first (backTo pos (starEach (e :: es) X.env)) (backToKw pos (keywordEach [] X.env))) := by rfl) :
    PE X (.Call (.Attribute o m apos) (e :: es) [] pos) (tMeth C m sp dvs E ta t) := by
  intro pins s σ H Q I h
  refine PySem.W.methodCall_KW (pl := pl) (thn (he pins s σ H _ I h) fun u s1 ⟨x, H1, I1, rx, a, dx, fs, ex, ea, l, q⟩ => ?_) ht
  subst ex
  obtain rfl : u = Value.ref a := rx
  refine getmeth_ok I1 ea c hm l ?_
  refine PySem.W.callWith_K (first := [.ref a]) (h₀ := X.base) I.ok.mod.kin hm.kp (thn (ha pos pins s1 σ H1 _ I1 q) fun us s2 ⟨vs, H2, I2, r, q2⟩ => ⟨I2.kIn, ?_⟩) hst hpl
  exact run_fn (us := .ref a :: us) (vs := .ref a :: vs) F hr hb hd hx I2 (.cons rfl r) q2
/-- o.m() -/
theorem pe_meth0 {pl : Sem Bool} (he : PE X o ta) (c : Cls X.K C) (hm : Meth X.K C m f) (F : FnOk X.prog X.w X.K X.mg X.base CX k f fd ps sp) (hr : Room k X.A) (hb : Binds X.K fd ps ds) (hd : Vals dvs ds) (hx : Passes CX X E)
    (ht : eval (.Call (.Attribute o m apos) [] [] pos) X.env = (do
      let ov ← eval o X.env
      standAt apos.atName
      let (f, first) ← holding [ov] (getMethod ov m pl)
      callWith pos f first (backTo pos (starEach [] X.env)) (backToKw pos (keywordEach [] X.env))) := by rfl) :
    PE X (.Call (.Attribute o m apos) [] [] pos) (tMeth C m sp dvs E ta tNil) := by
  intro pins s σ H Q I h
  refine PySem.W.methodCall_KW (pl := pl) (thn (he pins s σ H _ I h) fun u s1 ⟨x, H1, I1, rx, a, dx, fs, ex, ea, l, q⟩ => ?_) ht
  subst ex
  obtain rfl : u = Value.ref a := rx
  refine getmeth_ok I1 ea c hm l ?_
  exact PySem.W.callWith_K0 (first := [.ref a]) I1.kIn hm.kp (run_fn (us := [.ref a]) (vs := [.ref a]) F hr hb hd hx I1 (.cons rfl .nil) q)
/-- what a class must have to be made -/
structure Mk (K : PySem.W.Frag) (C f : Addr) : Prop where
  makes : PySem.W.makesIn K C = true
  init : PySem.W.findIn K (.ref C) "__init__" = some (some (.ref f))
  fn : PySem.W.isFn K (.ref f) = true
  kp : PySem.W.keepIn K (.ref C) = true
theorem run_make {pins : List (Addr × Obj)} {σ : St} {H : Hp} {s : Shared} {Q : VK} {us : List Value} {vs : List V} (M : Mk X.K C f) (F : FnOk X.prog X.w X.K X.mg X.base CX k f fd ps sp) (hr : Room (k + 1) X.A) (hb : Binds X.K fd ps ds) (hd : Vals dvs ds)
    (hx : Passes CX X E) (I : Inv X pins σ H s) (r : Vals vs us)
    (h : ∀ x dx, H x = none → H dx = none → dx ≠ x → sp (.ref x :: (vs ++ dvs)) (upd (upd H dx (.own x)) x (.ins C dx [])) (fun v H2 => v = .non ∧ Q (.ref x) H2) E) :
    wpAny (model X.prog X.w) X.A (call (.ref C) us) (EP X pins σ Q) X.xe s := by
  have hq := h (s.heap.objs.size + 1) s.heap.objs.size (I.hok.fresh (Nat.le_succ _)) (I.hok.fresh (Nat.le_refl _)) (Nat.ne_of_lt (Nat.lt_succ_self _))
  have I2 := Inv.made (C := C) I
  have r2 : Vals (V.ref (s.heap.objs.size + 1) :: (vs ++ dvs)) (Value.ref (s.heap.objs.size + 1) :: (us ++ ds)) := .cons rfl (r.append hd)
  have hl : (Value.ref (s.heap.objs.size + 1) :: us ++ ds).length = ps.length := by
    have e := r2.length
    rw [F.len _ _ _ _ hq] at e
    exact e.symm
  refine wpAny_call (make_map (f := f) I.kIn M.makes M.init (beq_iff_eq.mp M.fn) (codeAny_mono (F.run _ X.stack _ _ ⟨Value.ref (s.heap.objs.size + 1) :: us, []⟩ (Value.ref (s.heap.objs.size + 1) :: (us ++ ds)) _ _ E (hr.make C us [])
    (I2.env0.make C us []) (hb _ (Value.ref (s.heap.objs.size + 1) :: us) I2.kIn hl) r2 hq) fun r s' hq' => ?_))
  cases r with
  | error e => exact hx pins σ _ _ e s' I2 hq'
  | ok fl =>
    cases fl with
    | ret u =>
      obtain ⟨v, H', I3, rv, ev, q3⟩ := I2.after hq'
      subst ev
      exact ⟨rv, ⟨V.ref (s.heap.objs.size + 1), H', I3, rfl, q3⟩⟩
    | next => exact False.elim hq'
    | brk => exact False.elim hq'
    | cont => exact False.elim hq'
theorem pe_make0 (M : Mk X.K C f) (F : FnOk X.prog X.w X.K X.mg X.base CX k f fd ps sp) (hr : Room (k + 1) X.A) (hg : Gl X x) (hm : X.mg x = some (.ref C)) (hb : Binds X.K fd ps ds) (hd : Vals dvs ds) (hx : Passes CX X E)
    (hdb : (x == ("__debug__" : Str)) = false := by decide) : PE X (.Call (.Name x p) [] [] pos) (tMake C sp dvs E tNil) := by
  intro pins s σ H Q I h
  refine wpAny_Call_Name_kw (ld_glob I hg hm ?_ hdb)
  exact PySem.W.callWith_K0 I.kIn M.kp (run_make (us := []) M F hr hb hd hx I .nil h)
end
section
variable {X : Cx} {CX : CXT} {k : Nat} {f C : Addr} {fd : FuncData} {ps ks : List Str} {sp : Sp} {E : XK} {x m : Str} {p pos apos kpos : Pos} {e o : Expr} {es : List Expr} {kws : List Keyword} {te ta : TE} {t tk : TA} {nm : Option Str}
variable {g : List Value → List Value → List Value} {gV : List V → List V → List V}
end
/-- names: the parameters first -/
structure FnScope (N P : List Str) (sc : Scope) : Prop where
  kind : sc.kind = .function
  co : sc.isCoroutine = false
  gen : sc.isGenerator = false
  nd : N.Nodup
  pre : N.take P.length = P
  par : ∀ x ∈ P, sc.names.lookup x = some .local ∨ sc.names.lookup x = some .cell
  nofree : ∀ y ∈ sc.names, y.2 ≠ .free
theorem bindL_out {kindOf : Str → Option NameKind} {x : Str} : ∀ {binds : List (Str × Value)} {m : Str → Option Value}, (∀ v, (x, v) ∉ binds) → bindL kindOf binds m x = m x
  | [], _, _ => rfl
  | (n, v) :: r, m, h => by
    unfold bindL
    rw [bindL_out fun w hw => h w (List.mem_cons_of_mem _ hw)]
    split
    · have : x ≠ n := by rintro rfl; exact h v List.mem_cons_self
      simp [this]
    · rfl
theorem bindC_out {kindOf : Str → Option NameKind} {x : Str} : ∀ {binds : List (Str × Value)} {m : Str → Option Value}, (∀ v, (x, v) ∉ binds) → bindC kindOf binds m x = m x
  | [], _, _ => rfl
  | (n, v) :: r, m, h => by
    unfold bindC
    rw [bindC_out fun w hw => h w (List.mem_cons_of_mem _ hw)]
    split
    · rfl
    · have : x ≠ n := by rintro rfl; exact h v List.mem_cons_self
      simp [this]
theorem bindL_get {kindOf : Str → Option NameKind} {x : Str} {v : Value} : ∀ {P : List Str} {vs : List Value} {i : Nat} {m : Str → Option Value}, P.Nodup → P[i]? = some x → vs[i]? = some v → kindOf x = some .local →
    bindL kindOf (P.zip vs) m x = some v
  | [], _, _, _, _, h, _, _ => by simp at h
  | _ :: _, [], _, _, _, _, h, _ => by simp at h
  | p :: P, w :: vs, 0, m, nd, h1, h2, hk => by
    simp at h1 h2; subst h1; subst h2
    show bindL kindOf ((p, w) :: P.zip vs) m p = _
    unfold bindL
    rw [bindL_out fun v hv => (List.nodup_cons.mp nd).1 (List.of_mem_zip hv).1, if_pos hk]
    simp
  | p :: P, w :: vs, i + 1, m, nd, h1, h2, hk => by
    show bindL kindOf ((p, w) :: P.zip vs) m x = _
    unfold bindL
    exact bindL_get (i := i) (List.nodup_cons.mp nd).2 (by simpa using h1) (by simpa using h2) hk
theorem bindC_get {kindOf : Str → Option NameKind} {x : Str} {v : Value} : ∀ {P : List Str} {vs : List Value} {i : Nat} {m : Str → Option Value}, P.Nodup → P[i]? = some x → vs[i]? = some v → kindOf x ≠ some .local →
    bindC kindOf (P.zip vs) m x = some v
  | [], _, _, _, _, h, _, _ => by simp at h
  | _ :: _, [], _, _, _, _, h, _ => by simp at h
  | p :: P, w :: vs, 0, m, nd, h1, h2, hk => by
    simp at h1 h2; subst h1; subst h2
    show bindC kindOf ((p, w) :: P.zip vs) m p = _
    unfold bindC
    rw [bindC_out fun v hv => (List.nodup_cons.mp nd).1 (List.of_mem_zip hv).1, if_neg hk]
    simp
  | p :: P, w :: vs, i + 1, m, nd, h1, h2, hk => by
    show bindC kindOf ((p, w) :: P.zip vs) m x = _
    unfold bindC
    exact bindC_get (i := i) (List.nodup_cons.mp nd).2 (by simpa using h1) (by simpa using h2) hk
/-- the names' values at the entry -/
def start (N : List Str) (vs : List V) : St := vs.map some ++ List.replicate (N.length - vs.length) none
/-- the context of a def's body, at its entry; an exception leaves the frame, then lies as CX says -/
def cxOf (CX : CXT) (P : Program) (w : World) (K : PySem.W.Frag) (mg : Str → Option Value) (base : Heap) (N : List Str) (qual : Str) (scope : Scope) (f : Addr) (cd : Value) (A : Around) (outer : List Env) (s : Shared) (H : Hp) (E : XK) : Cx where
  prog := P
  w := w
  K := K
  mg := mg
  base := base
  A := A.deeper (envOfC qual scope s.heap.objs.size f cd)
  N := N
  s₀ := s
  H₀ := H
  env := envOfC qual scope s.heap.objs.size f cd
  outer := outer
  stack := envOfC qual scope s.heap.objs.size f cd :: outer
  ex := []
  calm := true
  fn := fun _ => true
  pn := []
  xe := fun e s' => wpAny (model P w) (A.deeper (envOfC qual scope s.heap.objs.size f cd)) (leaving (envOfC qual scope s.heap.objs.size f cd) e) (fun _ s'' => CX outer H s E e s'') (fun e' s'' => CX outer H s E e' s'') s'
theorem cell_has {sc : Scope} {n : Nat} {x : Str} (h : sc.names.lookup x = some .cell) : ∃ c, (cellsFrom n sc.names []).lookup x = some c := by
  have q := PySem.W.cellsFrom_some sc.names n [] (.inl h)
  exact Option.isSome_iff_exists.mp q
theorem inv_start {CX : CXT} {P : Program} {w : World} {K : PySem.W.Frag} {mg : Str → Option Value} {base : Heap} {N ps : List Str} {qual : Str} {scope : Scope} {f : Addr} {cd : Value} {A : Around} {outer : List Env} {s s1 : Shared} {H : Hp} {E : XK} {us : List Value} {vs : List V}
    (S : FnScope N ps scope) (hd : A.handled = none) (e0 : Env0 P w K mg base A outer s H) (hl : vs.length = ps.length) (r : Vals vs us)
    (x : InCallC s s.heap.objs.size (bindL (envOfC qual scope s.heap.objs.size f cd).kindOf (ps.zip us) fun _ => none) (cellsFrom (s.heap.objs.size + 1) scope.names []) (bindC (envOfC qual scope s.heap.objs.size f cd).kindOf (ps.zip us) fun _ => none) s1) :
    Inv (cxOf CX P w K mg base N qual scope f cd A outer s H E) [] (start N vs) H s1 := by
  have hpl : ps.length ≤ N.length := by have := congrArg List.length S.pre; rw [List.length_take] at this; omega
  obtain ⟨h1, tk, rfl, hk⟩ := x.done
  have noA : ∀ b : Addr, b ∉ (cxOf CX P w K mg base N qual scope f cd A outer s H E).ex := fun b z => absurd (show b ∈ ([] : List Addr) from z) (by simp)
  refine ⟨⟨e0.mod, S.kind, rfl, rfl, Nat.le_refl _, fun y z c h1 h2 => ?_, fun y hy => ?_, fun y c _ h => ?_, fun _ => hd, Around.frames_deeper e0.frames, .inr ⟨rfl, rfl⟩, fun b z => absurd z (noA b), e0.bs, e0.bsz, fun b _ _ => noA b, fun b z => absurd z (noA b), e0.funs, e0.frf⟩,
    rfl, e0.bare, Un.kept hk, ⟨_, x.toInCall.ns, fun i y v h1 h2 h3 => ?_⟩, fun y c h => ⟨_, x.cell y c h⟩, e0.hok.fresh (Nat.le_refl _), fun y c h => ?_, fun p hp => absurd (show p ∈ ([] : List (Addr × Obj)) from hp) (by simp), e0.hok.kept hk, ?_⟩
  · exact name_of_addr x.apart (PySem.mem_of_lookup h1) (PySem.mem_of_lookup h2)
  · have hy : scope.names.lookup y = some .cell ∨ scope.names.lookup y = some .free := hy
    rcases hy with hy | hy
    · exact cell_has hy
    · exact absurd rfl (S.nofree _ (PySem.mem_of_lookup hy))
  · exact Nat.le_of_lt (x.above y c (PySem.mem_of_lookup h))
  · have hi : i < vs.length := by
      unfold start at h2
      by_cases hi : i < vs.length
      · exact hi
      · rw [List.getElem?_append_right (by simpa using hi)] at h2
        rw [List.getElem?_replicate] at h2
        split at h2 <;> cases h2
    have ha : vs[i]? = some v := by
      unfold start at h2
      rw [List.getElem?_append_left (by simpa using hi), List.getElem?_map] at h2
      cases e : vs[i]? with
      | none => rw [e] at h2; cases h2
      | some a => rw [e] at h2; cases h2; rfl
    obtain ⟨u, hu, rv⟩ := r.get ha
    have hp : ps[i]? = some y := by
      rw [← S.pre, List.getElem?_take_of_lt (by omega)]; exact h1
    have ndP : ps.Nodup := by rw [← S.pre]; exact S.nd.sublist (List.take_sublist _ _)
    refine ⟨u, rv, ?_⟩
    rcases S.par y (List.mem_of_getElem? hp) with k | k
    · exact .inl ⟨k, bindL_get ndP hp hu k⟩
    · obtain ⟨c, e⟩ := cell_has (n := s.heap.objs.size + 1) k
      refine .inr ⟨.inl k, c, e, ?_⟩
      have q := x.cell y c e
      rw [bindC_get ndP hp hu (by show scope.names.lookup y ≠ _; rw [k]; decide)] at q
      exact q
  · exact e0.hok.fresh (Nat.le_of_lt (x.above y c (PySem.mem_of_lookup h)))
  · unfold start
    show _ = N.length
    rw [List.length_append, List.length_map, List.length_replicate]
    omega
/-- THE RULE: a def (or a method) of the text, by its body. The body's reading t is chosen for each entry; it is run at the parameters' values -/
theorem fn_of {CX : CXT} {P : Program} {w : World} {K : PySem.W.Frag} {mg : Str → Option Value} {base : Heap} {k : Nat} {f : Addr} {name qual : Str} {params : Arguments} {body : List Stmt} {scope : Scope} {dV kV doc pm cdv ct oc : Value} {an od : Option Addr}
    {osl : Array (Option Value)} {N ps : List Str} {sp : Sp} (lk : K.lookup f = some ⟨oc, od, .func (PySem.W.fnOf name qual params body scope dV kV doc pm an cdv ct), osl⟩) (hcd : PySem.W.codeIn K cdv qual = true) (S : FnScope N ps scope)
    (len : ∀ vs H Q E, sp vs H Q E → vs.length = ps.length)
    (hbody : ∀ (A : Around) (outer : List Env) (s : Shared) (H : Hp) (vs : List V) (Q : VK) (E : XK), Room k (A.deeper (envOfC qual scope s.heap.objs.size f cdv)) → sp vs H Q E →
      ∃ t, PSs (cxOf CX P w K mg base N qual scope f cdv A outer s H E) body t ∧ t { nx := fun _ H' => Q .non H', rt := Q } (start N vs) H) :
    FnOk P w K mg base CX (k + 1) f (PySem.W.fnOf name qual params body scope dV kV doc pm an cdv ct) ps sp := by
  refine ⟨len, fun A outer s H args us vs Q E hr e0 hb r hsp => ?_⟩
  have hl := len _ _ _ _ hsp
  have KX : K.In s.heap := e0.mod.kin.keeps fun b o e => (e0.bs b o e).1
  have lim : s.heap.NoLimit := e0.mod.nolimit.keeps fun b o e => (e0.bs b o e).1
  have hkind : ∀ y ∈ ps.zip us, scope.names.lookup y.1 = some .local ∨ (scope.names.lookup y.1 = some .cell ∧ ((cellsFrom (s.heap.objs.size + 1) scope.names []).lookup y.1).isSome = true) := fun ⟨n, v⟩ hy => by
    rcases S.par n (List.of_mem_zip hy).1 with q | q
    · exact .inl q
    · exact .inr ⟨q, PySem.W.cellsFrom_some _ _ _ (.inl q)⟩
  refine codeAny_call_function hr.depth (KX _ _ lk) rfl S.co S.gen rfl (PySem.W.codeRec_of KX hcd) (hb _ _ _ _ ?_)
  refine wpAny_newFunctionEnv_cells S.kind hkind fun env he s1 x => ?_
  subst he
  refine ⟨lim.keeps x.toInCall.keep, codeAny_func ?_⟩
  obtain ⟨t, ht, hq⟩ := hbody A outer s H vs Q E (hr.deeper _) hsp
  have I : Inv (cxOf CX P w K mg base N qual scope f cdv A outer s H E) [] (start N vs) H s1 := inv_start S hr.hd e0 hl r x
  refine wpAny_mono (ht [] s1 (start N vs) H _ I hq) (fun fl s' hs => ?_) fun e s' hs => hs
  have fin : ∀ {σ' : St} {H' : Hp} {v : V} {u : Value}, Inv (cxOf CX P w K mg base N qual scope f cdv A outer s H E) [] σ' H' s' → RelV v u → Q v H' → CE outer P w H s Q u s' :=
    fun {σ' H' v u} J rv q => ⟨v, H', J.os, J.bare, J.base, J.hok, rv, q⟩
  cases fl with
  | ret u =>
    obtain ⟨v, σ', H', J, rv, q⟩ := hs
    exact fin J rv q
  | next =>
    obtain ⟨σ', H', J, q⟩ := hs
    exact fin (v := V.non) (u := Value.none) J rfl q
  | brk =>
    obtain ⟨_, _, _, q⟩ := hs
    exact False.elim q
  | cont =>
    obtain ⟨_, _, _, q⟩ := hs
    exact False.elim q
end L2
namespace L2
open PySem PySem.Spec PyProof.Rows
section
variable {X : Cx} {x : Str} {p pos : Pos} {e : Expr} {es : List Expr} {t : TA} {id T : String} {r : List V → Hp → VK → Prop}
def tCB (r : List V → Hp → VK → Prop) (t : TA) : TE := fun σ H Q => t σ H fun vs H1 => r vs H1 Q
/-- f(e, ..), f a built-in function -/
theorem pe_callB (hc : CallR X (.builtin id) r) (hg : Gl X x) (hm : X.mg x = none) (hv : bootBuiltins x = some (.builtin id)) (ha : PA X (e :: es) t) (hn : x ≠ "__name__" := by decide) (hdb : (x == ("__debug__" : Str)) = false := by decide)
    (he : starEach (e :: es) X.env = (false, eval e X.env) :: starEach es X.env := by rfl) (hpl : (backTo pos (starEach es X.env)).any (·.1) = false := by rfl) : PE X (.Call (.Name x p) (e :: es) [] pos) (tCB r t) := by
  intro pins s σ H Q I h
  refine wpAny_Call_Name_kw (ld_blt I hg hm hv ?_ hn hdb)
  exact PyProof.Rows.callWith_builtin1 (thn (ha pos pins s σ H _ I h) fun us s1 ⟨vs, H1, I1, r1, q1⟩ => hc pins s1 σ H1 vs us Q I1 r1 q1) he hpl
/-- T(e, ..), T a built-in type -/
theorem pe_callTy (hc : CallR X (.type T) r) (hg : Gl X x) (hm : X.mg x = none) (hv : bootBuiltins x = some (.type T)) (ha : PA X (e :: es) t) (hn : x ≠ "__name__" := by decide) (hdb : (x == ("__debug__" : Str)) = false := by decide)
    (he : starEach (e :: es) X.env = (false, eval e X.env) :: starEach es X.env := by rfl) (hpl : (backTo pos (starEach es X.env)).any (·.1) = false := by rfl) : PE X (.Call (.Name x p) (e :: es) [] pos) (tCB r t) := by
  intro pins s σ H Q I h
  refine wpAny_Call_Name_kw (ld_blt I hg hm hv ?_ hn hdb)
  exact PyProof.Rows.callWith_type1 (thn (ha pos pins s σ H _ I h) fun us s1 ⟨vs, H1, I1, r1, q1⟩ => hc pins s1 σ H1 vs us Q I1 r1 q1) he hpl
end
end L2
namespace HT
open PySem PyProof.Rows
section
open PySem.SeqAt
open PySem.AutoSeq1 (wpAny_loadPart')
open PySem.MeetsSeq PySem.MeetsSeq2 PySem.MeetsSeq3
end
section
variable {prog : Program} {w : World} {A : Around} {E : Value → Shared → Prop} {s : Shared}
end
end HT
namespace L2
open PySem PySem.Spec PyProof.Rows
abbrev TO := St → Hp → (Option Int → Hp → Prop) → Prop
/-- a slice's part (left out, or an int) -/
def PO (X : Cx) (e : Option Expr) (t : TO) : Prop :=
  ∀ (pins : List (Addr × Obj)) (s : Shared) (σ : St) (H : Hp) (Q : Option Int → Hp → Prop), Inv X pins σ H s → t σ H Q →
    wpAny (model X.prog X.w) X.A (evalPart e X.env) (fun u s' => ∃ o H', Inv X pins σ H' s' ∧ IsPart u o ∧ Q o H') X.xe s
def tNoPart : TO := fun _ H Q => Q none H
inductive tPart_I (Q : (Option Int → Hp → Prop)) (x : V) (H1 : Hp) : Prop
  | mk : ∀ i, x = .int i → Q (some i) H1 → tPart_I Q x H1
def tPart (t : TE) : TO := fun σ H Q => t σ H fun x H1 => tPart_I Q x H1
section
variable {X : Cx} {e : Expr} {te : TE} {lo hi : Option Expr} {tl th : TO} {pos p2 : Pos}
theorem po_none : PO X none tNoPart := by
  intro pins s σ H Q I h
  rw [evalPart_none]
  exact wpAny_pure ⟨none, H, I, .none, h⟩
theorem po_some (h : PE X e te) : PO X (some e) (tPart te) := by
  intro pins s σ H Q I hw
  rw [evalPart_some]
  refine thn (h pins s σ H _ I hw) fun u s1 ⟨x, H1, I1, r1, q1⟩ => ?_
  obtain ⟨i, rfl, q⟩ := q1
  obtain ⟨t, rfl⟩ := r1
  exact ⟨some i, H1, I1, .int i t, q⟩
/-- what a slice of a value is, by values: the slice object stands at sl -/
def SlR (X : Cx) (r : V → Option Int → Option Int → Hp → VK → Prop) : Prop :=
  ∀ (pins : List (Addr × Obj)) (s : Shared) (σ : St) (H : Hp) (x : V) (v vl vu : Value) (lo hi : Option Int) (sl : Addr) (Q : VK), Inv X pins σ H s → RelV x v → s.heap.IsSliceOf sl vl vu .none → IsPart vl lo → IsPart vu hi → r x lo hi H Q →
    ∃ T id, typeLookup (.type T) "__getitem__" = pure (some (.builtin id)) ∧ s.TypeIs v T ∧ wpAny (model X.prog X.w) X.A (getItem v (.ref sl)) (EP X pins σ Q) X.xe s
def tSl (r : V → Option Int → Option Int → Hp → VK → Prop) (te : TE) (tl th : TO) : TE := fun σ H Q => te σ H fun x H1 => tl σ H1 fun l H2 => th σ H2 fun u H3 => r x l u H3 Q
/-- a[lo:hi], any a -/
theorem pe_slice {r : V → Option Int → Option Int → Hp → VK → Prop} (hr : SlR X r) (he : PE X e te) (hl : PO X lo tl) (hu : PO X hi th) : PE X (.Subscript e (.Slice lo hi none p2) pos) (tSl r te tl th) := by
  intro pins s σ H Q I h
  refine Subscript_ (thn (he pins s σ H _ I h) fun v s1 ⟨x, H1, I1, r1, q1⟩ => ?_)
  refine wpAny_Slice (thn (hl pins s1 σ H1 _ I1 q1) fun vl s2 ⟨l, H2, I2, pl, q2⟩ => thn (hu pins s2 σ H2 _ I2 q2) fun vu s3 ⟨u, H3, I3, pu, q3⟩ => ?_)
  rw [evalPart_none]
  refine wpAny_pure ?_
  have I4 : Inv X pins σ H3 { s3 with heap := s3.heap.push { cls := .type "slice", data := .fields #[vl, vu, .none] } } := I3.kept (t' := s3.toks) fun b ob q => Heap.get?_push_of_some _ q
  obtain ⟨T, id, hT, ht, hg⟩ := hr pins { s3 with heap := s3.heap.push { cls := .type "slice", data := .fields #[vl, vu, .none] } } σ H3 x v vl vu l u s3.heap.objs.size Q I4 r1 (Heap.IsSliceOf.new ..) pl pu q3
  show wpAny (model X.prog X.w) X.A (subscriptTail e (.Slice lo hi none p2) v (.ref s3.heap.objs.size)) (EP X pins σ Q) X.xe { s3 with heap := s3.heap.push { cls := .type "slice", data := .fields #[vl, vu, .none] } }
  exact tail_any (ops := [.ref s3.heap.objs.size, v]) ht hT hg (by with_unfolding_all rfl)
end
end L2
namespace L2
open PySem PySem.Spec PyProof.Rows
/-- the place that an index of any sign means -/
def ixN (n : Nat) (i : Int) : Option Nat := if 0 ≤ i then (if i < n then some i.toNat else none) else if -(n : Int) ≤ i then some (i + n).toNat else none
def atI {α : Type} (xs : List α) (i : Int) : Option α := (ixN xs.length i).bind fun j => xs[j]?
theorem ixN_seq {n : Nat} {i : Int} {j : Nat} (h : ixN n i = some j) : seqIndex? i n = some j ∧ j < n ∧ -(n : Int) ≤ i ∧ i < n := by
  unfold ixN at h
  by_cases h0 : 0 ≤ i
  · rw [if_pos h0] at h
    by_cases h1 : i < n
    · rw [if_pos h1] at h
      have e : i.toNat = j := Option.some.inj h
      exact ⟨by rw [seqIndex_of h0 h1, e], by omega, by omega, h1⟩
    · rw [if_neg h1] at h; cases h
  · rw [if_neg h0] at h
    by_cases h1 : -(n : Int) ≤ i
    · rw [if_pos h1] at h
      have e : (i + n).toNat = j := Option.some.inj h
      exact ⟨by rw [seqIndex_neg (by omega) h1, e], by omega, h1, by omega⟩
    · rw [if_neg h1] at h; cases h
theorem atI_get {α : Type} {xs : List α} {i : Int} {v : α} (h : atI xs i = some v) : ∃ j, seqIndex? i xs.length = some j ∧ xs[j]? = some v ∧ j < xs.length ∧ -(xs.length : Int) ≤ i ∧ i < xs.length := by
  unfold atI at h
  cases e : ixN xs.length i with
  | none => rw [e] at h; cases h
  | some j =>
    rw [e] at h
    obtain ⟨h1, h2, h3, h4⟩ := ixN_seq e
    exact ⟨j, h1, h, h2, h3, h4⟩
theorem atI_nat {α : Type} {xs : List α} {j : Nat} {v : α} (h : xs[j]? = some v) : atI xs (j : Int) = some v := by
  have hj : j < xs.length := (List.getElem?_eq_some_iff.mp h).1
  have e : ixN xs.length (j : Int) = some j := by
    unfold ixN
    rw [if_pos (by omega), if_pos (by omega)]; simp
  unfold atI; rw [e]; exact h
/-- what stands as an index of a plain subscript -/
def PlainIx (b : Expr) : Prop := ∀ o i, subscripted b false o i = operate [o, i] (getItem o i)
/-- a subscript by values -/
def IxR (X : Cx) (r : R2) : Prop :=
  ∀ (value slice : Expr) (pins : List (Addr × Obj)) (s : Shared) (σ : St) (H : Hp) (x y : V) (v u : Value) (Q : VK), Inv X pins σ H s → RelV x v → RelV y u → r x y H Q →
    subscripted slice false v u = operate [v, u] (getItem v u) → wpAny (model X.prog X.w) X.A (subscriptTail value slice v u) (EP X pins σ Q) X.xe s
/-- a call of a builtin's method by values: the receiver, the arguments -/
def MtR (X : Cx) (id : String) (r : V → List V → Hp → VK → Prop) : Prop :=
  ∀ (pins : List (Addr × Obj)) (s : Shared) (σ : St) (H : Hp) (x : V) (xs : List V) (v : Value) (us : List Value) (Q : VK), Inv X pins σ H s → RelV x v → Vals xs us → r x xs H Q →
    wpAny (model X.prog X.w) X.A (call (.builtin id) (v :: us)) (EP X pins σ Q) X.xe s
section
variable {X : Cx} {a b : Expr} {ta tb : TE} {pos : Pos}
/-- a[b] -/
theorem pe_ix {r : R2} (hr : IxR X r) (ha : PE X a ta) (hb : PE X b tb) (hs : PlainIx b) : PE X (.Subscript a b pos) (tOp r ta tb) := by
  intro pins s σ H Q I h
  exact Subscript_ (binT ha hb I h fun v u s2 x y H2 I2 rx ry q => hr a b pins s2 σ H2 x y v u Q I2 rx ry q (hs _ _))
inductive rIxL_I (K : PySem.W.Frag) (x : V) (y : V) (H : Hp) (Q : VK) : Prop
  | mk : ∀ p xs i v, x = .ref p → y = .int i → SqL K H p xs → atI xs i = some v → Q v H → rIxL_I K x y H Q
def rIxL (K : PySem.W.Frag) : R2 := fun x y H Q => rIxL_I K x y H Q
inductive rIxT_I (K : PySem.W.Frag) (x : V) (y : V) (H : Hp) (Q : VK) : Prop
  | mk : ∀ p xs i v, x = .ref p → y = .int i → SqT K H p xs → atI xs i = some v → Q v H → rIxT_I K x y H Q
def rIxT (K : PySem.W.Frag) : R2 := fun x y H Q => rIxT_I K x y H Q
inductive rIxS_I (x : V) (y : V) (H : Hp) (Q : VK) : Prop
  | mk : ∀ z i c, x = .str z → y = .int i → z.length ≤ sizeLine → atI z.cps.toList i = some c → Q (.str ⟨#[c]⟩) H → rIxS_I x y H Q
def rIxS : R2 := fun x y H Q => rIxS_I x y H Q
theorem ix_list : IxR X (rIxL X.K) := by
  intro value slice pins s σ H x y v u Q I rx ry h hs
  obtain ⟨p, xs, i, z, rfl, rfl, hq, he, q⟩ := h
  cases rx
  obtain ⟨t, rfl⟩ := ry
  obtain ⟨its, r, pl, hz⟩ := I.list hq
  obtain ⟨j, h1, h2, h3, h4, h5⟩ := atI_get he
  obtain ⟨w, ew, rw'⟩ := r.get h2
  have hl := r.length
  have hn := line63
  have fin : EP X pins σ Q w s := ⟨z, H, I, rw', q⟩
  by_cases h0 : 0 ≤ i
  · have hj : i.toNat = j := by
      rw [seqIndex_of h0 h5] at h1
      exact Option.some.inj h1
    exact item_listR pl.isList h0 (by omega) (by rw [hj]; simpa using ew) fin hs
  · have hj : (i + (its.toArray.size : Int)).toNat = j := by
      rw [seqIndex_neg (by omega) h4] at h1
      rw [List.size_toArray, ← hl]
      exact Option.some.inj h1
    exact subscriptTail_builtinR (x := w) pl.isList.typeIs slot_list_getitem.lookup
      (wpAny_getItem_list_neg (Q := fun r s' => r = w ∧ EP X pins σ Q r s') pl.isList (by omega) (by rw [List.size_toArray] <;> omega) (by omega) (by rw [hj]; simpa using ew) ⟨rfl, fin⟩) hs
theorem ix_tup : IxR X (rIxT X.K) := by
  intro value slice pins s σ H x y v u Q I rx ry h hs
  obtain ⟨p, xs, i, z, rfl, rfl, hq, he, q⟩ := h
  cases rx
  obtain ⟨t, rfl⟩ := ry
  obtain ⟨its, r, pl, hz⟩ := I.tuple hq
  obtain ⟨j, h1, h2, h3, h4, h5⟩ := atI_get he
  obtain ⟨w, ew, rw'⟩ := r.get h2
  have hl := r.length
  have hn := line63
  have fin : EP X pins σ Q w s := ⟨z, H, I, rw', q⟩
  exact subscriptTail_builtinR (x := w) pl.typeIs slot_tuple_getitem.lookup
    (getItem_tuple (j := j) (Q := fun r s' => r = w ∧ EP X pins σ Q r s') pl (by omega) (by omega) (by rw [List.size_toArray, ← hl]; exact h1) (by simpa using ew) ⟨rfl, fin⟩) hs
theorem ix_str : IxR X rIxS := by
  intro value slice pins s σ H x y v u Q I rx ry h hs
  obtain ⟨z, i, c, rfl, rfl, hz, he, q⟩ := h
  obtain ⟨t, rfl⟩ := rx
  obtain ⟨t', rfl⟩ := ry
  obtain ⟨j, h1, h2, h3, h4, h5⟩ := atI_get he
  have hl : z.cps.toList.length = z.length := by simp [Str.length]
  rw [hl] at h1 h4 h5
  have hn := line63
  exact tail_any (typeIs_str s z t) slot_str_getitem.lookup (getItem_str (c := c) (by
    have e1 : decide (i < -(2 ^ 63 : Int)) = false := decide_eq_false (by omega)
    have e2 : decide (i ≥ 2 ^ 63) = false := decide_eq_false (by omega)
    rw [e1, e2, Bool.or_false]) (by rw [h1]; simpa using h2) ⟨.str ⟨#[c]⟩, H, I.tok _, ⟨_, rfl⟩, q⟩) hs
def flatV : V → Bool
  | .non => true
  | .bl _ => true
  | .int _ => true
  | .str _ => true
  | _ => false
/-- == of flat values -/
def eqV : V → V → Bool
  | .non, .non => true
  | .bl a, .bl b => a == b
  | .bl a, .int b => (if a then 1 else 0) == b
  | .int a, .bl b => a == (if b then 1 else 0)
  | .int a, .int b => a == b
  | .str a, .str b => a == b
  | _, _ => false
theorem eqAt_V {A : Around} {s : Shared} {y x : V} {u v : Value} (ry : RelV y u) (rx : RelV x v) (fy : flatV y = true) (fx : flatV x = true) : SeqAt.EqAt A s u v (eqV y x) := by
  cases y with
  | non =>
    cases ry
    cases x with
    | non => cases rx; exact SeqAt.EqAt.same _
    | bl b => cases rx; exact SeqAt.EqAt.none_bool b
    | int b => obtain ⟨t, rfl⟩ := rx; exact SeqAt.EqAt.none_int b t
    | str b => obtain ⟨t, rfl⟩ := rx; exact SeqAt.EqAt.none_str b t
    | _ => exact absurd (show false = true from fx) Bool.false_ne_true
  | bl a =>
    cases ry
    cases x with
    | non => cases rx; exact SeqAt.EqAt.bool_none a
    | bl b => cases rx; exact SeqAt.EqAt.bool_bool a b
    | int b => obtain ⟨t, rfl⟩ := rx; exact SeqAt.EqAt.bool_int a b t
    | str b => obtain ⟨t, rfl⟩ := rx; exact SeqAt.EqAt.bool_str a b t
    | _ => exact absurd (show false = true from fx) Bool.false_ne_true
  | int a =>
    obtain ⟨t', rfl⟩ := ry
    cases x with
    | non => cases rx; exact SeqAt.EqAt.int_none a t'
    | bl b => cases rx; exact SeqAt.EqAt.int_bool a t' b
    | int b => obtain ⟨t, rfl⟩ := rx; exact SeqAt.EqAt.int_int a t' b t
    | str b => obtain ⟨t, rfl⟩ := rx; exact SeqAt.EqAt.int_str a t' b t
    | _ => exact absurd (show false = true from fx) Bool.false_ne_true
  | str a =>
    obtain ⟨t', rfl⟩ := ry
    cases x with
    | non => cases rx; exact SeqAt.EqAt.str_none a t'
    | bl b => cases rx; exact SeqAt.EqAt.str_bool a t' b
    | int b => obtain ⟨t, rfl⟩ := rx; exact SeqAt.EqAt.str_int a t' b t
    | str b => obtain ⟨t, rfl⟩ := rx; exact SeqAt.EqAt.str_str a t' b t
    | _ => exact absurd (show false = true from fx) Bool.false_ne_true
  | _ => exact absurd (show false = true from fy) Bool.false_ne_true
/-- the items' answers, read off the values (a value's own answer does not lean on its token) -/
def eqU (x : V) (u : Value) : Bool := match u with
  | .none => eqV .non x
  | .bool b => eqV (.bl b) x
  | .int i _ => eqV (.int i) x
  | .str z _ => eqV (.str z) x
  | _ => false
theorem eqU_of {x y : V} {u : Value} (r : RelV y u) (f : flatV y = true) : eqU x u = eqV y x := by
  cases y with
  | non => cases r; rfl
  | bl b => cases r; rfl
  | int i => obtain ⟨t, rfl⟩ := r; rfl
  | str z => obtain ⟨t, rfl⟩ := r; rfl
  | _ => exact absurd (show false = true from f) Bool.false_ne_true
theorem any_eqU {x : V} : ∀ {xs : List V} {us : List Value}, Vals xs us → xs.all flatV = true → us.any (eqU x) = xs.any fun y => eqV y x
  | _, _, .nil, _ => rfl
  | y :: xs, u :: us, .cons r t, f => by
    rw [List.all_cons, Bool.and_eq_true] at f
    rw [List.any_cons, List.any_cons, eqU_of r f.1, any_eqU t f.2]
theorem mem_eqAt {A : Around} {s : Shared} {x : V} {v : Value} (rx : RelV x v) (fx : flatV x = true) : ∀ {xs : List V} {us : List Value}, Vals xs us → xs.all flatV = true → ∀ u ∈ us, SeqAt.EqAt A s u v (eqU x u)
  | _, _, .nil, _ => fun u hu => by cases hu
  | y :: xs, u :: us, .cons r t, f => fun u' hu => by
    rw [List.all_cons, Bool.and_eq_true] at f
    rcases List.mem_cons.mp hu with rfl | hu
    · rw [eqU_of r f.1]; exact eqAt_V r rx f.1 fx
    · exact mem_eqAt rx fx t f.2 u' hu
def inV (x : V) (xs : List V) : Bool := xs.any fun y => eqV y x
/-- x in a list or tuple of flat items -/
inductive rIn_I (K : PySem.W.Frag) (neg : Bool) (x : V) (y : V) (H : Hp) (Q : VK) : Prop
  | mk : ∀ p xs, y = .ref p → (SqL K H p xs ∨ SqT K H p xs) → flatV x = true → xs.all flatV = true → Q (.bl (if neg then !inV x xs else inV x xs)) H → rIn_I K neg x y H Q
def rIn (K : PySem.W.Frag) (neg : Bool) : R2 := fun x y H Q => rIn_I K neg x y H Q
theorem op_in_seq : OpR X (compareOp .In) (rIn X.K false) := by
  intro pins s σ H x y v u Q I rx ry h
  obtain ⟨p, xs, rfl, hq, fx, fs, q⟩ := h
  cases ry
  rcases hq with hq | hq
  · obtain ⟨its, r, pl, hz⟩ := I.list hq
    refine SeqAt.in_listAt (eqU x) pl.isList (fun w hw => mem_eqAt rx fx r fs w (by simpa using hw)) ⟨.bl _, H, I, rfl, ?_⟩
    rw [show its.toArray.any (eqU x) = its.any (eqU x) by simp, any_eqU r fs]
    exact q
  · obtain ⟨its, r, pl, hz⟩ := I.tuple hq
    refine SeqAt.in_tupleAt (eqU x) pl (fun w hw => mem_eqAt rx fx r fs w (by simpa using hw)) ⟨.bl _, H, I, rfl, ?_⟩
    rw [show its.toArray.any (eqU x) = its.any (eqU x) by simp, any_eqU r fs]
    exact q
theorem op_notIn_seq : OpR X (compareOp .NotIn) (rIn X.K true) := by
  intro pins s σ H x y v u Q I rx ry h
  obtain ⟨p, xs, rfl, hq, fx, fs, q⟩ := h
  cases ry
  rcases hq with hq | hq
  · obtain ⟨its, r, pl, hz⟩ := I.list hq
    refine SeqAt.notIn_listAt (eqU x) pl.isList (fun w hw => mem_eqAt rx fx r fs w (by simpa using hw)) ⟨.bl _, H, I, rfl, ?_⟩
    rw [show its.toArray.any (eqU x) = its.any (eqU x) by simp, any_eqU r fs]
    exact q
  · obtain ⟨its, r, pl, hz⟩ := I.tuple hq
    refine SeqAt.notIn_tupleAt (eqU x) pl (fun w hw => mem_eqAt rx fx r fs w (by simpa using hw)) ⟨.bl _, H, I, rfl, ?_⟩
    rw [show its.toArray.any (eqU x) = its.any (eqU x) by simp, any_eqU r fs]
    exact q
theorem call_len_seq : CallR X (.builtin "len") (fun xs H Q => ∃ p ys, xs = [.ref p] ∧ (SqL X.K H p ys ∨ SqT X.K H p ys) ∧ Q (.int ys.length) H) := by
  intro pins s σ H xs us Q I r h
  obtain ⟨p, ys, rfl, hq, q⟩ := h
  obtain ⟨u, rfl, rx⟩ := vals1 r
  cases rx
  have hn := line63
  rcases hq with hq | hq
  · obtain ⟨its, r', pl, hz⟩ := I.list hq
    have hlen := r'.length
    exact Calls.call_len_list pl.isList (by simp only [List.size_toArray] <;> omega) ⟨.int ys.length, H, I.tok _, ⟨s.toks + 1, by rw [List.size_toArray, hlen]⟩, q⟩
  · obtain ⟨its, r', pl, hz⟩ := I.tuple hq
    have hlen := r'.length
    exact len_tuple pl (by simp only [List.size_toArray] <;> omega) ⟨.int ys.length, H, I.tok _, ⟨s.toks + 1, by rw [List.size_toArray, hlen]⟩, q⟩
theorem call_list_of : CallR X (.type "list") (fun xs H Q => ∃ p ys, xs = [.ref p] ∧ (SqL X.K H p ys ∨ SqT X.K H p ys) ∧ ∀ l, H l = none → Q (.ref l) (upd H l (.lst ys))) := by
  intro pins s σ H xs us Q I r h
  obtain ⟨p, ys, rfl, hq, q⟩ := h
  obtain ⟨u, rfl, rx⟩ := vals1 r
  cases rx
  have fin : ∀ (its : List Value), Vals ys its → ys.length ≤ sizeLine → ∀ (h' : Heap) (c' : Nat), (∀ b o', s.heap.get? b = some o' → h'.get? b = some o') →
      h'.get? s.heap.objs.size = some { cls := .type "list", dict := none, data := .seq its.toArray c', slots := #[] } → EP X pins σ Q (.ref s.heap.objs.size) { s with heap := h' } := fun its r' hz h' c' kp e =>
    ⟨.ref s.heap.objs.size, _, I.laid (t' := s.toks) kp (Nat.le_refl _) (show ObjOk X.prog X.w _ h' _ (.lst ys) from ⟨hz, its, c', r', e⟩), rfl, q _ (I.hok.fresh (Nat.le_refl _))⟩
  rcases hq with hq | hq
  · obtain ⟨its, r', pl, hz⟩ := I.list hq
    have hlen := r'.length
    obtain ⟨o, ho, hc, n, hd⟩ := pl.isList
    exact call_list_seq p (.inl rfl) ho hc hd (fun h' c' kp e => fin its r' hz h' c' kp e) (by simp only [List.size_toArray] <;> omega)
  · obtain ⟨its, r', pl, hz⟩ := I.tuple hq
    have hlen := r'.length
    obtain ⟨o, ho, hc, n, hd⟩ := pl
    exact call_list_seq p (.inr rfl) ho hc hd (fun h' c' kp e => fin its r' hz h' c' kp e) (by simp only [List.size_toArray] <;> omega)
/-- the value is of that builtin type -/
def tyV (K : PySem.W.Frag) (T : String) (x : V) (H : Hp) : Prop := match x with
  | .str _ => T = "str"
  | .int _ => T = "int"
  | .ref p => (T = "list" ∧ ∃ xs, SqL K H p xs) ∨ (T = "tuple" ∧ ∃ o, K.lookup p = some o ∧ o.cls = .type "tuple" ∧ o.dict = none) ∨
      (T = "dict" ∧ ((∃ kvs, H p = some (.dK kvs)) ∨ ∃ kvs, H p = some (.dT kvs))) ∨ (T = "set" ∧ ∃ S n, H p = some (.set S n))
  | _ => False
theorem tyV_is {pins : List (Addr × Obj)} {σ : St} {H : Hp} {s : Shared} {T : String} {x : V} {v : Value} (I : Inv X pins σ H s) (r : RelV x v) (ty : tyV X.K T x H) :
    s.TypeIs v T ∧ ∀ a, v = .ref a → ∃ ob, s.heap.get? a = some ob ∧ ob.dict = none := by
  cases x with
  | str z =>
    obtain ⟨t, rfl⟩ := r
    cases (show T = "str" from ty)
    exact ⟨typeIs_str s z t, fun _ e => nomatch e⟩
  | int i =>
    obtain ⟨t, rfl⟩ := r
    cases (show T = "int" from ty)
    exact ⟨typeIs_int s i t, fun _ e => nomatch e⟩
  | ref p =>
    cases r
    rcases ty with ⟨rfl, xs, hq⟩ | ⟨rfl, o, hk, hc, hd⟩ | ⟨rfl, hk⟩ | ⟨rfl, S, n, hk⟩
    · obtain ⟨its, _, pl, _⟩ := I.list hq
      refine ⟨pl.isList.typeIs, fun a e => ?_⟩
      cases e
      obtain ⟨o, n, e, c, hd, _⟩ := pl
      exact ⟨o, e, hd⟩
    · refine ⟨⟨o, I.kIn p o hk, hc⟩, fun a e => ?_⟩
      cases e
      exact ⟨o, I.kIn _ o hk, hd⟩
    · have z : ∃ o, s.heap.get? p = some o ∧ o.ExactDict := by
        rcases hk with ⟨kvs, hk⟩ | ⟨kvs, hk⟩
        · obtain ⟨_, _, _, _, o, _, _, e, ex, _⟩ := I.hok p _ hk
          exact ⟨o, e, ex⟩
        · obtain ⟨_, _, _, _, o, _, _, e, ex, _⟩ := I.hok p _ hk
          exact ⟨o, e, ex⟩
      obtain ⟨o, e, ex⟩ := z
      refine ⟨⟨o, e, ex.1⟩, fun a e2 => ?_⟩
      cases e2
      exact ⟨o, e, ex.2.1⟩
    · obtain ⟨o, _, _, _, e, ex, _⟩ := I.hok p _ hk
      refine ⟨⟨o, e, ex.1⟩, fun a e2 => ?_⟩
      cases e2
      exact ⟨o, e, ex.2.1⟩
  | _ => exact False.elim ty
def tBM0 (K : PySem.W.Frag) (T : String) (r : V → List V → Hp → VK → Prop) (to : TE) : TE := fun σ H Q => to σ H fun x H1 => tyV K T x H1 ∧ r x [] H1 Q
def tBM (K : PySem.W.Frag) (T : String) (r : V → List V → Hp → VK → Prop) (to : TE) (t : TA) : TE := fun σ H Q => to σ H fun x H1 => tyV K T x H1 ∧ t σ H1 fun xs H2 => r x xs H2 Q
variable {o e : Expr} {es : List Expr} {to : TE} {t : TA} {name : Str} {apos cpos : Pos} {T id : String} {r : V → List V → Hp → VK → Prop}
theorem pe_bm0 (pa : PlainAttrs T) (slot : Slot T name id) (hty : typeOf (.builtin id) = pure (.type "method_descriptor")) (hm : MtR X id r) (ho : PE X o to)
    (hbase : attributeBase o name X.env (eval o X.env) = eval o X.env := by rfl) (hline : (apos.endLine == cpos.line) = true := by rfl) : PE X (.Call (.Attribute o name apos) [] [] cpos) (tBM0 X.K T r to) := by
  intro pins s σ H Q I h
  refine wpAny_Call_method0_late hbase hline (thn (ho pins s σ H _ I h) fun v s1 ⟨x, H1, I1, r1, ty, q1⟩ => ?_)
  obtain ⟨h1, h2⟩ := tyV_is I1 r1 ty
  exact ⟨T, id, pa, slot, hty, h1, h2, Calls.callWith_builtin rfl (PySem.evalArgs_none (hm pins s1 σ H1 x [] v [] Q I1 r1 .nil q1))⟩
theorem pe_bm (pa : PlainAttrs T) (slot : Slot T name id) (hty : typeOf (.builtin id) = pure (.type "method_descriptor")) (hm : MtR X id r) (ho : PE X o to) (ha : PA X (e :: es) t)
    (hbase : attributeBase o name X.env (eval o X.env) = eval o X.env := by rfl)
    (hfew : ((backTo cpos (starEach (e :: es) X.env)).all (fun x => !x.1) && (backToKw cpos (keywordEach [] X.env)).all (fun x => x.1.isSome)
      && decide ((e :: es).length + ([] : List Keyword).length + (if ([] : List Keyword).isEmpty then 0 else 1) < 30)) = true := by rfl)
    (hline : (apos.endLine == cpos.line) = true := by rfl) (hs : starEach (e :: es) X.env = (false, eval e X.env) :: starEach es X.env := by rfl) (hplain : (backTo cpos (starEach es X.env)).any (·.1) = false := by rfl) :
    PE X (.Call (.Attribute o name apos) (e :: es) [] cpos) (tBM X.K T r to t) := by
  intro pins s σ H Q I h
  refine wpAny_Call_method_late hbase hfew hline rfl (thn (ho pins s σ H _ I h) fun v s1 ⟨x, H1, I1, r1, ty, q1⟩ => ?_)
  obtain ⟨h1, h2⟩ := tyV_is I1 r1 ty
  refine ⟨T, id, pa, slot, hty, h1, h2, ?_⟩
  have hA := ha cpos pins s1 σ H1 _ I1 q1
  rw [hs] at hA ⊢
  refine Calls.callWith_builtin (by show (false || (backTo cpos (starEach es X.env)).any (·.1)) = false; rw [hplain] <;> rfl) (Calls.evalArgs_plain ?_)
  exact thn hA fun us s2 ⟨vs, H2, I2, r2, q2⟩ => hm pins s2 σ H2 x vs v us Q I2 r1 r2 q2
/- xs.append(e), list.index on a module's tuple .. are MtR facts of 06m -/
end
end L2
namespace L2
open PySem PySem.Spec PyProof.Rows
def MtM (X : Cx) (id : String) (r : V → List V → Hp → VK → Prop) : Prop :=
  ∀ (pins : List (Addr × Obj)) (s : Shared) (σ : St) (H : Hp) (x : V) (xs : List V) (v : Value) (us : List Value) (Q : VK), Inv X pins σ H s → RelV x v → Vals xs us → r x xs H Q →
    wpAny (model X.prog X.w) X.A (call (.builtin id) (v :: us)) (EP X pins σ Q) X.xe s
theorem Vals.one : ∀ {x : V} {us : List Value}, Vals [x] us → ∃ u, us = [u] ∧ RelV x u
  | _, _, .cons r .nil => ⟨_, rfl, r⟩
theorem Vals.zero : ∀ {us : List Value}, Vals [] us → us = []
  | _, .nil => rfl
theorem Vals.dropLast {xs : List V} {us : List Value} (h : Vals xs us) : Vals xs.dropLast us.dropLast := by
  induction h with
  | nil => exact .nil
  | cons r t ih =>
    cases t with
    | nil => exact .nil
    | cons q t' => exact .cons r ih
theorem Vals.reverse {xs : List V} {us : List Value} (h : Vals xs us) : Vals xs.reverse us.reverse := by
  induction h with
  | nil => exact .nil
  | cons r t ih => rw [List.reverse_cons, List.reverse_cons]; exact Vals.append ih (.cons r .nil)
theorem Vals.rep {xs : List V} {us : List Value} (h : Vals xs us) : ∀ k : Nat, Vals (List.replicate k xs).flatten (List.replicate k us).flatten
  | 0 => .nil
  | k + 1 => by
    rw [List.replicate_succ, List.replicate_succ, List.flatten_cons, List.flatten_cons]
    exact Vals.append h (Vals.rep h k)
theorem erase_last {α : Type} (l : List α) : l.eraseIdx (l.length - 1) = l.dropLast := by
  induction l with
  | nil => rfl
  | cons a r ih =>
    cases r with
    | nil => rfl
    | cons b r =>
      have e : (a :: b :: r).length - 1 = ((b :: r).length - 1) + 1 := by
        have h1 : (a :: b :: r).length = r.length + 2 := rfl
        have h2 : (b :: r).length = r.length + 1 := rfl
        omega
      rw [e, List.eraseIdx_cons_succ, ih]
      all_goals rfl
theorem foldl_rep (its : List Value) : ∀ (k : Nat) (acc : List Value),
    List.foldl (fun x1 x2 => x1 ++ x2) acc.toArray (List.replicate k its.toArray) = (acc ++ (List.replicate k its).flatten).toArray
  | 0, acc => by simp
  | k + 1, acc => by
    have e : acc.toArray ++ its.toArray = (acc ++ its).toArray := by simp
    have e2 : (acc ++ its) ++ (List.replicate k its).flatten = acc ++ (List.replicate (k + 1) its).flatten := by
      rw [List.replicate_succ, List.flatten_cons, List.append_assoc]
    rw [← e2, ← foldl_rep its k (acc ++ its), ← e, List.replicate_succ, List.foldl_cons]
section
variable {X : Cx} {pins : List (Addr × Obj)} {σ : St} {H : Hp} {s : Shared} {l b : Addr} {xs ys zs : List V}
theorem Inv.lset {its its' : List Value} {n : Nat} {f : Array Value → Array Value} {t' : Nat} (I : Inv X pins σ H s) (hH : H l = some (.lst xs))
    (e : s.heap.get? l = some { cls := .type "list", data := .seq its.toArray n }) (hf : f its.toArray = its'.toArray) (hv : Vals ys its') (hz : ys.length ≤ sizeLine) :
    Inv X pins σ (upd H l (.lst ys)) { s with heap := s.heap.update l (Obj.mapSeq f), toks := t' } := by
  have q := PySem.IsL.update e f
  rw [hf] at q
  refine I.write (x := l) (e := l) (by rw [hH]; exact trivial) (.inl rfl) (fun b' u hb hu => (Heap.get?_update_other s.heap (Obj.mapSeq f) (Ne.symm hb)).trans hu) ⟨_, q⟩ ?_
  exact ⟨hz, its', _, hv, q⟩
theorem Inv.lnew {its : List Value} {t' : Nat} (I : Inv X pins σ H s) (hv : Vals ys its) (hz : ys.length ≤ sizeLine) :
    Inv X pins σ (upd H s.heap.objs.size (.lst ys)) { s with heap := s.heap.push { cls := .type "list", data := .seq its.toArray }, toks := t' } :=
  I.laid (fun _ _ q => Heap.get?_push_of_some _ q) (Nat.le_refl _) ⟨hz, its, 0, hv, Heap.get?_push_size _ rfl⟩
theorem Inv.fresh (I : Inv X pins σ H s) : H s.heap.objs.size = none := I.hok.fresh (Nat.le_refl _)
theorem Inv.lstM (I : Inv X pins σ H s) (hH : H l = some (.lst xs)) : xs.length ≤ sizeLine ∧ ∃ (its : List Value) (n : Nat), Vals xs its ∧ xs.length = its.length ∧ s.heap.get? l = some { cls := .type "list", data := .seq its.toArray n } := by
  obtain ⟨z, its, n, r, e⟩ := I.hok l _ hH
  exact ⟨z, its, n, r, r.length, e⟩
theorem notLongL {n : Nat} (h : n ≤ sizeLine) : Builtin.List.listTooLong n = false := by
  unfold Builtin.List.listTooLong
  exact decide_eq_false (by omega)
end
section
variable {X : Cx}
inductive rAppend_I (x : V) (vs : List V) (H : Hp) (Q : VK) : Prop
  | mk : ∀ l xs y, x = .ref l → vs = [y] → H l = some (.lst xs) → xs.length < sizeLine → Q .non (upd H l (.lst (xs ++ [y]))) → rAppend_I x vs H Q
def rAppend : V → List V → Hp → VK → Prop := fun x vs H Q => rAppend_I x vs H Q
theorem mt_append : MtM X "list.append" rAppend := by
  intro pins s σ H x vs v us Q I rx rv h
  obtain ⟨l, xs, y, rfl, rfl, hH, hz, q⟩ := h
  cases rx
  obtain ⟨u, rfl, ru⟩ := rv.one
  obtain ⟨z, its, n, r, hl, e⟩ := I.lstM hH
  refine call_meets F.slot_list_append ⟨_, e, rfl⟩ F.entry_list_append (F.args_list_append_2 _ _) (PySem.list_append l its.toArray n u (by rw [List.size_toArray]; omega)) ⟨e, ?_⟩
  refine ⟨.non, _, I.lset (its' := its ++ [u]) hH e (by simp) (r.append (.cons ru .nil)) ?_, rfl, q⟩
  rw [List.length_append, List.length_singleton]
  omega
inductive rPop_I (x : V) (vs : List V) (H : Hp) (Q : VK) : Prop
  | mk : ∀ l xs y, x = .ref l → vs = [] → H l = some (.lst xs) → xs[xs.length - 1]? = some y → Q y (upd H l (.lst xs.dropLast)) → rPop_I x vs H Q
def rPop : V → List V → Hp → VK → Prop := fun x vs H Q => rPop_I x vs H Q
theorem mt_pop : MtM X "list.pop" rPop := by
  intro pins s σ H x vs v us Q I rx rv h
  obtain ⟨l, xs, y, rfl, rfl, hH, hy, q⟩ := h
  cases rx
  have hus := rv.zero
  subst hus
  obtain ⟨z, its, n, r, hl, e⟩ := I.lstM hH
  obtain ⟨u, hu, ru⟩ := r.get hy
  have hy' : its.toArray[its.toArray.size - 1]? = some u := by
    show its.toArray[its.length - 1]? = some u
    rw [← Array.getElem?_toList, ← hl]
    exact hu
  refine call_meets F.slot_list_pop ⟨_, e, rfl⟩ F.entry_list_pop (F.args_list_pop_1 _) (MeetsSeq.list_pop_last l its.toArray n u hy' (by rw [List.size_toArray]; omega)) ⟨e, ?_⟩
  refine ⟨y, _, I.lset (its' := its.dropLast) hH e ?_ r.dropLast ?_, ru, q⟩
  · show its.toArray.eraseIdxIfInBounds (its.toArray.size - 1) = its.dropLast.toArray
    rw [List.size_toArray, List.eraseIdxIfInBounds_toArray, erase_last]
  · rw [List.length_dropLast]
    omega
inductive rCat_I (x : V) (y : V) (H : Hp) (Q : VK) : Prop
  | mk : ∀ l b xs zs, x = .ref l → y = .ref b → H l = some (.lst xs) → H b = some (.lst zs) → xs.length + zs.length ≤ sizeLine → (∀ p, H p = none → Q (.ref p) (upd H p (.lst (xs ++ zs)))) → rCat_I x y H Q
def rCat : R2 := fun x y H Q => rCat_I x y H Q
theorem op_cat : OpR X (binaryOp .Add) rCat := by
  intro pins s σ H x y v u Q I rx ry h
  obtain ⟨l, b, xs, zs, rfl, rfl, hH, hB, hz, q⟩ := h
  cases rx
  cases ry
  obtain ⟨z, its, n, r, hl, e⟩ := I.lstM hH
  obtain ⟨z2, its2, n2, r2, hl2, e2⟩ := I.lstM hB
  refine PySem.P.add_list e e2 ?_ (by rw [List.size_toArray, List.size_toArray]; omega)
  have ea : its.toArray ++ its2.toArray = (its ++ its2).toArray := by simp
  rw [ea]
  exact ⟨.ref _, _, I.lnew (t' := s.toks) (r.append r2) (by rw [List.length_append]; omega), rfl, q _ I.fresh⟩
/-- a list times an int (a negative one is nothing) -/
inductive rRep_I (x : V) (y : V) (H : Hp) (Q : VK) : Prop
  | mk : ∀ l k xs, x = .ref l → y = .int k → H l = some (.lst xs) → -(2 ^ 63) ≤ k → k < 2 ^ 63 → xs.length * k.toNat ≤ sizeLine → (∀ p, H p = none → Q (.ref p) (upd H p (.lst (List.replicate k.toNat xs).flatten))) → rRep_I x y H Q
def rRep : R2 := fun x y H Q => rRep_I x y H Q
theorem len_rep {α : Type} (xs : List α) (k : Nat) : (List.replicate k xs).flatten.length = k * xs.length := by
  induction k with
  | zero => simp
  | succ k ih => rw [List.replicate_succ, List.flatten_cons, List.length_append, ih, Nat.succ_mul, Nat.add_comm]
theorem op_rep : OpR X (binaryOp .Mult) rRep := by
  intro pins s σ H x y v u Q I rx ry h
  obtain ⟨l, k, xs, rfl, rfl, hH, h1, h2, hz, q⟩ := h
  cases rx
  obtain ⟨t, rfl⟩ := ry
  obtain ⟨z, its, n, r, hl, e⟩ := I.lstM hH
  have hlen : its.toArray.size * k.toNat ≤ sizeLine := by rw [List.size_toArray, ← hl]; exact hz
  have hcap : ¬ its.toArray.size * k.toNat > (2 ^ 63 - 1) / 8 := by
    have : (sizeLine : Nat) ≤ (2 ^ 63 - 1) / 8 := by decide
    omega
  have hfit : ¬ (!Builtin.List.listFitsIndex k) = true := by
    rw [fitsIndex_both h1 h2]
    exact Bool.false_ne_true
  have hlong : ¬ Builtin.List.listTooLong (its.toArray.size * k.toNat) = true := by
    rw [notLongL hlen]
    exact Bool.false_ne_true
  have hnew : List.foldl (fun x1 x2 => x1 ++ x2) #[] (List.replicate (if its.toArray.isEmpty = true then 0 else k.toNat) its.toArray) = (List.replicate k.toNat its).flatten.toArray := by
    have f0 : ∀ m : Nat, List.foldl (fun x1 x2 => x1 ++ x2) #[] (List.replicate m its.toArray) = (List.replicate m its).flatten.toArray := fun m => by
      have := foldl_rep its m []
      rw [List.nil_append] at this
      exact this
    rw [f0]
    cases its with
    | nil => simp
    | cons a r' => rw [if_neg (by simp)]
  refine wpAny_binaryOp_repeat_ref (T := "list") (U := "int") (by decide) ⟨_, e, rfl⟩ (fun s' => typeIs_int s' k t) noFill_list_mul F.fills_int_mul F.slot_int_rmul repeat_list F.slot_int_index.lookup
    (call_meets F.slot_int_rmul (typeIs_int s k t) F.entry_int_rmul (F.args_int_rmul_2 _ _) (int___rmul___int_list k t l its.toArray n)
      ⟨e, rfl, ⟨_, e, rfl⟩, call_meets F.slot_list_mul ⟨_, e, rfl⟩ F.entry_list_mul (F.args_list_mul_2 _ _) (AutoListH.list___mul___list_int_3 l its.toArray n k t hfit hcap hlong) ⟨e, ?_⟩⟩)
  rw [hnew]
  exact ⟨.ref _, _, I.lnew (t' := s.toks) (r.rep k.toNat) (by rw [len_rep, Nat.mul_comm]; exact hz), rfl, q _ I.fresh⟩
end
section
variable {prog : Program} {w : World} {A : Around} {E : Value → Shared → Prop} {s : Shared}
end
section
variable {X : Cx}
end
end L2
namespace L2
open PySem PySem.Spec PyProof.Rows
section
variable {κ : Type} [DecidableEq κ]
def valV (kvs : List (κ × V)) (k : κ) : Option V := (kvs.find? fun kv => decide (kv.1 = k)).map (·.2)
/-- in its place, or at the end -/
def putK (kvs : List (κ × V)) (k : κ) (v : V) : List (κ × V) :=
  if (kvs.any fun kv => decide (kv.1 = k)) = true then kvs.map (fun kv => if kv.1 = k then (kv.1, v) else kv) else kvs ++ [(k, v)]
def dropK (kvs : List (κ × V)) (k : κ) : List (κ × V) := kvs.filter fun kv => decide (kv.1 ≠ k)
theorem valV_pos {p : κ × V} {r : List (κ × V)} {k : κ} (e : p.1 = k) : valV (p :: r) k = some p.2 := by simp [valV, List.find?_cons, e]
theorem valV_neg {p : κ × V} {r : List (κ × V)} {k : κ} (e : ¬ p.1 = k) : valV (p :: r) k = valV r k := by simp [valV, List.find?_cons, e]
theorem valV_any (k : κ) : ∀ kvs : List (κ × V), (kvs.any fun kv => decide (kv.1 = k)) = (valV kvs k).isSome
  | [] => rfl
  | p :: r => by
    rw [List.any_cons]
    by_cases e : p.1 = k
    · simp only [valV_pos e, decide_eq_true e, Bool.true_or, Option.isSome_some]
    · rw [valV_neg e, decide_eq_false e, Bool.false_or]; exact valV_any k r
theorem valV_snoc (k j : κ) (y : V) : ∀ kvs : List (κ × V), valV kvs k = none → valV (kvs ++ [(k, y)]) j = if j = k then some y else valV kvs j
  | [], _ => by
    by_cases e : k = j
    · rw [if_pos e.symm]; exact valV_pos (p := (k, y)) e
    · rw [if_neg (fun z => e z.symm)]; exact valV_neg (p := (k, y)) e
  | p :: r, hn => by
    rw [List.cons_append]
    have hk : ¬ p.1 = k := fun z => by rw [valV_pos z] at hn; cases hn
    rw [valV_neg hk] at hn
    have ih := valV_snoc k j y r hn
    by_cases e : p.1 = j
    · rw [valV_pos e, valV_pos e, if_neg (fun z => hk (e.trans z))]
    · rw [valV_neg e, valV_neg e, ih]
theorem length_putK (kvs : List (κ × V)) (k : κ) (v : V) : (putK kvs k v).length ≤ kvs.length + 1 := by
  unfold putK
  split
  · rw [List.length_map]; omega
  · rw [List.length_append, List.length_cons, List.length_nil]; omega
theorem putK_new {kvs : List (κ × V)} {k : κ} (v : V) (h : valV kvs k = none) : putK kvs k v = kvs ++ [(k, v)] := by
  unfold putK
  rw [valV_any, h]
  exact if_neg (by decide)
theorem RelO.isSome_eq {o : Option V} {u : Option Value} (r : RelO o u) : o.isSome = u.isSome := by
  cases o with
  | none => cases u with
    | none => rfl
    | some _ => exact (show False from r).elim
  | some _ => cases u with
    | none => exact (show False from r).elim
    | some _ => rfl
theorem RelO.getD {o : Option V} {u : Option Value} {d : V} {d' : Value} (r : RelO o u) (rd : RelV d d') : RelV (o.getD d) (u.getD d') := by
  cases o with
  | none => cases u with
    | none => exact rd
    | some _ => exact (show False from r).elim
  | some _ => cases u with
    | none => exact (show False from r).elim
    | some _ => exact r
/-- raw tables of the same keys -/
theorem KV.val {kvs : List (κ × V)} {vs : List (κ × Value)} (r : KV kvs vs) (k : κ) : RelO (valV kvs k) (valueAt vs k) := by
  unfold KV at r
  induction r with
  | nil => exact True.intro
  | @cons p q ps qs h t ih =>
    obtain ⟨h1, h2⟩ := h
    by_cases e : p.1 = k
    · have e' : q.1 = k := h1.symm.trans e
      have b : valueAt (q :: qs) k = some q.2 := by simp [valueAt, List.find?_cons, e']
      rw [valV_pos e, b]; exact h2
    · have e' : ¬ q.1 = k := fun z => e (h1.trans z)
      have b : valueAt (q :: qs) k = valueAt qs k := by simp [valueAt, List.find?_cons, e']
      rw [valV_neg e, b]; exact ih
theorem KV.any {kvs : List (κ × V)} {vs : List (κ × Value)} (r : KV kvs vs) (k : κ) : (kvs.any fun kv => decide (kv.1 = k)) = vs.any fun kv => decide (kv.1 = k) := by
  unfold KV at r
  induction r with
  | nil => rfl
  | cons h t ih => rw [List.any_cons, List.any_cons, ih, h.1]
theorem KV.repl {kvs : List (κ × V)} {vs : List (κ × Value)} (r : KV kvs vs) (k : κ) {y : V} {u : Value} (ry : RelV y u) :
    KV (kvs.map fun kv => if kv.1 = k then (kv.1, y) else kv) (vs.map fun kv => if kv.1 = k then (kv.1, u) else kv) := by
  unfold KV at r ⊢
  induction r with
  | nil => exact .nil
  | @cons p q ps qs h t ih =>
    rw [List.map_cons, List.map_cons]
    refine .cons ?_ ih
    obtain ⟨h1, h2⟩ := h
    by_cases e : p.1 = k
    · rw [if_pos e, if_pos (h1.symm.trans e)]; exact ⟨h1, ry⟩
    · rw [if_neg e, if_neg (fun z => e (h1.trans z))]; exact ⟨h1, h2⟩
theorem KV.put {kvs : List (κ × V)} {vs : List (κ × Value)} (r : KV kvs vs) (k : κ) {y : V} {u : Value} (ry : RelV y u) : KV (putK kvs k y) (stored vs k u) := by
  unfold putK stored
  rw [r.any k]
  by_cases e : (vs.any fun kv => decide (kv.1 = k)) = true
  · rw [if_pos e, if_pos e]; exact r.repl k ry
  · rw [if_neg e, if_neg e]; exact Paired.snoc r ⟨rfl, ry⟩
theorem KV.drop {kvs : List (κ × V)} {vs : List (κ × Value)} (r : KV kvs vs) (k : κ) : KV (dropK kvs k) (without vs k) := by
  unfold KV at r ⊢
  unfold dropK without
  induction r with
  | nil => exact .nil
  | @cons p q ps qs h t ih =>
    obtain ⟨h1, h2⟩ := h
    rw [List.filter_cons, List.filter_cons]
    by_cases e : p.1 = k
    · have a : ¬ decide (p.1 ≠ k) = true := by simp [e]
      have b : ¬ decide (q.1 ≠ k) = true := by simp [h1.symm.trans e]
      rw [if_neg a, if_neg b]; exact ih
    · have e' : ¬ q.1 = k := fun z => e (h1.trans z)
      have a : decide (p.1 ≠ k) = true := by simp [e]
      have b : decide (q.1 ≠ k) = true := by simp [e']
      rw [if_pos a, if_pos b]; exact .cons ⟨h1, h2⟩ ih
theorem KV.length {kvs : List (κ × V)} {vs : List (κ × Value)} (r : KV kvs vs) : kvs.length = vs.length := Paired.length r
theorem dropK_le (kvs : List (κ × V)) (k : κ) : (dropK kvs k).length ≤ kvs.length := List.length_filter_le _ _
end
theorem kV_is {P : Program} {w : World} {k : Key} {u : Value} (r : RelV (kV k) u) : (mixKind P w).is k u = true := by
  cases k with
  | inl i => obtain ⟨t, e⟩ := (show ∃ t, u = Value.int i t from r); subst e; exact mixKind_int P w i t
  | inr x => obtain ⟨t, e⟩ := (show ∃ t, u = Value.str x t from r); subst e; exact mixKind_str P w x t
theorem items_are {P : Program} {w : World} : ∀ {ks : List Key} {us : List Value}, Vals (ks.map kV) us → ItemsAre (mixKind P w) ks us
  | [], _, r => by rw [List.map_nil] at r; cases r; exact .nil
  | k :: ks, _, r => by
    rw [List.map_cons] at r
    cases r with
    | cons h t => exact .cons (kV_is h) (items_are t)
/-- raw entries of a dict with tuple keys -/
abbrev KT (H : Hp) : List (List Key × V) → List (List Key × Addr × Value) → Prop := Paired fun p q => p.1 = q.1 ∧ H q.2.1 = some (.tup (p.1.map kV)) ∧ RelV p.2 q.2.2
theorem KT.val {H : Hp} {kvs : List (List Key × V)} {xs : List (List Key × Addr × Value)} (r : KT H kvs xs) (k : List Key) : RelO (valV kvs k) ((atKey xs k).map (·.2)) := by
  induction r with
  | nil => exact True.intro
  | @cons p q ps qs h t ih =>
    obtain ⟨h1, _, h2⟩ := h
    by_cases e : p.1 = k
    · have e' : q.1 = k := h1.symm.trans e
      have b : atKey (q :: qs) k = some q.2 := by simp [atKey, List.find?_cons, e']
      rw [valV_pos e, b]; exact h2
    · have e' : ¬ q.1 = k := fun z => e (h1.trans z)
      have b : atKey (q :: qs) k = atKey qs k := by simp [atKey, List.find?_cons, e']
      rw [valV_neg e, b]; exact ih
theorem KT.repl {H : Hp} {kvs : List (List Key × V)} {xs : List (List Key × Addr × Value)} (r : KT H kvs xs) (k : List Key) {y : V} {u : Value} (ry : RelV y u) :
    KT H (kvs.map fun kv => if kv.1 = k then (kv.1, y) else kv) (xs.map (putAt k u)) := by
  induction r with
  | nil => exact .nil
  | @cons p q ps qs h t ih =>
    rw [List.map_cons, List.map_cons]
    refine .cons ?_ ih
    obtain ⟨h1, h2, h3⟩ := h
    unfold putAt
    by_cases e : p.1 = k
    · rw [if_pos e, if_pos (h1.symm.trans e)]; exact ⟨h1, h2, ry⟩
    · rw [if_neg e, if_neg (fun z => e (h1.trans z))]; exact ⟨h1, h2, h3⟩
theorem KT.put {H : Hp} {kvs : List (List Key × V)} {xs : List (List Key × Addr × Value)} (r : KT H kvs xs) (k : List Key) {b : Addr} {y : V} {u : Value} (hb : H b = some (.tup (k.map kV))) (ry : RelV y u) :
    KT H (putK kvs k y) (storedH xs k b u) := by
  have e : (kvs.any fun kv => decide (kv.1 = k)) = (atKey xs k).isSome := by
    rw [valV_any, (r.val k).isSome_eq, Option.isSome_map]
  unfold putK storedH
  rw [e]
  by_cases q : (atKey xs k).isSome = true
  · rw [if_pos q, if_pos q]; exact r.repl k ry
  · rw [if_neg q, if_neg q]; exact Paired.snoc r ⟨rfl, hb, ry⟩
theorem KT.keeps {H H' : Hp} {kvs : List (List Key × V)} {xs : List (List Key × Addr × Value)} (r : KT H kvs xs) (ht : ∀ b ys, H b = some (.tup ys) → H' b = some (.tup ys)) : KT H' kvs xs :=
  Paired.mapP r fun _ _ z => ⟨z.1, ht _ _ z.2.1, z.2.2⟩
section
variable {P : Program} {w : World} {H : Hp} {h : Heap} {a : Addr}
theorem rd_of {u : HO} (ok : HOk P w H h) (e : Rd H a u) : ObjOk P w H h a u := e.ok ok
theorem dk_rd {kvs : List (Key × V)} (ok : HOk P w H h) (e : Rd H a (.dK kvs)) : kvs.length ≤ sizeLine ∧ (a == sysModules) = false ∧ ∃ vs, KV kvs vs ∧ h.DictOf (mixKind P w) a vs :=
  show ObjOk P w H h a (.dK kvs) from rd_of ok e
theorem dk_of {kvs : List (Key × V)} (ok : HOk P w H h) (e : H a = some (.dK kvs)) : kvs.length ≤ sizeLine ∧ (a == sysModules) = false ∧ ∃ vs, KV kvs vs ∧ h.DictOf (mixKind P w) a vs := dk_rd ok (.inl e)
/-- a tracked tuple of ints and texts is a key -/
theorem key_of {ks : List Key} (ok : HOk P w H h) (e : H a = some (.tup (ks.map kV))) : (tupleKind (mixKind P w)).is h ks a := by
  obtain ⟨_, its, r, o, h1, h2, n, h3⟩ := (show ObjOk P w H h a (.tup (ks.map kV)) from ok a _ e)
  exact ⟨o, its.toArray, n, h1, h2, h3, by simpa using items_are r⟩
theorem dt_rd {kvs : List (List Key × V)} (ok : HOk P w H h) (e : Rd H a (.dT kvs)) : kvs.length ≤ sizeLine ∧ (a == sysModules) = false ∧
    ∃ xs, KT H kvs xs ∧ h.DictOfH (tupleKind (mixKind P w)) a xs := by
  obtain ⟨z, y, xs, r, o, es, ep, h1, h2, h3, h4, h5⟩ := (show ObjOk P w H h a (.dT kvs) from rd_of ok e)
  refine ⟨z, y, xs, r, o, es, ep, h1, h2, h3, h4, fun x hx => ?_, h5⟩
  have all : ∀ {l : List (List Key × V)} {m : List (List Key × Addr × Value)}, KT H l m → ∀ x ∈ m, (tupleKind (mixKind P w)).is h x.1 x.2.1 := by
    intro l m q
    induction q with
    | nil => intro x hx; exact nomatch hx
    | @cons p q ps qs hq t ih =>
      intro x hx
      rcases List.mem_cons.mp hx with e | hx
      · subst e
        exact key_of ok (by rw [← hq.1]; exact hq.2.1)
      · exact ih x hx
  exact all r x hx
theorem dt_of {kvs : List (List Key × V)} (ok : HOk P w H h) (e : H a = some (.dT kvs)) : kvs.length ≤ sizeLine ∧ (a == sysModules) = false ∧
    ∃ xs, KT H kvs xs ∧ h.DictOfH (tupleKind (mixKind P w)) a xs := dt_rd ok (.inl e)
end
/-- what the dict at a holds at the key y -/
def DGet (H : Hp) (a : Addr) (y : V) (r : Option V) : Prop :=
  (∃ kvs k, Rd H a (.dK kvs) ∧ y = kV k ∧ r = valV kvs k) ∨ ∃ kvs k b, Rd H a (.dT kvs) ∧ y = .ref b ∧ H b = some (.tup (k.map kV)) ∧ r = valV kvs k
/-- the heap behind a[y] = v -/
def DPut (H : Hp) (a : Addr) (y v : V) (H' : Hp) : Prop :=
  (∃ kvs k, H a = some (.dK kvs) ∧ y = kV k ∧ kvs.length < sizeLine ∧ H' = upd H a (.dK (putK kvs k v))) ∨
  ∃ kvs k b, H a = some (.dT kvs) ∧ y = .ref b ∧ H b = some (.tup (k.map kV)) ∧ kvs.length < sizeLine ∧ H' = upd H a (.dT (putK kvs k v))
theorem DGet.k {H : Hp} {a : Addr} {kvs : List (Key × V)} {k : Key} (e : H a = some (.dK kvs)) : DGet H a (kV k) (valV kvs k) := .inl ⟨kvs, k, .inl e, rfl, rfl⟩
theorem DPut.k {H : Hp} {a : Addr} {kvs : List (Key × V)} {k : Key} {v : V} (e : H a = some (.dK kvs)) (hl : kvs.length < sizeLine) : DPut H a (kV k) v (upd H a (.dK (putK kvs k v))) := .inl ⟨kvs, k, e, rfl, hl, rfl⟩
section
variable {X : Cx} {pins : List (Addr × Obj)} {σ : St} {H : Hp} {s : Shared} {a : Addr} {y v : V} {u r : Value} {o : Option V} {A : Around} {E : Value → Shared → Prop}
theorem Inv.big (I : Inv X pins σ H s) : sysModules < s.heap.objs.size := by
  have h : mainGlobals < s.heap.objs.size := (I.mod.glob.keeps I.bk).lt
  exact Nat.lt_trans (by decide) h
/-- d[y], there -/
theorem d_getItem {Q : Value → Shared → Prop} (hu : A.units + 1 < cLine) (I : Inv X pins σ H s) (g : DGet H a y (some v)) (ry : RelV y u) (h : ∀ w' s', Inv X pins σ H s' → RelV v w' → Q w' s') :
    wpAny (model X.prog X.w) A (getItem (.ref a) u) Q E s := by
  rcases g with ⟨kvs, k, e, ey, l⟩ | ⟨kvs, k, b, e, ey, eb, l⟩
  · subst ey
    obtain ⟨z, hd, vs, rel, dd⟩ := dk_rd I.hok e
    obtain ⟨w', hw, rw'⟩ := RelO.some_of (v := v) (o := valueAt vs k) (by rw [l]; exact rel.val k)
    exact wpAny_getItem_of (kV_is ry) dd.mapOf hw (h w' _ (I.tok _) rw')
  · subst ey
    cases (show u = Value.ref b from ry)
    obtain ⟨z, hd, xs, rel, dd⟩ := dt_rd I.hok e
    obtain ⟨w', hw, rw'⟩ := RelO.some_of (v := v) (o := (atKey xs k).map (·.2)) (by rw [l]; exact rel.val k)
    obtain ⟨p, hp, hp2⟩ := Option.map_eq_some_iff.mp hw
    refine wpAny_getItem_heap (tupleKind_room_in1 hu) (key_of I.hok eb) dd hp ?_
    rw [hp2]
    exact h w' _ (I.tok _) rw'
/-- y in d -/
theorem d_in {Q : Value → Shared → Prop} (hu : A.units + 1 < cLine) (I : Inv X pins σ H s) (g : DGet H a y o) (ry : RelV y u) (h : ∀ s', Inv X pins σ H s' → Q (.bool o.isSome) s') :
    wpAny (model X.prog X.w) A (compareOp .In u (.ref a)) Q E s := by
  rcases g with ⟨kvs, k, e, ey, l⟩ | ⟨kvs, k, b, e, ey, eb, l⟩
  · subst ey
    obtain ⟨z, hd, vs, rel, dd⟩ := dk_rd I.hok e
    refine wpAny_in_of (kV_is ry) hd dd.mapOf ?_
    rw [← (rel.val k).isSome_eq, ← l]
    exact h _ (I.tok _)
  · subst ey
    cases (show u = Value.ref b from ry)
    obtain ⟨z, hd, xs, rel, dd⟩ := dt_rd I.hok e
    refine wpAny_in_heap (tupleKind_room_in1 hu) (key_of I.hok eb) hd dd ?_
    have q := (rel.val k).isSome_eq
    rw [Option.isSome_map] at q
    rw [← q, ← l]
    exact h _ (I.tok _)
theorem d_notIn {Q : Value → Shared → Prop} (hu : A.units + 1 < cLine) (I : Inv X pins σ H s) (g : DGet H a y o) (ry : RelV y u) (h : ∀ s', Inv X pins σ H s' → Q (.bool (!o.isSome)) s') :
    wpAny (model X.prog X.w) A (compareOp .NotIn u (.ref a)) Q E s := by
  rcases g with ⟨kvs, k, e, ey, l⟩ | ⟨kvs, k, b, e, ey, eb, l⟩
  · subst ey
    obtain ⟨z, hd, vs, rel, dd⟩ := dk_rd I.hok e
    refine wpAny_notIn_of (kV_is ry) hd dd.mapOf ?_
    rw [← (rel.val k).isSome_eq, ← l]
    exact h _ (I.tok _)
  · subst ey
    cases (show u = Value.ref b from ry)
    obtain ⟨z, hd, xs, rel, dd⟩ := dt_rd I.hok e
    refine wpAny_notIn_heap (tupleKind_room_in1 hu) (key_of I.hok eb) hd dd ?_
    have q := (rel.val k).isSome_eq
    rw [Option.isSome_map] at q
    rw [← q, ← l]
    exact h _ (I.tok _)
/-- a dict's object is replaced -/
theorem d_write {h' : Heap} {t' : Nat} {ob : HO} (I : Inv X pins σ H s) (mu : Mut (H a)) (hs : Heap.SameBut a s.heap h') (he : ∃ q, h'.get? a = some q) (new : ObjOk X.prog X.w (upd H a ob) h' a ob) :
    Inv X pins σ (upd H a ob) { s with heap := h', toks := t' } :=
  I.write (x := a) (e := a) mu (.inl rfl) (fun b q hb z => (hs.2 b hb).trans z) he new
theorem dk_new {P : Program} {w : World} {H' : Hp} {h' : Heap} {kvs : List (Key × V)} {vs : List (Key × Value)} (z : kvs.length ≤ sizeLine) (hd : (a == sysModules) = false) (rel : KV kvs vs) (dd : h'.DictOf (mixKind P w) a vs) :
    ObjOk P w H' h' a (.dK kvs) := ⟨z, hd, vs, rel, dd⟩
/-- d[y] = v -/
theorem d_setItem {H' : Hp} {Q : Unit → Shared → Prop} (hu : A.units + 1 < cLine) (I : Inv X pins σ H s) (g : DPut H a y v H') (ry : RelV y u) (rv : RelV v r) (h : ∀ s', Inv X pins σ H' s' → Q () s') :
    wpAny (model X.prog X.w) A (setItem (.ref a) u r) Q E s := by
  rcases g with ⟨kvs, k, e, ey, l, eH⟩ | ⟨kvs, k, b, e, ey, eb, l, eH⟩
  · subst ey eH
    obtain ⟨z, hd, vs, rel, dd⟩ := dk_of I.hok e
    have hz : vs.length ≤ sizeLine := by rw [← rel.length]; exact z
    have hl : (putK kvs k v).length ≤ sizeLine := by have := length_putK kvs k v; omega
    refine wpAny_setItem_pairs (hsz := hz) (kV_is ry) dd fun h' dd' hs => h _ ?_
    have he : ∃ q, h'.get? a = some q := let ⟨q, _, _, hq, _⟩ := dd'; ⟨q, hq⟩
    exact d_write I (by rw [e]; exact True.intro) hs he (dk_new hl hd (rel.put k rv) dd')
  · subst ey eH
    cases (show u = Value.ref b from ry)
    obtain ⟨z, hd, xs, rel, dd⟩ := dt_of I.hok e
    have hz : xs.length ≤ sizeLine := by rw [← Paired.length rel]; exact z
    have hl : (putK kvs k v).length ≤ sizeLine := by have := length_putK kvs k v; omega
    refine wpAny_setItem_heap (hsz := hz) (tupleKind_room_in1 hu) (key_of I.hok eb) dd fun h' dd' hs => h _ ?_
    obtain ⟨q, es, ep, hq, h2, h3, h4, _, h5⟩ := dd'
    refine d_write I (by rw [e]; exact True.intro) hs ⟨q, hq⟩ ⟨hl, hd, _, (rel.put k eb rv).keeps fun c ys ec => ?_, q, es, ep, hq, h2, h3, h4, h5⟩
    rw [upd_ne (ne_of ec e (fun z => nomatch z))]
    exact ec
end
section
variable {X : Cx} {pins : List (Addr × Obj)} {σ : St} {H : Hp} {s : Shared} {a : Addr} {kvs : List (Key × V)} {k : Key} {u : Value} {A : Around} {E : Value → Shared → Prop}
/-- d.pop(k[, x]), there -/
theorem d_pop {v : V} {more : List Value} {Q : Value → Shared → Prop} (I : Inv X pins σ H s) (e : H a = some (.dK kvs)) (ry : RelV (kV k) u) (l : valV kvs k = some v) (hm : more = [] ∨ ∃ x, more = [x])
    (h : ∀ w' s', Inv X pins σ (upd H a (.dK (dropK kvs k))) s' → RelV v w' → Q w' s') : wpAny (model X.prog X.w) A (call (.builtin "dict.pop") (.ref a :: u :: more)) Q E s := by
  obtain ⟨z, hd, vs, rel, dd⟩ := dk_of I.hok e
  obtain ⟨w', hw, rw'⟩ := RelO.some_of (v := v) (o := valueAt vs k) (by rw [← l]; exact rel.val k)
  have hp : (keyPart u).isSome = true := by
    cases k with
    | inl i => obtain ⟨t, q⟩ := (show ∃ t, u = Value.int i t from ry); subst q; rfl
    | inr x => obtain ⟨t, q⟩ := (show ∃ t, u = Value.str x t from ry); subst q; rfl
  have ha : argsOk "dict.pop" ⟨.ref a :: u :: more, []⟩ := by
    rcases hm with q | ⟨x, q⟩
    · subst q; exact PySem.F.args_dict_pop_2 _ _
    · subst q; exact PySem.F.args_dict_pop_3 _ _ _
  refine call_meetsIn PySem.F.slot_dict_pop dd.typeIs PySem.F.entry_dict_pop ha (meets_dict_pop_there (mixKind X.prog X.w) a (kV_is ry) more hm hp)
    ⟨vs, w', dd, by rw [← rel.length]; exact z, hw, fun h' dd' hs => h w' _ ?_ rw'⟩
  have he : ∃ q, h'.get? a = some q := let ⟨q, _, _, hq, _⟩ := dd'; ⟨q, hq⟩
  exact d_write I (by rw [e]; exact True.intro) hs he (dk_new (Nat.le_trans (dropK_le kvs k) z) hd (rel.drop k) dd')
/-- len(d) -/
theorem d_len {Q : Value → Shared → Prop} (I : Inv X pins σ H s) (e : Rd H a (.dK kvs)) (h : ∀ t s', Inv X pins σ H s' → Q (.int kvs.length t) s') : wpAny (model X.prog X.w) A (call (.builtin "len") [.ref a]) Q E s := by
  obtain ⟨z, hd, vs, rel, dd⟩ := dk_rd I.hok e
  refine call_len_dict hd dd (by rw [← rel.length]; rw [sizeLine_eq] at z; omega) ?_
  rw [← rel.length]
  exact h _ _ (I.tok _)
end
/-- the element of a subscription, not a slice -/
def NoSl (i : Expr) : Prop := ∀ ov iv, subscripted i false ov iv = operate [ov, iv] (getItem ov iv)
theorem subD_of {prog : Program} {w : World} {A : Around} {E : Value → Shared → Prop} {s : Shared} {env : Env} {value slice : Expr} {pos : Pos} {T id : String} {Q : Value → Shared → Prop}
    (hl : typeLookup (.type T) "__getitem__" = pure (some (.builtin id))) (hs : NoSl slice)
    (h : wpAny (model prog w) A (eval value env) (fun o s₁ => wpAny (model prog w) A (eval slice env) (fun i s₂ => s₂.TypeIs o T ∧ wpAny (model prog w) A (getItem o i) Q E s₂) E s₁) E s) :
    wpAny (model prog w) A (eval (.Subscript value slice pos) env) Q E s := by
  refine Subscript_ (wpAny_mono h (fun o s₁ h₁ => wpAny_mono h₁ (fun i s₂ h₂ => ?_) fun _ _ x => x) fun _ _ x => x)
  obtain ⟨hT, h₂⟩ := h₂
  unfold subscriptTail
  refine wpAny_bind ?_
  rw [getitemInPython_of_ne hT.not_modules]
  refine wpAny_bind (wpAny_specialOf hT hl ?_)
  have fin : wpAny (model prog w) A (subscripted slice false o i) (fun r s₃ => wpAny (model prog w) A (letTemporaryGo value o r >>= fun _ => pure r) Q E s₃) E s₂ := by
    rw [hs o i]
    exact wpAny_operating (wpAny_mono h₂ (fun r s₃ h₃ => wpAny_bind (wpAny_letTemporaryGo (wpAny_pure h₃))) fun _ _ x => x)
  first
    | exact wpAny_pure (wpAny_bind fin)
    | exact wpAny_bind (wpAny_pure (wpAny_bind fin))
    | exact wpAny_bind fin
theorem dict_typeIs {X : Cx} {pins : List (Addr × Obj)} {σ : St} {H : Hp} {s : Shared} {a : Addr} {y : V} {o : Option V} (I : Inv X pins σ H s) (g : DGet H a y o) : s.TypeIs (.ref a) "dict" := by
  rcases g with ⟨kvs, k, e, _, _⟩ | ⟨kvs, k, b, e, _, _, _⟩
  · obtain ⟨_, _, vs, _, dd⟩ := dk_rd I.hok e
    exact dd.typeIs
  · obtain ⟨_, _, xs, _, dd⟩ := dt_rd I.hok e
    exact dd.typeIs
/-- d[y] -/
inductive tDGet_I (Q : VK) (x : V) (y : V) (H2 : Hp) : Prop
  | mk : ∀ a v, x = .ref a → DGet H2 a y (some v) → Q v H2 → tDGet_I Q x y H2
def tDGet (td ty : TE) : TE := fun σ H Q => td σ H fun x H1 => ty σ H1 fun y H2 => tDGet_I Q x y H2
/-- y in d, y not in d -/
inductive tDIn_I (Q : VK) (y : V) (x : V) (H2 : Hp) : Prop
  | mk : ∀ a o, x = .ref a → DGet H2 a y o → Q (.bl o.isSome) H2 → tDIn_I Q y x H2
def tDIn (ty td : TE) : TE := fun σ H Q => ty σ H fun y H1 => td σ H1 fun x H2 => tDIn_I Q y x H2
inductive tDNotIn_I (Q : VK) (y : V) (x : V) (H2 : Hp) : Prop
  | mk : ∀ a o, x = .ref a → DGet H2 a y o → Q (.bl (!o.isSome)) H2 → tDNotIn_I Q y x H2
def tDNotIn (ty td : TE) : TE := fun σ H Q => ty σ H fun y H1 => td σ H1 fun x H2 => tDNotIn_I Q y x H2
/-- d[y] = v -/
inductive sDPut_I (D : Ends) (σ : St) (v : V) (x : V) (y : V) (H3 : Hp) : Prop
  | mk : ∀ a H4, x = .ref a → DPut H3 a y v H4 → D.nx σ H4 → sDPut_I D σ v x y H3
def sDPut (td ty tv : TE) : TS := fun D σ H => tv σ H fun v H1 => td σ H1 fun x H2 => ty σ H2 fun y H3 => sDPut_I D σ v x y H3
section
variable {X : Cx} {o i e value : Expr} {pos pos' tpos : Pos} {td ty tv : TE}
theorem pe_dget (hu : X.A.units + 1 < cLine) (ho : PE X o td) (hi : PE X i ty) (hs : NoSl i) : PE X (.Subscript o i pos) (tDGet td ty) := by
  intro pins s σ H Q I h
  refine subD_of PySem.F.slot_dict_getitem.lookup hs (thn (ho pins s σ H _ I h) fun u s1 ⟨x, H1, I1, rx, q1⟩ => thn (hi pins s1 σ H1 _ I1 q1) fun iv s2 ⟨y, H2, I2, ry, a, v, ex, g, q2⟩ => ?_)
  subst ex
  obtain rfl : u = Value.ref a := rx
  exact ⟨dict_typeIs I2 g, d_getItem hu I2 g ry fun w' s3 I3 rw' => ⟨v, H2, I3, rw', q2⟩⟩
theorem pc_din (hu : X.A.units + 1 < cLine) (hi : PE X i ty) (ho : PE X o td) : PC X .In i o (tDIn ty td) := by
  intro pins s σ H Q I h
  refine thn (hi pins s σ H _ I h) fun iv s1 ⟨y, H1, I1, ry, q1⟩ => thn (ho pins s1 σ H1 _ I1 q1) fun u s2 ⟨x, H2, I2, rx, a, ov, ex, g, q2⟩ => ?_
  subst ex
  obtain rfl : u = Value.ref a := rx
  exact d_in hu I2 g ry fun s3 I3 => ⟨.bl ov.isSome, H2, I3, rfl, q2⟩
theorem pc_dnotin (hu : X.A.units + 1 < cLine) (hi : PE X i ty) (ho : PE X o td) : PC X .NotIn i o (tDNotIn ty td) := by
  intro pins s σ H Q I h
  refine thn (hi pins s σ H _ I h) fun iv s1 ⟨y, H1, I1, ry, q1⟩ => thn (ho pins s1 σ H1 _ I1 q1) fun u s2 ⟨x, H2, I2, rx, a, ov, ex, g, q2⟩ => ?_
  subst ex
  obtain rfl : u = Value.ref a := rx
  exact d_notIn hu I2 g ry fun s3 I3 => ⟨.bl (!ov.isSome), H2, I3, rfl, q2⟩
theorem ps_dput (hu : X.A.units + 1 < cLine) (ho : PE X o td) (hi : PE X i ty) (hv : PE X value tv) (hs : swapsWith value (some (.Subscript o i pos')) pos.line X.env = pure false) :
    PS X (.Assign [.Subscript o i pos'] value pos) (sDPut td ty tv) := by
  intro pins s σ H D I h
  refine wpAny_Assign_Subscript (thn (hv pins s σ H _ I h) fun r s1 ⟨v, H1, I1, rv, q1⟩ => thn (ho pins s1 σ H1 _ I1 q1) fun u s2 ⟨x, H2, I2, rx, q2⟩ => thn (hi pins s2 σ H2 _ I2 q2) fun iv s3 ⟨y, H3, I3, ry, a, H4, ex, g, q3⟩ => ?_) hs
  subst ex
  obtain rfl : u = Value.ref a := rx
  exact d_setItem hu I3 g ry rv fun s4 I4 => ⟨σ, H4, I4, q3⟩
end
theorem dk_empty {P : Program} {w : World} {H : Hp} (h : Heap) (hb : sysModules < h.objs.size) : ObjOk P w H (h.push { cls := .type "dict", data := .dict #[] }) h.objs.size (.dK []) :=
  ⟨Nat.zero_le _, beq_eq_false_iff_ne.mpr (Ne.symm (Nat.ne_of_lt hb)), [], .nil, Heap.DictOf.new h⟩
/-- {}, to be a dict of the kind that is wanted -/
def tDNewK : TE := fun _ H Q => ∀ p, H p = none → Q (.ref p) (upd H p (.dK []))
section
variable {X : Cx} {pos : Pos}
theorem pe_dnewK : PE X (.Dict [] [] pos) tDNewK := fun pins s σ H Q I h =>
  wpAny_Dict_empty ⟨.ref s.heap.objs.size, _, I.laid (a := s.heap.objs.size) (o := .dK []) (t' := s.toks) (fun _ _ q => Heap.get?_push_of_some _ q) (Nat.le_refl _) (dk_empty s.heap I.big), rfl, h _ (I.hok.fresh (Nat.le_refl _))⟩
end
/-- the pairs of a display, from the left -/
def tPairs : List (TE × TE) → St → Hp → (List (V × V) → Hp → Prop) → Prop
  | [], _, H, Q => Q [] H
  | (tk, tv) :: r, σ, H, Q => tk σ H fun x H1 => tv σ H1 fun y H2 => tPairs r σ H2 fun ps H3 => Q ((x, y) :: ps) H3
abbrev VV : List (V × V) → List (Value × Value) → Prop := Paired fun p q => RelV p.1 q.1 ∧ RelV p.2 q.2
def PPs (X : Cx) (pos : Pos) (keys : List (Option Expr)) (values : List Expr) (trs : List (TE × TE)) : Prop :=
  ∀ (pins : List (Addr × Obj)) (s : Shared) (σ : St) (H : Hp) (Q : List (V × V) → Hp → Prop), Inv X pins σ H s → tPairs trs σ H Q →
    wpAny (model X.prog X.w) X.A (evalPairs (pairTrees keys values X.env pos)) (fun vs s' => ∃ ps H', Inv X pins σ H' s' ∧ VV ps vs ∧ Q ps H') X.xe s
theorem pps_nil {X : Cx} {pos : Pos} : PPs X pos [] [] [] := fun pins s σ H Q I h => pairTrees_nil_walk ⟨[], H, I, .nil, h⟩
theorem pps_cons {X : Cx} {pos : Pos} {k v : Expr} {ks : List (Option Expr)} {vs : List Expr} {tk tv : TE} {trs : List (TE × TE)} (hk : PE X k tk) (hv : PE X v tv) (hr : PPs X pos ks vs trs) :
    PPs X pos (some k :: ks) (v :: vs) ((tk, tv) :: trs) := fun pins s σ H Q I h =>
  pairTrees_cons_walk (thn (hk pins s σ H _ I h) fun u s1 ⟨x, H1, I1, rx, q1⟩ => thn (hv pins s1 σ H1 _ I1 q1) fun w2 s2 ⟨y, H2, I2, ry, q2⟩ =>
    thn (hr pins s2 σ H2 _ I2 q2) fun ws s3 ⟨ps, H3, I3, rel, q3⟩ => ⟨(x, y) :: ps, H3, I3, .cons ⟨rx, ry⟩ rel, q3⟩)
def mergeK (kvs more : List (Key × V)) : List (Key × V) := more.foldl (fun acc kv => putK acc kv.1 kv.2) kvs
theorem KV.merge : ∀ {more : List (Key × V)} {rs : List (Key × Value)} {kvs : List (Key × V)} {vs : List (Key × Value)}, KV more rs → KV kvs vs → KV (mergeK kvs more) (merged vs rs) := by
  intro more rs kvs vs r
  unfold KV at r
  induction r generalizing kvs vs with
  | nil => intro q; exact q
  | @cons p q ps qs h t ih =>
    intro r0
    have e : KV (putK kvs p.1 p.2) (stored vs q.1 q.2) := by
      have := r0.put p.1 h.2
      rw [← h.1]; exact this
    exact ih e
theorem length_mergeK : ∀ (more kvs : List (Key × V)), (mergeK kvs more).length ≤ kvs.length + more.length
  | [], kvs => by show kvs.length ≤ kvs.length + 0; omega
  | p :: r, kvs => by
    have h1 := length_mergeK r (putK kvs p.1 p.2)
    have h2 := length_putK kvs p.1 p.2
    show (mergeK (putK kvs p.1 p.2) r).length ≤ _
    rw [List.length_cons]; omega
theorem carries_of {P : Program} {w : World} : ∀ {kvs : List (Key × V)} {ws : List (Value × Value)}, VV (kvs.map fun kv => (kV kv.1, kv.2)) ws → ∃ rs, Carries (mixKind P w) ws rs ∧ KV kvs rs
  | [], _, r => by rw [List.map_nil] at r; cases r; exact ⟨[], True.intro, .nil⟩
  | p :: kvs, _, r => by
    rw [List.map_cons] at r
    cases r with
    | @cons a b as bs h t =>
      obtain ⟨rs, c, q⟩ := carries_of (P := P) (w := w) t
      obtain ⟨b1, b2⟩ := b
      exact ⟨(p.1, b2) :: rs, ⟨kV_is h.1, rfl, c⟩, .cons ⟨rfl, h.2⟩ q⟩
/-- {k: v, ..} with keys ints and texts; the new dict stands empty while the pairs are made -/
def tDisp (trs : List (TE × TE)) : TE := fun σ H Q => ∀ p, H p = none → tPairs trs σ (upd H p (.dK [])) fun ps H2 => H2 p = some (.dK []) ∧ ∃ kvs : List (Key × V), ps = kvs.map (fun kv => (kV kv.1, kv.2)) ∧ kvs.length ≤ 15 ∧ Q (.ref p) (upd H2 p (.dK (mergeK [] kvs)))
theorem pe_disp {X : Cx} {pos : Pos} {keys : List (Option Expr)} {values : List Expr} {trs : List (TE × TE)} (h : PPs X pos keys values trs) (hall : keys.all (·.isSome) = true) (hl : keys.length = values.length) (h0 : keys ≠ [])
    (h15 : keys.length ≤ 15) : PE X (.Dict keys values pos) (tDisp trs) := by
  intro pins s σ H Q I q
  have hn := I.hok.fresh (Nat.le_refl s.heap.objs.size)
  have I1 := I.laid (a := s.heap.objs.size) (o := .dK []) (h' := s.heap.push { cls := .type "dict", data := .dict #[] }) (t' := s.toks) (fun _ _ q => Heap.get?_push_of_some _ q) (Nat.le_refl _) (dk_empty s.heap I.big)
  refine wpAny_Dict_walk (knd := mixKind X.prog X.w) hall hl h0 h15 (thn (h pins _ σ _ _ I1 (q _ hn)) fun ws s2 ⟨ps, H2, I2, rel, e, kvs, ep, lk, q2⟩ => ?_)
  subst ep
  obtain ⟨rs, c, rk⟩ := carries_of (P := X.prog) (w := X.w) rel
  obtain ⟨z, hd, vs0, r0, dd⟩ := dk_of I2.hok e
  cases r0
  refine ⟨rs, c, dd, fun h' dd' hs => ⟨.ref s.heap.objs.size, _, ?_, rfl, q2⟩⟩
  have hz : (mergeK [] kvs).length ≤ sizeLine := by
    have h1 := length_mergeK kvs []
    rw [List.length_nil] at h1
    rw [sizeLine_eq]; omega
  have he : ∃ q, h'.get? s.heap.objs.size = some q := let ⟨q, _, _, hq, _⟩ := dd'; ⟨q, hq⟩
  exact d_write I2 (by rw [e]; exact True.intro) hs he (dk_new hz hd (rk.merge .nil) dd')
/-- a method call o.m(e) of a built-in, with one argument: what must be seen of the text -/
structure M1 (X : Cx) (o : Expr) (m : Str) (apos : Pos) (e : Expr) (cpos : Pos) : Prop where
  base : attributeBase o m X.env (eval o X.env) = eval o X.env
  few : ((backTo cpos (starEach [e] X.env)).all (fun x => !x.1) && (backToKw cpos (keywordEach [] X.env)).all (fun x => x.1.isSome)
    && decide (([e] : List Expr).length + ([] : List Keyword).length + (if ([] : List Keyword).isEmpty then 0 else 1) < 30)) = true
  line : (apos.endLine == cpos.line) = true
  trees : backTo cpos (starEach [e] X.env) = [(false, eval e X.env)]
structure M2 (X : Cx) (o : Expr) (m : Str) (apos : Pos) (e f : Expr) (cpos : Pos) : Prop where
  base : attributeBase o m X.env (eval o X.env) = eval o X.env
  few : ((backTo cpos (starEach [e, f] X.env)).all (fun x => !x.1) && (backToKw cpos (keywordEach [] X.env)).all (fun x => x.1.isSome)
    && decide (([e, f] : List Expr).length + ([] : List Keyword).length + (if ([] : List Keyword).isEmpty then 0 else 1) < 30)) = true
  line : (apos.endLine == cpos.line) = true
  trees : backTo cpos (starEach [e, f] X.env) = [(false, eval e X.env), (false, eval f X.env)]
/-- a is a dict, whatever its keys -/
def IsD (H : Hp) (a : Addr) : Prop := (∃ kvs, Rd H a (.dK kvs)) ∨ ∃ kvs, Rd H a (.dT kvs)
theorem isD_at {X : Cx} {pins : List (Addr × Obj)} {σ : St} {H : Hp} {s : Shared} {a : Addr} (I : Inv X pins σ H s) (d : IsD H a) :
    s.TypeIs (.ref a) "dict" ∧ (∀ b, Value.ref a = .ref b → ∃ ob, s.heap.get? b = some ob ∧ ob.dict = none) ∧ (a == sysModules) = false := by
  rcases d with ⟨kvs, e⟩ | ⟨kvs, e⟩
  · obtain ⟨_, hd, vs, _, dd⟩ := dk_rd I.hok e
    refine ⟨dd.typeIs, fun b q => ?_, hd⟩
    cases q
    obtain ⟨ob, _, _, h1, h2, _⟩ := dd
    exact ⟨ob, h1, h2.2.1⟩
  · obtain ⟨_, hd, xs, _, dd⟩ := dt_rd I.hok e
    refine ⟨dd.typeIs, fun b q => ?_, hd⟩
    cases q
    obtain ⟨ob, _, _, h1, h2, _⟩ := dd
    exact ⟨ob, h1, h2.2.1⟩
section
variable {X : Cx} {pins : List (Addr × Obj)} {σ : St} {H : Hp} {s : Shared} {a : Addr} {y d : V} {u r : Value} {o : Option V} {A : Around} {E : Value → Shared → Prop}
/-- d.get(y, x) -/
theorem d_get2 {Q : Value → Shared → Prop} (hu : A.units + 1 < cLine) (I : Inv X pins σ H s) (g : DGet H a y o) (ry : RelV y u) (rd : RelV d r) (h : ∀ w' s', Inv X pins σ H s' → RelV (o.getD d) w' → Q w' s') :
    wpAny (model X.prog X.w) A (call (.builtin "dict.get") [.ref a, u, r]) Q E s := by
  rcases g with ⟨kvs, k, e, ey, l⟩ | ⟨kvs, k, b, e, ey, eb, l⟩
  · subst ey
    obtain ⟨z, hd, vs, rel, dd⟩ := dk_rd I.hok e
    refine call_meetsIn PySem.F.slot_dict_get dd.typeIs PySem.F.entry_dict_get (PySem.F.args_dict_get_3 _ _ _) (meets_dict_get_default (mixKind X.prog X.w) a (kV_is ry) hd r) ⟨_, dd.mapOf, h _ _ (I.tok _) ?_⟩
    rw [l]
    exact (rel.val k).getD rd
  · subst ey
    cases (show u = Value.ref b from ry)
    obtain ⟨z, hd, xs, rel, dd⟩ := dt_rd I.hok e
    refine call_meetsIn PySem.F.slot_dict_get dd.typeIs PySem.F.entry_dict_get (PySem.F.args_dict_get_3 _ _ _) (meetsH_dict_get_default (tupleKind (mixKind X.prog X.w)) a b hd r) ⟨tupleKind_room_in1 hu, k, xs, key_of I.hok eb, dd, h _ _ (I.tok _) ?_⟩
    rw [l]
    exact (rel.val k).getD rd
end
inductive tDGet2J_I (Q : VK) (a : Addr) (y : V) (z : V) (H3 : Hp) : Prop
  | mk : ∀ o, DGet H3 a y o → Q (o.getD z) H3 → tDGet2J_I Q a y z H3
inductive tDGet2_I (ty : TE) (tx : TE) (σ : St) (Q : VK) (x : V) (H1 : Hp) : Prop
  | mk : ∀ a, x = .ref a → IsD H1 a → (ty σ H1 fun y H2 => tx σ H2 fun z H3 => tDGet2J_I Q a y z H3) → tDGet2_I ty tx σ Q x H1
def tDGet2 (td ty tx : TE) : TE := fun σ H Q => td σ H fun x H1 => tDGet2_I ty tx σ Q x H1
/-- d.pop(k): there; d.pop(k, x): there or not -/
inductive tDPop1J_I (Q : VK) (a : Addr) (y : V) (H2 : Hp) : Prop
  | mk : ∀ kvs k v, H2 a = some (.dK kvs) → y = kV k → valV kvs k = some v → Q v (upd H2 a (.dK (dropK kvs k))) → tDPop1J_I Q a y H2
inductive tDPop1_I (ty : TE) (σ : St) (Q : VK) (x : V) (H1 : Hp) : Prop
  | mk : ∀ a, x = .ref a → IsD H1 a → (ty σ H1 fun y H2 => tDPop1J_I Q a y H2) → tDPop1_I ty σ Q x H1
def tDPop1 (td ty : TE) : TE := fun σ H Q => td σ H fun x H1 => tDPop1_I ty σ Q x H1
section
variable {X : Cx} {o e f : Expr} {apos cpos : Pos} {td ty tx : TE}
theorem pe_dget2 (hu : X.A.units + 1 < cLine) (ho : PE X o td) (he : PE X e ty) (hf : PE X f tx) (m : M2 X o "get" apos e f cpos) : PE X (.Call (.Attribute o "get" apos) [e, f] [] cpos) (tDGet2 td ty tx) := by
  intro pins s σ H Q I h
  refine wpAny_Call_method m.base m.few m.line PySem.F.plainAttrs_dict PySem.F.slot_dict_get PySem.F.type_dict_get (thn (ho pins s σ H _ I h) fun u s1 ⟨x, H1, I1, rx, a, ex, d, q1⟩ => ?_)
  subst ex
  obtain rfl : u = Value.ref a := rx
  obtain ⟨t1, t2, _⟩ := isD_at I1 d
  refine ⟨t1, t2, ?_⟩
  rw [m.trees]
  refine Calls.callWith_builtin rfl (Calls.evalArgs_plain (Calls.spliced_cons (thn (he pins s1 σ H1 _ I1 q1) fun iv s2 ⟨y, H2, I2, ry, q2⟩ =>
    Calls.spliced_cons (thn (hf pins s2 σ H2 _ I2 q2) fun fv s3 ⟨z, H3, I3, rz, ov, g, q3⟩ => Calls.spliced_nil ?_))))
  exact d_get2 hu I3 g ry rz fun w' s4 I4 rw' => ⟨_, H3, I4, rw', q3⟩
theorem pe_dpop1 (ho : PE X o td) (he : PE X e ty) (m : M1 X o "pop" apos e cpos) : PE X (.Call (.Attribute o "pop" apos) [e] [] cpos) (tDPop1 td ty) := by
  intro pins s σ H Q I h
  refine wpAny_Call_method m.base m.few m.line PySem.F.plainAttrs_dict PySem.F.slot_dict_pop PySem.F.type_dict_pop (thn (ho pins s σ H _ I h) fun u s1 ⟨x, H1, I1, rx, a, ex, d, q1⟩ => ?_)
  subst ex
  obtain rfl : u = Value.ref a := rx
  obtain ⟨t1, t2, _⟩ := isD_at I1 d
  refine ⟨t1, t2, ?_⟩
  rw [m.trees]
  refine Calls.callWith_builtin rfl (Calls.evalArgs_plain (Calls.spliced_cons (thn (he pins s1 σ H1 _ I1 q1) fun iv s2 ⟨y, H2, I2, ry, kvs, k, v, ea, ey, l, q2⟩ => Calls.spliced_nil ?_)))
  subst ey
  exact d_pop I2 ea ry l (.inl rfl) fun w' s3 I3 rw' => ⟨v, _, I3, rw', q2⟩
end
section
variable {X : Cx} {pins : List (Addr × Obj)} {σ : St} {H : Hp} {s : Shared} {a : Addr} {kvs : List (Key × V)} {A : Around} {E : Value → Shared → Prop}
end
section
variable {X : Cx} {pins : List (Addr × Obj)} {σ : St} {H : Hp} {s : Shared} {a : Addr} {y : V} {u : Value} {A : Around} {E : Value → Shared → Prop}
end
end L2
namespace Att
open PySem PySem.W PySem.Calls PyProof.Rows
theorem ints_of_wellAll {P : Params} {h : Heap} : ∀ (ns : List Int) (vs : List Value), WellAll P h vs (ns.map WData.int) → IntsAre vs ns := by
  intro ns
  induction ns with
  | nil =>
    intro vs w
    rw [List.map_nil] at w
    cases w
    exact .nil
  | cons n ns ih =>
    intro vs w
    rw [List.map_cons] at w
    cases w with
    | cons a b =>
      cases a
      exact .cons _ _ (ih _ b)
theorem script_of {l : OpenLaw} {n : Nat} (hn : l.most = some n) {P : Params} {h : Heap} {args : List WData} {vals : List Value}
    (hpre : l.row.toRowW.claim.pre args = true) (hwl : WellAll P h vals args) :
    ∃ a vs ns, vals = [Value.ref a] ∧ args = [WData.list (ns.map WData.int)] ∧ h.get? a = some { cls := .type "list", data := .seq vs.toArray } ∧ IntsAre vs ns ∧ ns.length ≤ n := by
  have hsh : WShape.hasAll [] args [.list .int] = true := (pre_splitW hpre).1
  have hc : l.pre.holds [] { args := args } = true := (pre_splitW hpre).2
  obtain ⟨d, r, rfl, h1, h2⟩ := hasAllW_cons hsh
  obtain rfl := hasAllW_nil h2
  obtain ⟨xs, rfl, h3⟩ := hasW_list h1
  obtain ⟨ns, rfl⟩ := items_int h3
  have hlen : ns.length ≤ n := by
    unfold OpenLaw.pre at hc
    have h4 : (WTm.not (.lt (.lit (.int (n : Int))) (.len (.arg 0)))).holds [] { args := [.list (ns.map .int)] } = true := by
      have h4 := (holds_andW hc).1
      rw [hn] at h4
      exact h4
    have h5 := condW_of h4 (w_not (w_lt w_lit (w_len_list (w_arg rfl))))
    rw [List.length_map] at h5
    refine Nat.le_of_not_lt fun q => ?_
    have q' : (n : Int) < ((ns.length : Nat) : Int) := by omega
    first
      | (rw [decide_eq_true q'] at h5; exact absurd h5 (by decide))
      | (simp at h5; omega)
  cases hwl with
  | cons w1 w2 =>
    cases w2
    cases w1 with
    | list ho hall => exact ⟨_, _, ns, rfl, rfl, ho, ints_of_wellAll ns _ hall, hlen⟩
theorem post_true (l : OpenLaw) (args : List WData) : l.row.toRowW.claim.post args (.bool true) args = true :=
  postW_of (r := l.row.toRowW) (X := (true == true))
    (show WShape.has [] (.bool true) .bool = true by first | rfl | decide | simp [WShape.has, WShape.arms, WShape.armsAll])
    (show (WTm.eq .res (.lit (.bool true))).value [] { args := args, res := some (.bool true), after := args } = some (.bool (true == true)) from w_eq_bool (w_res rfl) w_lit) rfl
/-- the same from a codeAny of the CALL (for a layer whose function contracts speak of calls) -/
theorem attach_call {l : OpenLaw} {n : Nat} {q : Program} {loose : List Str} {XP : (Str → Option Value) → Heap → Prop} {YP : World → Heap → Prop} {d : DefRec}
    (hn : l.most = some n) (hdf : d.params.defaults = [])
    (call : ∀ (w : World) (s₀ s₁ : Shared) (mg mb : Str → Option Value) (fa : Addr) (o : Obj) (pm cd doc : Value) (a : Addr) (vs : List Value) (ns : List Int),
      Ground q loose [] XP w s₀ mg mb s₁.heap → YP w s₁.heap →
      s₁.heap.get? fa = some o → o.data = .func (docDef d.name d.params d.body d.scope pm cd doc) → s₁.heap.CodeRec cd d.name → mg d.name = some (.ref fa) →
      s₁.heap.get? a = some { cls := .type "list", data := .seq vs.toArray } → IntsAre vs ns → ns.length ≤ n → s₁.gens = #[] →
      codeAny (model l.prog w) callerA (.call (.ref fa) ⟨[.ref a], []⟩) (fun r s' => r = .ok (.ret (.bool true)) ∧ OldK s₁.heap s'.heap ∧ s'.os = s₁.os ∧ AllBare s'.gens) s₁) :
    WalkO q loose XP YP l.row.toRowW d [] (fun f vs => PySem.call f vs) := by
  intro w s₀ s₁ mg mb G Y fa o pm cd doc dV kV ho hd hcd hD hmg hg args vals as hpre hlay hrd hwl hlo
  obtain rfl : dV = .none := Dflts.none hD hdf
  obtain rfl : kV = .none := Dflts.noKw hD
  obtain ⟨a, vs, ns, rfl, rfl, hobj, hints, hlen⟩ := script_of hn hpre hwl
  refine enter_call (codeAny_mono (call w s₀ s₁ mg mb fa o pm cd doc a vs ns G Y ho (fd_plain hd) hcd hmg hobj hints hlen hg) fun r s' hq => ?_)
  obtain ⟨rfl, h2, h3, h4⟩ := hq
  exact ⟨.inl ⟨.bool true, .bool true, [], rfl, fun _ => rfl, .bool true, post_true l _, fun _ => ⟨List.Pairwise.nil, fun _ hm => (nomatch hm)⟩⟩, h2, h3, h4⟩
section
variable {prog : Program} {w : World} {A : Around} {E : Value → Shared → Prop} {s : Shared} {K : Frag}
end
end Att
namespace L2
open PySem PySem.Spec PyProof.Rows
theorem vals_ints : ∀ {vs : List Value} {ns : List Int}, IntsAre vs ns → Vals (ns.map V.int) vs
  | _, _, .nil => .nil
  | _, _, .cons n t h => .cons ⟨t, rfl⟩ (vals_ints h)
/-- nothing is tracked but the script, known to the object (or it is an object of the module) -/
def Only (H : Hp) : Prop := ∀ b, H b = none ∨ ∃ o xs, H b = some (.frz o (.lst xs))
/-- THE HEAD: the law's promise, at the heap behind the top. F, the promise of the law's def, may use that base is part of the heap (so K.In base, base.Ns mainGlobals mg stand in Mod) -/
theorem law_call {P : Program} {w : World} {K : PySem.W.Frag} {mg mb : Str → Option Value} {CX : CXT} {k : Nat} {fa a : Addr} {fd : FuncData} {x : Str} {sp : Sp} {s₁ : Shared} {vs : List Value} {ns : List Int}
    (KX : K.In s₁.heap) (hns : s₁.heap.Ns mainGlobals mg) (hb : s₁.heap.Ns builtinsNs mb) (hbb : ∀ x : Str, x ≠ "__name__" → mb x = bootBuiltins x) (hlim : s₁.heap.NoLimit) (hg : s₁.gens = #[])
    (ha : s₁.heap.get? a = some { cls := .type "list", data := .seq vs.toArray }) (hi : IntsAre vs ns) (hl : ns.length ≤ sizeLine) (hr : Room k callerA)
    (F : ∀ base : Heap, K.In base → base.Ns mainGlobals mg → FnOk P w K mg base CX k fa fd [x] sp) (hbind : ∀ (s : Shared) (u : Value), BindsTo s fd ⟨[u], []⟩ [(x, u)])
    (hsp : ∀ H : Hp, Only H → SqL K H a (ns.map V.int) → sp [.ref a] H (fun v _ => v = .bl true) fun _ _ _ => False)
    (hCX : ∀ H e s', CX [] H s₁ (fun _ _ _ => False) e s' → False) :
    codeAny (model P w) callerA (.call (.ref fa) ⟨[.ref a], []⟩) (fun r s' => r = .ok (.ret (.bool true)) ∧ OldK s₁.heap s'.heap ∧ s'.os = s₁.os ∧ AllBare s'.gens) s₁ := by
  have rv := vals_ints hi
  have lenV := hi.length
  -- from an abstract heap in which nothing but the script may be tracked
  have core : ∀ H : Hp, Only H → SqL K H a (ns.map V.int) → HOk P w H s₁.heap → (∀ b, H b ≠ none → b = a) → (H a ≠ none → K.lookup a = none) →
      codeAny (model P w) callerA (.call (.ref fa) ⟨[.ref a], []⟩) (fun r s' => r = .ok (.ret (.bool true)) ∧ OldK s₁.heap s'.heap ∧ s'.os = s₁.os ∧ AllBare s'.gens) s₁ := by
    intro H hO hS hok hA hK
    have base_of : ∀ {b : Addr} {o : Obj}, s₁.heap.get? b = some o → H b = none → (hidT s₁.heap H).get? b = some o := fun e n => hidT_get e n
    have noA : ∀ {b : Addr} {o : Obj} {es : Array DictEntry} {ep : Nat}, s₁.heap.get? b = some o → o.data = .dict es ep → H b = none := fun {b o es ep} e d => by
      cases q : H b with
      | none => rfl
      | some u =>
        have e' : b = a := hA b (by rw [q]; simp)
        subst e'
        rw [ha] at e; cases e
        have d' : Data.seq vs.toArray _ = Data.dict es ep := d
        cases d'
    have nsK : ∀ {b : Addr} {m : Str → Option Value}, s₁.heap.Ns b m → (hidT s₁.heap H).Ns b m := fun {b m} ⟨o, es, ep, e, d, r⟩ => ⟨o, es, ep, base_of e (noA e d), d, r⟩
    have hKb : K.In (hidT s₁.heap H) := fun b o e => base_of (KX b o e) (by
      cases q : H b with
      | none => rfl
      | some u =>
        have e' : b = a := hA b (by rw [q]; simp)
        subst e'
        rw [hK (by rw [q]; simp)] at e; cases e)
    have hM : Mod K mg (hidT s₁.heap H) := ⟨hKb, nsK hns, ⟨mb, nsK hb, hbb⟩, let ⟨mc, h1, h2⟩ := hlim; ⟨mc, nsK h1, h2⟩⟩
    have e0 : Env0 P w K mg (hidT s₁.heap H) callerA [] s₁ H := ⟨rfl, hM, fun b o e => of_hidT e, Nat.le_of_eq (hidT_size _ _), trivial, fun b hb => absurd (show b ∈ ([] : List Addr) from hb) (by simp), hok, .of_eq hg⟩
    refine codeAny_mono ((F _ hKb (nsK hns)).run callerA [] s₁ H ⟨[.ref a], []⟩ [.ref a] [.ref a] _ _ hr e0 (hbind s₁ (.ref a)) (.cons rfl .nil) (hsp H hO hS)) fun r s' h => ?_
    cases r with
    | error e => exact (hCX H e s' h).elim
    | ok fl =>
      cases fl with
      | next => exact False.elim h
      | brk => exact False.elim h
      | cont => exact False.elim h
      | ret u =>
        obtain ⟨v, H', os, bare, un, hok', r', q⟩ := h
        have q' : v = .bl true := q
        subst q'
        obtain rfl : u = Value.bool true := r'
        refine ⟨rfl, OldK.of_keep fun b o e => ?_, os, bare⟩
        cases q : H b with
        | none => exact un.keep b o e q (by intro z; exact absurd (show b ∈ ([] : List Addr) from z) (by simp)) (by simp)
        | some u =>
          rcases hO b with z | ⟨ob, xs, z⟩
          · rw [q] at z; cases z
          · have z2 := un.frzs b ob _ z
            obtain ⟨e1, _⟩ := hok b _ z
            obtain ⟨e2, _⟩ := hok' b _ z2
            rw [e] at e1; cases e1
            exact e2
  cases hk : K.lookup a with
  | some o =>
    -- the script is one of the module's own objects
    have e := KX a o hk
    rw [ha] at e
    cases e
    refine core (fun _ => none) (fun _ => .inl rfl) (.inr ⟨_, vs.toArray, _, hk, rfl, rfl, rfl, by rw [List.size_toArray, lenV]; exact hl, by simpa using rv⟩) (fun b u z => by have z' : (none : Option HO) = some u := z; cases z') (fun b z => absurd rfl z) fun z => absurd rfl z
  | none =>
    refine core (fun b => if b = a then some (.frz { cls := .type "list", data := .seq vs.toArray } (.lst (ns.map V.int))) else none) (fun b => ?_) (.inl (.inr ⟨{ cls := .type "list", data := .seq vs.toArray }, if_pos rfl⟩)) (fun b u z => ?_) (fun b z => ?_) fun _ => hk
    · by_cases hb : b = a
      · exact .inr ⟨_, _, if_pos hb⟩
      · exact .inl (if_neg hb)
    · by_cases hb : b = a
      · have z' := (if_pos hb).symm.trans z
        cases z'
        subst hb
        exact ⟨ha, by rw [List.length_map]; exact hl, vs, _, rv, ha⟩
      · have z' := (if_neg hb).symm.trans z
        cases z'
    · by_cases hb : b = a
      · exact hb
      · exact absurd (if_neg hb) z
end L2
namespace L2
open PySem PySem.Spec PyProof.Rows
end L2
namespace L2
open PySem PySem.Spec PyProof.Rows
/-- the j-th statement of a class's body -/
def inClass (s : Stmt) (j : Nat) : Stmt := match s with
  | .ClassDef _ _ _ body _ _ _ _ _ _ _ => body.getD j (.Pass ⟨0, 0, 0, 0⟩)
  | _ => .Pass ⟨0, 0, 0, 0⟩
def defArgs (s : Stmt) : Arguments := match s with
  | .FunctionDef _ a _ _ _ _ _ _ _ _ => a
  | _ => { posonlyargs := [], args := [], vararg := none, kwonlyargs := [], kw_defaults := [], kwarg := none, defaults := [] }
def defBody (s : Stmt) : List Stmt := match s with
  | .FunctionDef _ _ b _ _ _ _ _ _ _ => b
  | _ => []
def defScope (s : Stmt) : Scope := match s with
  | .FunctionDef _ _ _ _ _ _ sc _ _ _ => sc
  | _ => { kind := .function, names := [], isGenerator := false, isCoroutine := false }
abbrev CX0 : CXT := fun _ _ _ _ _ _ => False
abbrev E0 : XK := fun _ _ _ => False
theorem pass0 {X : Cx} : Passes CX0 X E0 := fun _ _ _ _ _ _ _ h => h.elim
structure Fun (K : PySem.W.Frag) (x qual : Str) (st : Stmt) (f : Addr) (fd : FuncData) : Prop where
  ex : ∃ (oc : Value) (od : Option Addr) (kV doc pm : Value) (an : Option Addr) (cdv ct : Value) (osl : Array (Option Value)),
    fd = PySem.W.fnOf x qual (defArgs st) (defBody st) (defScope st) .none kV doc pm an cdv ct ∧ K.lookup f = some ⟨oc, od, .func fd, osl⟩ ∧ PySem.W.codeIn K cdv qual = true
  kp : PySem.W.keepIn K (.ref f) = true
section
variable {P : Program} {w : World} {K : PySem.W.Frag} {mg : Str → Option Value} {base : Heap}
/-- THE RULE for a def: its body as a term of rules, and the reading of that term -/
theorem Fun.ok {x qual : Str} {st : Stmt} {f : Addr} {fd : FuncData} {N ps : List Str} {k : Nat} {sp : Sp} (F : Fun K x qual st f fd) (S : FnScope N ps (defScope st)) (len : ∀ vs H Q E, sp vs H Q E → vs.length = ps.length)
    (hbody : ∀ (cdv : Value) (A : Around) (outer : List Env) (s : Shared) (H : Hp) (vs : List V) (Q : VK) (E : XK), Room k (A.deeper (envOfC qual (defScope st) s.heap.objs.size f cdv)) → sp vs H Q E →
      ∃ t, PSs (cxOf CX0 P w K mg base N qual (defScope st) f cdv A outer s H E).nox (defBody st) t ∧ t { nx := fun _ H' => Q .non H', rt := Q } (start N vs) H) : FnOk P w K mg base CX0 (k + 1) f fd ps sp := by
  obtain ⟨oc, od, kV, doc, pm, an, cdv, ct, osl, rfl, lk, hcd⟩ := F.ex
  refine fn_of lk hcd S len fun A outer s H vs Q E hr hsp => ?_
  obtain ⟨t, h, q⟩ := hbody cdv A outer s H vs Q E hr hsp
  exact ⟨t, h.nox, q⟩
/-- how its arguments bind (no defaults): h is «fun _ _ _ _ _ _ us hl => match us, hl with | [_, _], _ => rfl», one _ a parameter -/
theorem Fun.binds {x qual : Str} {st : Stmt} {f : Addr} {fd : FuncData} {ps : List Str} (F : Fun K x qual st f fd)
    (h : ∀ (kV doc pm : Value) (an : Option Addr) (cdv ct : Value) (us : List Value), us.length = ps.length → bindArgs (PySem.W.fnOf x qual (defArgs st) (defBody st) (defScope st) .none kV doc pm an cdv ct) ⟨us, []⟩ = pure (ps.zip us)) : Binds K fd ps [] := by
  obtain ⟨oc, od, kV, doc, pm, an, cdv, ct, osl, rfl, lk, hcd⟩ := F.ex
  exact .all (h kV doc pm an cdv ct)
theorem fun_mk {x qual : Str} {st : Stmt} {f : Addr} {oc : Value} {od an : Option Addr} {osl : Array (Option Value)} {kV doc pm cdv ct : Value} (l : K.lookup f = some ⟨oc, od, .func (PySem.W.fnOf x qual (defArgs st) (defBody st) (defScope st) .none kV doc pm an cdv ct), osl⟩)
    (c : PySem.W.codeIn K cdv qual = true) (k : PySem.W.keepIn K (.ref f) = true) : Fun K x qual st f (PySem.W.fnOf x qual (defArgs st) (defBody st) (defScope st) .none kV doc pm an cdv ct) := ⟨⟨oc, od, kV, doc, pm, an, cdv, ct, osl, rfl, l, c⟩, k⟩
end
theorem hu_of {A : Around} {k : Nat} (hr : Room k A) : A.units + 1 < cLine := Nat.lt_of_le_of_lt (Nat.add_le_add_left (by decide : 1 ≤ 64) _) hr.units
theorem small1000 {n : Nat} (h : n ≤ 1000) : n < sizeLine := Nat.lt_of_le_of_lt h (by decide)
section
variable {X : Cx}
theorem pv (i : Nat) {x : Str} {pos : Pos} (hN : X.N[i]? = some x := by rfl) (hv : Vis X.env.scope x := by first | exact Or.inl rfl | exact Or.inr (Or.inl rfl) | exact Or.inr (Or.inr rfl)) (hd : (x == ("__debug__" : Str)) = false := by decide)
    (hcd : (x == ("__classdict__" : Str)) = false := by decide) : PE X (.Name x pos) (tVar i) := pe_var hN hv hd hcd
end
theorem iteF {A B : Prop} (h : B) : if false = true then A else B := by
  rw [if_neg Bool.false_ne_true]
  exact h
theorem iteT {A B : Prop} (h : A) : if true = true then A else B := by
  rw [if_pos rfl]
  exact h
theorem ite2 {c A B : Prop} [Decidable c] (h1 : c → A) (h2 : ¬ c → B) : if c then A else B := by
  by_cases h : c
  · rw [if_pos h]
    exact h1 h
  · rw [if_neg h]
    exact h2 h
/-- all that was tracked is as it was -/
def Same (H H' : Hp) : Prop := ∀ b o, H b = some o → H' b = some o
theorem Same.refl (H : Hp) : Same H H := fun _ _ h => h
theorem Same.trans {H H1 H2 : Hp} (a : Same H H1) (b : Same H1 H2) : Same H H2 := fun c o h => b c o (a c o h)
theorem Same.free {H H' : Hp} (e : Same H H') {l : Addr} (h : H' l = Option.none) : H l = Option.none := by
  cases q : H l with
  | none => rfl
  | some o =>
    rw [e l o q] at h
    cases h
theorem Same.seq {K : PySem.W.Frag} {H H' : Hp} {a : Addr} {xs : List V} (e : Same H H') (h : SqL K H a xs) : SqL K H' a xs := by
  rcases h with (h | ⟨o, h⟩) | h
  · exact .inl (.inl (e _ _ h))
  · exact .inl (.inr ⟨o, e _ _ h⟩)
  · exact .inr h
end L2
namespace L2
open PySem PySem.Spec PyProof.Rows
section
variable {X : Cx}
/-- len of a dict -/
theorem call_lenD : CallR X (.builtin "len") (fun xs H Q => ∃ a kvs, xs = [V.ref a] ∧ H a = some (.dK kvs) ∧ Q (.int kvs.length) H) := by
  intro pins s σ H xs us Q I r h
  obtain ⟨a, kvs, rfl, ha, q⟩ := h
  obtain ⟨u, rfl, ru⟩ := vals1 r
  cases ru
  exact d_len I (.inl ha) fun t s' I' => ⟨.int kvs.length, H, I', ⟨t, rfl⟩, q⟩
end
section
variable {κ : Type} [DecidableEq κ]
theorem dropK_pos {p : κ × V} {r : List (κ × V)} {k : κ} (e : p.1 = k) : dropK (p :: r) k = dropK r k := by
  unfold dropK
  rw [List.filter_cons, if_neg (by simp [e])]
theorem dropK_neg {p : κ × V} {r : List (κ × V)} {k : κ} (e : ¬ p.1 = k) : dropK (p :: r) k = p :: dropK r k := by
  unfold dropK
  rw [List.filter_cons, if_pos (by simp [e])]
end
end L2
set_option Elab.async false
set_option linter.all false
set_option maxRecDepth 100000
set_option maxHeartbeats 4000000
namespace L2
open PySem PySem.Spec PyProof.Rows
/-- the cells that a comprehension takes from around it -/
def closOf (cells : List (Str × Addr)) : List (Str × NameKind) → List (Str × Addr) → List (Str × Addr)
  | [], cs => cs
  | (n, k) :: r, cs => closOf cells r (if k == .free then (match cells.lookup n with | some c => (n, c) :: cs | none => cs) else cs)
theorem closureFor_of {scope : Scope} {env : Env} (h : ∀ y ∈ scope.names, y.2 = .free → ∃ c, env.cells.lookup y.1 = some c) : closureFor scope env = pure (closOf env.cells scope.names []) := by
  unfold closureFor
  generalize ([] : List (Str × Addr)) = cs
  revert cs
  generalize scope.names = names at h
  induction names with
  | nil => intro cs; rfl
  | cons p r ih =>
    obtain ⟨n, k⟩ := p
    intro cs
    have ih' := ih fun y hy => h y (List.mem_cons_of_mem _ hy)
    by_cases hk : k = .free
    · subst hk
      obtain ⟨c, hc⟩ := h (n, .free) List.mem_cons_self rfl
      have e : cellOf env n = pure c := by unfold cellOf; rw [hc] <;> rfl
      dsimp only at hc ⊢
      rw [List.forIn_cons]
      simp only [beq_self_eq_true, if_true, closOf, hc]
      rw [e]
      exact ih' _
    · have hb : (k == NameKind.free) = false := by simpa using hk
      dsimp only
      rw [List.forIn_cons]
      simp only [hb, Bool.false_eq_true, if_false, closOf]
      exact ih' _
theorem closOf_sub {cells : List (Str × Addr)} : ∀ (names : List (Str × NameKind)) (cs : List (Str × Addr)) {y : Str} {c : Addr}, (closOf cells names cs).lookup y = some c → cells.lookup y = some c ∨ cs.lookup y = some c
  | [], cs, y, c, h => .inr h
  | (n, k) :: r, cs, y, c, h => by
    rcases closOf_sub r _ (show (closOf cells r _).lookup y = some c from h) with h1 | h1
    · exact .inl h1
    · split at h1
      · split at h1
        · rename_i c' hc'
          rw [List.lookup_cons] at h1
          split at h1
          · rename_i e
            cases h1
            exact .inl (by rw [eq_of_beq e]; exact hc')
          · exact .inr h1
        · exact .inr h1
      · exact .inr h1
theorem closOf_keep {cells : List (Str × Addr)} : ∀ (names : List (Str × NameKind)) (cs : List (Str × Addr)) {y : Str}, (∃ c, cs.lookup y = some c) → ∃ c, (closOf cells names cs).lookup y = some c
  | [], cs, y, h => h
  | (n, k) :: r, cs, y, h => by
    refine closOf_keep r _ ?_
    split
    · split
      · rw [List.lookup_cons]
        split
        · exact ⟨_, rfl⟩
        · exact h
      · exact h
    · exact h
theorem closOf_has {cells : List (Str × Addr)} : ∀ (names : List (Str × NameKind)) (cs : List (Str × Addr)) {y : Str}, (y, NameKind.free) ∈ names → (∃ c, cells.lookup y = some c) → ∃ c, (closOf cells names cs).lookup y = some c
  | (n, k) :: r, cs, y, hy, hc => by
    rcases List.mem_cons.mp hy with e | hy
    · cases e
      refine closOf_keep r _ ?_
      obtain ⟨c, hc⟩ := hc
      simp only [beq_self_eq_true, if_true, hc]
      exact ⟨c, by simp [List.lookup_cons]⟩
    · exact closOf_has r _ hy hc
def relF (env : Env) (p : Str × NameKind) : Str × NameKind := if (p.2 == NameKind.free && env.scope.kind == .function && env.kindOf p.1 == some .cell) = true then (p.1, NameKind.cell) else (p.1, p.2)
theorem relF_free {env : Env} : ∀ {names : List (Str × NameKind)} {x : Str}, names.lookup x = some .free → (names.map (relF env)).lookup x = some .cell ∨ (names.map (relF env)).lookup x = some .free
  | [], _, h => by simp at h
  | (n, k) :: r, x, h => by
    have ih := @relF_free env r x
    rw [List.map_cons]
    unfold relF
    cases hx : x == n with
    | true =>
      rw [List.lookup_cons, hx] at h
      cases h
      by_cases hc : (NameKind.free == NameKind.free && env.scope.kind == .function && env.kindOf n == some .cell) = true
      · left; rw [if_pos hc, List.lookup_cons, hx]
      · right; rw [if_neg hc, List.lookup_cons, hx]
    | false =>
      rw [List.lookup_cons, hx] at h
      by_cases hc : (k == NameKind.free && env.scope.kind == .function && env.kindOf n == some .cell) = true
      · rw [if_pos hc, List.lookup_cons, hx]; exact ih h
      · rw [if_neg hc, List.lookup_cons, hx]; exact ih h
theorem lookup_relabel_free {scope : Scope} {env : Env} {x : Str} (h : scope.names.lookup x = some .free) : (relabel scope env).names.lookup x = some .cell ∨ (relabel scope env).names.lookup x = some .free :=
  relF_free (env := env) h
theorem relabel_kind {scope : Scope} {env : Env} (nc : ∀ y ∈ scope.names, y.2 ≠ .cell) {y : Str} (h : (relabel scope env).names.lookup y = some .cell ∨ (relabel scope env).names.lookup y = some .free) : (y, NameKind.free) ∈ scope.names := by
  have key : ∀ k, (relabel scope env).names.lookup y = some k → k = .cell ∨ k = .free → (y, NameKind.free) ∈ scope.names := fun k e hk => by
    have m := PySem.mem_of_lookup e
    obtain ⟨⟨n, k'⟩, hm, q⟩ := List.mem_map.mp m
    dsimp only at q
    split at q
    · rename_i c
      have c1 : (k' == NameKind.free) = true := by
        simp only [Bool.and_eq_true] at c
        exact c.1.1
      have c2 : k' = .free := eq_of_beq c1
      cases q
      rw [c2] at hm
      exact hm
    · cases q
      rcases hk with z | z
      · exact absurd z (nc _ hm)
      · rw [z] at hm; exact hm
  rcases h with h | h
  · exact key _ h (.inl rfl)
  · exact key _ h (.inr rfl)
/-- what of a comprehension's scope is asked: sc the scope around it, N the names around it, x its own name, fr the slots and names that it takes from around -/
structure CompScope (sc scope : Scope) (N : List Str) (x : Str) (fr : List (Nat × Str)) : Prop where
  kind : scope.kind = .function
  loc : scope.names.lookup x = some .local
  names : ∀ y ∈ scope.names, y.2 = .local → scope.names.lookup y.1 = some .local
  nocell : ∀ y ∈ scope.names, y.2 ≠ .cell
  free : ∀ y ∈ scope.names, y.2 = .free → sc.names.lookup y.1 = some .cell ∨ sc.names.lookup y.1 = some .free
  frk : ∀ p ∈ fr, N[p.1]? = some p.2 ∧ scope.names.lookup p.2 = some .free
  nd : (x :: fr.map (·.2)).Nodup
/-- the context of a comprehension's block -/
def cxComp (X : Cx) (scope : Scope) (C : Addr) (N : List Str) (s : Shared) (H : Hp) (fp : List Addr) : Cx where
  prog := X.prog
  w := X.w
  K := X.K
  mg := X.mg
  base := X.base
  A := X.A
  N := N
  s₀ := s
  H₀ := H
  env := compEnvC scope (closOf X.env.cells scope.names []) C X.env
  outer := X.stack
  stack := X.stack
  ex := fp
  fn := fun _ => false
  calm := X.calm
  pn := []
  xe := fun _ _ => False
def frV (σ : St) (fr : List (Nat × Str)) : St := fr.map fun p => (σ[p.1]?).join
/-- the tests of a comprehension -/
def PTs (X : Cx) (ifs : List Expr) (t : TT) : Prop :=
  ∀ (pins : List (Addr × Obj)) (s : Shared) (σ : St) (H : Hp) (Q : Bool → Hp → Prop), Inv X pins σ H s → t σ H Q →
    wpAny (model X.prog X.w) X.A (forIn ifs true fun c r => if r = true then do let ok ← isTrue c X.env (eval c X.env); pure (ForInStep.yield ok) else pure (ForInStep.yield r)) (TP X pins σ Q) X.xe s
def tTrue : TT := fun _ H Q => Q true H
theorem tTrue_go {σ : St} {H : Hp} {Q : Bool → Hp → Prop} (h : Q true H) : tTrue σ H Q := h
theorem pts_nil {X : Cx} : PTs X [] tTrue := fun _ _ _ H _ I h => wpAny_tests_nil ⟨H, I, h⟩
theorem pts_one {X : Cx} {c : Expr} {t : TT} (hc : PT X c t) : PTs X [c] t := fun pins s σ H Q I h => wpAny_tests_one (hc pins s σ H Q I h)
/-- [elt for x in iter if ..]: the list D grows by the turn; W its invariant with a measure -/
def compGoal (J : It) (fr : List (Nat × Str)) (tt : TT) (te : TE) (σ : St) (H1 : Hp) (Q : VK) : Prop := ∀ D, H1 D = none →
  ∃ W : Nat → Nat → List V → Hp → Prop, (∃ m, W 0 m [] (upd H1 D (.lst []))) ∧ ∀ i m ys H2, W i m ys H2 → H2 D = some (.lst ys) ∧
    ((J.stop i H2 ∧ Q (.ref D) H2) ∨ (J.go i H2 ∧ ∀ v H3, J.yld i H2 v H3 → tt (some v :: frV σ fr) H3 fun b H4 =>
      if b = true then te (some v :: frV σ fr) H4 fun y H5 => H5 D = some (.lst ys) ∧ ys.length < sizeLine ∧ ∃ m', m' < m ∧ W (i + 1) m' (ys ++ [y]) (upd H5 D (.lst (ys ++ [y])))
      else ∃ m', m' < m ∧ W (i + 1) m' ys H4))
def tComp (wi : TI) (fr : List (Nat × Str)) (tt : TT) (te : TE) : TE := fun σ H Q => wi σ H fun J H1 => compGoal J fr tt te σ H1 Q
/-- what is known of the block's own namespace from outside -/
structure FreshC (X : Cx) (pins : List (Addr × Obj)) (H : Hp) (C : Addr) : Prop where
  hn : H C = none
  hL : C ≠ X.env.locals
  h1 : C ∈ X.ex ∨ X.s₀.heap.objs.size ≤ C
  h2 : ∀ x c, X.env.cells.lookup x = some c → c ≠ C
  h3 : ∀ p ∈ X.pn ++ pins, p.1 ≠ C
theorem comp_run {X : Cx} {x : Str} {px : Pos} {iter elt : Expr} {ifs : List Expr} {scope sc : Scope} {pos pos' : Pos} {N : List Str} {fr : List (Nat × Str)} {wi : TI} {tt : TT} {te : TE}
    {pins : List (Addr × Obj)} {s : Shared} {σ : St} {H : Hp} {Q : VK} {Q' : Value → Shared → Prop} {use : Option (Value → Sem Unit)}
    (S : CompScope sc scope N x fr) (hsc : X.env.scope = sc) (hN : X.N = N) (hc : X.calm = true) (hi : PI X (.Name x px) iter wi)
    (ht : ∀ (C : Addr) (s : Shared) (H : Hp) (fp : List Addr), PTs (cxComp X scope C (x :: fr.map (·.2)) s H fp) ifs tt)
    (he : ∀ (C : Addr) (s : Shared) (H : Hp) (fp : List Addr), PE (cxComp X scope C (x :: fr.map (·.2)) s H fp) elt te)
    (hs : ∀ z, foldedSetIterable iter X.env z = pure z) (I : Inv X pins σ H s) (h : tComp wi fr tt te σ H Q)
    (hfin : ∀ (D C : Addr) (H' : Hp) (s' : Shared) (m : Str → Option Value), Inv X pins σ H' s' → s'.heap.Ns C m → FreshC X pins H' C → Q (.ref D) H' → compPost (model X.prog X.w) X.A X.xe use Q' (.ref D) C (.ok .next) s') :
    wpAny (model X.prog X.w) X.A (comprehension (.ListComp elt [⟨.Name x px, iter, ifs, 0⟩] scope pos) scope X.env pos' (newList []) false (eval iter X.env) use) Q' X.xe s := by
  have kin : ∀ y, scope.names.lookup y = some .free → X.env.kindOf y = some .cell ∨ X.env.kindOf y = some .free := fun y hy => by
    show X.env.scope.names.lookup y = _ ∨ X.env.scope.names.lookup y = _
    rw [hsc]
    exact S.free (y, .free) (PySem.mem_of_lookup hy) rfl
  have kin' : ∀ y ∈ scope.names, y.2 = .free → X.env.kindOf y.1 = some .cell ∨ X.env.kindOf y.1 = some .free := fun y hy hf => by
    show X.env.scope.names.lookup y.1 = _ ∨ X.env.scope.names.lookup y.1 = _
    rw [hsc]
    exact S.free y hy hf
  have hkc : ∀ y ∈ scope.names, y.2 = .free → ∃ c, X.env.cells.lookup y.1 = some c := fun y hy hf => I.ok.has y.1 (kin' y hy hf)
  refine wpAny_comprehension_free (use := use) rfl hs (closureFor_of hkc) S.kind S.names ?_
  refine thn (hi pins s σ H _ I h) fun xv s1 h1 => thn h1 fun itv s2 h2 => ?_
  obtain ⟨it, fp, tn, J, H2, rfl, I2, T, st2, f2, q2⟩ := h2
  refine wpAny_newObj_type (wpAny_newFunctionEnv S.nocell (by intro y hy; simp at hy) (fun h₁ hns₁ hsb₁ => ?_) S.kind)
  dsimp only at hns₁ hsb₁ ⊢
  have I3 : Inv X pins σ (upd H2 s2.heap.objs.size (.lst [])) { s2 with heap := s2.heap.push { cls := .type "list", data := .seq ([] : List Value).toArray } } :=
    I2.lnew (its := []) (t' := s2.toks) .nil (Nat.zero_le _)
  unfold compGoal at q2
  obtain ⟨W, ⟨m0, w0⟩, turn⟩ := q2 s2.heap.objs.size (I2.hok.fresh (Nat.le_refl _))
  generalize hG : s2.heap.push { cls := .type "list", dict := none, data := .seq ([] : List Value).toArray } = G at hns₁ hsb₁ I3 ⊢
  generalize hD : s2.heap.objs.size = D at I3 turn w0 ⊢
  generalize hH3 : upd H2 D (.lst []) = H3 at I3 w0
  have neG : ∀ b o, G.get? b = some o → b ≠ G.objs.size := fun b o e => Nat.ne_of_lt (Heap.lt_size e)
  have old : ∀ b o, G.get? b = some o → h₁.get? b = some o := fun b o e => (hsb₁.2 b (neG b o e)).trans (Heap.get?_push_of_some _ e)
  have up2 : ∀ b o, s2.heap.get? b = some o → G.get? b = some o := fun b o e => by rw [← hG]; exact Heap.get?_push_of_some _ e
  have fpG : ∀ b ∈ fp, b < G.objs.size := fun b hb => by
    obtain ⟨o, e, _⟩ := T.obj _ _ st2 b hb
    exact Heap.lt_size (up2 b o e)
  have sub : ∀ {y : Str} {c : Addr}, (closOf X.env.cells scope.names []).lookup y = some c → X.env.cells.lookup y = some c := fun {y c} e => by
    rcases closOf_sub _ _ e with z | z
    · exact z
    · simp at z
  have stat0 : ∀ b ∈ fp, (b ∈ X.ex ∨ X.s₀.heap.objs.size ≤ b) ∧ b ≠ X.env.locals ∧ (∀ x c, X.env.cells.lookup x = some c → c ≠ b) ∧ ∀ p ∈ X.pn ++ pins, p.1 ≠ b := fun b hb =>
    ⟨(f2 b hb).2.2.2.1, (f2 b hb).2.1, (f2 b hb).2.2.2.2.1, (f2 b hb).2.2.2.2.2⟩
  have hCL : G.objs.size ≠ X.env.locals := Nat.ne_of_gt I3.lt
  have hC1 : X.s₀.heap.objs.size ≤ G.objs.size := I3.sz
  have hC2 : ∀ x c, X.env.cells.lookup x = some c → c ≠ G.objs.size := fun x c e => by
    obtain ⟨v, o, ho, _⟩ := I3.cell x c e
    exact neG c o ho
  have hC3 : ∀ p ∈ X.pn ++ pins, p.1 ≠ G.objs.size := fun p hp => neG p.1 p.2 (I3.pin p hp).1
  have okB : (cxComp X scope G.objs.size (x :: fr.map (·.2)) { s2 with heap := G } H3 fp).Ok := by
    refine ⟨I2.ok.mod, S.kind, I2.ok.glob, I2.ok.blt, Nat.le_refl _, fun y z c e1 e2 => I2.ok.inj y z c (sub e1) (sub e2), fun y hy => ?_, fun y c z => Bool.noConfusion z, I2.ok.hd, I2.ok.frames, .inl rfl, fun b hb => ⟨Nat.ne_of_lt (fpG b hb), fun y c e => (stat0 b hb).2.2.1 y c (sub e)⟩,
      fun b o e => I3.bs b o e, Nat.le_trans I2.ok.bsz I3.sz, fun b o e hb => ?_, fun b hb hf => ?_, I3.stack, I3.stkFree⟩
    · have m := relabel_kind S.nocell hy
      exact closOf_has _ _ m (hkc _ m rfl)
    · rcases (stat0 b hb).1 with z | z
      · exact I2.ok.noex b o e z
      · exact absurd (Nat.lt_of_lt_of_le (Heap.lt_size e) (Nat.le_trans I2.ok.bsz z)) (Nat.lt_irrefl _)
    · rcases List.mem_cons.mp (I2.stkSub b hf) with z | z
      · exact (stat0 b hb).2.1 z
      · exact (f2 b hb).2.2.1 z
  have I4 : ∀ tk : Nat, Inv (cxComp X scope G.objs.size (x :: fr.map (·.2)) { s2 with heap := G } H3 fp) [] (none :: frV σ fr) H3 { s2 with heap := h₁, toks := tk } := fun tk => by
    refine ⟨okB, rfl, I2.bare, Un.kept old, ⟨_, hns₁, fun i y v e1 e2 _ => ?_⟩, fun y c e => ?_, I3.hok.fresh (Nat.le_refl _), fun y c e => I3.freeC y c (sub e), fun p hp => absurd (show p ∈ ([] : List (Addr × Obj)) from hp) (by simp), I3.hok.kept old, ?_⟩
    · cases i with
      | zero => simp at e2
      | succ i =>
        have e1' : (fr.map (·.2))[i]? = some y := e1
        have e2' : (fr.map fun p => (σ[p.1]?).join)[i]? = some (some v) := e2
        rw [List.getElem?_map] at e1' e2'
        cases hp : fr[i]? with
        | none => rw [hp] at e1'; cases e1'
        | some p =>
          rw [hp] at e1' e2'
          have ey : p.2 = y := Option.some.inj e1'
          have ev : (σ[p.1]?).join = some v := Option.some.inj e2'
          have ev' : σ[p.1]? = some (some v) := by
            cases q : σ[p.1]? with
            | none => rw [q] at ev; cases ev
            | some o => rw [q] at ev; simp only [Option.join] at ev; exact congrArg some ev
          have hf := S.frk p (List.mem_of_getElem? hp)
          rw [ey] at hf
          have hk := kin y hf.2
          obtain ⟨m, _, hl⟩ := I2.loc
          obtain ⟨u, ru, l⟩ := hl p.1 y v (by rw [hN]; exact hf.1) ev' (.inr hk)
          refine ⟨u, ru, .inr ⟨lookup_relabel_free hf.2, ?_⟩⟩
          rcases l with ⟨k, _⟩ | ⟨_, c, e, z⟩
          · rcases hk with hk | hk
            · rw [hk] at k; cases k
            · rw [hk] at k; cases k
          · obtain ⟨c', ec⟩ := closOf_has (cells := X.env.cells) scope.names [] (PySem.mem_of_lookup hf.2) ⟨c, e⟩
            have := sub ec
            rw [e] at this
            cases this
            obtain ⟨o, ho, hd⟩ := z
            exact ⟨c, ec, o, old c o (up2 c o ho), hd⟩
    · obtain ⟨v, o, ho, hd⟩ := I2.cell y c (sub e)
      exact ⟨v, o, old c o (up2 c o ho), hd⟩
    · show (none :: frV σ fr).length = (x :: fr.map (·.2)).length
      simp [frV]
  have locX : (cxComp X scope G.objs.size (x :: fr.map (·.2)) { s2 with heap := G } H3 fp).env.scope.names.lookup x = some .local := lookup_relabel_local S.loc
  generalize hX : cxComp X scope G.objs.size (x :: fr.map (·.2)) { s2 with heap := G } H3 fp = Y at I4 locX
  have eP : Y.prog = X.prog := by rw [← hX]; rfl
  have eW : Y.w = X.w := by rw [← hX]; rfl
  have eK : Y.K = X.K := by rw [← hX]; rfl
  have eA : Y.A = X.A := by rw [← hX]; rfl
  have eC : Y.calm = true := by rw [← hX]; exact hc
  have eE : Y.env = compEnvC scope (closOf X.env.cells scope.names []) G.objs.size X.env := by rw [← hX]; rfl
  have eN : Y.N = x :: fr.map (·.2) := by rw [← hX]; rfl
  have eX : Y.xe = fun _ _ => False := by rw [← hX]; rfl
  have eB : ∀ {σ' : St} {H' : Hp} {s' : Shared} {pins' : List (Addr × Obj)}, Inv Y pins' σ' H' s' → s'.os = s2.os ∧ Un (frs X.stack) fp H3 H' G s'.heap := fun {σ' H' s' pins'} J => by
    subst hX
    exact ⟨J.os, J.base⟩
  have hT := ht G.objs.size { s2 with heap := G } H3 fp
  have hE := he G.objs.size { s2 with heap := G } H3 fp
  rw [hX] at hT hE
  have fpY : ∀ {H' : Hp}, (∀ b ∈ fp, H' b = none) → ∀ b ∈ fp, FpOk Y [] H' b := fun {H'} hn b hb => by
    subst hX
    refine ⟨hn b hb, Nat.ne_of_lt (fpG b hb), okB.exfs b hb, .inl hb, fun y c e => (okB.exf b hb).2 y c e, fun p hp => absurd (show p ∈ ([] : List (Addr × Obj)) from hp) (by simp)⟩
  have loop : ∀ s3 : Shared, (∃ tk, s3 = { s2 with heap := h₁, toks := tk }) →
      codeAny (model X.prog X.w) X.A (.compLoop (.ListComp elt [⟨.Name x px, iter, ifs, 0⟩] scope pos) 0 (.ref it) (.ref D) Y.env)
        (compPost (model X.prog X.w) X.A X.xe use Q' (.ref D) G.objs.size) s3 := by
    rintro s3 ⟨tk, rfl⟩
    refine codeAny_compLoop_tests (fun n s' => ∃ i ys o H', Inv Y [] (o :: frV σ fr) H' s' ∧ tn i s'.heap ∧ (∀ b ∈ fp, H' b = none) ∧ W i n ys H') ?_ m0
      ⟨0, [], none, H3, I4 tk, T.keep _ _ _ st2 fun b hb o e => old b o (up2 b o e), fun b hb => ?_, w0⟩
    · rintro n s' ⟨i, ys, o, H', J', st', fr', w'⟩
      obtain ⟨hD', hgo⟩ := turn i n ys H' w'
      rcases hgo with ⟨stop, qn⟩ | ⟨go, step⟩
      · have Q1 := T.done Y eP eW eK eC i [] s' (o :: frV σ fr) H' (notedBy (model X.prog X.w) X.A Y.env fun e s'' => compPost (model X.prog X.w) X.A X.xe use Q' (.ref D) G.objs.size (.error e) s'') J' (fpY fr') st' stop
        rw [eA] at Q1
        refine thn Q1 fun r s4 ⟨hr, J4⟩ => ?_
        subst hr
        obtain ⟨m, hn, _⟩ := J4.loc
        rw [eE] at hn
        obtain ⟨os4, u4⟩ := eB J4
        have free4 : H' G.objs.size = none := by have := J4.free; rw [eE] at this; exact this
        have hok4 : HOk X.prog X.w H' s4.heap := by have := J4.hok; rw [eP, eW] at this; exact this
        exact hfin D G.objs.size H' s4 m (I3.call' (ch := fp) (s' := s4) os4 u4 hok4 J4.bare stat0) hn ⟨free4, hCL, .inr hC1, hC2, hC3⟩ qn
      · have Q1 := T.item Y eP eW eK eC i [] s' (o :: frV σ fr) H' (notedBy (model X.prog X.w) X.A Y.env fun e s'' => compPost (model X.prog X.w) X.A X.xe use Q' (.ref D) G.objs.size (.error e) s'') J' (fpY fr') st' go
        rw [eA] at Q1
        refine thn Q1 fun r s4 ⟨u, hr, h4⟩ => ?_
        subst hr
        show wpAny _ _ (letOwnedTupleGo (.Name x px) (.ref it) u >>= fun _ => assign (.Name x px) Y.env u) _ _ s4
        refine wpAny_bind (thn h4 fun _ s5 ⟨v, H5, J5, r5, y5, st5, fr5⟩ => ?_)
        have J5' := J5.pinned (fpY fr5) (T.obj _ _ st5)
        have G5 := pg_name (X := Y) (i := 0) (x := x) (pos := px) (by rw [eN]; exact S.nd) (by rw [eN]; rfl) (.inl locX) (.inr locX) ([] ++ pinsAt fp s5.heap) s5 (o :: frV σ fr) H5 v u (fun σ6 H6 => σ6 = some v :: frV σ fr ∧ H6 = H5) J5' r5 ⟨rfl, rfl⟩
        rw [eP, eW, eA, eX] at G5
        refine wpAny_mono G5 (fun _ s6 ⟨σ6, H6, J6, e6, e6'⟩ => ?_) fun _ _ z => z.elim
        subst e6 e6'
        have T6 := hT _ s6 _ _ _ J6 (step v _ y5)
        rw [eP, eW, eA, eX] at T6
        have again : ∀ {s7 : Shared} {H7 : Hp} {zs : List V}, Inv Y ([] ++ pinsAt fp s5.heap) (some v :: frV σ fr) H7 s7 → (∃ m', m' < n ∧ W (i + 1) m' zs H7) → ∃ m, m < n ∧ ∃ i ys o H', Inv Y [] (o :: frV σ fr) H' s7 ∧ tn i s7.heap ∧ (∀ b ∈ fp, H' b = none) ∧ W i m ys H' := fun {s7 H7 zs} J7 ⟨m', hm, w7⟩ => by
          refine ⟨m', hm, i + 1, zs, some v, H7, J7.unpinned, T.keep _ _ _ st5 fun b hb o e => (J7.pin (b, o) (List.mem_append_right _ (List.mem_append_right _ (mem_pinsAt hb e)))).1, fun b hb => ?_, w7⟩
          obtain ⟨o, e, d⟩ := T.obj _ _ st5 b hb
          exact (J7.pin (b, o) (List.mem_append_right _ (List.mem_append_right _ (mem_pinsAt hb e)))).2.1
        refine wpAny_mono T6 (fun ok s7 ⟨H7, J7, q7⟩ => ?_) fun _ _ z => z.elim
        cases ok with
        | false => exact again J7 q7
        | true =>
          have E7 := hE _ s7 _ _ _ J7 q7
          rw [eP, eW, eA, eX] at E7
          show wpAny _ _ (eval elt Y.env) _ _ s7
          refine wpAny_mono E7 (fun u8 s8 ⟨y8, H8, J8, r8, hD8, hz8, w8⟩ => ?_) fun _ _ z => z.elim
          have A8 := mt_append (X := Y) _ s8 _ H8 (.ref D) [y8] (.ref D) [u8] (fun z H9 => H9 = upd H8 D (.lst (ys ++ [y8]))) J8 rfl (.cons r8 .nil) ⟨D, ys, y8, rfl, rfl, hD8, hz8, rfl⟩
          rw [eP, eW, eA, eX] at A8
          refine wpAny_mono A8 (fun _ s9 ⟨z9, H9, J9, _, e9⟩ => ?_) fun _ _ z => z.elim
          subst e9
          exact again J9 w8
    · rw [← hH3]
      have hbD : b ≠ D := by
        rw [← hD]
        obtain ⟨o, e, _⟩ := T.obj _ _ st2 b hb
        exact Nat.ne_of_lt (Heap.lt_size e)
      rw [upd_ne hbD]
      exact (f2 b hb).1
  rw [eE] at loop
  exact codeAny_compStart_list (loop _ ⟨_, rfl⟩) (T.self _ 0 _ _ _ (T.keep _ _ _ st2 fun b hb o e => old b o (up2 b o e)) (loop _ ⟨_, rfl⟩))
theorem pe_comp {X : Cx} {x : Str} {px : Pos} {iter elt : Expr} {ifs : List Expr} {scope sc : Scope} {pos : Pos} {N : List Str} {fr : List (Nat × Str)} {wi : TI} {tt : TT} {te : TE}
    (S : CompScope sc scope N x fr) (hsc : X.env.scope = sc) (hN : X.N = N) (hc : X.calm = true) (hi : PI X (.Name x px) iter wi)
    (ht : ∀ (C : Addr) (s : Shared) (H : Hp) (fp : List Addr), PTs (cxComp X scope C (x :: fr.map (·.2)) s H fp) ifs tt)
    (he : ∀ (C : Addr) (s : Shared) (H : Hp) (fp : List Addr), PE (cxComp X scope C (x :: fr.map (·.2)) s H fp) elt te)
    (hs : ∀ z, foldedSetIterable iter X.env z = pure z := by intro _; rfl) :
    PE X (.ListComp elt [⟨.Name x px, iter, ifs, 0⟩] scope pos) (tComp wi fr tt te) := by
  intro pins s σ H Q I h
  rw [eval_ListComp]
  refine comp_run (use := none) S hsc hN hc hi ht he hs I h fun D C H' s' m J hn fc q => ?_
  exact ⟨m, hn, fun h' hs' => ⟨.ref D, H', J.turned (t' := s'.toks) (fun b o hb e => (hs'.2 b hb).trans e) fc.hn fc.hL fc.h1 fc.h2 fc.h3, rfl, q⟩⟩
/-- name = [.. for ..], the name a plain local -/
theorem ps_setComp {X : Cx} {x y : Str} {px py spos : Pos} {i : Nat} {iter elt : Expr} {ifs : List Expr} {scope sc : Scope} {pos : Pos} {N : List Str} {fr : List (Nat × Str)} {wi : TI} {tt : TT} {te : TE}
    (S : CompScope sc scope N x fr) (hsc : X.env.scope = sc) (hN : X.N = N) (hc : X.calm = true) (hnd : X.N.Nodup) (hiy : X.N[i]? = some y) (hy : X.env.scope.names.lookup y = some .local) (hi : PI X (.Name x px) iter wi)
    (ht : ∀ (C : Addr) (s : Shared) (H : Hp) (fp : List Addr), PTs (cxComp X scope C (x :: fr.map (·.2)) s H fp) ifs tt)
    (he : ∀ (C : Addr) (s : Shared) (H : Hp) (fp : List Addr), PE (cxComp X scope C (x :: fr.map (·.2)) s H fp) elt te)
    (hs : ∀ z, foldedSetIterable iter X.env z = pure z := by intro _; rfl)
    (hsw : swapsWith (.ListComp elt [⟨.Name x px, iter, ifs, 0⟩] scope pos) (some (.Name y py)) spos.line X.env = pure true := by rfl) :
    PS X (.Assign [.Name y py] (.ListComp elt [⟨.Name x px, iter, ifs, 0⟩] scope pos) spos) (tAsg (tComp wi fr tt te) (gName i)) := by
  intro pins s σ H D0 I h
  rw [exec_Assign_Name_used _ _ _ _ hsw]
  refine wpAny_bind (wpAny_standAt (wpAny_bind ?_))
  show wpAny _ X.A (do let _ ← comprehension (.ListComp elt [⟨.Name x px, iter, ifs, 0⟩] scope pos) scope X.env _ (newList []) false (eval iter X.env) (some (assign (.Name y py) X.env))) _ _ s
  refine wpAny_bind (thn (comp_run (use := some (assign (.Name y py) X.env)) (Q' := fun _ s' => SP X pins D0 .next s') S hsc hN hc hi ht he hs I h fun D C H' s' m J hn fc q => ?_) fun _ s' hq => wpAny_pure (wpAny_pure hq))
  show wpAny _ _ (assign (.Name y py) X.env (.ref D)) _ _ s'
  refine wpAny_assign_Name (store_ok2 J hnd hiy (.inl hy) (v := .ref D) rfl (fun s5 J5 hs5 => ?_) (.inr hy))
  obtain ⟨a, sb, ha⟩ := hs5
  have hCa : C ≠ a := by
    rcases ha with z | z
    · rw [z]; exact fc.hL
    · exact Ne.symm (fc.h2 _ _ z)
  refine ⟨m, hn.sameBut sb hCa, fun h' hs' => ⟨_, H', J5.turned (t' := s5.toks) (fun b o hb e => (hs'.2 b hb).trans e) fc.hn fc.hL fc.h1 fc.h2 fc.h3, q⟩⟩
theorem all_range {bs : List Bool} : (List.range bs.length).all (fun i => bs.getD i true) = bs.all id := by
  rw [Bool.eq_iff_iff, List.all_eq_true, List.all_eq_true]
  constructor
  · intro h b hb
    obtain ⟨i, hi, e⟩ := List.mem_iff_getElem.mp hb
    have q := h i (List.mem_range.mpr hi)
    simp only [List.getD_eq_getElem?_getD, List.getElem?_eq_getElem hi, Option.getD_some] at q
    rw [← e]; exact q
  · intro h i hi
    have hi' := List.mem_range.mp hi
    simp only [List.getD_eq_getElem?_getD, List.getElem?_eq_getElem hi', Option.getD_some]
    exact h _ (List.getElem_mem hi')
theorem call_all {X : Cx} (hc : X.calm = true) : CallR X (.builtin "all") (fun xs H Q => ∃ (p : Addr) (bs : List Bool), xs = [.ref p] ∧ SqL X.K H p (bs.map V.bl) ∧ Q (.bl (bs.all id)) H) := by
  intro pins s σ H xs us Q I r h
  obtain ⟨p, bs, rfl, hq, q⟩ := h
  obtain ⟨u, rfl, rx⟩ := vals1 r
  cases rx
  obtain ⟨its, rv, pl, hz⟩ := I.list hq
  have hlen := rv.length
  rw [List.length_map] at hlen
  have hpl : p < s.heap.objs.size := by obtain ⟨o, e, _⟩ := pl.isList; exact Heap.lt_size e
  refine call_all_walk (wpAny_pyIter_list pl.isList ?_)
  refine ⟨s.heap.objs.size, _, [s.heap.objs.size], its.toArray.size, _, _, fun i => bs.getD i true, rfl, Walks.list (A := X.A.in1) (I.ok.hd hc) s.heap.objs.size p (Nat.ne_of_lt hpl) its.toArray, ⟨⟨_, Heap.get?_push_size _ rfl, rfl, rfl⟩, pl.isList.push _⟩, ?_, ?_⟩
  · intro i v s' Q' E' hv hq'
    have hv' : its[i]? = some v := by simpa using hv
    have hi : i < its.length := (List.getElem?_eq_some_iff.mp hv').1
    have hb : (bs.map V.bl)[i]? = some (V.bl (bs.getD i true)) := by
      rw [List.getElem?_map, List.getElem?_eq_getElem (by omega)]
      simp [List.getD_eq_getElem?_getD, List.getElem?_eq_getElem (show i < bs.length by omega)]
    obtain ⟨u, e1, e2⟩ := rv.get hb
    rw [hv'] at e1
    cases e1
    cases e2
    exact wpAny_truthy_bool hq'
  · intro h' tk hk
    have hsz : its.toArray.size = bs.length := by rw [List.size_toArray]; exact hlen.symm
    rw [hsz, all_range]
    exact ⟨.bl (bs.all id), H, I.kept (t' := tk) fun b o e => hk b o (fun z => absurd (Heap.lt_size e) (by rw [List.mem_singleton.mp z]; exact Nat.lt_irrefl _)) (Heap.get?_push_of_some _ e), rfl, q⟩
def clsV : V → Option Value
  | .ty n => some (.type n)
  | .ref a => some (.ref a)
  | _ => none
theorem call_isinst {X : Cx} : CallR X (.builtin "isinstance") (fun xs H Q => ∃ x c cv t b, xs = [x, c] ∧ clsV c = some cv ∧ TyOf X.K H x t ∧ PySem.W.kitOne X.K t cv = some b ∧ Q (.bl b) H) := by
  intro pins s σ H xs us Q I r h
  obtain ⟨x, c, cv, t, b, rfl, hcv, ty, hk, q⟩ := h
  obtain ⟨u, u', rfl, rx, rc⟩ := vals2 r
  have e : u' = cv := by
    cases c with
    | ty n => cases hcv; exact rc
    | ref a => cases hcv; exact rc
    | _ => cases hcv
  subst e
  exact isinst_ok I rx ty hk fun tk => ⟨.bl b, H, I.tok tk, rfl, q⟩
theorem strsAre_of {xs : List Str} : ∀ {us : List Value}, Vals (xs.map V.str) us → StrsAre us xs := by
  induction xs with
  | nil => intro us r; rw [List.map_nil] at r; cases r; exact .nil
  | cons y ys ih =>
    intro us r
    rw [List.map_cons] at r
    cases r with
    | cons r1 r2 =>
      obtain ⟨t, e⟩ := r1
      subst e
      exact .cons y t (ih r2)
inductive rSlS_I (x : V) (lo : Option Int) (hi : Option Int) (H : Hp) (Q : VK) : Prop
  | mk : ∀ y, x = .str y → y.length ≤ sizeLine → Q (.str (Txt.slice y lo hi)) H → rSlS_I x lo hi H Q
def rSlS : V → Option Int → Option Int → Hp → VK → Prop := fun x lo hi H Q => rSlS_I x lo hi H Q
theorem sl_str {X : Cx} : SlR X rSlS := by
  intro pins s σ H x v vl vu lo hi sl Q I rx hs pl pu h
  obtain ⟨y, rfl, hz, q⟩ := h
  obtain ⟨t, rfl⟩ := rx
  refine ⟨"str", _, F.slot_str_getitem.lookup, typeIs_str _ _ _, ?_⟩
  have fin : ∀ lo hi, Q (.str (Txt.slice y lo hi)) H → (Txt.slice y lo hi).length ≤ sizeLine ∧ ∀ t' k, EP X pins σ Q (.str (Txt.slice y lo hi) t') { s with toks := k } := fun lo hi q =>
    ⟨Nat.le_trans (Txt.slice_le y _ _) hz, fun t' k => ⟨.str _, H, I.tok k, ⟨t', rfl⟩, q⟩⟩
  cases pl with
  | none =>
    cases pu with
    | none => exact wpAny_getItem_str_slice (l := none) (u := none) (st := none) hs rfl (post_val_or_str (fin _ _ q))
    | int j tj => exact wpAny_getItem_str_slice (l := none) (u := some (j, tj)) (st := none) hs rfl (post_val_or_str (fin _ _ q))
  | int i ti =>
    cases pu with
    | none => exact wpAny_getItem_str_slice (l := some (i, ti)) (u := none) (st := none) hs rfl (post_val_or_str (fin _ _ q))
    | int j tj => exact wpAny_getItem_str_slice (l := some (i, ti)) (u := some (j, tj)) (st := none) hs rfl (post_val_or_str (fin _ _ q))
mutual
inductive RD (K : PySem.W.Frag) (H : Hp) : V → PyData → Prop
  | non : RD K H .non .none
  | bl (b : Bool) : RD K H (.bl b) (.bool b)
  | int (i : Int) : RD K H (.int i) (.int i)
  | str (x : Str) : RD K H (.str x) (.str x)
  | lst {a : Addr} {xs : List V} {ds : List PyData} : SqL K H a xs → RDs K H xs ds → RD K H (.ref a) (.list ds)
  | tup {a : Addr} {xs : List V} {ds : List PyData} : SqT K H a xs → RDs K H xs ds → RD K H (.ref a) (.tuple ds)
inductive RDs (K : PySem.W.Frag) (H : Hp) : List V → List PyData → Prop
  | nil : RDs K H [] []
  | cons {x : V} {xs : List V} {d : PyData} {ds : List PyData} : RD K H x d → RDs K H xs ds → RDs K H (x :: xs) (d :: ds)
end
mutual
theorem RD.reads {X : Cx} {pins : List (Addr × Obj)} {σ : St} {H : Hp} {s : Shared} (I : Inv X pins σ H s) : ∀ {x : V} {d : PyData} {u : Value}, RD X.K H x d → RelV x u → ∃ as, Reads s.heap u d as
  | _, _, _, .non, r => by cases (show _ = Value.none from r); exact ⟨_, .none⟩
  | _, _, _, .bl b, r => by cases (show _ = Value.bool b from r); exact ⟨_, .bool b⟩
  | _, _, _, .int i, r => by obtain ⟨t, e⟩ := r; subst e; exact ⟨_, .int i t⟩
  | _, _, _, .str x, r => by obtain ⟨t, e⟩ := r; subst e; exact ⟨_, .str x t⟩
  | _, _, _, .lst (a := a) hq hs, r => by
    cases (show _ = Value.ref a from r)
    obtain ⟨its, rv, pl, _⟩ := I.list hq
    obtain ⟨as, ra⟩ := RDs.reads I hs rv
    obtain ⟨o, e, c, n, d⟩ := pl.isList
    exact ⟨_, .list e c d (by simpa using ra)⟩
  | _, _, _, .tup (a := a) hq hs, r => by
    cases (show _ = Value.ref a from r)
    obtain ⟨its, rv, pl, _⟩ := I.tuple hq
    obtain ⟨as, ra⟩ := RDs.reads I hs rv
    obtain ⟨o, e, c, n, d⟩ := pl
    exact ⟨_, .tuple e c d (by simpa using ra)⟩
theorem RDs.reads {X : Cx} {pins : List (Addr × Obj)} {σ : St} {H : Hp} {s : Shared} (I : Inv X pins σ H s) : ∀ {xs : List V} {ds : List PyData} {us : List Value}, RDs X.K H xs ds → Vals xs us → ∃ as, ReadsAll s.heap us ds as
  | _, _, _, .nil, r => by cases r; exact ⟨_, .nil⟩
  | _, _, _, .cons h1 h2, r => by
    cases r with
    | cons r1 r2 =>
      obtain ⟨as, a1⟩ := RD.reads I h1 r1
      obtain ⟨bs, a2⟩ := RDs.reads I h2 r2
      exact ⟨_, .cons a1 a2⟩
end
inductive rNeD_I (K : PySem.W.Frag) (x : V) (y : V) (H : Hp) (Q : VK) : Prop
  | mk : ∀ d e, RD K H x d → RD K H y e → SeqAt.shaped d = true → SeqAt.shaped e = true → Q (.bl (!PyData.eqv d e)) H → rNeD_I K x y H Q
def rNeD (K : PySem.W.Frag) : R2 := fun x y H Q => rNeD_I K x y H Q
theorem op_neD {X : Cx} (hu : X.A.units + 64 < cLine) : OpR X (compareOp .NotEq) (rNeD X.K) := by
  intro pins s σ H x y v u Q I rx ry h
  obtain ⟨d, e, hd, he, sd, se, q⟩ := h
  obtain ⟨as, ra⟩ := hd.reads I rx
  obtain ⟨bs, rb⟩ := he.reads I ry
  exact ne_dataH ra rb sd se hu ⟨.bl _, H, I, rfl, q⟩
theorem us_s {n : Nat} {P : List Value → Prop} (h : ∀ a us, us.length = n → P (a :: us)) : ∀ us : List Value, us.length = n + 1 → P us := fun us e => by
  cases us with
  | nil => exact absurd e (Nat.succ_ne_zero n).symm
  | cons a us => exact h a us (Nat.succ.inj e)
theorem us_0 {P : List Value → Prop} (h : P []) : ∀ us : List Value, us.length = 0 → P us := fun us e => by rw [List.eq_nil_of_length_eq_zero e]; exact h
theorem us_1 {P : List Value → Prop} (h : ∀ a, P [a]) : ∀ us : List Value, us.length = 1 → P us := us_s fun a => us_0 (P := fun us => P (a :: us)) (h a)
theorem us_2 {P : List Value → Prop} (h : ∀ a b, P [a, b]) : ∀ us : List Value, us.length = 2 → P us := us_s fun a => us_1 (P := fun us => P (a :: us)) (fun b => h a b)
theorem us_3 {P : List Value → Prop} (h : ∀ a b c, P [a, b, c]) : ∀ us : List Value, us.length = 3 → P us := us_s fun a => us_2 (P := fun us => P (a :: us)) (fun b c => h a b c)
inductive Ex2 {α0 α1 : Type} (P : α0 → α1 → Prop) : Prop
  | mk : ∀ x0 x1, P x0 x1 → Ex2 P
inductive Ex3 {α0 α1 α2 : Type} (P : α0 → α1 → α2 → Prop) : Prop
  | mk : ∀ x0 x1 x2, P x0 x1 x2 → Ex3 P
inductive Ex4 {α0 α1 α2 α3 : Type} (P : α0 → α1 → α2 → α3 → Prop) : Prop
  | mk : ∀ x0 x1 x2 x3, P x0 x1 x2 x3 → Ex4 P
inductive Ex5 {α0 α1 α2 α3 α4 : Type} (P : α0 → α1 → α2 → α3 → α4 → Prop) : Prop
  | mk : ∀ x0 x1 x2 x3 x4, P x0 x1 x2 x3 x4 → Ex5 P
inductive And7 (p0 p1 p2 p3 p4 p5 p6 : Prop) : Prop
  | mk : p0 → p1 → p2 → p3 → p4 → p5 → p6 → And7 p0 p1 p2 p3 p4 p5 p6
inductive And9 (p0 p1 p2 p3 p4 p5 p6 p7 p8 : Prop) : Prop
  | mk : p0 → p1 → p2 → p3 → p4 → p5 → p6 → p7 → p8 → And9 p0 p1 p2 p3 p4 p5 p6 p7 p8
end L2
set_option Elab.async false
set_option linter.all false
set_option maxRecDepth 100000
set_option maxHeartbeats 4000000
namespace L2
open PySem PySem.Spec PyProof.Rows
theorem atI_some {α : Type} {xs : List α} {i : Int} (h0 : 0 ≤ i) (h1 : i < (xs.length : Int)) : ∃ v, atI xs i = some v ∧ v ∈ xs ∧ xs[i.toNat]? = some v := by
  have hn : i.toNat < xs.length := by omega
  refine ⟨xs[i.toNat], ?_, List.getElem_mem hn, List.getElem?_eq_getElem hn⟩
  have e : ((i.toNat : Nat) : Int) = i := by omega
  have q := atI_nat (xs := xs) (j := i.toNat) (List.getElem?_eq_getElem hn)
  rw [e] at q
  exact q
theorem atI_mod {α : Type} {xs : List α} (i : Int) (h : 0 < xs.length) : ∃ v, atI xs (i % (xs.length : Int)) = some v ∧ v ∈ xs ∧ xs[(i % (xs.length : Int)).toNat]? = some v :=
  atI_some (Int.emod_nonneg _ (by omega)) (Int.emod_lt_of_pos _ (by omega))
theorem mem_map_int {ns : List Int} {v : V} (h : v ∈ ns.map V.int) : ∃ z, v = .int z ∧ z ∈ ns := by
  obtain ⟨z, hz, e⟩ := List.mem_map.mp h
  exact ⟨z, e.symm, hz⟩
theorem Same.upd_new {H : Hp} {p : Addr} {o : HO} (h : H p = none) : Same H (upd H p o) := fun b u e => by rw [upd_ne (ne_of_none e h)]; exact e
theorem Same.upd_of {H H' : Hp} {p : Addr} {o : HO} (s : Same H H') (h : H p = none) : Same H (upd H' p o) := fun b u e => by rw [upd_ne (ne_of_none e h)]; exact s b u e
theorem ix_listK {X : Cx} (K : PySem.W.Frag) (hK : X.K = K := by rfl) : IxR X (rIxL K) := hK ▸ ix_list
theorem ix_tupK {X : Cx} (K : PySem.W.Frag) (hK : X.K = K := by rfl) : IxR X (rIxT K) := hK ▸ ix_tup
theorem op_in_seqK {X : Cx} (K : PySem.W.Frag) (hK : X.K = K := by rfl) : OpR X (compareOp .In) (rIn K false) := hK ▸ op_in_seq
theorem op_neDK {X : Cx} (K : PySem.W.Frag) (hu : X.A.units + 64 < cLine) (hK : X.K = K := by rfl) : OpR X (compareOp .NotEq) (rNeD K) := hK ▸ op_neD hu
section
variable {X : Cx} {o e : Expr} {es : List Expr} {to : TE} {t : TA} {name : Str} {apos cpos : Pos} {T id : String} {r : V → List V → Hp → VK → Prop}
end
def plainE : Expr → Bool
  | .Starred .. => false
  | _ => true
theorem starEach_plain {e : Expr} {es : List Expr} {env : Env} (h : plainE e = true) : starEach (e :: es) env = (false, eval e env) :: starEach es env := by
  cases e <;> first | rfl | (cases h)
/-- an item of a written list, tuple or argument list (no star) -/
theorem pac {X : Cx} {e : Expr} {es : List Expr} {te : TE} {t : TA} (ha : PE X e te) (hr : PA X es t) (h : plainE e = true := by rfl) : PA X (e :: es) (tCons te t) := pa_cons ha hr (starEach_plain h)
/-- an item list, not to be looked into by the elaborator (its unfolding is paid for item by item, twice each) -/
structure PAs (X : Cx) (es : List Expr) (t : TA) : Prop where
  h : PA X es t
theorem pas_nil {X : Cx} : PAs X [] tNil := ⟨pa_nil⟩
theorem pas_cons {X : Cx} {e : Expr} {es : List Expr} {te : TE} {t : TA} (ha : PE X e te) (hr : PAs X es t) (h : plainE e = true := by rfl) : PAs X (e :: es) (tCons te t) := ⟨pac ha hr.h h⟩
theorem pe_lstS {X : Cx} {es : List Expr} {t : TA} {pos : Pos} (h : PAs X es t) : PE X (.List es pos) (tLst t) := pe_lst h.h
theorem pe_tupS {X : Cx} {es : List Expr} {t : TA} {x1 : Nat} {pos : Pos} (h : PAs X es t) : PE X (.Tuple es x1 pos) (tTup t) := pe_tup h.h
theorem cat_len (x y : Str) : (x ++ y).length = x.length + y.length := by
  show (x.cps ++ y.cps).size = _
  rw [Array.size_append]; rfl
theorem one_len (c : Nat) : (⟨#[c]⟩ : Str).length = 1 := rfl
end L2
set_option Elab.async false
set_option linter.all false
set_option maxRecDepth 100000
set_option maxHeartbeats 4000000
namespace L2
open PySem PySem.Spec PyProof.Rows
/-- only plain signs -/
def Asc (x : Str) : Prop := ∀ c ∈ x.cps.toList, c < 128
theorem Asc.ok {x : Str} (h : Asc x) : PyData.strOk x = true := by
  unfold PyData.strOk
  rw [Array.all_eq_true']
  intro c hc
  have := h c (Array.mem_toList_iff.mpr hc)
  exact decide_eq_true (by omega)
theorem vals_of_get : ∀ {xs : List V} {us : List Value}, xs.length = us.length → (∀ (j : Nat) (x : V) (u : Value), xs[j]? = some x → us[j]? = some u → RelV x u) → Vals xs us
  | [], [], _, _ => .nil
  | [], _ :: _, h, _ => by cases h
  | _ :: _, [], h, _ => by cases h
  | x :: xs, u :: us, hl, hg => .cons (hg 0 x u rfl rfl) (vals_of_get (by simpa using hl) fun j y w h1 h2 => hg (j + 1) y w (by simpa using h1) (by simpa using h2))
theorem KV.at {κ : Type} : ∀ {kvs : List (κ × V)} {vs : List (κ × Value)} {j : Nat} {p : κ × V} {q : κ × Value}, KV kvs vs → kvs[j]? = some p → vs[j]? = some q → p.1 = q.1
  | _, _, _, _, _, .nil, h, _ => by simp at h
  | _, _, 0, _, _, .cons r _, h1, h2 => by
    simp only [List.getElem?_cons_zero, Option.some.injEq] at h1 h2
    subst h1 h2
    exact r.1
  | _, _, j + 1, _, _, .cons _ t, h1, h2 => KV.at (j := j) (show KV _ _ from t) (by simpa using h1) (by simpa using h2)
/-- list(d) -/
theorem call_list_dict {X : Cx} (hc : X.calm = true) : CallR X (.type "list") (fun xs H Q => ∃ p kvs, xs = [.ref p] ∧ H p = some (.dK kvs) ∧ ∀ l, H l = none → Q (.ref l) (upd H l (.lst (kvs.map fun kv => kV kv.1)))) := by
  intro pins s σ H xs us Q I r h
  obtain ⟨p, kvs, rfl, hp, q⟩ := h
  obtain ⟨u, rfl, rx⟩ := vals1 r
  cases rx
  obtain ⟨hz, hlo, vs, rv, o, es, ep, h1, h2, h3, h4, h5, h6⟩ := dk_of I.hok hp
  have da : s.heap.DictAt (mixKind X.prog X.w) p vs ep := ⟨o, es, h1, h2, h3, h4, h5, h6⟩
  have hlen : kvs.length = vs.length := KV.length rv
  refine PySem.W.kdl_call (PySem.W.kdl_dict hlo) (I.ok.hd hc) da (by rw [← hlen]; exact hz) fun h' tk acc' c' hk hS hacc => ?_
  have hv : Vals (kvs.map fun kv => kV kv.1) acc'.toList := by
    refine vals_of_get (by rw [List.length_map, hlen]; exact hacc.1.symm.trans (by simp)) fun j x u e1 e2 => ?_
    rw [List.getElem?_map] at e1
    cases hj : kvs[j]? with
    | none => rw [hj] at e1; cases e1
    | some kv =>
      rw [hj] at e1
      cases e1
      obtain ⟨k, y, e3, e4⟩ := hacc.2 j u (by rw [← Array.getElem?_toList]; exact e2)
      have ek : kv.1 = k := KV.at rv hj e3
      show RelV (kV kv.1) u
      rw [ek]
      rcases keyIs_shape (show keyIs k u = true from e4) with ⟨i, t, rfl, rfl⟩ | ⟨z, t, rfl, rfl⟩
      · exact ⟨t, rfl⟩
      · exact ⟨t, rfl⟩
  exact ⟨.ref s.heap.objs.size, _, I.laid (t' := tk) hk (Nat.le_refl _) (show ObjOk X.prog X.w _ h' _ (.lst _) from ⟨by rw [List.length_map]; exact hz, acc'.toList, c', hv, by rw [Array.toArray_toList]; exact hS⟩), rfl, q _ (I.hok.fresh (Nat.le_refl _))⟩
/-- a comprehension over a range: P of what has come so far, whatever the heap has got beside -/
theorem comp_rangeG {lo : Int} {n : Nat} {fr : List (Nat × Str)} {te : TE} {σ : St} {H1 : Hp} {Q : VK} (Pv : Nat → List V → Prop) (hz : n ≤ sizeLine) (h0 : Pv 0 []) (hlen : ∀ i ys, Pv i ys → ys.length = i)
    (hte : ∀ (i : Nat) (ys : List V) (H3 : Hp) (Q' : VK), i < n → Pv i ys → Same H1 H3 → (∀ y H5, Pv (i + 1) (ys ++ [y]) → Same H3 H5 → Q' y H5) → te (some (.int (lo + i)) :: frV σ fr) H3 Q')
    (hQ : ∀ D ys H2, H1 D = none → Pv n ys → Same H1 H2 → H2 D = some (.lst ys) → Q (.ref D) H2) :
    compGoal (Itr lo n) fr tTrue te σ H1 Q := by
  unfold compGoal
  intro D hD
  refine ⟨fun i m ys H2 => m = n - i ∧ i ≤ n ∧ Pv i ys ∧ Same H1 H2 ∧ H2 D = some (.lst ys), ⟨n, by simp, Nat.zero_le _, h0, Same.upd_new hD, upd_same⟩, ?_⟩
  rintro i m ys H2 ⟨rfl, hi, p, s2, d2⟩
  refine ⟨d2, ?_⟩
  by_cases hlt : i < n
  · refine .inr ⟨hlt, ?_⟩
    rintro v H3 ⟨rfl, rfl⟩
    refine tTrue_go (iteT ?_)
    refine hte i ys _ _ hlt p s2 fun y H5 p' s5 => ⟨s5 _ _ d2, ?_, n - (i + 1), by omega, rfl, hlt, p', (s2.trans s5).upd_of hD, upd_same⟩
    rw [hlen i ys p]; omega
  · have e : i = n := by omega
    subst e
    exact .inl ⟨Nat.le_refl _, hQ D ys H2 hD p s2 d2⟩
/-- a comprehension over a list that stays -/
theorem comp_listG {K : PySem.W.Frag} {a : Addr} {xs : List V} {fr : List (Nat × Str)} {te : TE} {σ : St} {H1 : Hp} {Q : VK} (Pv : Nat → List V → Prop) (hz : xs.length ≤ sizeLine) (hS : SqL K H1 a xs) (h0 : Pv 0 []) (hlen : ∀ i ys, Pv i ys → ys.length = i)
    (hte : ∀ (i : Nat) (x : V) (ys : List V) (H3 : Hp) (Q' : VK), xs[i]? = some x → Pv i ys → Same H1 H3 → (∀ y H5, Pv (i + 1) (ys ++ [y]) → Same H3 H5 → Q' y H5) → te (some x :: frV σ fr) H3 Q')
    (hQ : ∀ D ys H2, H1 D = none → Pv xs.length ys → Same H1 H2 → H2 D = some (.lst ys) → Q (.ref D) H2) :
    compGoal (Itl K a) fr tTrue te σ H1 Q := by
  unfold compGoal
  intro D hD
  refine ⟨fun i m ys H2 => m = xs.length - i ∧ i ≤ xs.length ∧ Pv i ys ∧ Same H1 H2 ∧ H2 D = some (.lst ys), ⟨xs.length, by simp, Nat.zero_le _, h0, Same.upd_new hD, upd_same⟩, ?_⟩
  rintro i m ys H2 ⟨rfl, hi, p, s2, d2⟩
  refine ⟨d2, ?_⟩
  have hS2 := s2.seq hS
  by_cases hlt : i < xs.length
  · refine .inr ⟨⟨xs, xs[i], hS2, List.getElem?_eq_getElem hlt⟩, ?_⟩
    rintro v H3 ⟨rfl, hv⟩
    refine tTrue_go (iteT ?_)
    refine hte i v ys _ _ (hv xs hS2) p s2 fun y H5 p' s5 => ⟨s5 _ _ d2, ?_, xs.length - (i + 1), by omega, rfl, hlt, p', (s2.trans s5).upd_of hD, upd_same⟩
    rw [hlen i ys p]; omega
  · have e : i = xs.length := by omega
    subst e
    exact .inl ⟨⟨xs, hS2, Nat.le_refl _⟩, hQ D ys H2 hD p s2 d2⟩
end L2
set_option Elab.async false
set_option linter.all false
set_option maxRecDepth 100000
set_option maxHeartbeats 4000000
namespace L2
open PySem PySem.Spec PyProof.Rows
theorem rds_strs {K : PySem.W.Frag} {H : Hp} : ∀ xs : List Str, RDs K H (xs.map V.str) (xs.map PyData.str)
  | [] => .nil
  | x :: r => .cons (.str x) (rds_strs r)
theorem rd_strs {K : PySem.W.Frag} {H : Hp} {a : Addr} {xs : List Str} (h : SqL K H a (xs.map V.str)) : RD K H (.ref a) (.list (xs.map PyData.str)) := .lst h (rds_strs xs)
theorem inV_strs {xs : List Str} {t : Str} : inV (.str t) (xs.map V.str) = decide (t ∈ xs) := by
  unfold inV
  rw [List.any_map, Bool.eq_iff_iff, List.any_eq_true, decide_eq_true_eq]
  constructor
  · rintro ⟨x, hx, e⟩
    have : x = t := eq_of_beq (show (x == t) = true from e)
    rw [← this]; exact hx
  · intro h
    exact ⟨t, h, show (t == t) = true from beq_self_eq_true t⟩
theorem flat_strs (xs : List Str) : (xs.map V.str).all flatV = true := by
  rw [List.all_map, List.all_eq_true]; intro x _; rfl
end L2
namespace L2
open PySem PySem.Spec PyProof.Rows
abbrev aZ : Str := "abcdefghijklmnopqrstuvwxyz0123456789"
theorem aZ_len : aZ.cps.toList.length = 36 := by decide +kernel
theorem aZ_asc : Asc aZ := by
  have h : (aZ.cps.toList.all fun c => decide (c < 128)) = true := by decide +kernel
  intro c hc
  exact of_decide_eq_true (List.all_eq_true.mp h c hc)
theorem aZ_small : aZ.length ≤ sizeLine := by
  have : aZ.length = 36 := by decide +kernel
  rw [this]; decide
/-- 1 to 20 signs, each a small letter or a figure -/
structure WordS (x : Str) : Prop where
  lo : 1 ≤ x.length
  hi : x.length ≤ 20
  in_ : ∀ c ∈ x.cps.toList, c ∈ aZ.cps.toList
theorem WordS.asc {x : Str} (h : WordS x) : Asc x := fun c hc => aZ_asc c (h.in_ c hc)
theorem len_list (x : Str) : x.length = x.cps.toList.length := by simp [Str.length]
theorem cat_list (x y : Str) : (x ++ y).cps.toList = x.cps.toList ++ y.cps.toList := by show (x.cps ++ y.cps).toList = _; simp
theorem empty_len : ("" : Str).length = 0 := by decide +kernel
theorem pick_sign {z : Str} {i : Int} (h0 : 0 ≤ i) (h1 : i < (z.cps.toList.length : Int)) : ∃ c, atI z.cps.toList i = some c ∧ c ∈ z.cps.toList := by
  obtain ⟨c, a, b, _⟩ := atI_some h0 h1
  exact ⟨c, a, b⟩
end L2
set_option Elab.async false
set_option linter.all false
set_option maxRecDepth 100000
set_option maxHeartbeats 4000000
namespace L2
open PySem PySem.Spec PyProof.Rows
end L2
set_option Elab.async false
set_option linter.all false
set_option maxRecDepth 100000
set_option maxHeartbeats 4000000
namespace L2
open PySem PySem.Spec PyProof.Rows
end L2
set_option Elab.async false
set_option linter.all false
set_option maxRecDepth 100000
set_option maxHeartbeats 4000000
namespace L2
open PySem PySem.Spec PyProof.Rows
structure FunD (K : PySem.W.Frag) (x qual : Str) (st : Stmt) (f : Addr) (fd : FuncData) : Prop where
  ex : ∃ (oc : Value) (od : Option Addr) (dV kV doc pm : Value) (an : Option Addr) (cdv ct : Value) (osl : Array (Option Value)),
    fd = PySem.W.fnOf x qual (defArgs st) (defBody st) (defScope st) dV kV doc pm an cdv ct ∧ K.lookup f = some ⟨oc, od, .func fd, osl⟩ ∧ PySem.W.codeIn K cdv qual = true
  kp : PySem.W.keepIn K (.ref f) = true
theorem FunD.ok {P : Program} {w : World} {K : PySem.W.Frag} {mg : Str → Option Value} {base : Heap} {x qual : Str} {st : Stmt} {f : Addr} {fd : FuncData} {N ps : List Str} {k : Nat} {sp : Sp} (F : FunD K x qual st f fd) (S : FnScope N ps (defScope st))
    (len : ∀ vs H Q E, sp vs H Q E → vs.length = ps.length)
    (hbody : ∀ (cdv : Value) (A : Around) (outer : List Env) (s : Shared) (H : Hp) (vs : List V) (Q : VK) (E : XK), Room k (A.deeper (envOfC qual (defScope st) s.heap.objs.size f cdv)) → sp vs H Q E →
      ∃ t, PSs (cxOf CX0 P w K mg base N qual (defScope st) f cdv A outer s H E).nox (defBody st) t ∧ t { nx := fun _ H' => Q .non H', rt := Q } (start N vs) H) : FnOk P w K mg base CX0 (k + 1) f fd ps sp := by
  obtain ⟨oc, od, dV, kV, doc, pm, an, cdv, ct, osl, rfl, lk, hcd⟩ := F.ex
  refine fn_of lk hcd S len fun A outer s H vs Q E hr hsp => ?_
  obtain ⟨t, h, q⟩ := hbody cdv A outer s H vs Q E hr hsp
  exact ⟨t, h.nox, q⟩
theorem fun_mkD {K : PySem.W.Frag} {x qual : Str} {st : Stmt} {f : Addr} {oc dV : Value} {od an : Option Addr} {osl : Array (Option Value)} {kV doc pm cdv ct : Value} (l : K.lookup f = some ⟨oc, od, .func (PySem.W.fnOf x qual (defArgs st) (defBody st) (defScope st) dV kV doc pm an cdv ct), osl⟩)
    (c : PySem.W.codeIn K cdv qual = true) (k : PySem.W.keepIn K (.ref f) = true) : FunD K x qual st f (PySem.W.fnOf x qual (defArgs st) (defBody st) (defScope st) dV kV doc pm an cdv ct) := ⟨⟨oc, od, dV, kV, doc, pm, an, cdv, ct, osl, rfl, l, c⟩, k⟩
theorem ne_refl {K : PySem.W.Frag} {H : Hp} {x y : V} {d : PyData} {Q : VK} (hx : RD K H x d) (hy : RD K H y d) (h : SeqAt.shaped d = true) (q : Q (.bl false) H) : rNeD K x y H Q :=
  ⟨d, d, hx, hy, h, h, by rw [SeqAt.eqv_refl d (SeqAt.canLay_of_shaped h)]; exact q⟩
end L2
set_option Elab.async false
set_option linter.all false
set_option maxRecDepth 100000
set_option maxHeartbeats 4000000
namespace L2
open PySem PySem.Spec PyProof.Rows
open Builtin.Str in
theorem idx_nat (a b n : Nat) : strSliceIndices (some (a : Int)) (some (b : Int)) 1 n = (List.range (min b n - min a n)).map (fun k => min a n + k) := by
  have h1 : ¬ ((a : Int) < 0) := by omega
  have h2 : ¬ ((b : Int) < 0) := by omega
  have e1 : max (0 : Int) (min (a : Int) (n : Int)) = ((min a n : Nat) : Int) := by omega
  have e2 : max (0 : Int) (min (b : Int) (n : Int)) = ((min b n : Nat) : Int) := by omega
  simp only [strSliceIndices, sliceRange, h1, h2, if_false, e1, e2, show ((1 : Int) > 0) = True from by simp, if_true]
  by_cases hlt : ((min a n : Nat) : Int) < ((min b n : Nat) : Int)
  · have e3 : ((((min b n : Nat) : Int) - ((min a n : Nat) : Int) + 1 - 1) / 1).toNat = min b n - min a n := by first | omega | (simp; done) | (simp; omega)
    simp only [hlt, if_true, e3]
    refine List.map_congr_left fun k _ => ?_
    omega
  · have : min b n - min a n = 0 := by omega
    simp [hlt, this]
open Builtin.Str in
theorem idx_none_l (u : Option Int) (n : Nat) : strSliceIndices none u 1 n = strSliceIndices (some ((0 : Nat) : Int)) u 1 n := by
  have e1 : max (0 : Int) (min (((0 : Nat) : Int)) (n : Int)) = 0 := by omega
  simp only [strSliceIndices, show ¬ ((((0 : Nat) : Int)) < 0) from by omega, if_false, e1, show ((1 : Int) > 0) = True from by simp, if_true]
theorem slice_list (x : Str) (a b : Nat) : (Txt.slice x (some (a : Int)) (some (b : Int))).cps.toList = (x.cps.toList.drop a).take (b - a) := by
  have hl := len_list x
  unfold Txt.slice
  rw [idx_nat, List.length_map, List.length_range]
  have hp := StrLaws.picks x.cps.toList (min b x.length - min a x.length) (min a x.length) (by omega)
  have key : ((List.range (min b x.length - min a x.length)).map (fun k => min a x.length + k)).filterMap (x.cps[·]?) = (x.cps.toList.drop a).take (b - a) := by
    have e : (fun i : Nat => x.cps[i]?) = (fun i : Nat => x.cps.toList[i]?) := by funext i; simp
    rw [e, hp]
    by_cases h : a ≤ x.length
    · rw [Nat.min_eq_left (show a ≤ x.length from h)]
      by_cases h2 : b ≤ x.length
      · rw [Nat.min_eq_left (show b ≤ x.length from h2)]
      · rw [Nat.min_eq_right (show x.length ≤ b by omega), List.take_of_length_le (by rw [List.length_drop]; omega), List.take_of_length_le (by rw [List.length_drop]; omega)]
    · rw [Nat.min_eq_right (show x.length ≤ a by omega), List.drop_of_length_le (by omega), List.drop_of_length_le (by omega), List.take_nil, List.take_nil]
  split
  · rename_i h
    have h' : min b x.length - min a x.length = x.length := by
      have := (Bool.and_eq_true_iff.mp h).2
      exact beq_iff_eq.mp this
    rw [← key, h']
    have e0 : x.length = 0 ∨ min a x.length = 0 := by omega
    rcases e0 with e0 | e0
    · have : x.cps.toList = [] := List.eq_nil_of_length_eq_zero (by omega)
      rw [this, e0]; rfl
    · have e : (fun i : Nat => x.cps[i]?) = (fun i : Nat => x.cps.toList[i]?) := by funext i; simp
      rw [e]
      have hp2 := StrLaws.picks x.cps.toList x.length 0 (by omega)
      rw [e0, hp2, List.drop_zero, List.take_of_length_le (by omega)]
  · rw [key]
theorem slice_to (x : Str) (b : Nat) : (Txt.slice x none (some (b : Int))).cps.toList = x.cps.toList.take b := by
  have e : Txt.slice x none (some (b : Int)) = Txt.slice x (some ((0 : Nat) : Int)) (some (b : Int)) := by unfold Txt.slice; rw [idx_none_l]
  rw [e, slice_list, List.drop_zero, Nat.sub_zero]
theorem str_ext {x y : Str} (h : x.cps.toList = y.cps.toList) : x = y := by
  cases x; cases y
  have := Array.toList_inj.mp h
  simp only at this
  rw [this]
theorem cut_to_le (x : Str) (b : Nat) : (Txt.slice x none (some (b : Int))).length ≤ b := by
  rw [len_list, slice_to, List.length_take]; omega
/-- a row of drawn numbers: what stands at a place -/
theorem row_pick {rs : List Int} {m : Int} (hb : ∀ r ∈ rs, 0 ≤ r ∧ r < m) (i : Int) (h0 : 0 ≤ i) (h1 : i < (rs.length : Int)) : ∃ z, atI (rs.map V.int) i = some (V.int z) ∧ 0 ≤ z ∧ z < m := by
  obtain ⟨v, hv, hvm, _⟩ := atI_some (xs := rs.map V.int) h0 (by rw [List.length_map]; exact h1)
  obtain ⟨z, hz, rfl⟩ := List.mem_map.mp hvm
  exact ⟨z, hv, hb z hz⟩
end L2
set_option Elab.async false
set_option linter.all false
set_option maxRecDepth 100000
set_option maxHeartbeats 4000000
namespace L2
open PySem PySem.Spec PyProof.Rows
end L2
set_option Elab.async false
set_option linter.all false
set_option maxRecDepth 100000
set_option maxHeartbeats 4000000
namespace L2
open PySem PySem.Spec PyProof.Rows
end L2
set_option Elab.async false
set_option linter.all false
set_option maxRecDepth 100000
set_option maxHeartbeats 4000000
namespace L2
open PySem PySem.Spec PyProof.Rows
end L2
set_option Elab.async false
set_option linter.all false
set_option maxRecDepth 100000
set_option maxHeartbeats 4000000
namespace L2
open PySem PySem.Spec PyProof.Rows
def leS (a b : Str) : Bool := !ltCps b.cps.toList a.cps.toList
def insS (x : Str) : List Str → List Str
  | [] => [x]
  | y :: r => if leS x y = true then x :: y :: r else y :: insS x r
def sortS : List Str → List Str
  | [] => []
  | x :: r => insS x (sortS r)
theorem leS_iff (a b : Str) : leS a b = true ↔ ¬ b.cps.toList < a.cps.toList := by
  unfold leS
  rw [ltCps_eq]
  simp
theorem leS_total (a b : Str) : leS a b = true ∨ leS b a = true := by
  rw [leS_iff, leS_iff]
  by_cases h : b.cps.toList < a.cps.toList
  · exact .inr (List.lt_asymm h)
  · exact .inl h
theorem leS_trans {a b c : Str} (h1 : leS a b = true) (h2 : leS b c = true) : leS a c = true := by
  rw [leS_iff] at *
  intro h
  rcases strKind.negTrans c.cps.toList b.cps.toList a.cps.toList (by simpa using h) with z | z
  · exact h2 (by simpa using z)
  · exact h1 (by simpa using z)
theorem leS_antisymm {a b : Str} (h1 : leS a b = true) (h2 : leS b a = true) : a = b := by
  rw [leS_iff] at *
  exact str_ext (List.le_antisymm (List.not_lt.mp h1) (List.not_lt.mp h2))
abbrev Sor (l : List Str) : Prop := l.Pairwise fun a b => leS a b = true
theorem rising_sor : ∀ (p : Str) (l : List Str), risingS p l = true → Sor (p :: l)
  | p, [], _ => List.pairwise_singleton _ _
  | p, x :: r, h => by
    have h : (leS p x && risingS x r) = true := h
    rw [Bool.and_eq_true] at h
    have ih := rising_sor x r h.2
    refine List.pairwise_cons.mpr ⟨fun y hy => ?_, ih⟩
    rcases List.mem_cons.mp hy with rfl | hy
    · exact h.1
    · exact leS_trans h.1 ((List.pairwise_cons.mp ih).1 y hy)
theorem sor_of : ∀ {l : List Str}, sortedS l = true → Sor l
  | [], _ => List.Pairwise.nil
  | x :: r, h => rising_sor x r h
theorem ins_perm (x : Str) : ∀ l : List Str, (insS x l).Perm (x :: l)
  | [] => .refl _
  | y :: r => by
    unfold insS
    split
    · exact .refl _
    · exact ((ins_perm x r).cons y).trans (.swap x y r)
theorem sortS_perm : ∀ l : List Str, (sortS l).Perm l
  | [] => .refl _
  | x :: r => (ins_perm x (sortS r)).trans ((sortS_perm r).cons x)
theorem ins_sor (x : Str) : ∀ {l : List Str}, Sor l → Sor (insS x l)
  | [], _ => List.pairwise_singleton _ _
  | y :: r, h => by
    unfold insS
    obtain ⟨h1, h2⟩ := List.pairwise_cons.mp h
    split
    · rename_i hx
      refine List.pairwise_cons.mpr ⟨fun z hz => ?_, h⟩
      rcases List.mem_cons.mp hz with rfl | hz
      · exact hx
      · exact leS_trans hx (h1 z hz)
    · rename_i hx
      refine List.pairwise_cons.mpr ⟨fun z hz => ?_, ins_sor x h2⟩
      rcases List.mem_cons.mp ((ins_perm x r).mem_iff.mp hz) with rfl | hz
      · exact (leS_total y z).resolve_right hx
      · exact h1 z hz
theorem sortS_sor : ∀ l : List Str, Sor (sortS l)
  | [] => .nil
  | x :: r => ins_sor x (sortS_sor r)
theorem sor_unique : ∀ {a b : List Str}, a.Perm b → Sor a → Sor b → a = b
  | [], b, p, _, _ => (List.nil_perm.mp p).symm
  | x :: r, [], p, _, _ => absurd p.symm.nil_eq (by simp)
  | x :: r, y :: t, p, ha, hb => by
    have e : x = y := by
      have h1 : x ∈ y :: t := p.mem_iff.mp List.mem_cons_self
      have h2 : y ∈ x :: r := p.mem_iff.mpr List.mem_cons_self
      rcases List.mem_cons.mp h1 with e | h1
      · exact e
      · rcases List.mem_cons.mp h2 with e | h2
        · exact e.symm
        · exact leS_antisymm ((List.pairwise_cons.mp ha).1 y h2) ((List.pairwise_cons.mp hb).1 x h1)
    subst e
    rw [sor_unique (List.perm_cons _ |>.mp p) (List.pairwise_cons.mp ha).2 (List.pairwise_cons.mp hb).2]
theorem sortS_eq {a b : List Str} (p : a.Perm b) (h : Sor a) : a = sortS b := sor_unique (p.trans (sortS_perm b).symm) h (sortS_sor b)
theorem sortS_congr {a b : List Str} (p : a.Perm b) : sortS a = sortS b := sortS_eq ((sortS_perm a).trans p) (sortS_sor a)
theorem sortS_len (l : List Str) : (sortS l).length = l.length := (sortS_perm l).length_eq
theorem sortS_mem {l : List Str} {x : Str} : x ∈ sortS l ↔ x ∈ l := (sortS_perm l).mem_iff
theorem vals_strsAre : ∀ {us : List Value} {ss : List Str}, StrsAre us ss → Vals (ss.map V.str) us
  | _, _, .nil => .nil
  | _, _, .cons x t h => .cons ⟨t, rfl⟩ (vals_strsAre h)
/-- what an iterable yields, collected: the heap has grown -/
theorem collect_src {prog : Program} {w : World} {A : Around} {E : Value → Shared → Prop} {s : Shared} {T : String} {r d : Addr} {n : Nat} {P : Nat → Value → Prop} {OK : Heap → Prop} {R : List Value → Shared → Prop}
    (src : PySem.W.KdlSrc prog w T r d n P OK) (calm : A.handled = none) (ok : OK s.heap) (few : n ≤ sizeLine)
    (fin : ∀ (g : Heap) (k : Nat) (got : Array Value), (∀ b o, s.heap.get? b = some o → g.get? b = some o) → s.heap.objs.size < g.objs.size → ItemsOf P got n → R got.toList { s with heap := g, toks := k }) :
    wpAny (model prog w) A (collect (.ref r)) R E s := by
  obtain ⟨lr, ld⟩ := src.there _ ok
  let new : Obj := { cls := .type "list", data := .seq ([] : List Value).toArray }
  have there : (s.heap.push new).get? s.heap.objs.size = some new := Heap.get?_push_size _ rfl
  have still := src.keep _ _ ok (fun b _ o e => Heap.get?_push_of_some (h := s.heap) new e)
  have walked := PySem.W.kdl_extend (A := A) (s := { s with heap := s.heap.push new })
    (R := fun q t => ∃ (g : Heap) (k : Nat) (got : Array Value) (c : Nat), q = Except.ok (Flow.ret (.ref s.heap.objs.size)) ∧ t = { s with heap := g, toks := k } ∧ (∀ b o, s.heap.get? b = some o → g.get? b = some o) ∧
      g.get? s.heap.objs.size = some { cls := .type "list", dict := none, data := .seq got c, slots := #[] } ∧ ItemsOf P got n)
    src calm still s.heap.objs.size (Nat.ne_of_gt lr) (Nat.ne_of_gt ld) (.ref s.heap.objs.size) 0 there
    (fun g k got c keep at' all => ⟨g, k, got, c, rfl, rfl, fun b o e => keep b o (Nat.ne_of_lt (Heap.lt_size e)) (Heap.get?_push_of_some _ e), at', all⟩) few
  have done : ∀ (g : Heap) (k : Nat) (got : Array Value) (c : Nat), (∀ b o, s.heap.get? b = some o → g.get? b = some o) → g.get? s.heap.objs.size = some { cls := .type "list", dict := none, data := .seq got c, slots := #[] } → ItemsOf P got n →
      wpAny (model prog w) A (do match (← load s.heap.objs.size).data with
        | .seq xs _ => pure xs.toList
        | _ => unsupported "internal:collect") R E { s with heap := g, toks := k } := fun g k got c keep at' all =>
    wpAny_bind (wpAny_load at' (wpAny_pure (fin g k got keep (Heap.lt_size at') all)))
  unfold collect
  apply wpAny_bind
  apply wpAny_runValue
  apply codeAny_builtin entry_proto_collect'
  rw [Around.under_plainId F.plain_proto_collect _]
  show wpAny _ A.in1 (newList [] >>= fun z => again (.builtin "list.__iadd__" ⟨[z, .ref r], []⟩)) _ _ s
  apply wpAny_bind
  refine wpAny_newObj_type ?_
  apply wpAny_pure
  refine ⟨plainId_quiet F.plain_list_iadd _, ?_⟩
  apply codeAny_builtin entry_list_iadd'
  rw [Around.under_plainId F.plain_list_iadd _]
  refine wpAny_mono walked (fun f t q => ?_) (fun e t q => ?_)
  · cases f with
    | done f =>
      obtain ⟨g, k, got, c, e, rfl, keep, at', all⟩ := q
      cases e
      exact done g k got c keep at' all
    | again c1 =>
      refine ⟨q.1, codeAny_mono q.2 fun z t2 y => ?_⟩
      obtain ⟨g, k, got, c, rfl, rfl, keep, at', all⟩ := y
      exact done g k got c keep at' all
  · obtain ⟨_, _, _, _, e', _⟩ := q
    cases e'
end L2
set_option Elab.async false
set_option linter.all false
set_option maxRecDepth 100000
set_option maxHeartbeats 4000000
namespace L2
open PySem PySem.Spec PyProof.Rows
theorem comp_listFM {K : PySem.W.Frag} {a : Addr} {α : Type} {xs : List α} {fr : List (Nat × Str)} {tt : TT} {te : TE} {σ : St} {H1 : Hp} {Q : VK} (g : α → V) (pr : α → Bool) (f : α → V) (hz : xs.length ≤ sizeLine) (hS : SqL K H1 a (xs.map g))
    (htt : ∀ (x : α) (H3 : Hp) (Q' : Bool → Hp → Prop), x ∈ xs → Same H1 H3 → Q' (pr x) H3 → tt (some (g x) :: frV σ fr) H3 Q')
    (hte : ∀ (x : α) (H3 : Hp) (Q' : VK), x ∈ xs → Same H1 H3 → pr x = true → Q' (f x) H3 → te (some (g x) :: frV σ fr) H3 Q')
    (hQ : ∀ D, H1 D = none → Q (.ref D) (upd H1 D (.lst ((xs.filter pr).map f)))) :
    compGoal (Itl K a) fr tt te σ H1 Q := by
  unfold compGoal
  intro D hD
  refine ⟨fun i m ys H2 => m = xs.length - i ∧ i ≤ xs.length ∧ ys = ((xs.take i).filter pr).map f ∧ H2 = upd H1 D (.lst ys), ⟨xs.length, by simp, Nat.zero_le _, by simp, rfl⟩, ?_⟩
  rintro i m ys H2 ⟨rfl, hi, rfl, rfl⟩
  refine ⟨upd_same, ?_⟩
  have s1 : Same H1 (upd H1 D (.lst (((xs.take i).filter pr).map f))) := Same.upd_new hD
  have hS2 := s1.seq hS
  by_cases hlt : i < xs.length
  · have hx0 : (xs.map g)[i]? = some (g xs[i]) := by rw [List.getElem?_map, List.getElem?_eq_getElem hlt]; rfl
    refine .inr ⟨⟨xs.map g, g xs[i], hS2, hx0⟩, ?_⟩
    rintro v H3 ⟨rfl, hv⟩
    have hx : (xs.map g)[i]? = some v := hv _ hS2
    rw [hx0] at hx
    cases hx
    have hm : xs[i] ∈ xs := List.getElem_mem hlt
    have et : xs.take (i + 1) = xs.take i ++ [xs[i]] := by rw [List.take_add_one, List.getElem?_eq_getElem hlt]; rfl
    refine htt xs[i] _ _ hm s1 ?_
    cases hp : pr xs[i]
    · refine iteF ⟨xs.length - (i + 1), by omega, rfl, hlt, ?_, rfl⟩
      rw [et, List.filter_append, List.filter_cons, hp]
      simp
    · refine iteT (hte xs[i] _ _ hm s1 hp ⟨upd_same, ?_, xs.length - (i + 1), by omega, rfl, hlt, ?_, upd_upd⟩)
      · have := List.length_filter_le pr (xs.take i)
        rw [List.length_take] at this
        rw [List.length_map]
        omega
      · rw [et, List.filter_append, List.filter_cons, hp]
        simp
  · have e : i = xs.length := by omega
    subst e
    have e2 : xs.take xs.length = xs := List.take_of_length_le (Nat.le_refl _)
    refine .inl ⟨⟨xs.map g, hS2, by rw [List.length_map]; exact Nat.le_refl _⟩, ?_⟩
    rw [e2]
    exact hQ D hD
theorem call_isinsts {X : Cx} : CallR X (.builtin "isinstance") (fun xs H Q => ∃ (x : V) (t : Value) (p : Addr) (cs : List String) (b : Bool), xs = [x, .ref p] ∧ H p = some (.tup (cs.map V.ty)) ∧
    ((t = .type "str" ∧ ∃ y, x = .str y) ∨ (t = .type "list" ∧ ∃ a ys, x = .ref a ∧ H a = some (.lst ys))) ∧ PySem.W.kitAny X.K t (cs.map Value.type) = some b ∧ Q (.bl b) H) := by
  intro pins s σ H xs us Q I r h
  obtain ⟨x, t, p, cs, b, rfl, hp, ty, e, q⟩ := h
  obtain ⟨u, u', rfl, rx, rc⟩ := vals2 r
  cases (show u' = Value.ref p from rc)
  obtain ⟨its, rv, pl, _⟩ := I.tuple (SqT.of hp)
  have hits : its = cs.map Value.type := by
    have h2 : ∀ {l : List String} {ws : List Value}, Vals (l.map V.ty) ws → ws = l.map Value.type := by
      intro l
      induction l with
      | nil => intro ws h; cases h; rfl
      | cons a l ih =>
        intro ws h
        cases h with
        | cons r1 r2 => rw [ih r2]; cases r1; rfl
    exact h2 rv
  subst hits
  obtain ⟨o, ho, hc, n, hd⟩ := pl
  obtain ⟨oc, od, odt, osl⟩ := o
  cases hc
  cases hd
  have fin : ∀ tk, EP X pins σ Q (.bool b) { s with toks := tk } := fun tk => ⟨.bl b, H, I.tok tk, rfl, q⟩
  rcases ty with ⟨rfl, y, rfl⟩ | ⟨rfl, a, ys, rfl, ea⟩
  · obtain ⟨t, rfl⟩ := (show ∃ t, u = Value.str y t from rx)
    exact PySem.W.kia_tup PySem.W.kitx_str I.kIn True.intro ho e (fun z => nomatch z) fin
  · cases (show u = Value.ref a from rx)
    obtain ⟨its', rv', pl', _⟩ := I.list (SqL.of (K := X.K) ea)
    obtain ⟨o', ho', hc', _⟩ := pl'.isList
    exact PySem.W.kia_tup PySem.W.kitx_list I.kIn ⟨o', ho', hc'⟩ ho e (fun z => nomatch z) fin
theorem kitS2 {K : PySem.W.Frag} : PySem.W.kitAny K (.type "str") [.type "str", .type "list"] = some true := by
  unfold PySem.W.kitAny PySem.W.kitOne
  rw [if_pos (beq_self_eq_true _)]
theorem remove_run {prog : Program} {w : World} {A : Around} {R : Result → Shared → Prop} {s : Shared} {l : Addr} {its : Array Value} {n : Nat} {y : Value} {j : Nat} (at' : s.heap.get? l = some { cls := .type "list", dict := none, data := .seq its n, slots := #[] })
    (hj : j < its.size) (hz : its.size ≤ sizeLine) (eqs : ∀ (m : Nat) (hm : m < its.size), m ≤ j → ∀ (B : Around) (E : Value → Shared → Prop) (Q : Bool → Shared → Prop), B.units = A.units + 1 → Q (decide (m = j)) s → wpAny (model prog w) B (eqBool its[m] y) Q E s)
    (fin : R (.ok (.ret .none)) { s with heap := s.heap.update l (Obj.mapSeq fun xs => xs.eraseIdxIfInBounds j) }) :
    ∀ (k i : Nat), i + k = j → codeAny (model prog w) A (.builtin "list.remove.loop" ⟨[.ref l, y, rawInt i], []⟩) R s := by
  intro k
  induction k with
  | zero =>
    intro i e
    obtain rfl : i = j := by omega
    refine codeAny_builtin MeetsSeq.entry_remove_loop ?_
    rw [Around.under_plainId MeetsSeq.plain_remove_loop _]
    obtain ⟨hp, g, d, tk, os⟩ := s
    wp_walk using wpAny_loadPart' at'
    rw [show its[((i : Nat) : Int).toNat]? = some its[i] by simp [hj]]
    refine wpAny_bind (eqs i hj (Nat.le_refl _) _ _ _ rfl ?_)
    rw [decide_eq_true rfl]
    have hz' : (its.eraseIdxIfInBounds i).size ≤ sizeLine + 1 := Nat.le_trans (MeetsSeq.size_erased its _) (Nat.le_succ_of_le hz)
    wp_walk using (wpAny_updateSeq at' rfl (hz := hz) (_hz' := hz')), wpAny_loadPart' at'
    simpa using fin
  | succ k ih =>
    intro i e
    have hlt : i < its.size := by omega
    have next := ih (i + 1) (by omega)
    refine codeAny_builtin MeetsSeq.entry_remove_loop ?_
    rw [Around.under_plainId MeetsSeq.plain_remove_loop _]
    obtain ⟨hp, g, d, tk, os⟩ := s
    wp_walk using wpAny_loadPart' at'
    rw [show its[((i : Nat) : Int).toNat]? = some its[i] by simp [hlt]]
    refine wpAny_bind (eqs i hlt (by omega) _ _ _ rfl ?_)
    rw [decide_eq_false (by omega)]
    wp_walk
    rw [show ((i : Int) + 1) = ((i + 1 : Nat) : Int) by push_cast; rfl]
    exact ⟨plainId_quiet MeetsSeq.plain_remove_loop _, next⟩
inductive rRemove_I (K : PySem.W.Frag) (x : V) (vs : List V) (H : Hp) (Q : VK) : Prop
  | mk : ∀ (l : Addr) (xs : List V) (ds : List PyData) (y : V) (d : PyData) (j : Nat), x = .ref l → vs = [y] → H l = some (.lst xs) → RDs K H xs ds → RD K H y d → (∀ e ∈ ds, SeqAt.shaped e = true) → SeqAt.shaped d = true → j < ds.length → ((∀ (m : Nat) (e : PyData), m ≤ j → ds[m]? = some e → PyData.eqv e d = decide (m = j))) → Q .non (upd H l (.lst (xs.eraseIdx j))) → rRemove_I K x vs H Q
def rRemove (K : PySem.W.Frag) : V → List V → Hp → VK → Prop := fun x vs H Q => rRemove_I K x vs H Q
theorem RDs.len {K : PySem.W.Frag} {H : Hp} : ∀ {xs : List V} {ds : List PyData}, RDs K H xs ds → xs.length = ds.length
  | _, _, .nil => rfl
  | _, _, .cons _ r => by rw [List.length_cons, List.length_cons, RDs.len r]
theorem RDs.at {K : PySem.W.Frag} {H : Hp} : ∀ {xs : List V} {ds : List PyData} {m : Nat} {x : V}, RDs K H xs ds → xs[m]? = some x → ∃ d, ds[m]? = some d ∧ RD K H x d
  | _, _, _, _, .nil, e => by simp at e
  | _, _, 0, _, .cons h _, e => by simp at e; subst e; exact ⟨_, rfl, h⟩
  | _, _, m + 1, x, .cons _ r, e => by
    obtain ⟨d, e1, e2⟩ := RDs.at (m := m) (x := x) r (by simpa using e)
    exact ⟨d, by simpa using e1, e2⟩
theorem Vals.erase : ∀ {xs : List V} {us : List Value} (j : Nat), Vals xs us → Vals (xs.eraseIdx j) (us.eraseIdx j)
  | _, _, _, .nil => .nil
  | _, _, 0, .cons _ r => r
  | _, _, j + 1, .cons h r => .cons h (Vals.erase j r)
theorem remove_meets {s : Shared} {l : Addr} {its : Array Value} {n c : Nat} {u : Value} {j : Nat} (at' : s.heap.get? l = some { cls := .type "list", dict := none, data := .seq its n, slots := #[] }) (hj : j < its.size) (hz : its.size ≤ sizeLine)
    (eqs : ∀ (prog : Program) (w : World) (m : Nat) (hm : m < its.size), m ≤ j → ∀ (B : Around) (E : Value → Shared → Prop) (Q : Bool → Shared → Prop), B.units = c + 1 → Q (decide (m = j)) s → wpAny (model prog w) B (eqBool its[m] u) Q E s) :
    Meets (Builtin.«list.remove» ⟨[.ref l, u], []⟩) (fun B R t => t = s ∧ B.units = c ∧ R (.ok (.ret .none)) { s with heap := s.heap.update l (Obj.mapSeq fun ws => ws.eraseIdxIfInBounds j) }) := by
  rintro prog w B R t ⟨rfl, hB, fin⟩
  have go := remove_run (A := B) (R := R) at' hj hz (fun m hm hle B' E Q hB' => eqs prog w m hm hle B' E Q (by omega)) fin j 0 (by omega)
  obtain ⟨hp, g, d, tk, os⟩ := t
  wp_walk using wpAny_loadPart' at'
  exact ⟨plainId_quiet MeetsSeq.plain_remove_loop _, go⟩
theorem mt_remove {X : Cx} (hu : X.A.units + 70 < cLine) : MtM X "list.remove" (rRemove X.K) := by
  intro pins s σ H x vs v us Q I rx rv h
  obtain ⟨l, xs, ds, y, d, j, rfl, rfl, hH, hds, hd, sds, sd, hj, hm, q⟩ := h
  cases rx
  obtain ⟨u, rfl, ru⟩ := vals1 rv
  obtain ⟨z, its, n, r, hl, e⟩ := I.lstM hH
  have hlen := hds.len
  have hz' : its.toArray.size ≤ sizeLine := by rw [List.size_toArray]; omega
  have hj' : j < its.toArray.size := by rw [List.size_toArray]; omega
  refine call_meets F.slot_list_remove ⟨_, e, rfl⟩ F.entry_list_remove (F.args_list_remove_2 _ _) (remove_meets (s := s) (c := X.A.units) (j := j) e hj' hz' ?_) ⟨rfl, rfl, ?_⟩
  · intro prog w m hmm hle B E' Q' hB q'
    rw [List.size_toArray] at hmm
    obtain ⟨xm, exm⟩ : ∃ xm, xs[m]? = some xm := ⟨_, List.getElem?_eq_getElem (by omega)⟩
    obtain ⟨dm, edm, rdm⟩ := hds.at exm
    obtain ⟨um, eum, rum⟩ := r.get exm
    have eu : its.toArray[m]'(by rw [List.size_toArray]; exact hmm) = um := by
      rw [List.getElem?_eq_getElem hmm] at eum
      simpa using Option.some.inj eum
    rw [eu]
    obtain ⟨as, ra⟩ := rdm.reads I rum
    obtain ⟨bs, rb⟩ := hd.reads I ru
    have s1 := sds dm (List.mem_of_getElem? edm)
    refine SeqAt.eqBoolOverData prog w B E' s um u dm d as bs Q' ra rb (SeqAt.canLay_of_shaped s1) (SeqAt.canLay_of_shaped sd) ?_ ?_
    · have h1 := SeqAt.depth_of_shaped s1
      have h2 : min dm.depth d.depth ≤ dm.depth := Nat.min_le_left _ _
      omega
    · rw [hm m dm hle edm]
      exact q'
  · refine ⟨.non, _, I.lset (its' := its.eraseIdx j) (ys := xs.eraseIdx j) hH e ?_ (Vals.erase j r) ?_, rfl, q⟩
    · simp
    · have := List.length_eraseIdx_le xs j
      omega
end L2
set_option Elab.async false
set_option linter.all false
set_option maxRecDepth 100000
set_option maxHeartbeats 4000000
namespace L2
open PySem PySem.Spec PyProof.Rows
end L2
set_option Elab.async false
set_option linter.all false
set_option maxRecDepth 100000
set_option maxHeartbeats 4000000
namespace L2
open PySem PySem.Spec PyProof.Rows
abbrev Rows := List (Str × Str)
def up (rows : Rows) (n : Str) : Option Str := (rows.find? fun r => decide (r.1 = n)).map (·.2)
def reps (rows : Rows) (t : Str) : List Str := (rows.filter fun r => decide (r.2 = t)).map (·.1)
def rowsK (rows : Rows) : List (Key × V) := rows.map fun r => (Sum.inr r.1, V.str r.2)
def keysT (ns : List Str) : List (Key × V) := ns.map fun n => (Sum.inr n, V.bl true)
def without (rows : Rows) (n : Str) : Rows := rows.filter fun r => decide (r.1 ≠ n)
theorem val_rows (n : Str) : ∀ rows : Rows, valV (rowsK rows) (Sum.inr n) = (up rows n).map V.str
  | [] => rfl
  | r :: rows => by
    show valV ((Sum.inr r.1, V.str r.2) :: rowsK rows) (Sum.inr n) = _
    by_cases h : r.1 = n
    · rw [valV_pos (by rw [h])]
      simp [up, List.find?_cons, h]
    · rw [valV_neg (fun e => h (Sum.inr.inj e)), val_rows n rows]
      simp [up, List.find?_cons, h]
theorem up_mem {rows : Rows} {n a : Str} (h : up rows n = some a) : (n, a) ∈ rows := by
  unfold up at h
  cases e : rows.find? fun r => decide (r.1 = n) with
  | none => rw [e] at h; cases h
  | some r =>
    rw [e] at h
    have h1 := List.find?_some e
    have h2 := List.mem_of_find?_eq_some e
    have e1 : r.1 = n := of_decide_eq_true h1
    have e2 : r.2 = a := Option.some.inj h
    rw [← e1, ← e2]; exact h2
theorem up_none {rows : Rows} {n : Str} : up rows n = none ↔ ¬ n ∈ rows.map (·.1) := by
  unfold up
  rw [Option.map_eq_none_iff, List.find?_eq_none]
  constructor
  · intro h z
    obtain ⟨r, hr, e⟩ := List.mem_map.mp z
    exact h r hr (decide_eq_true e)
  · intro h r hr z
    exact h (List.mem_map.mpr ⟨r, hr, of_decide_eq_true z⟩)
theorem up_some {rows : Rows} {n : Str} (h : n ∈ rows.map (·.1)) : ∃ a, up rows n = some a := by
  cases e : up rows n with
  | none => exact absurd h (up_none.mp e)
  | some a => exact ⟨a, rfl⟩
theorem drop_rows (n : Str) : ∀ rows : Rows, dropK (rowsK rows) (Sum.inr n) = rowsK (without rows n)
  | [] => rfl
  | r :: rows => by
    show dropK ((Sum.inr r.1, V.str r.2) :: rowsK rows) (Sum.inr n) = _
    by_cases h : r.1 = n
    · rw [dropK_pos (by rw [h]), drop_rows n rows]
      simp [without, List.filter_cons, h]
    · rw [dropK_neg (fun e => h (Sum.inr.inj e)), drop_rows n rows]
      simp [without, List.filter_cons, h, rowsK]
theorem drop_keys (n : Str) : ∀ ns : List Str, dropK (keysT ns) (Sum.inr n) = keysT (ns.filter fun m => decide (m ≠ n))
  | [] => rfl
  | m :: ns => by
    show dropK ((Sum.inr m, V.bl true) :: keysT ns) (Sum.inr n) = _
    by_cases h : m = n
    · rw [dropK_pos (by rw [h]), drop_keys n ns]
      simp [List.filter_cons, h]
    · rw [dropK_neg (fun e => h (Sum.inr.inj e)), drop_keys n ns]
      simp [List.filter_cons, h, keysT]
theorem val_keys (n : Str) : ∀ ns : List Str, valV (keysT ns) (Sum.inr n) = if n ∈ ns then some (V.bl true) else none
  | [] => rfl
  | m :: ns => by
    show valV ((Sum.inr m, V.bl true) :: keysT ns) (Sum.inr n) = _
    by_cases h : m = n
    · rw [valV_pos (by rw [h]), if_pos (by rw [h]; exact List.mem_cons_self)]
    · rw [valV_neg (fun e => h (Sum.inr.inj e)), val_keys n ns]
      by_cases h2 : n ∈ ns
      · rw [if_pos h2, if_pos (List.mem_cons_of_mem _ h2)]
      · rw [if_neg h2, if_neg (fun z => (List.mem_cons.mp z).elim (fun e => h e.symm) h2)]
theorem put_rows {rows : Rows} {n a : Str} (h : up rows n = none) : putK (rowsK rows) (Sum.inr n) (.str a) = rowsK (rows ++ [(n, a)]) := by
  rw [putK_new _ (by rw [val_rows, h]; rfl)]
  simp [rowsK]
theorem put_keys {ns : List Str} {n : Str} (h : ¬ n ∈ ns) : putK (keysT ns) (Sum.inr n) (.bl true) = keysT (ns ++ [n]) := by
  rw [putK_new _ (by rw [val_keys, if_neg h])]
  simp [keysT]
theorem reps_snoc (rows : Rows) (n a t : Str) : reps (rows ++ [(n, a)]) t = reps rows t ++ if a = t then [n] else [] := by
  unfold reps
  rw [List.filter_append, List.map_append]
  by_cases h : a = t <;> simp [List.filter_cons, h]
theorem reps_sub {rows : Rows} {t n : Str} (h : n ∈ reps rows t) : n ∈ rows.map (·.1) := by
  obtain ⟨r, hr, e⟩ := List.mem_map.mp h
  exact List.mem_map.mpr ⟨r, (List.mem_filter.mp hr).1, e⟩
theorem reps_without (rows : Rows) (n t : Str) : reps (without rows n) t = (reps rows t).filter fun m => decide (m ≠ n) := by
  unfold reps without
  rw [List.filter_map, List.filter_filter, List.filter_filter]
  congr 1
  refine List.filter_congr fun r _ => ?_
  show (decide (r.2 = t) && decide (r.1 ≠ n)) = (decide (r.1 ≠ n) && decide (r.2 = t))
  rw [Bool.and_comm]
theorem reps_len (rows : Rows) (t : Str) : (reps rows t).length ≤ rows.length := by
  unfold reps
  rw [List.length_map]
  exact List.length_filter_le _ _
theorem one_answer {rows : Rows} {n a b : Str} (nd : (rows.map (·.1)).Nodup) (h1 : (n, a) ∈ rows) (h2 : (n, b) ∈ rows) : a = b := by
  induction rows with
  | nil => cases h1
  | cons r rows ih =>
    rw [List.map_cons, List.nodup_cons] at nd
    rcases List.mem_cons.mp h1 with e1 | h1
    · rcases List.mem_cons.mp h2 with e2 | h2
      · rw [← e2] at e1; exact (Prod.mk.inj e1).2
      · exact absurd (List.mem_map.mpr ⟨_, h2, by rw [← e1]⟩) nd.1
    · rcases List.mem_cons.mp h2 with e2 | h2
      · exact absurd (List.mem_map.mpr ⟨_, h1, by rw [← e2]⟩) nd.1
      · exact ih nd.2 h1 h2
theorem not_reps {rows : Rows} {n a t : Str} (nd : (rows.map (·.1)).Nodup) (h : up rows n = some a) (ht : t ≠ a) : ¬ n ∈ reps rows t := fun z => by
  obtain ⟨r, hr, e⟩ := List.mem_map.mp z
  obtain ⟨h1, h2⟩ := List.mem_filter.mp hr
  have e2 : r.2 = t := of_decide_eq_true h2
  have : (n, t) ∈ rows := by rw [← e, ← e2]; exact h1
  exact ht (one_answer nd this (up_mem h))
theorem filter_not {l : List Str} {n : Str} (h : ¬ n ∈ l) : (l.filter fun m => decide (m ≠ n)) = l := List.filter_eq_self.mpr fun m hm => decide_eq_true fun e => h (e ▸ hm)
theorem in_reps {rows : Rows} {n a : Str} (h : up rows n = some a) : n ∈ reps rows a := List.mem_map.mpr ⟨(n, a), List.mem_filter.mpr ⟨up_mem h, decide_eq_true rfl⟩, rfl⟩
theorem without_nd {rows : Rows} {n : Str} (nd : (rows.map (·.1)).Nodup) : ((without rows n).map (·.1)).Nodup := by
  unfold without
  exact List.Nodup.sublist (List.Sublist.map _ List.filter_sublist) nd
theorem snoc_nd {rows : Rows} {n a : Str} (nd : (rows.map (·.1)).Nodup) (h : up rows n = none) : ((rows ++ [(n, a)]).map (·.1)).Nodup := by
  rw [List.map_append]
  refine List.nodup_append.mpr ⟨nd, by simp, fun x hx y hy e => ?_⟩
  have : y = n := by simpa using hy
  rw [e, this] at hx
  exact up_none.mp h hx
def chain (rows : Rows) : Nat → List Str → List Str
  | 0, met => met
  | k + 1, met => match up rows (met.getLastD "") with
    | some a => if a ∈ rows.map (·.1) ∧ ¬ a ∈ met then chain rows k (met ++ [a]) else met
    | none => met
def depthOf (rows : Rows) (n : Str) : Int := ((chain rows rows.length [n]).length : Int) - 1
theorem chain_go {rows : Rows} {met : List Str} {a : Str} {k : Nat} (h : up rows (met.getLastD "") = some a) (h1 : a ∈ rows.map (·.1)) (h2 : ¬ a ∈ met) : chain rows (k + 1) met = chain rows k (met ++ [a]) := by
  conv => lhs; unfold chain
  rw [h]
  simp only [if_pos (And.intro h1 h2)]
theorem chain_end {rows : Rows} {met : List Str} {a : Str} {k : Nat} (h : up rows (met.getLastD "") = some a) (h1 : ¬ (a ∈ rows.map (·.1) ∧ ¬ a ∈ met)) : chain rows (k + 1) met = met := by
  unfold chain
  rw [h]
  exact if_neg h1
theorem nodup_le : ∀ {ms l : List Str}, ms.Nodup → (∀ m ∈ ms, m ∈ l) → ms.length ≤ l.length
  | [], _, _, _ => Nat.zero_le _
  | m :: ms, l, nd, h => by
    obtain ⟨h1, h2⟩ := List.nodup_cons.mp nd
    have hm := h m List.mem_cons_self
    have e := List.length_erase_of_mem hm
    have hp := List.length_pos_of_mem hm
    have := nodup_le (l := l.erase m) h2 fun x hx => (List.mem_erase_of_ne (a := x) (b := m) (fun z => h1 (by rw [← z]; exact hx))).mpr (h x (List.mem_cons_of_mem _ hx))
    rw [List.length_cons]
    omega
/-- on the way: met is the way so far, a what its last one answers -/
structure OnWay (rows : Rows) (n : Str) (met : List Str) (a : Str) : Prop where
  nd : met.Nodup
  sub : ∀ m ∈ met, m ∈ rows.map (·.1)
  last : up rows (met.getLastD "") = some a
  ne : met ≠ []
  way : chain rows (rows.length + 1 - met.length) met = chain rows rows.length [n]
theorem OnWay.len {rows : Rows} {n : Str} {met : List Str} {a : Str} (w : OnWay rows n met a) : 1 ≤ met.length ∧ met.length ≤ rows.length := by
  have h1 := nodup_le w.nd w.sub
  rw [List.length_map] at h1
  exact ⟨List.length_pos_iff.mpr w.ne, h1⟩
theorem OnWay.start {rows : Rows} {n a : Str} (h : up rows n = some a) : OnWay rows n [n] a :=
  ⟨by simp, fun m hm => by rw [List.mem_singleton.mp hm]; exact List.mem_map.mpr ⟨_, up_mem h, rfl⟩, h, by simp, rfl⟩
theorem OnWay.step {rows : Rows} {n : Str} {met : List Str} {a b : Str} (w : OnWay rows n met a) (h1 : up rows a = some b) (h2 : ¬ a ∈ met) : OnWay rows n (met ++ [a]) b := by
  have hl := w.len
  have ha : a ∈ rows.map (·.1) := List.mem_map.mpr ⟨_, up_mem h1, rfl⟩
  have e := chain_go (k := rows.length - met.length) w.last ha h2
  refine ⟨List.nodup_append.mpr ⟨w.nd, by simp, fun x hx y hy z => ?_⟩, fun m hm => ?_, ?_, by simp, ?_⟩
  · have : y = a := by simpa using hy
    rw [z, this] at hx; exact h2 hx
  · rcases List.mem_append.mp hm with z | z
    · exact w.sub m z
    · rw [List.mem_singleton.mp z]; exact ha
  · rw [List.getLastD_concat]; exact h1
  · rw [← w.way, List.length_append, List.length_singleton, show rows.length + 1 - (met.length + 1) = rows.length - met.length by omega, ← e, show rows.length - met.length + 1 = rows.length + 1 - met.length by omega]
theorem OnWay.stop {rows : Rows} {n : Str} {met : List Str} {a : Str} (w : OnWay rows n met a) (h : ¬ (a ∈ rows.map (·.1) ∧ ¬ a ∈ met)) : (met.length : Int) - 1 = depthOf rows n := by
  have hl := w.len
  have e := chain_end (k := rows.length - met.length) w.last h
  unfold depthOf
  rw [← w.way, show rows.length + 1 - met.length = rows.length - met.length + 1 by omega, e]
/-- all but dicts stays -/
def Kp1 (H H' : Hp) : Prop := ∀ c o, H c = some o → (∀ kvs, o ≠ .dK kvs) → H' c = some o
/-- all but lists stays -/
def Kp2 (H H' : Hp) : Prop := ∀ c o, H c = some o → (∀ xs, o ≠ .lst xs) → H' c = some o
theorem Same.kp2 {H H' : Hp} (s : Same H H') : Kp2 H H' := fun c o e _ => s c o e
theorem Kp1.trans {H H1 H2 : Hp} (a : Kp1 H H1) (b : Kp1 H1 H2) : Kp1 H H2 := fun c o e n => b c o (a c o e n) n
theorem Kp1.upd {H : Hp} {p : Addr} {kvs kvs' : List (Key × V)} (h : H p = some (.dK kvs)) : Kp1 H (upd H p (.dK kvs')) := fun c o e n => by
  by_cases z : c = p
  · rw [z, h] at e; cases e; exact absurd rfl (n kvs)
  · rw [upd_ne z]; exact e
end L2
set_option Elab.async false
set_option linter.all false
set_option maxRecDepth 100000
set_option maxHeartbeats 4000000
namespace L2
open PySem PySem.Spec PyProof.Rows
theorem rep_list (x : Str) : ∀ (n : Nat) (acc : Array Nat), ((List.replicate n x.cps).foldl (· ++ ·) acc).toList = acc.toList ++ (List.replicate n x.cps.toList).flatten
  | 0, acc => by simp
  | n + 1, acc => by
    rw [List.replicate_succ, List.foldl_cons, rep_list x n (acc ++ x.cps), List.replicate_succ, List.flatten_cons, Array.toList_append, List.append_assoc]
theorem mul_signs (x : Str) (n : Int) : (Txt.mul x n).cps.toList = (List.replicate n.toNat x.cps.toList).flatten := by
  unfold Txt.mul
  by_cases h : n < 1
  · rw [if_pos h, show n.toNat = 0 by omega]; rfl
  · rw [if_neg h]
    split
    · rename_i h2
      rw [Bool.or_eq_true] at h2
      rcases h2 with h2 | h2
      · have : n = 1 := by simpa using h2
        rw [this]
        show _ = (List.replicate 1 x.cps.toList).flatten
        simp
      · have h3 : x.cps.toList = [] := List.eq_nil_of_length_eq_zero (by rw [← len_list]; simpa using h2)
        rw [h3]
        simp
    · show ((List.replicate n.toNat x.cps).foldl (· ++ ·) #[]).toList = _
      rw [rep_list]; rfl
theorem mul_len (x : Str) (n : Int) : (Txt.mul x n).length = n.toNat * x.length := by
  rw [len_list, mul_signs, len_list, List.length_flatten]
  simp
theorem mul_mem {x : Str} {n : Int} {c : Nat} (h : c ∈ (Txt.mul x n).cps.toList) : c ∈ x.cps.toList := by
  rw [mul_signs] at h
  obtain ⟨l, h1, h2⟩ := List.mem_flatten.mp h
  rw [(List.mem_replicate.mp h1).2] at h2
  exact h2
inductive rMulS_I (x : V) (y : V) (H : Hp) (Q : VK) : Prop
  | mk : ∀ (s : Str) (n : Int), x = .str s → y = .int n → s.length ≤ 100 → -1000 ≤ n → n ≤ 1000 → Q (.str (Txt.mul s n)) H → rMulS_I x y H Q
def rMulS : R2 := fun x y H Q => rMulS_I x y H Q
theorem op_mul_str {X : Cx} : OpR X (binaryOp .Mult) rMulS := by
  intro pins s σ H x y v u Q I rx ry h
  obtain ⟨z, n, rfl, rfl, hz, h0, h1, q⟩ := h
  obtain ⟨t, rfl⟩ := rx
  obtain ⟨t', rfl⟩ := ry
  refine SB.mul ⟨?_, fun hn _ => ?_, fun hn _ => ?_⟩ fun t' k => ⟨.str _, H, I.tok _, ⟨_, rfl⟩, q⟩
  · rw [Bool.or_eq_false_iff]
    exact ⟨decide_eq_false (by omega), decide_eq_false (by omega)⟩
  · have h4 : (z.length : Int) * n ≤ 100 * 1000 := Int.mul_le_mul (by omega) h1 (by omega) (by decide)
    have h5 : (z.length : Int) ≤ (2 ^ 63 - 1) / n := Int.le_ediv_of_mul_le (by omega) (Int.le_trans h4 (by decide))
    omega
  · have h2 : z.length * n.toNat ≤ 100 * 1000 := Nat.mul_le_mul hz (by omega)
    have h3 : 100 * 1000 ≤ sizeLine := by decide
    unfold Builtin.Str.tooLong
    exact decide_eq_false (by omega)
theorem call_isinstsK {X : Cx} (K : PySem.W.Frag) (hK : X.K = K := by rfl) : CallR X (.builtin "isinstance") (fun xs H Q => ∃ (x : V) (t : Value) (p : Addr) (cs : List String) (b : Bool), xs = [x, .ref p] ∧ H p = some (.tup (cs.map V.ty)) ∧
    ((t = .type "str" ∧ ∃ y, x = .str y) ∨ (t = .type "list" ∧ ∃ a ys, x = .ref a ∧ H a = some (.lst ys))) ∧ PySem.W.kitAny K t (cs.map Value.type) = some b ∧ Q (.bl b) H) := hK ▸ call_isinsts
theorem atI_lastD {α : Type} (f : α → V) (l : List α) (d : α) (h : l ≠ []) : atI (l.map f) (-1) = some (f (l.getLastD d)) := by
  have hl : 0 < l.length := List.length_pos_iff.mpr h
  have e : l.getLastD d = l.getLast h := by
    rw [List.getLastD_eq_getLast?, List.getLast?_eq_some_getLast h]; rfl
  rw [e]
  have e2 : ixN (l.map f).length (-1) = some (l.length - 1) := by
    unfold ixN
    rw [if_neg (by decide), List.length_map]
    first
      | (rw [if_pos (by omega)]; congr 1; omega)
      | (simp; omega)
  unfold atI
  rw [e2]
  show (l.map f)[l.length - 1]? = _
  rw [List.getElem?_map, List.getElem?_eq_getElem (by omega), List.getLast_eq_getElem h]
  rfl
def RowsAt (H : Hp) (r : Addr) (prs : List (Addr × Str × Str)) : Prop := H r = some (.lst (prs.map fun q => V.ref q.1)) ∧ ∀ q ∈ prs, H q.1 = some (.tup [.str q.2.1, .str q.2.2])
theorem RowsAt.same {H H' : Hp} {r : Addr} {prs : List (Addr × Str × Str)} (h : RowsAt H r prs) (s : Same H H') : RowsAt H' r prs := ⟨s _ _ h.1, fun q hq => s _ _ (h.2 q hq)⟩
theorem RowsAt.kp1 {H H' : Hp} {r : Addr} {prs : List (Addr × Str × Str)} (h : RowsAt H r prs) (s : Kp1 H H') : RowsAt H' r prs := ⟨s _ _ h.1 (fun _ z => nomatch z), fun q hq => s _ _ (h.2 q hq) (fun _ z => nomatch z)⟩
end L2
set_option Elab.async false
set_option linter.all false
set_option maxRecDepth 100000
set_option maxHeartbeats 4000000
namespace L2
open PySem PySem.Spec PyProof.Rows
abbrev PRow := Addr × Str × Str
def rowD (q : PRow) : PyData := .tuple [.str q.2.1, .str q.2.2]
def AscR (prs : List PRow) : Prop := ∀ q ∈ prs, Asc q.2.1 ∧ Asc q.2.2 ∧ q.2.1.length ≤ 1000
theorem row_shaped {q : PRow} (h : Asc q.2.1 ∧ Asc q.2.2 ∧ q.2.1.length ≤ 1000) : SeqAt.shaped (rowD q) = true := by
  simp [rowD, SeqAt.shaped, PyData.canLay0, PyData.canLayAll0, PyData.depth, PyData.depthAll, h.1.ok, h.2.1.ok]
theorem rd_row {K : PySem.W.Frag} {H : Hp} {q : PRow} (h : H q.1 = some (.tup [.str q.2.1, .str q.2.2])) : RD K H (.ref q.1) (rowD q) := .tup (SqT.of h) (.cons (.str _) (.cons (.str _) .nil))
theorem rds_rows {K : PySem.W.Frag} {H : Hp} : ∀ {prs : List PRow}, (∀ q ∈ prs, H q.1 = some (.tup [.str q.2.1, .str q.2.2])) → RDs K H (prs.map fun q => V.ref q.1) (prs.map rowD)
  | [], _ => .nil
  | q :: prs, h => .cons (rd_row (h q List.mem_cons_self)) (rds_rows fun z hz => h z (List.mem_cons_of_mem _ hz))
theorem without_one {pre post : List PRow} {q : PRow} {n : Str} (h : q.2.1 = n) (h1 : ∀ p ∈ pre, p.2.1 ≠ n) (h2 : ∀ p ∈ post, p.2.1 ≠ n) : without ((pre ++ q :: post).map (·.2)) n = (pre ++ post).map (·.2) := by
  unfold without
  rw [List.map_append, List.map_cons, List.filter_append, List.filter_cons, if_neg (by simp [h]), List.map_append]
  rw [List.filter_eq_self.mpr fun r hr => ?_, List.filter_eq_self.mpr fun r hr => ?_]
  · obtain ⟨p, hp, rfl⟩ := List.mem_map.mp hr
    exact decide_eq_true (h2 p hp)
  · obtain ⟨p, hp, rfl⟩ := List.mem_map.mp hr
    exact decide_eq_true (h1 p hp)
/-- prs.remove(q) -/
theorem remove_row {K : PySem.W.Frag} {H : Hp} {r : Addr} {pre post : List PRow} {q : PRow} {n : Str} {Q : VK} (hr : RowsAt H r (pre ++ q :: post)) (ha : AscR (pre ++ q :: post)) (h : q.2.1 = n) (h1 : ∀ p ∈ pre, p.2.1 ≠ n)
    (k : Q .non (upd H r (.lst ((pre ++ post).map fun q => V.ref q.1)))) : rRemove K (.ref r) [.ref q.1] H Q := by
  have hq : q ∈ pre ++ q :: post := List.mem_append_right _ List.mem_cons_self
  refine ⟨r, _, (pre ++ q :: post).map rowD, _, rowD q, pre.length, rfl, rfl, hr.1, rds_rows hr.2, rd_row (hr.2 q hq), fun e he => ?_, row_shaped (ha q hq), by simp, fun m e hm em => ?_, ?_⟩
  · obtain ⟨p, hp, rfl⟩ := List.mem_map.mp he
    exact row_shaped (ha p hp)
  · rw [List.getElem?_map] at em
    by_cases z : m = pre.length
    · rw [z, List.getElem?_append_right (Nat.le_refl _), Nat.sub_self] at em
      cases em
      rw [decide_eq_true z, SeqAt.eqv_refl _ (SeqAt.canLay_of_shaped (row_shaped (ha q hq)))]
    · have hlt : m < pre.length := by omega
      rw [List.getElem?_append_left hlt, List.getElem?_eq_getElem hlt] at em
      cases em
      rw [decide_eq_false z]
      have hne := h1 pre[m] (List.getElem_mem hlt)
      show (pre[m].2.1 == q.2.1 && _) = false
      rw [Bool.and_eq_false_iff]
      left
      rw [h]
      exact beq_eq_false_iff_ne.mpr hne
  · have e : ((pre ++ q :: post).map fun q => V.ref q.1).eraseIdx pre.length = (pre ++ post).map fun q => V.ref q.1 := by
      rw [List.map_append, List.map_cons, List.map_append]
      have hl : pre.length = (pre.map fun q => V.ref q.1).length := by rw [List.length_map]
      rw [hl, List.eraseIdx_append_of_length_le (Nat.le_refl _), Nat.sub_self]
      rfl
    rw [e]
    exact k
theorem reps_prs (t : Str) : ∀ prs : List PRow, (prs.filter fun q => decide (q.2.2 = t)).map (fun q => V.str q.2.1) = (reps (prs.map (·.2)) t).map V.str
  | [] => rfl
  | q :: prs => by
    have ih := reps_prs t prs
    unfold reps at ih ⊢
    rw [List.map_cons, List.filter_cons, List.filter_cons]
    by_cases h : q.2.2 = t
    · simp only [decide_eq_true h, if_true, List.map_cons, ih]
    · simp only [decide_eq_false h, Bool.false_eq_true, if_false, ih]
end L2
set_option Elab.async false
set_option linter.all false
set_option maxRecDepth 100000
set_option maxHeartbeats 4000000
namespace L2
open PySem PySem.Spec PyProof.Rows
section
variable {X : Cx} {pins : List (Addr × Obj)} {σ : St} {H : Hp} {s : Shared} {a : Addr} {oa : Obj} {kvs : List (Key × V)}
theorem Inv.freeze (I : Inv X pins σ H s) (e : H a = some (.dK kvs)) : ∃ oa, Inv X pins σ (upd H a (.frz oa (.dK kvs))) s := by
  obtain ⟨z, y, vs, r, ob, es, ep, eo, c⟩ := (show ObjOk X.prog X.w H s.heap a (.dK kvs) from I.hok a _ e)
  exact ⟨ob, I.write (x := a) (e := a) (o := .frz ob (.dK kvs)) (t' := s.toks) (h' := s.heap) (by rw [e]; exact True.intro) (.inl rfl) (fun _ _ _ q => q) ⟨ob, eo⟩ ⟨eo, z, y, vs, r, ob, es, ep, eo, c⟩⟩
theorem Inv.thaw (I : Inv X pins σ H s) (nf : ∀ o u, X.H₀ a ≠ some (.frz o u)) (e : H a = some (.frz oa (.dK kvs))) : Inv X pins σ (upd H a (.dK kvs)) s := by
  have ne0 : ∀ b, H b = none → b ≠ a := fun b n z => by rw [z, e] at n; cases n
  have ne1 : ∀ b o, H b = some o → o ≠ .frz oa (.dK kvs) → b ≠ a := fun b o q n z => by rw [z, e] at q; cases q; exact n rfl
  obtain ⟨_, okd⟩ := (show ObjOk X.prog X.w H s.heap a (.frz oa (.dK kvs)) from I.hok a _ e)
  refine ⟨I.ok, I.os, I.bare, ⟨I.base.keep, I.base.slot, fun b o q n hx => ?_, I.base.there, fun b xs q => ?_, fun b o u q => ?_, fun b ps q => ?_⟩, I.loc, I.cell, ?_, fun x c q => ?_, fun p hp => ?_, fun b u q => ?_, I.len⟩
  · have := I.base.free b o q n hx
    rw [upd_ne (ne0 b this)]; exact this
  · have := I.base.tups b xs q
    rw [upd_ne (ne1 b _ this (fun z => by cases z))]; exact this
  · have hb : b ≠ a := fun z => nf o u (by rw [← z]; exact q)
    rw [upd_ne hb]; exact I.base.frzs b o u q
  · obtain ⟨m, h⟩ := I.base.tbls b ps q
    exact ⟨m, by rw [upd_ne (ne1 b _ h (fun z => by cases z))]; exact h⟩
  · rw [upd_ne (ne0 _ I.free)]; exact I.free
  · rw [upd_ne (ne0 _ (I.freeC x c q))]; exact I.freeC x c q
  · obtain ⟨h1, h2, h3⟩ := I.pin p hp
    exact ⟨h1, by rw [upd_ne (ne0 _ h2)]; exact h2, h3⟩
  · by_cases hb : b = a
    · subst hb
      rw [upd_same] at q
      cases q
      exact ObjOk.stay (show ObjOk X.prog X.w H s.heap b (.dK kvs) from okd) (fun _ _ _ z => z) (fun c z => by rw [upd_ne (ne1 c _ z (fun y => by cases y))]; exact z) fun c xs z => by rw [upd_ne (ne1 c _ z (fun y => by cases y))]; exact z
    · rw [upd_ne hb] at q
      exact (I.hok b u q).stay (fun _ _ _ z => z) (fun c z => by rw [upd_ne (ne1 c _ z (fun y => by cases y))]; exact z) fun c xs z => by rw [upd_ne (ne1 c _ z (fun y => by cases y))]; exact z
end
def thawD (a : Addr) (oa : Obj) (kvs : List (Key × V)) (D : Ends) : Ends := { nx := fun σ H => H a = some (.frz oa (.dK kvs)) ∧ D.nx σ (upd H a (.dK kvs)), rt := fun v H => H a = some (.frz oa (.dK kvs)) ∧ D.rt v (upd H a (.dK kvs)), bk := fun σ H => H a = some (.frz oa (.dK kvs)) ∧ D.bk σ (upd H a (.dK kvs)), ct := fun σ H => H a = some (.frz oa (.dK kvs)) ∧ D.ct σ (upd H a (.dK kvs)) }
inductive tFast_I (ts : TS) (D : Ends) (σ : St) (H : Hp) : Prop
  | mk : ∀ a kvs, H a = some (.dK kvs) → (∀ oa, ts (thawD a oa kvs D) σ (upd H a (.frz oa (.dK kvs)))) → tFast_I ts D σ H
def tFast (ts : TS) : TS := fun D σ H => tFast_I ts D σ H
/-- a statement while a dict that is there is held fast -/
theorem ps_fast {X : Cx} {st : Stmt} {ts : TS} (hb : PS X st ts) : PS X st (tFast ts) := by
  rintro pins s σ H D I ⟨a, kvs, e, h⟩
  obtain ⟨oa, J⟩ := I.freeze e
  have nf : ∀ o u, X.H₀ a ≠ some (.frz o u) := fun o u z => by have := I.base.frzs a o u z; rw [e] at this; cases this
  refine thn (hb pins s σ _ _ J (h oa)) fun f s' q => ?_
  cases f with
  | next => obtain ⟨σ7, H7, I7, n7⟩ := q; exact ⟨σ7, _, I7.thaw nf n7.1, n7.2⟩
  | cont => obtain ⟨σ7, H7, I7, n7⟩ := q; exact ⟨σ7, _, I7.thaw nf n7.1, n7.2⟩
  | brk => obtain ⟨σ7, H7, I7, n7⟩ := q; exact ⟨σ7, _, I7.thaw nf n7.1, n7.2⟩
  | ret v => obtain ⟨x7, σ7, H7, I7, r7, n7⟩ := q; exact ⟨x7, σ7, _, I7.thaw nf n7.1, r7, n7.2⟩
/-- the keys of a dict that is held fast, one by one -/
def Itd (a : Addr) (oa : Obj) (kvs : List (Key × V)) : It := ⟨fun i H => H a = some (.frz oa (.dK kvs)) ∧ i < kvs.length, fun i H x H' => H' = H ∧ ∃ kv, kvs[i]? = some kv ∧ x = kV kv.1, fun i H => H a = some (.frz oa (.dK kvs)) ∧ kvs.length ≤ i⟩
theorem fast_of {P : Program} {w : World} {H : Hp} {h : Heap} {a : Addr} {oa : Obj} {kvs : List (Key × V)} (ok : HOk P w H h) (e : H a = some (.frz oa (.dK kvs))) :
    (a == sysModules) = false ∧ ∃ vs es ep, KV kvs vs ∧ oa.data = .dict es ep ∧ h.DictAt (mixKind P w) a vs ep := by
  obtain ⟨e1, z, y, vs, r, ob, es, ep, eo, c1, c2, c3⟩ := (show ObjOk P w H h a (.frz oa (.dK kvs)) from ok a _ e)
  rw [e1] at eo
  cases eo
  exact ⟨y, vs, es, ep, r, c2, oa, es, e1, c1, c2, c3⟩
theorem rel_key {P : Program} {w : World} {k : Key} {u : Value} (e : (mixKind P w).is k u = true) : RelV (kV k) u := by
  rcases keyIs_shape (show keyIs k u = true from e) with ⟨i, t, rfl, rfl⟩ | ⟨z, t, rfl, rfl⟩
  · exact ⟨t, rfl⟩
  · exact ⟨t, rfl⟩
theorem turn_dict {P : Program} {w : World} {K : PySem.W.Frag} {tg : Expr} (a it : Addr) (oa : Obj) (kvs : List (Key × V)) (es : Array DictEntry) (ep : Nat) (hd : oa.data = .dict es ep) : Turn P w K tg (Itd a oa kvs) [it] it (fun i h => h.IsKeyIter it a i kvs.length ep) where
  mem := by simp
  obj := fun i h st b hb => by
    have e : b = it := by simpa using hb
    subst e
    obtain ⟨o, e, c, d⟩ := st
    exact ⟨o, e, fun v z => by rw [d] at z; cases z⟩
  keep := fun i h h' st k => by
    obtain ⟨o, e, c⟩ := st
    exact ⟨o, k it (by simp) o e, c⟩
  item := by
    intro X hP hw hK hc i pins s σ H E I hf st hg
    subst hP hw hK
    obtain ⟨hH, hlt⟩ := hg
    obtain ⟨_, vs, es', ep', rv, hd', hm⟩ := fast_of I.hok hH
    rw [hd] at hd'
    cases hd'
    have hl := KV.length rv
    have st0 : s.heap.IsKeyIter it a i vs.length ep := by rw [← hl]; exact st
    obtain ⟨f0, f1, f2, f3, f4, f5⟩ := hf it (by simp)
    refine wpAny_pyNext_dict_item (k := (vs[i]'(by omega)).1) (v := (vs[i]'(by omega)).2) st0 hm (List.getElem?_eq_getElem (by omega)) fun key h' hk st' sb => ?_
    have I1 : Inv X pins σ H { s with heap := h' } := I.turned (t' := s.toks) (fun b o hb e => (sb.2 b hb).trans e) f0 f1 f3 f4 f5
    have ek : kvs[i].1 = (vs[i]'(by omega)).1 := KV.at rv (List.getElem?_eq_getElem hlt) (List.getElem?_eq_getElem (by omega))
    rw [← hl] at st'
    obtain ⟨o, e, c, d⟩ := id st'
    exact ⟨key, rfl, go_of (s := { s with heap := h' }) e c d (by decide) ⟨kV kvs[i].1, H, I1, by rw [ek]; exact rel_key hk, ⟨rfl, kvs[i], List.getElem?_eq_getElem hlt, rfl⟩, st', fun b hb => (hf b hb).1⟩⟩
  done := by
    intro X hP hw hK hc i pins s σ H E I hf st hg
    subst hP hw hK
    obtain ⟨hH, hge⟩ := hg
    obtain ⟨_, vs, es', ep', rv, hd', hm⟩ := fast_of I.hok hH
    rw [hd] at hd'
    cases hd'
    have hl := KV.length rv
    have st0 : s.heap.IsKeyIter it a i vs.length ep := by rw [← hl]; exact st
    obtain ⟨f0, f1, f2, f3, f4, f5⟩ := hf it (by simp)
    exact wpAny_pyNext_dict_end (I.ok.hd hc) st0 hm (List.getElem?_eq_none (by omega)) fun h' eb => ⟨rfl, I.turned (t' := s.toks) (fun b o hb e => eb b o hb e) f0 f1 f3 f4 f5⟩
  self := fun _ _ _ _ _ st h => wpAny_pyIter_keyiter st h
inductive iDict_I (R : (It → Hp → Prop)) (x : V) (H1 : Hp) : Prop
  | mk : ∀ a oa kvs, x = .ref a → H1 a = some (.frz oa (.dK kvs)) → R (Itd a oa kvs) H1 → iDict_I R x H1
def iDict (tl : TE) : TI := fun σ H R => tl σ H fun x H1 => iDict_I R x H1
/-- for k in d, d held fast -/
theorem pi_dict {X : Cx} {tg l : Expr} {tl : TE} (hl : PE X l tl) : PI X tg l (iDict tl) := by
  intro pins s σ H R I h
  refine thn (hl pins s σ H _ I h) fun v s1 ⟨x, H1, I1, r1, q1⟩ => ?_
  obtain ⟨a, oa, kvs, e, hH, q⟩ := q1
  subst e
  cases r1
  obtain ⟨hlo, vs, es, ep, rv, hd, hm⟩ := fast_of I1.hok hH
  have hl := KV.length rv
  refine wpAny_pyIter_dict hlo hm ?_
  refine ⟨s1.heap.objs.size, [s1.heap.objs.size], _, _, H1, rfl, I1.kept (t' := s1.toks) fun b o e => Heap.get?_push_of_some _ e, turn_dict a _ oa kvs es ep hd, ⟨_, Heap.get?_push_size _ rfl, rfl, by rw [hl]; rfl⟩, fun b hb => ?_, q⟩
  have e : b = s1.heap.objs.size := by simpa using hb
  subst e
  exact I1.fpOk (Nat.le_refl _) (I1.hok.fresh (Nat.le_refl _))
/-- [f(k) for k in d if p(k)], p and f changing nothing -/
theorem comp_dictFM {a : Addr} {oa : Obj} {kvs : List (Key × V)} {α : Type} {xs : List α} {fr : List (Nat × Str)} {tt : TT} {te : TE} {σ : St} {H1 : Hp} {Q : VK} (g : α → V) (pr : α → Bool) (f : α → V) (hz : xs.length ≤ sizeLine) (hS : H1 a = some (.frz oa (.dK kvs))) (hk : kvs.map (fun kv => kV kv.1) = xs.map g)
    (htt : ∀ (x : α) (H3 : Hp) (Q' : Bool → Hp → Prop), x ∈ xs → Same H1 H3 → Q' (pr x) H3 → tt (some (g x) :: frV σ fr) H3 Q')
    (hte : ∀ (x : α) (H3 : Hp) (Q' : VK), x ∈ xs → Same H1 H3 → pr x = true → Q' (f x) H3 → te (some (g x) :: frV σ fr) H3 Q')
    (hQ : ∀ D, H1 D = none → Q (.ref D) (upd H1 D (.lst ((xs.filter pr).map f)))) :
    compGoal (Itd a oa kvs) fr tt te σ H1 Q := by
  have hl : kvs.length = xs.length := by have := congrArg List.length hk; simpa using this
  unfold compGoal
  intro D hD
  refine ⟨fun i m ys H2 => m = xs.length - i ∧ i ≤ xs.length ∧ ys = ((xs.take i).filter pr).map f ∧ H2 = upd H1 D (.lst ys), ⟨xs.length, by simp, Nat.zero_le _, by simp, rfl⟩, ?_⟩
  rintro i m ys H2 ⟨rfl, hi, rfl, rfl⟩
  refine ⟨upd_same, ?_⟩
  have s1 : Same H1 (upd H1 D (.lst (((xs.take i).filter pr).map f))) := Same.upd_new hD
  have hS2 := s1 _ _ hS
  by_cases hlt : i < xs.length
  · have hx0 : (xs.map g)[i]? = some (g xs[i]) := by rw [List.getElem?_map, List.getElem?_eq_getElem hlt]; rfl
    refine .inr ⟨⟨hS2, by omega⟩, ?_⟩
    rintro v H3 ⟨rfl, kv, hkv, rfl⟩
    have hx : (xs.map g)[i]? = some (kV kv.1) := by rw [← hk, List.getElem?_map, hkv]; rfl
    rw [hx0] at hx
    have hx := Option.some.inj hx
    rw [← hx]
    have hm : xs[i] ∈ xs := List.getElem_mem hlt
    have et : xs.take (i + 1) = xs.take i ++ [xs[i]] := by rw [List.take_add_one, List.getElem?_eq_getElem hlt]; rfl
    refine htt xs[i] _ _ hm s1 ?_
    cases hp : pr xs[i]
    · refine iteF ⟨xs.length - (i + 1), by omega, rfl, hlt, ?_, rfl⟩
      rw [et, List.filter_append, List.filter_cons, hp]
      simp
    · refine iteT (hte xs[i] _ _ hm s1 hp ⟨upd_same, ?_, xs.length - (i + 1), by omega, rfl, hlt, ?_, upd_upd⟩)
      · have := List.length_filter_le pr (xs.take i)
        rw [List.length_take] at this
        rw [List.length_map]
        omega
      · rw [et, List.filter_append, List.filter_cons, hp, List.map_append]
        simp
  · have e : i = xs.length := by omega
    subst e
    refine .inl ⟨⟨hS2, by omega⟩, ?_⟩
    have := hQ D hD
    rw [List.take_length]
    exact this
end L2
set_option Elab.async false
set_option linter.all false
set_option maxRecDepth 100000
set_option maxHeartbeats 4000000
namespace L2
open PySem PySem.Spec PyProof.Rows
def upL (rows : Rows) (n : Str) : List Str := match up rows n with
  | some a => if a = "" then [] else [a]
  | none => []
def nbr (rows : Rows) (n : Str) : List Str := reps rows n ++ upL rows n
inductive Rch (rows : Rows) (n : Str) : Str → Prop
  | refl : Rch rows n n
  | step {m k : Str} : Rch rows n m → k ∈ nbr rows m → Rch rows n k
theorem mem_upL {rows : Rows} {n k : Str} : k ∈ upL rows n ↔ up rows n = some k ∧ k ≠ "" := by
  unfold upL
  cases up rows n with
  | none => simp
  | some a =>
    by_cases h : a = ""
    · subst h
      simp
      intro e; exact e.symm
    · simp [h]
      constructor
      · rintro rfl; exact ⟨rfl, h⟩
      · rintro ⟨e, _⟩; exact e.symm
theorem mem_reps {rows : Rows} {t n : Str} (nd : (rows.map (·.1)).Nodup) : n ∈ reps rows t ↔ up rows n = some t := by
  constructor
  · intro h
    obtain ⟨r, hr, e⟩ := List.mem_map.mp h
    obtain ⟨h1, h2⟩ := List.mem_filter.mp hr
    have e2 : r.2 = t := of_decide_eq_true h2
    obtain ⟨a, ea⟩ := up_some (List.mem_map.mpr ⟨r, h1, e⟩)
    have : (n, t) ∈ rows := by rw [← e, ← e2]; exact h1
    rw [ea, one_answer nd (up_mem ea) this]
  · exact in_reps
/-- names are no empty texts -/
def NoE (rows : Rows) : Prop := ∀ n : Str, n ∈ rows.map (·.1) → n ≠ ""
theorem nbr_sym {rows : Rows} (nd : (rows.map (·.1)).Nodup) {m k : Str} (hm : m ≠ "") (h : k ∈ nbr rows m) : m ∈ nbr rows k := by
  rcases List.mem_append.mp h with h | h
  · exact List.mem_append_right _ (mem_upL.mpr ⟨(mem_reps nd).mp h, hm⟩)
  · exact List.mem_append_left _ ((mem_reps nd).mpr (mem_upL.mp h).1)
theorem nbr_ne {rows : Rows} (ne : NoE rows) {m k : Str} (h : k ∈ nbr rows m) : k ≠ "" := by
  rcases List.mem_append.mp h with h | h
  · exact ne k (reps_sub h)
  · exact (mem_upL.mp h).2
theorem Rch.ne {rows : Rows} (ne : NoE rows) {n k : Str} (hn : n ≠ "") (h : Rch rows n k) : k ≠ "" := by
  cases h with
  | refl => exact hn
  | step _ h => exact nbr_ne ne h
theorem Rch.trans {rows : Rows} {a b c : Str} (h1 : Rch rows a b) (h2 : Rch rows b c) : Rch rows a c := by
  induction h2 with
  | refl => exact h1
  | step _ h ih => exact .step ih h
theorem Rch.symm {rows : Rows} (nd : (rows.map (·.1)).Nodup) (ne : NoE rows) {a b : Str} (ha : a ≠ "") (h : Rch rows a b) : Rch rows b a := by
  induction h with
  | refl => exact .refl
  | step h1 h2 ih => exact (Rch.step .refl (nbr_sym nd (h1.ne ne ha) h2)).trans ih
open Classical in
noncomputable def thrOf (rows : Rows) (n : Str) : List Str := sortS ((rows.map (·.1)).filter fun m => decide (Rch rows n m))
theorem mem_thr {rows : Rows} {n m : Str} : m ∈ thrOf rows n ↔ m ∈ rows.map (·.1) ∧ Rch rows n m := by
  unfold thrOf
  rw [sortS_mem, List.mem_filter]
  simp
theorem thr_of {rows : Rows} (nd : (rows.map (·.1)).Nodup) {n : Str} {l : List Str} (hl : l.Nodup) (h : ∀ m, m ∈ l ↔ m ∈ rows.map (·.1) ∧ Rch rows n m) : sortS l = thrOf rows n := by
  unfold thrOf
  refine sortS_congr ((List.perm_ext_iff_of_nodup hl (nd.filter _)).mpr fun m => ?_)
  rw [h, List.mem_filter]
  simp
theorem thr_len {rows : Rows} {n : Str} : (thrOf rows n).length ≤ rows.length := by
  unfold thrOf
  rw [sortS_len]
  have := List.length_filter_le (fun m => @decide (Rch rows n m) (Classical.propDecidable _)) (rows.map (·.1))
  rw [List.length_map] at this
  exact this
theorem thr_same {rows : Rows} (nd : (rows.map (·.1)).Nodup) (ne : NoE rows) {a b : Str} (ha : a ≠ "") (h : Rch rows a b) : thrOf rows b = thrOf rows a := by
  have hb := h.ne ne ha
  have h' := h.symm nd ne ha
  classical
  unfold thrOf
  congr 1
  refine List.filter_congr fun m _ => ?_
  by_cases e : Rch rows a m
  · rw [decide_eq_true (h'.trans e), decide_eq_true e]
  · rw [decide_eq_false (fun z => e (h.trans z)), decide_eq_false e]
/-- the threads, as they are come to -/
noncomputable def thrGo (rows : Rows) (acc : List (List Str)) (n : Str) : List (List Str) := if thrOf rows n ∈ acc then acc else acc ++ [thrOf rows n]
noncomputable def thrAll (rows : Rows) (ns : List Str) : List (List Str) := ns.foldl (thrGo rows) []
theorem thrAll_snoc (rows : Rows) (ns : List Str) (n : Str) : thrAll rows (ns ++ [n]) = thrGo rows (thrAll rows ns) n := by
  unfold thrAll
  rw [List.foldl_append]
  rfl
theorem fold_mem {rows : Rows} : ∀ (ns : List Str) (acc : List (List Str)) {t : List Str}, t ∈ ns.foldl (thrGo rows) acc → t ∈ acc ∨ ∃ n ∈ ns, t = thrOf rows n
  | [], acc, t, h => .inl h
  | n :: ns, acc, t, h => by
    rcases fold_mem ns (thrGo rows acc n) h with h | ⟨m, hm, e⟩
    · unfold thrGo at h
      split at h
      · exact .inl h
      · rcases List.mem_append.mp h with h | h
        · exact .inl h
        · exact .inr ⟨n, List.mem_cons_self, List.mem_singleton.mp h⟩
    · exact .inr ⟨m, List.mem_cons_of_mem _ hm, e⟩
theorem thrAll_mem {rows : Rows} (ns : List Str) {t : List Str} (h : t ∈ thrAll rows ns) : ∃ n ∈ ns, t = thrOf rows n := (fold_mem ns [] h).elim (fun z => by cases z) id
theorem fold_len {rows : Rows} : ∀ (ns : List Str) (acc : List (List Str)), (ns.foldl (thrGo rows) acc).length ≤ acc.length + ns.length
  | [], acc => Nat.le_refl _
  | n :: ns, acc => by
    have h := fold_len (rows := rows) ns (thrGo rows acc n)
    have h2 : (thrGo rows acc n).length ≤ acc.length + 1 := by
      unfold thrGo
      split
      · omega
      · rw [List.length_append]; simp
    rw [List.foldl_cons, List.length_cons]
    omega
theorem thrAll_len {rows : Rows} (ns : List Str) : (thrAll rows ns).length ≤ ns.length := by
  have := fold_len (rows := rows) ns []
  unfold thrAll; simpa using this
/-- met already just if its thread is told already -/
theorem thr_met {rows : Rows} (nd : (rows.map (·.1)).Nodup) (ne : NoE rows) {ns : List Str} (hns : ∀ m ∈ ns, m ∈ rows.map (·.1)) {n : Str} (hn : n ∈ rows.map (·.1)) : (∃ t ∈ thrAll rows ns, n ∈ t) ↔ thrOf rows n ∈ thrAll rows ns := by
  constructor
  · rintro ⟨t, ht, hnt⟩
    obtain ⟨m, hm, rfl⟩ := thrAll_mem ns ht
    rw [thr_same nd ne (ne m (hns m hm)) (mem_thr.mp hnt).2]
    exact ht
  · intro h
    exact ⟨_, h, mem_thr.mpr ⟨hn, .refl⟩⟩
structure DFS (rows : Rows) (n : Str) (rc wt : List Str) : Prop where
  nd : rc.Nodup
  start : n ∈ rc
  sound : ∀ m ∈ rc, Rch rows n m
  sub : ∀ m ∈ wt, m ∈ rc
  clo : ∀ m ∈ rc, m ∉ wt → ∀ k ∈ nbr rows m, k ∈ rc
def univ (rows : Rows) : List Str := rows.map (·.1) ++ rows.map (·.2)
theorem rch_univ {rows : Rows} {n m : Str} (hn : n ∈ rows.map (·.1)) (h : Rch rows n m) : m ∈ univ rows := by
  cases h with
  | refl => exact List.mem_append_left _ hn
  | step _ h =>
    rcases List.mem_append.mp h with h | h
    · exact List.mem_append_left _ (reps_sub h)
    · exact List.mem_append_right _ (List.mem_map.mpr ⟨_, up_mem (mem_upL.mp h).1, rfl⟩)
theorem DFS.len {rows : Rows} {n : Str} {rc wt : List Str} (d : DFS rows n rc wt) (hn : n ∈ rows.map (·.1)) : rc.length ≤ 2 * rows.length := by
  have := nodup_le d.nd fun m hm => rch_univ hn (d.sound m hm)
  unfold univ at this
  rw [List.length_append, List.length_map, List.length_map] at this
  omega
theorem DFS.init {rows : Rows} {n : Str} : DFS rows n [n] [n] :=
  ⟨by simp, by simp, fun m hm => by rw [List.mem_singleton.mp hm]; exact .refl, fun m hm => hm, fun m hm h => absurd hm h⟩
theorem DFS.done {rows : Rows} (nd : (rows.map (·.1)).Nodup) {n : Str} {rc : List Str} (d : DFS rows n rc []) : sortS (rc.filter fun m => decide (m ∈ rows.map (·.1))) = thrOf rows n := by
  have all : ∀ m, Rch rows n m → m ∈ rc := fun m h => by
    induction h with
    | refl => exact d.start
    | step _ h ih => exact d.clo _ ih (by simp) _ h
  refine thr_of nd (d.nd.filter _) fun m => ?_
  rw [List.mem_filter]
  constructor
  · rintro ⟨h1, h2⟩
    exact ⟨of_decide_eq_true h2, d.sound m h1⟩
  · rintro ⟨h1, h2⟩
    exact ⟨all m h2, decide_eq_true h1⟩
/-- within a turn: here was taken off, its neighbours ns (the first i of them) have been looked at -/
structure DFSin (rows : Rows) (n here : Str) (seen : List Str) (rc wt : List Str) : Prop where
  nd : rc.Nodup
  start : n ∈ rc
  hr : here ∈ rc
  sound : ∀ m ∈ rc, Rch rows n m
  sub : ∀ m ∈ wt, m ∈ rc
  clo : ∀ m ∈ rc, m ∉ wt → m ≠ here → ∀ k ∈ nbr rows m, k ∈ rc
  got : ∀ k ∈ seen, k ∈ rc
theorem DFS.pop {rows : Rows} {n here : Str} {rc wt : List Str} (d : DFS rows n rc (wt ++ [here])) : DFSin rows n here [] rc wt :=
  ⟨d.nd, d.start, d.sub here (by simp), d.sound, fun m hm => d.sub m (List.mem_append_left _ hm), fun m hm h1 h2 => d.clo m hm fun z => (List.mem_append.mp z).elim h1 fun y => h2 (List.mem_singleton.mp y), fun k hk => by cases hk⟩
theorem DFSin.old {rows : Rows} {n here k : Str} {seen rc wt : List Str} (d : DFSin rows n here seen rc wt) (hk : k ∈ rc) : DFSin rows n here (seen ++ [k]) rc wt :=
  ⟨d.nd, d.start, d.hr, d.sound, d.sub, d.clo, fun m hm => (List.mem_append.mp hm).elim (d.got m) fun y => by rw [List.mem_singleton.mp y]; exact hk⟩
theorem DFSin.new {rows : Rows} {n here k : Str} {seen rc wt : List Str} (d : DFSin rows n here seen rc wt) (hk : ¬ k ∈ rc) (hn : k ∈ nbr rows here) : DFSin rows n here (seen ++ [k]) (rc ++ [k]) (wt ++ [k]) := by
  refine ⟨List.nodup_append.mpr ⟨d.nd, by simp, fun x hx y hy e => hk ?_⟩, List.mem_append_left _ d.start, List.mem_append_left _ d.hr, fun m hm => ?_, fun m hm => ?_, fun m hm h1 h2 => ?_, fun m hm => ?_⟩
  · rw [List.mem_singleton.mp hy] at e; rw [← e]; exact hx
  · rcases List.mem_append.mp hm with z | z
    · exact d.sound m z
    · rw [List.mem_singleton.mp z]; exact .step (d.sound here d.hr) hn
  · rcases List.mem_append.mp hm with z | z
    · exact List.mem_append_left _ (d.sub m z)
    · exact List.mem_append_right _ z
  · rcases List.mem_append.mp hm with z | z
    · intro k' hk'
      exact List.mem_append_left _ (d.clo m z (fun y => h1 (List.mem_append_left _ y)) h2 k' hk')
    · exact absurd (List.mem_append_right _ z) h1
  · rcases List.mem_append.mp hm with z | z
    · exact List.mem_append_left _ (d.got m z)
    · exact List.mem_append_right _ z
theorem DFSin.out {rows : Rows} {n here : Str} {rc wt : List Str} (d : DFSin rows n here (nbr rows here) rc wt) : DFS rows n rc wt :=
  ⟨d.nd, d.start, d.sound, d.sub, fun m hm h1 => by
    by_cases e : m = here
    · subst e; exact d.got
    · exact d.clo m hm h1 e⟩
end L2
set_option Elab.async false
set_option linter.all false
set_option maxRecDepth 100000
set_option maxHeartbeats 4000000
namespace L2
open PySem PySem.Spec PyProof.Rows
inductive rInD_I (K : PySem.W.Frag) (neg : Bool) (x : V) (y : V) (H : Hp) (Q : VK) : Prop
  | mk : ∀ d ds, RD K H x d → RD K H y (.list ds) → PyData.canLayAll0 ds = true → d.canLay0 = true → d.depth ≤ 20 → (Q (.bl (if neg then !(ds.any fun e => PyData.eqv e d) else ds.any fun e => PyData.eqv e d)) H) → rInD_I K neg x y H Q
def rInD (K : PySem.W.Frag) (neg : Bool) : R2 := fun x y H Q => rInD_I K neg x y H Q
theorem op_notInD {X : Cx} (hu : X.A.units + 64 < cLine) : OpR X (compareOp .NotIn) (rInD X.K true) := by
  intro pins s σ H x y v u Q I rx ry h
  obtain ⟨d, ds, hd, hy, l1, l2, l3, q⟩ := h
  obtain ⟨as, ra⟩ := hd.reads I rx
  obtain ⟨bs, rb⟩ := hy.reads I ry
  refine SeqAt.notIn_list_reads rb ra l1 l2 ?_ ⟨.bl _, H, I, rfl, q⟩
  have := Nat.min_le_right (PyData.depthAll ds) d.depth
  omega
theorem op_notInDK {X : Cx} (K : PySem.W.Frag) (hu : X.A.units + 64 < cLine) (hK : X.K = K := by rfl) : OpR X (compareOp .NotIn) (rInD K true) := hK ▸ op_notInD hu
theorem pe_fldK {X : Cx} (K : PySem.W.Frag) {e : Expr} {f : Str} {pos : Pos} {ta : TE} (he : PE X e ta) (hb : attributeBase e f X.env (eval e X.env) = eval e X.env) (hK : X.K = K := by rfl) : PE X (.Attribute e f pos) (tFld K ta f) := hK ▸ pe_fld he hb
section
variable {prs S : List PRow} {n : Str} {k : Nat}
end
theorem put_keys_old {ns : List Str} {n : Str} (h : n ∈ ns) : putK (keysT ns) (Sum.inr n) (.bl true) = keysT ns := by
  unfold putK
  have hc : ((keysT ns).any fun kv => decide (kv.1 = (Sum.inr n : Key))) = true := List.any_eq_true.mpr ⟨(Sum.inr n, .bl true), List.mem_map.mpr ⟨n, h, rfl⟩, decide_eq_true rfl⟩
  rw [if_pos hc]
  unfold keysT
  rw [List.map_map]
  apply List.map_congr_left
  intro m _
  show (if (Sum.inr m : Key) = Sum.inr n then (Sum.inr m, V.bl true) else (Sum.inr m, V.bl true)) = _
  split <;> rfl
/-- names that were met, one more -/
def addN (ns : List Str) (n : Str) : List Str := if n ∈ ns then ns else ns ++ [n]
theorem put_add (ns : List Str) (n : Str) : putK (keysT ns) (Sum.inr n) (.bl true) = keysT (addN ns n) := by
  unfold addN
  split
  · exact put_keys_old ‹_›
  · exact put_keys ‹_›
theorem mem_add {ns : List Str} {n m : Str} : m ∈ addN ns n ↔ m ∈ ns ∨ m = n := by
  unfold addN
  split
  · exact ⟨.inl, fun h => h.elim id fun e => e ▸ ‹_›⟩
  · rw [List.mem_append, List.mem_singleton]
theorem add_nd {ns : List Str} {n : Str} (h : ns.Nodup) : (addN ns n).Nodup := by
  unfold addN
  split
  · exact h
  · rename_i hn
    rw [List.nodup_append]
    exact ⟨h, List.pairwise_singleton _ _, fun a ha b hb e => hn (by rw [List.mem_singleton.mp hb] at e; rw [← e]; exact ha)⟩
end L2
set_option Elab.async false
set_option linter.all false
namespace L2
open PySem PySem.Spec
section
variable {X : Cx} {pins : List (Addr × Obj)} {σ : St} {H : Hp} {s : Shared} {a : Addr} {kvs : List (Key × V)} {k : Key} {z : V} {u r : Value} {A : Around} {E : Value → Shared → Prop}
end
section
variable {X : Cx} {o e f : Expr} {apos cpos : Pos} {td ty tx : TE}
end
end L2
set_option Elab.async false
set_option linter.all false
set_option maxRecDepth 100000
set_option maxHeartbeats 4000000
namespace L2
open PySem PySem.Spec PyProof.Rows
section
variable {prog : Program} {w : World} {A : Around} {E : Value → Shared → Prop} {s : Shared}
end
end L2
set_option Elab.async false
set_option linter.all false
set_option maxRecDepth 100000
set_option maxHeartbeats 4000000
namespace L2
open PySem PySem.Spec PyProof.Rows
section
variable {prog : Program} {w : World} {A : Around} {E : Value → Shared → Prop} {s : Shared}
end
end L2
set_option Elab.async false
set_option linter.all false
set_option maxRecDepth 100000
set_option maxHeartbeats 4000000
namespace L2
open PySem PySem.Spec PyProof.Rows
section
variable {prog : Program} {w : World} {A : Around} {E : Value → Shared → Prop} {s : Shared} {a it : Addr} {es : Array (Int × Value)} {ep : Nat} {t : SetTable}
end
end L2
set_option Elab.async false
set_option linter.all false
set_option maxRecDepth 100000
set_option maxHeartbeats 4000000
namespace L2
open PySem PySem.Spec PyProof.Rows
section
variable {prog : Program} {w : World} {A : Around} {E : Value → Shared → Prop} {s : Shared} {a it : Addr} {es : Array (Int × Value)} {ep : Nat} {t : SetTable}
end
end L2
set_option Elab.async false
set_option linter.all false
set_option maxRecDepth 100000
set_option maxHeartbeats 4000000
namespace L2
open PySem PySem.Spec PyProof.Rows
section
variable {prog : Program} {w : World} {A : Around} {E : Value → Shared → Prop} {s : Shared}
end
end L2
set_option Elab.async false
set_option linter.all false
set_option maxRecDepth 100000
set_option maxHeartbeats 4000000
namespace L2
open PySem PySem.Spec PyProof.Rows
end L2
set_option Elab.async false
set_option linter.all false
set_option maxRecDepth 100000
set_option maxHeartbeats 4000000
namespace L2
open PySem PySem.Spec PyProof.Rows
def tRev (K : PySem.W.Frag) (te : TE) (tk : TO) : TE := fun σ H Q => te σ H fun x H1 => tk σ H1 fun k H2 => k = some (-1) ∧ ∃ a xs, x = .ref a ∧ SqL K H2 a xs ∧ ∀ p, H2 p = none → Q (.ref p) (upd H2 p (.lst xs.reverse))
theorem pe_rev {X : Cx} {e : Expr} {st : Option Expr} {p2 pos : Pos} {te : TE} {tk : TO} {ops : Addr → Addr → List Value} (he : PE X e te) (hk : PO X st tk) (hs : ∀ a b, subscripted (.Slice none none st p2) false (.ref a) (.ref b) = operate (ops a b) (getItem (.ref a) (.ref b)) := by intros; with_unfolding_all rfl) : PE X (.Subscript e (.Slice none none st p2) pos) (tRev X.K te tk) := by
  intro pins s σ H Q I h
  refine Subscript_ (thn (he pins s σ H _ I h) fun v s1 ⟨x, H1, I1, r1, q1⟩ => ?_)
  refine wpAny_Slice ?_
  rw [evalPart_none]
  refine wpAny_pure ?_
  refine wpAny_pure ?_
  refine thn (hk pins s1 σ H1 _ I1 q1) fun vk s3 ⟨k, H3, I3, pk, ek, a, xs, ex, hx, q⟩ => ?_
  subst ek ex
  cases r1
  have I4 : Inv X pins σ H3 { s3 with heap := s3.heap.push { cls := .type "slice", data := .fields #[.none, .none, vk] } } := I3.kept (t' := s3.toks) fun b ob q => Heap.get?_push_of_some _ q
  obtain ⟨its, r, ht, hz⟩ := I4.list hx
  have hlen := r.length
  show wpAny (model X.prog X.w) X.A (subscriptTail e (.Slice none none st p2) (.ref a) (.ref s3.heap.objs.size)) (EP X pins σ Q) X.xe { s3 with heap := s3.heap.push { cls := .type "slice", data := .fields #[.none, .none, vk] } }
  refine tail_any (ops := ops a s3.heap.objs.size) ht.isList.typeIs slot_list_getitem.lookup ?_ (hs _ _)
  refine wpAny_getItem_list_slice ht.isList (Heap.IsSliceOf.new ..) .none .none pk (by decide) ?_ (by rw [List.size_toArray]; omega)
  rw [PySem.W.krv_pick]
  refine ⟨.ref _, _, I4.laid (t' := s3.toks) (o := .lst xs.reverse) (fun b ob q => Heap.get?_push_of_some _ q) (Nat.le_refl _) ?_, rfl, q _ (I4.hok.fresh (Nat.le_refl _))⟩
  exact ⟨by rw [List.length_reverse]; exact hz, _, 0, r.reverse, Heap.get?_push_size _ rfl⟩
end L2
set_option Elab.async false
set_option linter.all false
set_option maxRecDepth 100000
set_option maxHeartbeats 4000000
namespace L2
open PySem PySem.Spec PyProof.Rows
section
variable {prog : Program} {w : World} {A : Around} {E : Value → Shared → Prop} {s : Shared}
end
end L2
set_option Elab.async false
set_option linter.all false
set_option maxRecDepth 100000
set_option maxHeartbeats 4000000
namespace L2
open PySem PySem.Spec PyProof.Rows
end L2
set_option Elab.async false
set_option linter.all false
set_option maxRecDepth 100000
set_option maxHeartbeats 4000000
namespace L2
open PySem PySem.Spec PyProof.Rows
end L2
set_option Elab.async false
set_option linter.all false
set_option maxRecDepth 100000
set_option maxHeartbeats 4000000
namespace L2
open PySem PySem.Spec PyProof.Rows
theorem comp_listFG {K : PySem.W.Frag} {a : Addr} {α : Type} {xs : List α} {fr : List (Nat × Str)} {tt : TT} {te : TE} {σ : St} {H1 : Hp} {Q : VK} (g : α → V) (pr : α → Bool) (f : α → V) (hz : xs.length ≤ sizeLine) (hS : SqL K H1 a (xs.map g))
    (htt : ∀ (x : α) (H3 : Hp) (Q' : Bool → Hp → Prop), x ∈ xs → Same H1 H3 → (∀ H4, Same H3 H4 → Q' (pr x) H4) → tt (some (g x) :: frV σ fr) H3 Q')
    (hte : ∀ (x : α) (H3 : Hp) (Q' : VK), x ∈ xs → Same H1 H3 → pr x = true → (∀ H4, Same H3 H4 → Q' (f x) H4) → te (some (g x) :: frV σ fr) H3 Q')
    (hQ : ∀ D H2, H1 D = none → Same H1 H2 → H2 D = some (.lst ((xs.filter pr).map f)) → Q (.ref D) H2) :
    compGoal (Itl K a) fr tt te σ H1 Q := by
  intro D hD
  refine ⟨fun i m ys H2 => m = xs.length - i ∧ i ≤ xs.length ∧ ys = ((xs.take i).filter pr).map f ∧ Same H1 H2 ∧ H2 D = some (.lst ys), ⟨xs.length, by simp, Nat.zero_le _, by simp, Same.upd_new hD, upd_same⟩, ?_⟩
  rintro i m ys H2 ⟨rfl, hi, rfl, s2, d2⟩
  refine ⟨d2, ?_⟩
  have hS2 := s2.seq hS
  by_cases hlt : i < xs.length
  · have hx0 : (xs.map g)[i]? = some (g xs[i]) := by rw [List.getElem?_map, List.getElem?_eq_getElem hlt]; rfl
    refine .inr ⟨⟨xs.map g, g xs[i], hS2, hx0⟩, ?_⟩
    rintro v H3 ⟨rfl, hv⟩
    have hx : (xs.map g)[i]? = some v := hv _ hS2
    rw [hx0] at hx
    cases hx
    have hm : xs[i] ∈ xs := List.getElem_mem hlt
    have et : xs.take (i + 1) = xs.take i ++ [xs[i]] := by rw [List.take_add_one, List.getElem?_eq_getElem hlt]; rfl
    refine htt xs[i] _ _ hm s2 fun H4 s4 => ?_
    cases hp : pr xs[i] with
    | false =>
      refine iteF ⟨xs.length - (i + 1), by omega, rfl, hlt, ?_, s2.trans s4, s4 _ _ d2⟩
      rw [et, List.filter_append, List.filter_cons, hp]
      simp
    | true =>
      refine iteT (hte xs[i] _ _ hm (s2.trans s4) hp fun H5 s5 => ⟨s5 _ _ (s4 _ _ d2), ?_, xs.length - (i + 1), by omega, rfl, hlt, ?_, ((s2.trans s4).trans s5).upd_of hD, upd_same⟩)
      · have := List.length_filter_le pr (xs.take i)
        rw [List.length_take] at this
        rw [List.length_map]
        omega
      · rw [et, List.filter_append, List.filter_cons, hp]
        simp
  · have e : i = xs.length := by omega
    subst e
    have e2 : xs.take xs.length = xs := List.take_of_length_le (Nat.le_refl _)
    rw [e2] at d2
    exact .inl ⟨⟨xs.map g, hS2, by rw [List.length_map]; exact Nat.le_refl _⟩, hQ D H2 hD s2 d2⟩
/-- [f(x) for x in xs], with what is known of the things laid -/
theorem comp_listH {K : PySem.W.Frag} {a : Addr} {xs : List V} {fr : List (Nat × Str)} {te : TE} {σ : St} {H1 : Hp} {Q : VK} (Pv : Addr → Nat → List V → Hp → Prop) (hz : xs.length ≤ sizeLine) (hS : SqL K H1 a xs) (h0 : ∀ D, H1 D = none → Pv D 0 [] (upd H1 D (.lst []))) (hlen : ∀ D i ys H, Pv D i ys H → ys.length = i)
    (hte : ∀ (D : Addr) (i : Nat) (x : V) (ys : List V) (H3 : Hp) (Q' : VK), xs[i]? = some x → H1 D = none → Pv D i ys H3 → H3 D = some (.lst ys) → Same H1 H3 → (∀ y H5, Same H3 H5 → Pv D (i + 1) (ys ++ [y]) (upd H5 D (.lst (ys ++ [y]))) → Q' y H5) → te (some x :: frV σ fr) H3 Q')
    (hQ : ∀ D ys H2, H1 D = none → Pv D xs.length ys H2 → Same H1 H2 → H2 D = some (.lst ys) → Q (.ref D) H2) :
    compGoal (Itl K a) fr tTrue te σ H1 Q := by
  intro D hD
  refine ⟨fun i m ys H2 => m = xs.length - i ∧ i ≤ xs.length ∧ Pv D i ys H2 ∧ Same H1 H2 ∧ H2 D = some (.lst ys), ⟨xs.length, by simp, Nat.zero_le _, h0 D hD, Same.upd_new hD, upd_same⟩, ?_⟩
  rintro i m ys H2 ⟨rfl, hi, p, s2, d2⟩
  refine ⟨d2, ?_⟩
  have hS2 := s2.seq hS
  by_cases hlt : i < xs.length
  · refine .inr ⟨⟨xs, xs[i], hS2, List.getElem?_eq_getElem hlt⟩, ?_⟩
    rintro v H3 ⟨rfl, hv⟩
    refine tTrue_go (iteT ?_)
    refine hte D i v ys _ _ (hv xs hS2) hD p d2 s2 fun y H5 s5 p' => ⟨s5 _ _ d2, ?_, xs.length - (i + 1), by omega, rfl, hlt, p', (s2.trans s5).upd_of hD, upd_same⟩
    rw [hlen D i ys _ p]; omega
  · have e : i = xs.length := by omega
    subst e
    exact .inl ⟨⟨xs, hS2, Nat.le_refl _⟩, hQ D ys H2 hD p s2 d2⟩
end L2
set_option Elab.async false
set_option linter.all false
set_option maxRecDepth 100000
set_option maxHeartbeats 4000000
namespace L2
open PySem PySem.Spec PyProof.Rows
section
variable {X : Cx} {pins : List (Addr × Obj)} {σ : St} {Hc H' : Hp} {sc : Shared}
end
section
variable {P : Program} {w : World} {K : PySem.W.Frag} {mg : Str → Option Value} {base : Heap} {N : List Str} {qual : Str} {scope : Scope} {f : Addr} {cd : Value} {A : Around} {outer : List Env} {s : Shared} {H : Hp} {E : XK}
end
section
variable {P : Program} {w : World} {K : PySem.W.Frag} {mg : Str → Option Value} {base : Heap} {N : List Str} {qual : Str} {scope : Scope} {f : Addr} {cd : Value} {A : Around} {outer : List Env} {s : Shared} {H : Hp} {E : XK}
end
section
variable {X : Cx} {CX : CXT} {k : Nat} {f C : Addr} {fd : FuncData} {ps : List Str} {sp : Sp} {dvs : List V} {ds : List Value} {R : St → XK} {x m : Str} {p pos apos : Pos} {e o : Expr} {es : List Expr} {ta : TE} {t : TA}
end
section
variable {X : Cx} {pins pins' : List (Addr × Obj)} {σ : St} {H : Hp} {s : Shared} {R : St → XK}
end
end L2
set_option Elab.async false
set_option linter.all false
set_option maxRecDepth 100000
set_option maxHeartbeats 4000000
namespace L2
open PySem PySem.Spec PyProof.Rows
/-- what comes behind, not looked into (the proof's term stays small) -/
theorem seq_open {t u : TS} {D : Ends} {σ : St} {H : Hp} (h : ∀ N : St → Hp → Prop, N = u D → t { D with nx := N } σ H) : tSeq t u D σ H := h _ rfl
end L2
set_option Elab.async false
set_option linter.all false
set_option maxRecDepth 100000
set_option maxHeartbeats 400000
namespace L2
open PySem PySem.Spec PyProof.Rows
open PySem.Builtin PySem.Builtin.ObjectAttr PySem.Builtin.Getset_descriptor
section
variable {prog : Program} {w : World} {A : Around} {E : Value → Shared → Prop} {K : PySem.W.Frag} {x C : Addr} {h : Heap} {g : Array GenState} {d : Drawn} {t : Nat} {os : OsState}
end
end L2
set_option Elab.async false
set_option linter.all false
set_option maxRecDepth 100000
set_option maxHeartbeats 4000000
namespace L2
open PySem PySem.Spec PyProof.Rows
section
variable {X : Cx} {pins : List (Addr × Obj)} {σ : St} {H : Hp} {s : Shared}
end
end L2
set_option Elab.async false
set_option linter.all false
set_option maxRecDepth 100000
set_option maxHeartbeats 400000
namespace L2
open PySem PySem.Spec PyProof.Rows
end L2
set_option Elab.async false
set_option linter.all false
set_option maxRecDepth 100000
set_option maxHeartbeats 400000
namespace L2
open PySem PySem.Spec PyProof.Rows
end L2
set_option Elab.async false
set_option linter.all false
set_option maxRecDepth 100000
set_option maxHeartbeats 400000
namespace L2
open PySem PySem.Spec PyProof.Rows
section
variable {X : Cx} {k : Nat} {f : Addr} {fd : FuncData} {ps : List Str} {sp : Sp} {dvs : List V} {ds : List Value} {E : XK} {x : Str} {p pos : Pos} {e : Expr} {es : List Expr} {t : TA}
end
end L2
set_option Elab.async false
set_option linter.all false
set_option maxRecDepth 100000
set_option maxHeartbeats 400000
namespace L2
open PySem PySem.Spec PyProof.Rows
section
variable {X : Cx} {o e : Expr} {es : List Expr} {to : TE} {t : TA} {name : Str} {apos cpos : Pos} {T id : String} {r : V → List V → Hp → VK → Prop}
end
end L2
set_option Elab.async false
set_option linter.all false
set_option maxRecDepth 100000
set_option maxHeartbeats 4000000
namespace L2
open PySem PySem.Spec PyProof.Rows
end L2
set_option Elab.async false
set_option linter.all false
set_option maxRecDepth 100000
set_option maxHeartbeats 4000000
namespace L2
open PySem PySem.Spec PyProof.Rows
end L2
set_option Elab.async false
set_option linter.all false
set_option maxRecDepth 100000
set_option maxHeartbeats 4000000
namespace L2
open PySem PySem.Spec PyProof.Rows
section
variable {n : Nat}
end
theorem strsA_len : ∀ {us : List Value} {xs : List Str}, StrsAre us xs → us.length = xs.length
  | _, _, .nil => rfl
  | _, _, .cons _ _ h => congrArg (· + 1) (strsA_len h)
theorem vals_getD : ∀ {xs : List V} {us : List Value} (i : Nat), Vals xs us → i < xs.length → RelV (xs.getD i .non) (us.getD i .none)
  | _, _, 0, .cons h _, _ => h
  | _, _, i + 1, .cons _ v, hi => vals_getD i v (Nat.lt_of_succ_lt_succ hi)
end L2
set_option Elab.async false
set_option linter.all false
set_option maxRecDepth 100000
set_option maxHeartbeats 4000000
namespace L2
open PySem PySem.Spec PyProof.Rows
section
variable {X : Cx} {pins : List (Addr × Obj)} {σ : St} {H : Hp} {s : Shared} {h' : Heap}
end
end L2
set_option Elab.async false
set_option linter.all false
set_option maxRecDepth 100000
set_option maxHeartbeats 4000000
namespace L2
open PySem PySem.Spec PyProof.Rows
theorem entry_dul : entryFor table "dict.update.loop" = some Builtin.«dict.update.loop» := by kernel_rfl
theorem plain_dul : plainId "dict.update.loop" = true := by kernel_rfl
theorem tl_keys : typeLookup (Value.type "list") (Str.ofString "keys") = pure none := by kernel_rfl
theorem sub_ae : isSubtype (.type "AttributeError") (.type "AttributeError") = pure true := by kernel_rfl
theorem keys_none {prog : Program} {w : World} {A : Around} {E : Value → Shared → Prop} {h : Heap} {g : Array GenState} {d : Drawn} {t : Nat} {os : OsState} {a : Addr} {xs : Array Value} {k : Nat} {sl : Array (Option Value)} {Q : Option Value → Shared → Prop} (hh : A.handled = none) (ho : h.get? a = some { cls := .type "list", data := .seq xs k, slots := sl })
    (hq : ∀ h' tk, (∀ b o, h.get? b = some o → h'.get? b = some o) → Q none ⟨h', g, d, tk, os⟩) : wpAny (model prog w) A (getAttr? (.ref a) "keys") Q E ⟨h, g, d, t, os⟩ := by
  have hT : Shared.TypeIs ⟨h, g, d, t + 1, os⟩ (.ref a) "list" := ⟨_, ho, rfl⟩
  unfold getAttr?
  refine wpAny_bind ?_
  refine wpAny_mkText ?_
  unfold getAttrBy?
  refine wpAny_bind (wpAny_attempt ?_)
  unfold getAttrBy
  refine wpAny_holding (wpAny_bind (wpAny_typeOf hT (wpAny_bind (wpAny_of_eq F.slot_list_getattribute.lookup (wpAny_ite_false rfl ?_)))))
  unfold getAttrByItsOwn
  refine wpAny_bind (wpAny_ite_false rfl (wpAny_pure ?_))
  refine wpAny_bind (wpAny_attempt (wpAny_holding ?_))
  unfold callGetattribute
  refine wpAny_ite_false rfl ?_
  refine wpAny_bind (wpAny_of_eq (F.slot_list_getattribute.bind (.ref a)) ?_)
  refine call_meets F.slot_list_getattribute hT am_entry_list_getattribute (F.args_list_getattribute_2 _ _) (meets_getattribute_miss_list a xs k sl "keys" _ tl_keys (by decide)) ⟨ho, hh, fun h' tk e ne => ?_⟩
  obtain ⟨keeps, new, t1, u1, there⟩ := ne
  have hE : Shared.TypeIs ⟨h', g, d, tk, os⟩ (.ref e) "AttributeError" := ⟨_, there, rfl⟩
  show wpAny (model prog w) A (getattributeRaised _ _ _ _ _ _ _) _ _ ⟨h', g, d, tk, os⟩
  unfold getattributeRaised
  refine wpAny_bind (wpAny_isInstance hE sub_ae (wpAny_ite_true rfl ?_))
  refine wpAny_bind (wpAny_ite_false rfl (wpAny_of_eq am_list_getattr_none ?_))
  unfold hookOrError
  dsimp only
  unfold attributeErrorLeaves
  refine wpAny_ite_true rfl ?_
  refine wpAny_bind (wpAny_throw ?_)
  exact wpAny_bind (wpAny_isInstance hE sub_ae (wpAny_ite_true rfl (wpAny_pure (hq _ _ keeps))))
end L2
set_option Elab.async false
set_option linter.all false
set_option maxRecDepth 100000
set_option maxHeartbeats 4000000
namespace L2
open PySem PySem.Spec PyProof.Rows
/-- pairs with a text ahead -/
inductive PrsO (h : Heap) : List Value → List (Str × Value) → Prop
  | nil : PrsO h [] []
  | cons {b : Addr} {ob : Obj} {n : Nat} {k : Str} {t : Tok} {v : Value} {vs : List Value} {ps : List (Str × Value)} (e : h.get? b = some ob) (c : ob.cls = .type "tuple") (d : ob.data = .seq #[.str k t, v] n) (r : PrsO h vs ps) : PrsO h (.ref b :: vs) ((k, v) :: ps)
theorem PrsO.mono {h h' : Heap} {vs : List Value} (k : ∀ b o, h.get? b = some o → o.cls = .type "tuple" → h'.get? b = some o) : ∀ {us : List Value} {ps : List (Str × Value)}, PrsO h us ps → PrsO h' us ps
  | _, _, .nil => .nil
  | _, _, .cons e c d r => .cons (k _ _ e c) c d (PrsO.mono (vs := vs) k r)
theorem stored_len {κ : Type} [DecidableEq κ] (kvs : List (κ × Value)) (k : κ) (v : Value) : (stored kvs k v).length ≤ kvs.length + 1 := by
  unfold stored
  split
  · rw [List.length_map]; omega
  · rw [List.length_append]; exact Nat.le_refl _
theorem dict_loop {prog : Program} {w : World} {A : Around} {D it l : Addr} {R : Result → Shared → Prop} (hh : A.in1.handled = none) (hDi : D ≠ it) (hli : l ≠ it) (hlD : l ≠ D) : ∀ (us : List Value) (ps : List (Str × Value)) (items : Array Value) (i : Nat) (kvs : List (Key × Value)) (s : Shared), items.toList.drop i = us → PrsO s.heap us ps → s.heap.IsListIter it l i → s.heap.IsList l items → s.heap.DictOf (mixKind prog w) D kvs → kvs.length + ps.length ≤ sizeLine →
    (∀ h' tk, (∀ b o, b ≠ it → b ≠ D → s.heap.get? b = some o → h'.get? b = some o) → h'.DictOf (mixKind prog w) D (ps.foldl (fun m p => stored m (Sum.inr p.1) p.2) kvs) → R (.ok (.ret .none)) { s with heap := h', toks := tk }) →
    codeAny (model prog w) A (.builtin "dict.update.loop" ⟨[.ref D, .ref it, rawInt (i : Int), .none], []⟩) R s
  | [], ps, items, i, kvs, s, hu, hp, hi, hl, hd, hz, k => by
    cases hp
    refine codeAny_builtin entry_dul ?_
    rw [Around.under_plainId plain_dul _]
    refine wpAny_bind (m := pyNext (.ref it)) (wpAny_pyNext_list_end hh hi hl ?_ fun h' eb => ?_)
    · rw [← Array.getElem?_toList, List.getElem?_eq_none_iff]
      exact List.drop_eq_nil_iff.mp hu
    · refine wpAny_bind (m := Builtin.Dict.addKeywords D []) (wpAny_pure (wpAny_pure ?_))
      exact k h' s.toks (fun b o hb _ e => eb b o hb e) (hd.extBut eb hDi)
  | u :: us, ps, items, i, kvs, s, hu, hp, hi, hl, hd, hz, k => by
    cases hp with
    | @cons b ob n ky t v _ ps e c d r =>
      have hx : items[i]? = some (.ref b) := by
        rw [← Array.getElem?_toList]
        have : (items.toList.drop i)[0]? = some (.ref b) := by rw [hu]; rfl
        simpa using this
      refine codeAny_builtin entry_dul ?_
      rw [Around.under_plainId plain_dul _]
      refine wpAny_bind (m := pyNext (.ref it)) (wpAny_pyNext_list_item hi hl hx fun h' hi' sb => ?_)
      have hb : h'.get? b = some ob := by
        have : b ≠ it := fun z => by
          obtain ⟨o1, e1, c1, d1⟩ := hi
          rw [z, e1] at e; cases e
          rw [d] at d1; cases d1
        exact (sb.2 b this).trans e
      have hT : Shared.TypeIs { s with heap := h' } (.ref b) "tuple" := ⟨ob, hb, c⟩
      have hd1 := hd.sameBut sb hDi
      have hz' : kvs.length + (ps.length + 1) ≤ sizeLine := hz
      refine wpAny_bind (wpAny_holding (wpAny_bind (wpAny_tryCatch ?_)))
      unfold Builtin.Dict.pairItems
      refine wpAny_bind (wpAny_typeOf hT (wpAny_ite_true rfl ?_))
      refine wpAny_bind ?_
      unfold seqItems?
      refine wpAny_bind (wpAny_load hb ?_)
      rw [d]
      refine wpAny_pure (wpAny_pure ?_)
      have mk : (mixKind prog w).is (Sum.inr ky) (.str ky t) = true := by
        show keyIs (Sum.inr ky) (.str ky t) = true
        simp [keyIs, Value.isStrOf]
      refine wpAny_holding (wpAny_dictSet_pairs (knd := mixKind prog w) mk hd1 (fun h2 hd2 sb2 => ?_) (by omega))
      refine wpAny_pure ⟨plainId_quiet plain_dul _, ?_⟩
      have old : ∀ b o, b ≠ it → b ≠ D → s.heap.get? b = some o → h2.get? b = some o := fun b o n1 n2 q => (sb2.2 b n2).trans ((sb.2 b n1).trans q)
      refine dict_loop hh hDi hli hlD us ps items (i + 1) _ _ ?_ (r.mono (vs := us) fun b o q cc => old b o ?_ ?_ q) ?_ ?_ hd2 ?_ fun h3 tk k3 d3 => ?_
      · rw [← List.tail_drop, hu]; rfl
      · intro z
        obtain ⟨o1, e1, c1, d1⟩ := hi
        rw [z, e1] at q; cases q
        rw [c1] at cc
        exact absurd cc (by decide)
      · intro z
        obtain ⟨o1, _, _, e1, x1, _⟩ := hd
        rw [z, e1] at q; cases q
        rw [x1.1] at cc
        exact absurd cc (by decide)
      · exact hi'.at fun o q => (sb2.2 it (Ne.symm hDi)).trans q
      · obtain ⟨o1, e1, c1⟩ := hl
        exact ⟨o1, old l o1 hli hlD e1, c1⟩
      · have := stored_len kvs (Sum.inr ky) v
        show (stored kvs (Sum.inr ky) v).length + ps.length ≤ sizeLine
        omega
      · exact k h3 tk (fun b o n1 n2 q => k3 b o n1 n2 (old b o n1 n2 q)) d3
theorem dict_of_pairs {prog : Program} {w : World} {A : Around} {E : Value → Shared → Prop} {s : Shared} {l : Addr} {n : Nat} {us : List Value} {ps : List (Str × Value)} {Q : Value → Shared → Prop} (hh : A.handled = none) (hl : s.heap.get? l = some { cls := .type "list", data := .seq us.toArray n }) (hp : PrsO s.heap us ps) (hz : ps.length ≤ sizeLine)
    (k : ∀ h' tk, s.heap.objs.size < h'.objs.size → (∀ b o, s.heap.get? b = some o → h'.get? b = some o) → h'.DictOf (mixKind prog w) s.heap.objs.size (ps.foldl (fun m p => stored m (Sum.inr p.1) p.2) []) → Q (.ref s.heap.objs.size) { s with heap := h', toks := tk }) : wpAny (model prog w) A (call (.type "dict") [.ref l]) Q E s := by
  refine callType_codes F.kt_called_dict (F.kt_typeCall_dict_1 (.ref l)) F.entry_dict_init (kt_code_dict_new (.ref l) (Q₁ := fun o s1 => o = .ref s.heap.objs.size ∧ s1 = { s with heap := s.heap.push { cls := .type "dict", data := .dict #[] } }) ⟨rfl, rfl⟩) fun obj s1 q => ?_
  obtain ⟨rfl, rfl⟩ := q
  have hnew : (s.heap.push { cls := .type "dict", data := .dict #[] }).DictOf (mixKind prog w) s.heap.objs.size [] := Heap.DictOf.new s.heap
  have ll := Heap.lt_size hl
  have hl1 : (s.heap.push { cls := .type "dict", data := .dict #[] }).get? l = some { cls := .type "list", data := .seq us.toArray n } := Heap.get?_push_of_some _ hl
  refine ⟨hnew.typeIs, F.args_dict_init_2 _ _, ?_⟩
  refine wpAny_bind (wpAny_bind (wpAny_notOrdered_dict hnew.typeIs ?_))
  refine wpAny_pure ?_
  show wpAny _ _ (Builtin.Dict.updateFrom "dict.__init__" s.heap.objs.size (.ref l) [] .none) _ _ _
  unfold Builtin.Dict.updateFrom
  have hT : Shared.TypeIs { s with heap := s.heap.push { cls := .type "dict", data := .dict #[] } } (.ref l) "list" := ⟨_, hl1, rfl⟩
  refine wpAny_bind (wpAny_typeOf hT (wpAny_ite_true rfl ?_))
  refine wpAny_bind (keys_none (A := A.in1.in1) hh hl1 fun h1 tk k1 => ?_)
  refine wpAny_ite_true rfl (wpAny_bind (wpAny_rule ?_))
  have hl2 : h1.get? l = some { cls := .type "list", data := .seq us.toArray n } := k1 _ _ hl1
  have isL : h1.IsList l us.toArray := ⟨_, hl2, rfl, n, rfl⟩
  have sz1 : s.heap.objs.size < h1.objs.size := by
    obtain ⟨o1, _, _, e1, _⟩ := hnew
    exact Heap.lt_size (k1 _ _ e1)
  refine wpAny_bind (wpAny_pyIter_list isL ?_)
  have kp : ∀ b o, s.heap.get? b = some o → (h1.push { cls := .type "list_iterator", data := .fields #[.ref l, .int 0 0] }).get? b = some o := fun b o e => Heap.get?_push_of_some _ (k1 b o (Heap.get?_push_of_some _ e))
  refine wpAny_pure ⟨plainId_quiet plain_dul _, ?_⟩
  refine dict_loop (A := A.in1) (D := s.heap.objs.size) (it := h1.objs.size) (l := l) hh (Nat.ne_of_lt sz1) (Nat.ne_of_lt (Nat.lt_trans ll sz1)) (Nat.ne_of_lt ll) us ps us.toArray 0 [] _ (by simp) (hp.mono (vs := us) fun b o q _ => kp b o q) ⟨_, Heap.get?_push_size _ rfl, rfl, rfl⟩ ?_ ?_ (by simpa using hz) fun h2 tk2 k2 d2 => ?_
  · exact ⟨_, Heap.get?_push_of_some _ hl2, rfl, n, rfl⟩
  · exact (hnew.keep k1).push _
  · refine ⟨rfl, k h2 tk2 ?_ (fun b o e => k2 b o (Nat.ne_of_lt (Nat.lt_trans (Heap.lt_size e) sz1)) (Nat.ne_of_lt (Heap.lt_size e)) (kp b o e)) d2⟩
    obtain ⟨o1, _, _, e1, _⟩ := d2
    exact Heap.lt_size e1
theorem kv_rows {prs : List PRow} {ps : List (Str × Value)} (h : Paired (fun (q : PRow) (p : Str × Value) => q.2.1 = p.1 ∧ RelV (.str q.2.2) p.2) prs ps) : ∀ {kvs : List (Key × V)} {vs : List (Key × Value)}, KV kvs vs → KV (prs.foldl (fun m q => putK m (Sum.inr q.2.1) (.str q.2.2)) kvs) (ps.foldl (fun m p => stored m (Sum.inr p.1) p.2) vs) := by
  induction h with
  | nil => exact fun h => h
  | cons e r ih =>
    intro kvs vs h
    refine ih ?_
    dsimp only
    rw [← e.1]
    exact h.put _ e.2
theorem rows_fold : ∀ {prs : List PRow} {rows : Rows}, (∀ q ∈ prs, up rows q.2.1 = none) → (prs.map (·.2.1)).Nodup → prs.foldl (fun m q => putK m (Sum.inr q.2.1) (.str q.2.2)) (rowsK rows) = rowsK (rows ++ prs.map (·.2))
  | [], rows, _, _ => by simp
  | q :: prs, rows, h, nd => by
    obtain ⟨n1, n2⟩ := List.nodup_cons.mp nd
    show prs.foldl _ (putK (rowsK rows) (Sum.inr q.2.1) (.str q.2.2)) = _
    rw [put_rows (h q List.mem_cons_self), rows_fold (fun r hr => ?_) n2, List.map_cons, List.append_assoc]
    · rfl
    · have ne : q.2.1 ≠ r.2.1 := fun z => n1 (List.mem_map.mpr ⟨r, hr, z.symm⟩)
      have h1 := up_none.mp (h r (List.mem_cons_of_mem _ hr))
      refine up_none.mpr fun z => ?_
      rw [List.map_append] at z
      rcases List.mem_append.mp z with z | z
      · exact h1 z
      · exact ne (List.mem_singleton.mp z).symm
inductive rDictR_I (xs : List V) (H : Hp) (Q : VK) : Prop
  | mk : ∀ (r : Addr) (prs : List PRow), xs = [.ref r] → RowsAt H r prs → (prs.map (·.2.1)).Nodup → prs.length ≤ 100 → (∀ d, H d = none → Q (.ref d) (upd H d (.dK (rowsK (prs.map (·.2)))))) → rDictR_I xs H Q
theorem prs_of {P : Program} {w : World} {H : Hp} {h : Heap} (ok : HOk P w H h) : ∀ {prs : List PRow} {us : List Value}, (∀ q ∈ prs, H q.1 = some (.tup [.str q.2.1, .str q.2.2])) → Vals (prs.map fun q => V.ref q.1) us → ∃ ps, PrsO h us ps ∧ Paired (fun (q : PRow) (p : Str × Value) => q.2.1 = p.1 ∧ RelV (.str q.2.2) p.2) prs ps ∧ ps.length = prs.length
  | [], _, _, v => by cases v; exact ⟨[], .nil, .nil, rfl⟩
  | q :: prs, _, hq, v => by
    cases v with
    | cons hv v =>
      cases hv
      obtain ⟨ps, h1, h2, h3⟩ := prs_of ok (fun r hr => hq r (List.mem_cons_of_mem _ hr)) v
      obtain ⟨_, its, rv, ob, eo, oc, n, od⟩ := (show ObjOk P w H h q.1 (.tup [.str q.2.1, .str q.2.2]) from ok _ _ (hq q List.mem_cons_self))
      match its, rv with
      | [u1, u2], .cons r1 (.cons r2 .nil) =>
        obtain ⟨t, rfl⟩ := r1
        exact ⟨(q.2.1, u2) :: ps, .cons eo oc od h1, .cons ⟨rfl, r2⟩ h2, congrArg (· + 1) h3⟩
theorem call_dict_rows {X : Cx} (hc : X.calm = true) : CallR X (.type "dict") (fun xs H Q => rDictR_I xs H Q) := by
  intro pins s σ H xs us Q I r h
  obtain ⟨r0, prs, rfl, hr, nd, hl, q⟩ := h
  obtain ⟨u, rfl, rx⟩ := vals1 r
  cases rx
  obtain ⟨_, its, n, rv, eo⟩ := (show ObjOk X.prog X.w H s.heap r0 (.lst _) from I.hok _ _ hr.1)
  obtain ⟨ps, p1, p2, p3⟩ := prs_of I.hok hr.2 rv
  have hz : ps.length ≤ sizeLine := Nat.le_of_lt (small1000 (by omega))
  refine dict_of_pairs (I.ok.hd hc) eo p1 hz fun h' tk sz keep hd => ?_
  have kv : KV (rowsK (prs.map (·.2))) (ps.foldl (fun m p => stored m (Sum.inr p.1) p.2) []) := by
    have := kv_rows p2 (kvs := []) (vs := []) .nil
    rw [show ([] : List (Key × V)) = rowsK [] from rfl, rows_fold (fun _ _ => rfl) nd, List.nil_append] at this
    exact this
  refine ⟨.ref s.heap.objs.size, _, I.laid (t' := tk) keep (Nat.le_refl _) (show ObjOk X.prog X.w _ _ _ (.dK (rowsK (prs.map (·.2)))) from ⟨?_, ?_, _, kv, hd⟩), rfl, q _ (I.hok.fresh (Nat.le_refl _))⟩
  · show (List.map _ _).length ≤ sizeLine
    rw [List.length_map, List.length_map]; exact Nat.le_of_lt (small1000 (by omega))
  · exact beq_eq_false_iff_ne.mpr (Nat.ne_of_gt I.big)
end L2
set_option Elab.async false
set_option linter.all false
set_option maxRecDepth 100000
set_option maxHeartbeats 4000000
namespace L2
open PySem PySem.Spec PyProof.Rows
/-- just one cell, x -/
inductive OneC (x : Str) : List (Str × NameKind) → Prop
  | here {l : List (Str × NameKind)} (h : ∀ y ∈ l, y.2 ≠ .cell) : OneC x ((x, .cell) :: l)
  | next {y : Str × NameKind} {l : List (Str × NameKind)} (h : y.2 ≠ .cell) (r : OneC x l) : OneC x (y :: l)
structure CompScopeC (sc scope : Scope) (N : List Str) (x : Str) (fr : List (Nat × Str)) : Prop where
  kind : scope.kind = .function
  cel : scope.names.lookup x = some .cell
  names : ∀ y ∈ scope.names, y.2 = .local → scope.names.lookup y.1 = some .local
  one : OneC x scope.names
  free : ∀ y ∈ scope.names, y.2 = .free → sc.names.lookup y.1 = some .cell ∨ sc.names.lookup y.1 = some .free
  frk : ∀ p ∈ fr, N[p.1]? = some p.2 ∧ scope.names.lookup p.2 = some .free
  nd : (x :: fr.map (·.2)).Nodup
def cxCompC (X : Cx) (scope : Scope) (x : Str) (C : Addr) (N : List Str) (s : Shared) (H : Hp) (fp : List Addr) : Cx :=
  { cxComp X scope C N s H fp with env := compEnvC scope ((x, C + 1) :: closOf X.env.cells scope.names []) C X.env, fn := fun y => decide (y = x) }
theorem look_cons {x y : Str} {c d : Addr} {l : List (Str × Addr)} (h : ((x, d) :: l).lookup y = some c) : (y = x ∧ c = d) ∨ (y ≠ x ∧ l.lookup y = some c) := by
  rw [List.lookup_cons] at h
  by_cases e : y = x
  · subst e
    rw [beq_self_eq_true] at h
    exact .inl ⟨rfl, (Option.some.inj h).symm⟩
  · rw [beq_eq_false_iff_ne.mpr e] at h
    exact .inr ⟨e, h⟩
theorem look_head {x : Str} {d : Addr} {l : List (Str × Addr)} : ((x, d) :: l).lookup x = some d := by rw [List.lookup_cons, beq_self_eq_true]
theorem look_tail {x y : Str} {d : Addr} {l : List (Str × Addr)} (h : y ≠ x) : ((x, d) :: l).lookup y = l.lookup y := by rw [List.lookup_cons, beq_eq_false_iff_ne.mpr h]
theorem OneC.cell {x y : Str} : ∀ {l : List (Str × NameKind)}, OneC x l → (y, .cell) ∈ l → y = x
  | _, .here h, m => by
    rcases List.mem_cons.mp m with e | m
    · exact (Prod.mk.inj e).1
    · exact absurd rfl (h _ m)
  | _, .next h r, m => by
    rcases List.mem_cons.mp m with e | m
    · rw [← e] at h; exact absurd rfl h
    · exact r.cell m
theorem relabel_kindC {scope : Scope} {env : Env} {x y : Str} (one : OneC x scope.names) (h : (relabel scope env).names.lookup y = some .cell ∨ (relabel scope env).names.lookup y = some .free) (ne : y ≠ x) : (y, NameKind.free) ∈ scope.names := by
  have go : ∀ k : NameKind, (k = .cell ∨ k = .free) → (y, k) ∈ (relabel scope env).names → (y, NameKind.free) ∈ scope.names := fun k hk m => by
    obtain ⟨⟨n, k0⟩, hm, e⟩ := List.mem_map.mp m
    dsimp only at e
    split at e
    · rename_i hc
      have hk0 : k0 = .free := by
        simp only [Bool.and_eq_true, beq_iff_eq] at hc
        exact hc.1.1
      obtain ⟨rfl, _⟩ := Prod.mk.inj e
      rw [← hk0]; exact hm
    · obtain ⟨rfl, rfl⟩ := Prod.mk.inj e
      rcases hk with rfl | rfl
      · exact absurd (one.cell hm) ne
      · exact hm
  rcases h with h | h
  · exact go _ (.inl rfl) (PySem.mem_of_lookup h)
  · exact go _ (.inr rfl) (PySem.mem_of_lookup h)
theorem lookup_relabel_cell {scope : Scope} {env : Env} {x : Str} (h : scope.names.lookup x = some .cell) : (relabel scope env).names.lookup x = some .cell := by
  unfold relabel
  dsimp only
  generalize scope.names = l at h ⊢
  induction l with
  | nil => cases h
  | cons y l ih =>
    obtain ⟨n, k⟩ := y
    rw [List.lookup_cons] at h
    rw [List.map_cons]
    dsimp only
    by_cases e : x = n
    · subst e
      rw [beq_self_eq_true] at h
      have hk : k = .cell := Option.some.inj h
      subst hk
      rw [if_neg (by intro z; simp at z), List.lookup_cons, beq_self_eq_true]
    · have eb : (x == n) = false := beq_eq_false_iff_ne.mpr e
      rw [eb] at h
      split
      · rw [List.lookup_cons, eb]; exact ih h
      · rw [List.lookup_cons, eb]; exact ih h
/-- the cells of a frame: one -/
theorem cells_go {M : Model} {A : Around} {E : Value → Shared → Prop} {x : Str} {Q : List (Str × Addr) → Shared → Prop} : ∀ (l : List (Str × NameKind)) (cs : List (Str × Addr)) (s : Shared), OneC x l → Q ((x, s.heap.objs.size) :: cs) { s with heap := s.heap.push { cls := .type "cell", data := .cell none } } →
    wpAny M A (forIn l cs fun x __s => match x with
        | (name, kind) => if (kind == NameKind.cell) = true then do
            let __do_lift ← alloc { cls := Value.type "cell", data := Data.cell none }
            pure (ForInStep.yield ((name, __do_lift) :: __s))
          else pure (ForInStep.yield __s)) Q E s := by
  have none_ : ∀ (l : List (Str × NameKind)) (cs : List (Str × Addr)) (s : Shared), (∀ y ∈ l, y.2 ≠ .cell) → Q cs s → wpAny M A (forIn l cs fun x __s => match x with
        | (name, kind) => if (kind == NameKind.cell) = true then do
            let __do_lift ← alloc { cls := Value.type "cell", data := Data.cell none }
            pure (ForInStep.yield ((name, __do_lift) :: __s))
          else pure (ForInStep.yield __s)) Q E s := by
    intro l
    induction l with
    | nil => intro cs s _ q; exact wpAny_pure q
    | cons y l ih =>
      intro cs s h q
      rw [List.forIn_cons]
      refine wpAny_bind ?_
      have : (y.2 == NameKind.cell) = false := beq_eq_false_iff_ne.mpr (h y List.mem_cons_self)
      show wpAny _ _ (if (y.2 == NameKind.cell) = true then _ else _) _ _ _
      rw [if_neg (by rw [this]; exact Bool.false_ne_true)]
      exact wpAny_pure (ih cs s (fun z hz => h z (List.mem_cons_of_mem _ hz)) q)
  intro l cs s one q
  induction one with
  | here h =>
    rw [List.forIn_cons]
    refine wpAny_bind ?_
    show wpAny _ _ (if (NameKind.cell == NameKind.cell) = true then _ else _) _ _ _
    rw [if_pos (by decide)]
    exact wpAny_bind (wpAny_alloc (wpAny_pure (none_ _ _ _ h q)))
  | @next y l h r ih =>
    rw [List.forIn_cons]
    refine wpAny_bind ?_
    have : (y.2 == NameKind.cell) = false := beq_eq_false_iff_ne.mpr h
    show wpAny _ _ (if (y.2 == NameKind.cell) = true then _ else _) _ _ _
    rw [if_neg (by rw [this]; exact Bool.false_ne_true)]
    exact wpAny_pure ih
theorem newEnvC {M : Model} {A : Around} {E : Value → Shared → Prop} {s : Shared} {scope : Scope} {x : Str} {globals : Addr} {cl : List (Str × Addr)} {qual : Str} {around : Env} {Q : Env → Shared → Prop} (one : OneC x scope.names)
    (h : ∀ h' : Heap, h'.Ns s.heap.objs.size (fun _ => none) → (∀ b o, s.heap.get? b = some o → h'.get? b = some o) → h'.get? (s.heap.objs.size + 1) = some { cls := .type "cell", data := .cell none } →
      Q { scope := scope, locals := s.heap.objs.size, globals := globals, cells := (x, s.heap.objs.size + 1) :: cl, qual := qual, func := none, code := around.code, frame := around.frame, builtins := around.builtins } { s with heap := h' }) :
    wpAny M A (newFunctionEnv scope globals cl [] qual none .none (some around)) Q E s := by
  unfold newFunctionEnv
  refine wpAny_bind (wpAny_alloc ?_)
  refine wpAny_bind (cells_go scope.names cl _ one ?_)
  have sz : (s.heap.push { cls := .type "dict", data := .dict #[] }).objs.size = s.heap.objs.size + 1 := by rw [size_push']
  refine wpAny_bind (wpAny_pure (wpAny_pure ?_))
  have e1 : ((s.heap.push { cls := .type "dict", data := .dict #[] }).push { cls := .type "cell", data := .cell none }).get? s.heap.objs.size = some PySem.W.emptyDict := Heap.get?_push_of_some _ (Heap.get?_push_size _ rfl)
  have := h ((s.heap.push { cls := .type "dict", data := .dict #[] }).push { cls := .type "cell", data := .cell none }) ⟨PySem.W.emptyDict, #[], _, e1, rfl, (fun e he => absurd he (by simp)), fun _ => rfl⟩ (fun b o e => Heap.get?_push_of_some _ (Heap.get?_push_of_some _ e)) (by rw [← sz]; exact Heap.get?_push_size _ rfl)
  rw [← sz] at this
  exact this
theorem comp_runC {X : Cx} {x : Str} {px : Pos} {iter elt : Expr} {ifs : List Expr} {scope sc : Scope} {pos pos' : Pos} {N : List Str} {fr : List (Nat × Str)} {wi : TI} {tt : TT} {te : TE}
    {pins : List (Addr × Obj)} {s : Shared} {σ : St} {H : Hp} {Q : VK} {Q' : Value → Shared → Prop} {use : Option (Value → Sem Unit)}
    (S : CompScopeC sc scope N x fr) (hsc : X.env.scope = sc) (hN : X.N = N) (hc : X.calm = true) (hi : PI X (.Name x px) iter wi)
    (ht : ∀ (C : Addr) (s : Shared) (H : Hp) (fp : List Addr), PTs (cxCompC X scope x C (x :: fr.map (·.2)) s H fp) ifs tt)
    (he : ∀ (C : Addr) (s : Shared) (H : Hp) (fp : List Addr), PE (cxCompC X scope x C (x :: fr.map (·.2)) s H fp) elt te)
    (hs : ∀ z, foldedSetIterable iter X.env z = pure z) (I : Inv X pins σ H s) (h : tComp wi fr tt te σ H Q)
    (hfin : ∀ (D C : Addr) (H' : Hp) (s' : Shared) (m : Str → Option Value), Inv X pins σ H' s' → s'.heap.Ns C m → FreshC X pins H' C → Q (.ref D) H' → compPost (model X.prog X.w) X.A X.xe use Q' (.ref D) C (.ok .next) s') :
    wpAny (model X.prog X.w) X.A (comprehension (.ListComp elt [⟨.Name x px, iter, ifs, 0⟩] scope pos) scope X.env pos' (newList []) false (eval iter X.env) use) Q' X.xe s := by
  have kin : ∀ y, scope.names.lookup y = some .free → X.env.kindOf y = some .cell ∨ X.env.kindOf y = some .free := fun y hy => by
    show X.env.scope.names.lookup y = _ ∨ X.env.scope.names.lookup y = _
    rw [hsc]
    exact S.free (y, .free) (PySem.mem_of_lookup hy) rfl
  have kin' : ∀ y ∈ scope.names, y.2 = .free → X.env.kindOf y.1 = some .cell ∨ X.env.kindOf y.1 = some .free := fun y hy hf => by
    show X.env.scope.names.lookup y.1 = _ ∨ X.env.scope.names.lookup y.1 = _
    rw [hsc]
    exact S.free y hy hf
  have hkc : ∀ y ∈ scope.names, y.2 = .free → ∃ c, X.env.cells.lookup y.1 = some c := fun y hy hf => I.ok.has y.1 (kin' y hy hf)
  refine wpAny_comprehension_free (use := use) rfl hs (closureFor_of hkc) S.kind S.names ?_
  refine thn (hi pins s σ H _ I h) fun xv s1 h1 => thn h1 fun itv s2 h2 => ?_
  obtain ⟨it, fp, tn, J, H2, rfl, I2, T, st2, f2, q2⟩ := h2
  refine wpAny_newObj_type (newEnvC S.one (around := X.env) fun h₁ hns₁ hold₁ hcell₁ => ?_)
  dsimp only at hns₁ hold₁ hcell₁ ⊢
  have I3 : Inv X pins σ (upd H2 s2.heap.objs.size (.lst [])) { s2 with heap := s2.heap.push { cls := .type "list", data := .seq ([] : List Value).toArray } } :=
    I2.lnew (its := []) (t' := s2.toks) .nil (Nat.zero_le _)
  unfold compGoal at q2
  obtain ⟨W, ⟨m0, w0⟩, turn⟩ := q2 s2.heap.objs.size (I2.hok.fresh (Nat.le_refl _))
  generalize hG : s2.heap.push { cls := .type "list", dict := none, data := .seq ([] : List Value).toArray } = G at hns₁ hold₁ hcell₁ I3 ⊢
  generalize hD : s2.heap.objs.size = D at I3 turn w0 ⊢
  generalize hH3 : upd H2 D (.lst []) = H3 at I3 w0
  have neG : ∀ b o, G.get? b = some o → b ≠ G.objs.size := fun b o e => Nat.ne_of_lt (Heap.lt_size e)
  have old : ∀ b o, G.get? b = some o → h₁.get? b = some o := hold₁
  have up2 : ∀ b o, s2.heap.get? b = some o → G.get? b = some o := fun b o e => by rw [← hG]; exact Heap.get?_push_of_some _ e
  have fpG : ∀ b ∈ fp, b < G.objs.size := fun b hb => by
    obtain ⟨o, e, _⟩ := T.obj _ _ st2 b hb
    exact Heap.lt_size (up2 b o e)
  have sub : ∀ {y : Str} {c : Addr}, (closOf X.env.cells scope.names []).lookup y = some c → X.env.cells.lookup y = some c := fun {y c} e => by
    rcases closOf_sub _ _ e with z | z
    · exact z
    · simp at z
  have stat0 : ∀ b ∈ fp, (b ∈ X.ex ∨ X.s₀.heap.objs.size ≤ b) ∧ b ≠ X.env.locals ∧ (∀ x c, X.env.cells.lookup x = some c → c ≠ b) ∧ ∀ p ∈ X.pn ++ pins, p.1 ≠ b := fun b hb =>
    ⟨(f2 b hb).2.2.2.1, (f2 b hb).2.1, (f2 b hb).2.2.2.2.1, (f2 b hb).2.2.2.2.2⟩
  have hCL : G.objs.size ≠ X.env.locals := Nat.ne_of_gt I3.lt
  have hC1 : X.s₀.heap.objs.size ≤ G.objs.size := I3.sz
  have hC2 : ∀ x c, X.env.cells.lookup x = some c → c ≠ G.objs.size := fun x c e => by
    obtain ⟨v, o, ho, _⟩ := I3.cell x c e
    exact neG c o ho
  have hC3 : ∀ p ∈ X.pn ++ pins, p.1 ≠ G.objs.size := fun p hp => neG p.1 p.2 (I3.pin p hp).1
  have newC : ∀ y c, X.env.cells.lookup y = some c → c ≠ G.objs.size + 1 := fun y c e => by
    obtain ⟨v, o, ho, _⟩ := I3.cell y c e
    exact Nat.ne_of_lt (Nat.lt_succ_of_lt (Heap.lt_size ho))
  have okB : (cxCompC X scope x G.objs.size (x :: fr.map (·.2)) { s2 with heap := G } H3 fp).Ok := by
    refine ⟨I2.ok.mod, S.kind, I2.ok.glob, I2.ok.blt, Nat.le_refl _, fun y z c e1 e2 => ?_, fun y hy => ?_, fun y c z e => ?_, I2.ok.hd, I2.ok.frames, .inl rfl, fun b hb => ⟨Nat.ne_of_lt (fpG b hb), fun y c e => ?_⟩,
      fun b o e => I3.bs b o e, Nat.le_trans I2.ok.bsz I3.sz, fun b o e hb => ?_, fun b hb hf => ?_, I3.stack, I3.stkFree⟩
    · rcases look_cons e1 with ⟨a1, a2⟩ | ⟨n1, f1⟩
      · rcases look_cons e2 with ⟨b1, _⟩ | ⟨n2, f2'⟩
        · rw [a1, b1]
        · exact absurd a2 (newC z _ (sub f2'))
      · rcases look_cons e2 with ⟨b1, b2⟩ | ⟨n2, f2'⟩
        · exact absurd b2 (newC y _ (sub f1))
        · exact I2.ok.inj y z c (sub f1) (sub f2')
    · by_cases hyx : y = x
      · exact ⟨_, by rw [hyx]; exact look_head⟩
      · have m := relabel_kindC S.one hy hyx
        obtain ⟨c, ec⟩ := closOf_has (cells := X.env.cells) scope.names [] m (hkc _ m rfl)
        exact ⟨c, (look_tail hyx).trans ec⟩
    · have : y = x := of_decide_eq_true z
      subst this
      rcases look_cons e with ⟨_, rfl⟩ | ⟨n1, _⟩
      · exact Nat.le_succ _
      · exact absurd rfl n1
    · rcases look_cons e with ⟨_, rfl⟩ | ⟨_, e⟩
      · exact Nat.ne_of_gt (Nat.lt_succ_of_lt (fpG b hb))
      · exact (stat0 b hb).2.2.1 y c (sub e)
    · rcases (stat0 b hb).1 with z | z
      · exact I2.ok.noex b o e z
      · exact absurd (Nat.lt_of_lt_of_le (Heap.lt_size e) (Nat.le_trans I2.ok.bsz z)) (Nat.lt_irrefl _)
    · rcases List.mem_cons.mp (I2.stkSub b hf) with z | z
      · exact (stat0 b hb).2.1 z
      · exact (f2 b hb).2.2.1 z
  have I4 : ∀ tk : Nat, Inv (cxCompC X scope x G.objs.size (x :: fr.map (·.2)) { s2 with heap := G } H3 fp) [] (none :: frV σ fr) H3 { s2 with heap := h₁, toks := tk } := fun tk => by
    refine ⟨okB, rfl, I2.bare, Un.kept old, ⟨_, hns₁, fun i y v e1 e2 _ => ?_⟩, fun y c e => ?_, I3.hok.fresh (Nat.le_refl _), fun y c e => ?_, fun p hp => absurd (show p ∈ ([] : List (Addr × Obj)) from hp) (by simp), I3.hok.kept old, ?_⟩
    · cases i with
      | zero => simp at e2
      | succ i =>
        have e1' : (fr.map (·.2))[i]? = some y := e1
        have e2' : (fr.map fun p => (σ[p.1]?).join)[i]? = some (some v) := e2
        rw [List.getElem?_map] at e1' e2'
        cases hp : fr[i]? with
        | none => rw [hp] at e1'; cases e1'
        | some p =>
          rw [hp] at e1' e2'
          have ey : p.2 = y := Option.some.inj e1'
          have ev : (σ[p.1]?).join = some v := Option.some.inj e2'
          have ev' : σ[p.1]? = some (some v) := by
            cases q : σ[p.1]? with
            | none => rw [q] at ev; cases ev
            | some o => rw [q] at ev; simp only [Option.join] at ev; exact congrArg some ev
          have hf := S.frk p (List.mem_of_getElem? hp)
          rw [ey] at hf
          have hk := kin y hf.2
          obtain ⟨m, _, hl⟩ := I2.loc
          obtain ⟨u, ru, l⟩ := hl p.1 y v (by rw [hN]; exact hf.1) ev' (.inr hk)
          refine ⟨u, ru, .inr ⟨lookup_relabel_free hf.2, ?_⟩⟩
          rcases l with ⟨k, _⟩ | ⟨_, c, e, z⟩
          · rcases hk with hk | hk
            · rw [hk] at k; cases k
            · rw [hk] at k; cases k
          · obtain ⟨c', ec⟩ := closOf_has (cells := X.env.cells) scope.names [] (PySem.mem_of_lookup hf.2) ⟨c, e⟩
            have := sub ec
            rw [e] at this
            cases this
            obtain ⟨o, ho, hd⟩ := z
            have nyx : y ≠ x := fun z => (List.nodup_cons.mp S.nd).1 (by rw [← z, ← ey]; exact List.mem_map.mpr ⟨p, List.mem_of_getElem? hp, rfl⟩)
            exact ⟨c, (look_tail nyx).trans ec, o, old c o (up2 c o ho), hd⟩
    · rcases look_cons e with ⟨_, rfl⟩ | ⟨_, e⟩
      · exact ⟨none, _, hcell₁, rfl⟩
      · obtain ⟨v, o, ho, hd⟩ := I2.cell y c (sub e)
        exact ⟨v, o, old c o (up2 c o ho), hd⟩
    · rcases look_cons e with ⟨_, rfl⟩ | ⟨_, e⟩
      · exact I3.hok.fresh (Nat.le_succ _)
      · exact I3.freeC y c (sub e)
    · show (none :: frV σ fr).length = (x :: fr.map (·.2)).length
      simp [frV]
  have locX : (cxCompC X scope x G.objs.size (x :: fr.map (·.2)) { s2 with heap := G } H3 fp).env.scope.names.lookup x = some .cell := lookup_relabel_cell S.cel
  generalize hX : cxCompC X scope x G.objs.size (x :: fr.map (·.2)) { s2 with heap := G } H3 fp = Y at I4 locX
  have fnX : Y.fn x = true := by rw [← hX]; exact decide_eq_true rfl
  have eP : Y.prog = X.prog := by rw [← hX]; rfl
  have eW : Y.w = X.w := by rw [← hX]; rfl
  have eK : Y.K = X.K := by rw [← hX]; rfl
  have eA : Y.A = X.A := by rw [← hX]; rfl
  have eC : Y.calm = true := by rw [← hX]; exact hc
  have eE : Y.env = compEnvC scope ((x, G.objs.size + 1) :: closOf X.env.cells scope.names []) G.objs.size X.env := by rw [← hX]; rfl
  have eN : Y.N = x :: fr.map (·.2) := by rw [← hX]; rfl
  have eX : Y.xe = fun _ _ => False := by rw [← hX]; rfl
  have eB : ∀ {σ' : St} {H' : Hp} {s' : Shared} {pins' : List (Addr × Obj)}, Inv Y pins' σ' H' s' → s'.os = s2.os ∧ Un (frs X.stack) fp H3 H' G s'.heap := fun {σ' H' s' pins'} J => by
    subst hX
    exact ⟨J.os, J.base⟩
  have hT := ht G.objs.size { s2 with heap := G } H3 fp
  have hE := he G.objs.size { s2 with heap := G } H3 fp
  rw [hX] at hT hE
  have fpY : ∀ {H' : Hp}, (∀ b ∈ fp, H' b = none) → ∀ b ∈ fp, FpOk Y [] H' b := fun {H'} hn b hb => by
    subst hX
    refine ⟨hn b hb, Nat.ne_of_lt (fpG b hb), okB.exfs b hb, .inl hb, fun y c e => (okB.exf b hb).2 y c e, fun p hp => absurd (show p ∈ ([] : List (Addr × Obj)) from hp) (by simp)⟩
  have loop : ∀ s3 : Shared, (∃ tk, s3 = { s2 with heap := h₁, toks := tk }) →
      codeAny (model X.prog X.w) X.A (.compLoop (.ListComp elt [⟨.Name x px, iter, ifs, 0⟩] scope pos) 0 (.ref it) (.ref D) Y.env)
        (compPost (model X.prog X.w) X.A X.xe use Q' (.ref D) G.objs.size) s3 := by
    rintro s3 ⟨tk, rfl⟩
    refine codeAny_compLoop_tests (fun n s' => ∃ i ys o H', Inv Y [] (o :: frV σ fr) H' s' ∧ tn i s'.heap ∧ (∀ b ∈ fp, H' b = none) ∧ W i n ys H') ?_ m0
      ⟨0, [], none, H3, I4 tk, T.keep _ _ _ st2 fun b hb o e => old b o (up2 b o e), fun b hb => ?_, w0⟩
    · rintro n s' ⟨i, ys, o, H', J', st', fr', w'⟩
      obtain ⟨hD', hgo⟩ := turn i n ys H' w'
      rcases hgo with ⟨stop, qn⟩ | ⟨go, step⟩
      · have Q1 := T.done Y eP eW eK eC i [] s' (o :: frV σ fr) H' (notedBy (model X.prog X.w) X.A Y.env fun e s'' => compPost (model X.prog X.w) X.A X.xe use Q' (.ref D) G.objs.size (.error e) s'') J' (fpY fr') st' stop
        rw [eA] at Q1
        refine thn Q1 fun r s4 ⟨hr, J4⟩ => ?_
        subst hr
        obtain ⟨m, hn, _⟩ := J4.loc
        rw [eE] at hn
        obtain ⟨os4, u4⟩ := eB J4
        have free4 : H' G.objs.size = none := by have := J4.free; rw [eE] at this; exact this
        have hok4 : HOk X.prog X.w H' s4.heap := by have := J4.hok; rw [eP, eW] at this; exact this
        exact hfin D G.objs.size H' s4 m (I3.call' (ch := fp) (s' := s4) os4 u4 hok4 J4.bare stat0) hn ⟨free4, hCL, .inr hC1, hC2, hC3⟩ qn
      · have Q1 := T.item Y eP eW eK eC i [] s' (o :: frV σ fr) H' (notedBy (model X.prog X.w) X.A Y.env fun e s'' => compPost (model X.prog X.w) X.A X.xe use Q' (.ref D) G.objs.size (.error e) s'') J' (fpY fr') st' go
        rw [eA] at Q1
        refine thn Q1 fun r s4 ⟨u, hr, h4⟩ => ?_
        subst hr
        show wpAny _ _ (letOwnedTupleGo (.Name x px) (.ref it) u >>= fun _ => assign (.Name x px) Y.env u) _ _ s4
        refine wpAny_bind (thn h4 fun _ s5 ⟨v, H5, J5, r5, y5, st5, fr5⟩ => ?_)
        have J5' := J5.pinned (fpY fr5) (T.obj _ _ st5)
        have G5 := pg_name (X := Y) (i := 0) (x := x) (pos := px) (by rw [eN]; exact S.nd) (by rw [eN]; rfl) (.inr locX) (.inl fnX) ([] ++ pinsAt fp s5.heap) s5 (o :: frV σ fr) H5 v u (fun σ6 H6 => σ6 = some v :: frV σ fr ∧ H6 = H5) J5' r5 ⟨rfl, rfl⟩
        rw [eP, eW, eA, eX] at G5
        refine wpAny_mono G5 (fun _ s6 ⟨σ6, H6, J6, e6, e6'⟩ => ?_) fun _ _ z => z.elim
        subst e6 e6'
        have T6 := hT _ s6 _ _ _ J6 (step v _ y5)
        rw [eP, eW, eA, eX] at T6
        have again : ∀ {s7 : Shared} {H7 : Hp} {zs : List V}, Inv Y ([] ++ pinsAt fp s5.heap) (some v :: frV σ fr) H7 s7 → (∃ m', m' < n ∧ W (i + 1) m' zs H7) → ∃ m, m < n ∧ ∃ i ys o H', Inv Y [] (o :: frV σ fr) H' s7 ∧ tn i s7.heap ∧ (∀ b ∈ fp, H' b = none) ∧ W i m ys H' := fun {s7 H7 zs} J7 ⟨m', hm, w7⟩ => by
          refine ⟨m', hm, i + 1, zs, some v, H7, J7.unpinned, T.keep _ _ _ st5 fun b hb o e => (J7.pin (b, o) (List.mem_append_right _ (List.mem_append_right _ (mem_pinsAt hb e)))).1, fun b hb => ?_, w7⟩
          obtain ⟨o, e, d⟩ := T.obj _ _ st5 b hb
          exact (J7.pin (b, o) (List.mem_append_right _ (List.mem_append_right _ (mem_pinsAt hb e)))).2.1
        refine wpAny_mono T6 (fun ok s7 ⟨H7, J7, q7⟩ => ?_) fun _ _ z => z.elim
        cases ok with
        | false => exact again J7 q7
        | true =>
          have E7 := hE _ s7 _ _ _ J7 q7
          rw [eP, eW, eA, eX] at E7
          show wpAny _ _ (eval elt Y.env) _ _ s7
          refine wpAny_mono E7 (fun u8 s8 ⟨y8, H8, J8, r8, hD8, hz8, w8⟩ => ?_) fun _ _ z => z.elim
          have A8 := mt_append (X := Y) _ s8 _ H8 (.ref D) [y8] (.ref D) [u8] (fun z H9 => H9 = upd H8 D (.lst (ys ++ [y8]))) J8 rfl (.cons r8 .nil) ⟨D, ys, y8, rfl, rfl, hD8, hz8, rfl⟩
          rw [eP, eW, eA, eX] at A8
          refine wpAny_mono A8 (fun _ s9 ⟨z9, H9, J9, _, e9⟩ => ?_) fun _ _ z => z.elim
          subst e9
          exact again J9 w8
    · rw [← hH3]
      have hbD : b ≠ D := by
        rw [← hD]
        obtain ⟨o, e, _⟩ := T.obj _ _ st2 b hb
        exact Nat.ne_of_lt (Heap.lt_size e)
      rw [upd_ne hbD]
      exact (f2 b hb).1
  rw [eE] at loop
  exact codeAny_compStart_list (loop _ ⟨_, rfl⟩) (T.self _ 0 _ _ _ (T.keep _ _ _ st2 fun b hb o e => old b o (up2 b o e)) (loop _ ⟨_, rfl⟩))
theorem pe_compC {X : Cx} {x : Str} {px : Pos} {iter elt : Expr} {ifs : List Expr} {scope sc : Scope} {pos : Pos} {N : List Str} {fr : List (Nat × Str)} {wi : TI} {tt : TT} {te : TE}
    (S : CompScopeC sc scope N x fr) (hsc : X.env.scope = sc) (hN : X.N = N) (hc : X.calm = true) (hi : PI X (.Name x px) iter wi)
    (ht : ∀ (C : Addr) (s : Shared) (H : Hp) (fp : List Addr), PTs (cxCompC X scope x C (x :: fr.map (·.2)) s H fp) ifs tt)
    (he : ∀ (C : Addr) (s : Shared) (H : Hp) (fp : List Addr), PE (cxCompC X scope x C (x :: fr.map (·.2)) s H fp) elt te)
    (hs : ∀ z, foldedSetIterable iter X.env z = pure z := by intro _; rfl) :
    PE X (.ListComp elt [⟨.Name x px, iter, ifs, 0⟩] scope pos) (tComp wi fr tt te) := by
  intro pins s σ H Q I h
  rw [eval_ListComp]
  refine comp_runC (use := none) S hsc hN hc hi ht he hs I h fun D C H' s' m J hn fc q => ?_
  exact ⟨m, hn, fun h' hs' => ⟨.ref D, H', J.turned (t' := s'.toks) (fun b o hb e => (hs'.2 b hb).trans e) fc.hn fc.hL fc.h1 fc.h2 fc.h3, rfl, q⟩⟩
theorem pi_listK {X : Cx} {tg l : Expr} {tl : TE} (K : PySem.W.Frag) (hl : PE X l tl) (hK : X.K = K := by rfl) : PI X tg l (iList K tl) := hK ▸ pi_list hl
end L2
set_option Elab.async false
set_option linter.all false
set_option maxRecDepth 100000
set_option maxHeartbeats 4000000
namespace HT
open PySem PyProof.Rows
section
open PySem.SeqAt
open PySem.AutoSeq1 (wpAny_loadPart')
open PySem.MeetsSeq PySem.MeetsSeq2 PySem.MeetsSeq3
end
end HT
namespace L2
open PySem PySem.Spec PyProof.Rows
end L2
set_option Elab.async false
set_option linter.all false
set_option maxRecDepth 100000
set_option maxHeartbeats 4000000
namespace L2
open PySem PySem.Spec PyProof.Rows
section
variable {prog : Program} {w : World} {A : Around} {E : Value → Shared → Prop} {s : Shared} {d it : Addr} {es : Array DictEntry} {ep i : Nat}
end
end L2
set_option Elab.async false
set_option linter.all false
set_option maxRecDepth 100000
set_option maxHeartbeats 4000000
namespace L2
open PySem PySem.Spec PyProof.Rows
theorem vals_refs : ∀ bs : List Addr, Vals (bs.map V.ref) (bs.map Value.ref)
  | [] => .nil
  | _ :: bs => .cons rfl (vals_refs bs)
end L2
set_option Elab.async false
set_option linter.all false
set_option maxRecDepth 100000
set_option maxHeartbeats 4000000
namespace HT
open PySem PyProof.Rows
variable {prog : Program} {w : World} {A : Around} {E : Value → Shared → Prop} {s : Shared}
end HT
namespace L2
open PySem PySem.Spec PyProof.Rows
section
variable {X : Cx} {pins : List (Addr × Obj)} {σ : St} {H : Hp} {s : Shared} {a : Addr} {oa : Obj} {kvs : List (List Key × V)}
end
end L2
set_option Elab.async false
set_option maxRecDepth 100000
namespace Hd
open PySem PySem.W PySem.Calls PyProof.Rows L2
/-- the top's run over a tree of objects, to its end -/
noncomputable def runT (st : SharedT → Thread → Option (SharedT × Thread)) (ok : Thread → Bool) (n : Nat) : SharedT → Thread → Option SharedT :=
  @Nat.rec (fun _ => SharedT → Thread → Option SharedT) (fun _ _ => none) (fun _ ih s t => match through t with
    | true => some s
    | false => match ok t with
      | false => none
      | true => match st s t with
        | some (s', t') => ih s' t'
        | none => none) n
theorem runT_succ (st : SharedT → Thread → Option (SharedT × Thread)) (ok : Thread → Bool) (n : Nat) (s : SharedT) (t : Thread) : runT st ok (n + 1) s t = (match through t with
    | true => some s
    | false => match ok t with
      | false => none
      | true => match st s t with
        | some (s', t') => runT st ok n s' t'
        | none => none) := rfl
theorem runT_of {tb : String → Option Builtin} {p : Program} {w : World} {n₀ : Nat} {ann : Option Value} : ∀ (n : Nat) (s : SharedT) (t : Thread) (s' : SharedT),
    runT (stepT (denote tb) p w) (stepOk n₀ ann) n s t = some s' → topRun tb p w n₀ ann n s.abs t = some s'.abs
  | 0, _, _, _, h => nomatch (h : none = some _)
  | n + 1, s, t, s', h => by
    rw [runT_succ] at h
    unfold topRun
    cases ht : through t with
    | true => rw [ht] at h; cases h; rfl
    | false =>
      rw [ht] at h
      cases hk : stepOk n₀ ann t with
      | false => rw [hk] at h; cases h
      | true =>
        rw [hk] at h
        dsimp only at h ⊢
        cases hs : stepT (denote tb) p w s t with
        | none => rw [hs] at h; cases h
        | some x =>
          obtain ⟨s₂, t₂⟩ := x
          rw [hs] at h
          rw [stepT_spec hs]
          exact runT_of n s₂ t₂ s' h
def btFrom (t : BT) (n : Nat) : List Obj → BT
  | [] => t
  | o :: r => btFrom (t.ins n o) (n + 1) r
noncomputable def bootT (P : Params) : BT := btFrom .nil 0 (boot_heap P).objs.toList
theorem boot_size (P : Params) : ((boot_heap P).isNs mainGlobals, (boot_heap P).objs.size, (boot_heap P).nsMap mainGlobals "__annotations__") = (true, 11, some (.ref 6)) := by kernel_rfl
theorem boot_abs (P : Params) : absHeap (bootT P) 11 {} = boot_heap P := by kernel_rfl
/-- what stands when the top begins -/
noncomputable def S0 (w : World) (os : OsState) : SharedT := ⟨bootT w.params, 11, {}, #[], boot_drawn, boot_toks, os⟩
theorem S0_abs (w : World) (os : OsState) : (S0 w os).abs = ⟨boot_heap w.params, #[], boot_drawn, boot_toks, os⟩ := congrArg (fun h => (⟨h, #[], boot_drawn, boot_toks, os⟩ : Shared)) (boot_abs w.params)
noncomputable def chk (p : Program) (P : Params) (s : Shared) : Bool := staticsOk (importedModules p.main.body) (boot_heap P) s.heap && namesBound p s.heap && gensDone s && laidKept (boot_heap P) s.heap
noncomputable abbrev stepQ : (Code → Sem Fin) → Program → World → SharedT → Thread → Option (SharedT × Thread) := PySem.W.Fast.tw10156331382660048174
noncomputable abbrev denQ : Code → Sem Fin := PySem.W.Fast.tw11892475500146522536 PySem.W.Fast.tw14364793385576792824
noncomputable abbrev okQ : Nat → Option Value → Thread → Bool := PySem.W.Fast.tw6613529449190102663
noncomputable abbrev seenQ := @PySem.W.Fast.tw4187177175401517315
theorem left {p q : Program} {loose : List Str} {Xt : Shared → Bool} {α : Type} {Yf : Shared → α} {Ya : World → α} {N : Nat} (e : opening p = plainProg p.main.scope.names) (hN : Nat.ble 600 N = true) (f : ∀ s, fenceModules? p s = some s)
    (h : ∀ (w : World) (os : OsState), (runT (stepQ denQ p w) (okQ 11 (some (.ref 6))) N (S0 w os) (topStub p)).map (fun s => (chk p w.params s.abs, seenQ q loose (importedModules p.main.body) Xt true s.abs, Yf s.abs)) = some (true, openGood q loose, Ya w)) :
    LeftO p q loose Xt Yf Ya N := fun w => by
  obtain ⟨⟨hh, gs, d, k, os⟩, e1, e'⟩ := Option.map_eq_some_iff.mp (boot_open e hN f w)
  obtain ⟨rfl, rfl, rfl, rfl⟩ : hh = boot_heap w.params ∧ gs = #[] ∧ d = boot_drawn ∧ k = boot_toks := by simpa using e'
  have h := h w os
  unfold stepQ denQ okQ seenQ at h
  rw [← PySem.W.Fast.te10156331382660048174, ← PySem.W.Fast.te11892475500146522536, ← PySem.W.Fast.te14364793385576792824, ← PySem.W.Fast.te6613529449190102663, ← PySem.W.Fast.te4187177175401517315] at h
  obtain ⟨s, r, l⟩ := Option.map_eq_some_iff.mp h
  obtain ⟨l1, l2, l3⟩ : _ ∧ _ ∧ _ := by simpa only [Prod.mk.injEq] using l
  have r := runT_of N _ _ _ r
  rw [S0_abs] at r
  obtain ⟨z1, z2, z3⟩ : _ ∧ _ ∧ _ := by simpa only [Prod.mk.injEq] using boot_size w.params
  have t : topFrom treeTable p w N ⟨boot_heap w.params, #[], boot_drawn, boot_toks, os⟩ = some s.abs := by
    unfold topFrom
    dsimp only
    rw [z1, z2, z3, r]
    show (match staticsOk (importedModules p.main.body) (boot_heap w.params) s.abs.heap && namesBound p s.abs.heap && gensDone s.abs && laidKept (boot_heap w.params) s.abs.heap with | true => _ | false => _) = _
    rw [show (staticsOk (importedModules p.main.body) (boot_heap w.params) s.abs.heap && namesBound p s.abs.heap && gensDone s.abs && laidKept (boot_heap w.params) s.abs.heap) = true from l1]
  unfold openEnds
  rw [e1]
  show (topFrom treeTable p w N _).map _ = _
  rw [t]
  exact congrArg some (Prod.ext l2 l3)
def fragH (h : Heap) : Frag := (List.range h.objs.size).filterMap fun a => (h.get? a).map fun o => (a, o)
theorem look_map (f : Nat → Option Obj) (a : Addr) (o : Obj) : ∀ l : List Nat, (l.filterMap fun a => (f a).map fun o => (a, o)).lookup a = some o → f a = some o
  | [], e => nomatch e
  | b :: l, e => by
    cases hb : f b with
    | none => rw [List.filterMap_cons_none (by rw [hb]; rfl)] at e; exact look_map f a o l e
    | some x =>
      rw [List.filterMap_cons_some (by rw [hb]; rfl), List.lookup_cons] at e
      split at e
      · rename_i q; cases e; rw [beq_iff_eq.mp q]; exact hb
      · exact look_map f a o l e
theorem frag_in (h : Heap) : (fragH h).In h := fun a o e => look_map h.get? a o _ e
def fragT (s : SharedT) : Frag := (List.range s.n).filterMap fun a => (match Nat.blt a s.n with | true => alive ((s.tree.get a).getD default) | false => none).map fun o => (a, o)
theorem fragT_eq (s : SharedT) : fragT s = fragH s.abs.heap := by
  unfold fragT fragH
  show _ = (List.range (absHeap s.tree s.n s.life).objs.size).filterMap fun a => ((absHeap s.tree s.n s.life).get? a).map fun o => (a, o)
  rw [absHeap_size]
  congr 1
  funext a
  congr 1
  unfold Heap.get?
  rw [absHeap_at]
  cases h : Nat.blt a s.n with
  | true =>
    rw [if_pos (show a < s.n from Nat.le_of_ble_eq_true h)]
    dsimp only
    cases (s.tree.get a).getD default with
    | mk c d dt sl => cases dt <;> rfl
  | false =>
    rw [if_neg (fun q => by rw [show Nat.blt a s.n = true from Nat.ble_eq_true_of_le q] at h; cases h)]
/-- what the walk asks of it -/
def says {α : Type} (obs : Frag → α) (good : α) (_ : World) (h : Heap) : Prop := ∃ K : Frag, K.In h ∧ obs K = good
theorem close {l : OpenLaw} {q : Program} {loose : List Str} {d : DefRec} {α : Type} {obs : Frag → α} {good : α} {N : Nat}
    (look : PySem.W.Fast.tw9446332074065402090 l = true) (e : opening l.prog = plainProg l.prog.main.scope.names) (hN : Nat.ble 600 N = true) (f : ∀ s, fenceModules? l.prog s = some s)
    (h : ∀ (w : World) (os : OsState), (runT (stepQ denQ l.prog w) (okQ 11 (some (.ref 6))) N (S0 w os) (topStub l.prog)).map (fun s => (chk l.prog w.params s.abs, seenQ q loose (importedModules l.prog.main.body) (fun s => recOk [] s) true s.abs, obs (fragT s))) = some (true, openGood q loose, good))
    (hdef : defOf q l.name = some (d, [])) (hp : l.prog.theDef l.name = some (d.params, d.body, d.scope)) (hk : kwWritten? d.params.kwonlyargs d.params.kw_defaults = some []) (hwr : (!l.writes || ([] : WRecords).isEmpty) = true)
    (ok : (chainsOk q && opensWell l.prog && (frees l.row.toRowW && l.row.within.isEmpty)) = true) (hb : l.prog.bare) (hw : l.row.toRowW.promised)
    (call : WalkO q loose (fun _ _ => True) (says obs good) l.row.toRowW d [] fun f vs => PySem.call f vs) : l.Holds := by
  rw [← PySem.W.Fast.te9446332074065402090] at look
  refine holds_law look fun said => ?_
  have lf : LeftO l.prog q loose (fun s => recOk [] s) (fun s => obs (fragH s.heap)) (fun _ => good) N := left e hN f fun w os => by
    have := h w os
    rw [show (fun s : SharedT => (chk l.prog w.params s.abs, seenQ q loose (importedModules l.prog.main.body) (fun s => recOk [] s) true s.abs, obs (fragT s))) = fun s => (chk l.prog w.params s.abs, seenQ q loose (importedModules l.prog.main.body) (fun s => recOk [] s) true s.abs, obs (fragH s.abs.heap)) from funext fun s => by rw [fragT_eq]] at this
    exact this
  exact holds_open (r := l.row) (q := q) (loose := loose) (Xt := fun s => recOk [] s) (XP := fun _ _ => True) (YP := says obs good) lf (fun _ s y => ⟨fragH s.heap, frag_in _, y⟩) (fun _ _ _ ⟨K, X, y⟩ k => ⟨K, X.keeps k, y⟩) (fun _ _ => trivial) (fun _ _ _ _ _ => trivial) hdef hp hk (fun _ e => recFacts_of e) hwr said ok hb hw call
def bareV : Value → Value
  | .int n _ => .int n 0
  | .str x _ => .str x 0
  | v => v
def dflOf (K : Frag) : Value → Option (List Value)
  | .none => none
  | .ref D => (match K.lookup D with
    | some ⟨_, _, .seq items _, _⟩ => some (items.toList.map bareV)
    | _ => some [])
  | _ => some []
def adOf : Option (Option Value) → Addr
  | some (some (.ref f)) => f
  | _ => 0
def see (K : Frag) (r : Option (Option Value)) (q : Str) : Option (FuncData × Option (List Value)) × Bool := match r with
  | some (some (.ref f)) => (match K.lookup f with
    | some ⟨_, _, .func fd, _⟩ => (some ({ fd with defaults := .none, kwdefaults := .none, doc := .none, pyModule := .none, annotations := none, code := .none, closureTuple := .none }, dflOf K fd.defaults), codeIn K fd.code q && (keepIn K (.ref f) && isFn K (.ref f)))
    | _ => (none, false))
  | _ => (none, false)
abbrev bareFn (x q : Str) (st : Stmt) : FuncData := fnOf x q (defArgs st) (defBody st) (defScope st) .none .none .none .none none .none .none
theorem see_inv {K : Frag} {r : Option (Option Value)} {x q : Str} {st : Stmt} {ds : Option (List Value)} (h : see K r q = (some (bareFn x q st, ds), true)) : ∃ (oc : Value) (od : Option Addr) (dV kV doc pm : Value) (an : Option Addr) (cdv ct : Value) (osl : Array (Option Value)),
    r = some (some (.ref (adOf r))) ∧ K.lookup (adOf r) = some ⟨oc, od, .func (fnOf x q (defArgs st) (defBody st) (defScope st) dV kV doc pm an cdv ct), osl⟩ ∧ dflOf K dV = ds ∧ codeIn K cdv q = true ∧ keepIn K (.ref (adOf r)) = true ∧ isFn K (.ref (adOf r)) = true := by
  unfold see at h
  split at h
  · rename_i f
    split at h
    · rename_i oc od fd osl hl
      obtain ⟨h1, h2⟩ := Prod.mk.inj h
      obtain ⟨h3, h4⟩ := Prod.mk.inj (Option.some.inj h1)
      obtain ⟨c1, c2⟩ := Bool.and_eq_true_iff.mp h2
      obtain ⟨c2, c3⟩ := Bool.and_eq_true_iff.mp c2
      obtain ⟨n, qn, ps, b, sc, g, cl, dV, kV, doc, pm, an, cdv, ct, bs⟩ := fd
      simp only [FuncData.mk.injEq] at h3
      obtain ⟨rfl, rfl, rfl, rfl, rfl, rfl, rfl, -, -, -, -, -, -, -, rfl⟩ := h3
      exact ⟨oc, od, dV, kV, doc, pm, an, cdv, ct, osl, rfl, hl, h4, c1, c2, c3⟩
    · cases h
  · cases h
/-- a def without defaults -/
theorem see_fun {K : Frag} {r : Option (Option Value)} {x q : Str} {st : Stmt} (h : see K r q = (some (bareFn x q st, none), true)) : r = some (some (.ref (adOf r))) ∧ keepIn K (.ref (adOf r)) = true ∧ isFn K (.ref (adOf r)) = true ∧ ∃ fd, Fun K x q st (adOf r) fd := by
  obtain ⟨oc, od, dV, kV, doc, pm, an, cdv, ct, osl, h1, h2, h3, h4, h5, h6⟩ := see_inv h
  have : dV = .none := by
    cases dV with
    | none => rfl
    | ref D => simp only [dflOf] at h3; split at h3 <;> cases h3
    | _ => cases h3
  subst this
  exact ⟨h1, h5, h6, _, fun_mk h2 h4 h5⟩
/-- a def with defaults -/
theorem see_funD {K : Frag} {r : Option (Option Value)} {x q : Str} {st : Stmt} {b : Value} {bs : List Value} (h : see K r q = (some (bareFn x q st, some (b :: bs)), true)) : r = some (some (.ref (adOf r))) ∧ keepIn K (.ref (adOf r)) = true ∧ isFn K (.ref (adOf r)) = true ∧
    ∃ (D : Addr) (kV doc pm : Value) (an : Option Addr) (cdv ct : Value) (o : Obj) (items : List Value) (n : Nat), FunD K x q st (adOf r) (fnOf x q (defArgs st) (defBody st) (defScope st) (.ref D) kV doc pm an cdv ct) ∧ K.lookup D = some o ∧ o.data = .seq items.toArray n ∧ items.map bareV = b :: bs := by
  obtain ⟨oc, od, dV, kV, doc, pm, an, cdv, ct, osl, h1, h2, h3, h4, h5, h6⟩ := see_inv h
  cases dV with
  | none => cases h3
  | ref D =>
    simp only [dflOf] at h3
    split at h3
    · rename_i c dd items n sl hl
      refine ⟨h1, h5, h6, D, kV, doc, pm, an, cdv, ct, _, items.toList, n, fun_mkD h2 h4 h5, hl, ?_, Option.some.inj h3⟩
      rw [Array.toArray_toList]
    · cases h3
  | _ => cases h3
theorem map1 {f : Value → Value} {b : Value} {l : List Value} (h : l.map f = [b]) : ∃ u, l = [u] ∧ f u = b := by
  match l, h with
  | [u], h => exact ⟨u, rfl, (List.cons.inj h).1⟩
def bv : V → Value
  | .int n => .int n 0
  | .str x => .str x 0
  | .bl b => .bool b
  | _ => .none
def flat : V → Bool
  | .int _ | .str _ | .bl _ | .non => true
  | _ => false
theorem bare_rel {v : V} {u : Value} (h : bareV u = bv v) (hv : flat v = true := by rfl) : RelV v u := by
  cases v <;> first | (cases hv; done) | skip
  all_goals (cases u <;> first | (cases h; done) | skip)
  all_goals first | rfl | (injection h with h1; subst h1; exact ⟨_, rfl⟩) | (injection h with h1 _; subst h1; exact ⟨_, rfl⟩) | (injection h with h1; subst h1; rfl)
/-- the value of a name of the text's -/
abbrev gl (K : Frag) (x : Str) : Option (Option Value) := nsIn K mainGlobals x
abbrev cl (K : Frag) (x : Str) : Addr := adOf (gl K x)
theorem all_at {l : List Bool} (h : l.all id = true) (i : Nat) {b : Bool} (e : l[i]? = some b) : b = true := List.all_eq_true.mp h b (List.mem_of_getElem? e)
theorem eq_at {α : Type} {l m : List α} (h : l = m) (i : Nat) {a b : α} (e : l[i]? = some a) (e' : m[i]? = some b) : a = b := by
  subst h
  exact Option.some.inj (e.symm.trans e')
/-- the goal that the closing leaves, from the law's promise -/
theorem walk {l : OpenLaw} {n k : Nat} {q : Program} {loose : List Str} {XP : (Str → Option Value) → Heap → Prop} {α : Type} {obs : Frag → α} {good : α} {d : DefRec} {sp : Frag → Sp} {x : Str}
    (hn : l.most = some n) (hn2 : n ≤ sizeLine) (hdf : d.params.defaults = []) (hr : Room k callerA)
    (F : ∀ (w : World) (K : Frag) (mg : Str → Option Value) (fa : Addr) (h : Heap), K.In h → obs K = good → h.Ns mainGlobals mg → mg d.name = some (.ref fa) →
      ∃ fd : FuncData, (∀ (s : Shared) (u : Value), BindsTo s fd ⟨[u], []⟩ [(x, u)]) ∧ ∀ base : Heap, K.In base → base.Ns mainGlobals mg → FnOk l.prog w K mg base CX0 k fa fd [x] (sp K))
    (hsp : ∀ (K : Frag) (H : Hp) (a : Addr) (ns : List Int), ns.length ≤ n → Only H → SqL K H a (ns.map V.int) → sp K [.ref a] H (fun v _ => v = .bl true) fun _ _ _ => False) :
    WalkO q loose XP (says obs good) l.row.toRowW d [] (fun f vs => PySem.call f vs) := by
  refine Att.attach_call hn hdf fun w s₀ s₁ mg mb fa o pm cd doc a vs ns G Y ho hd hcd hmg hobj hints hlen hg => ?_
  obtain ⟨K, KX, y⟩ := Y
  obtain ⟨fd, hb, hF⟩ := F w K mg fa _ KX y G.T.g hmg
  exact law_call KX G.T.g G.T.b G.T.builtins G.T.nolimit hg hobj hints (Nat.le_trans hlen hn2) hr hF hb (fun H hO hS => hsp K H a ns hlen hO hS) fun _ _ _ z => z
theorem no_at {K : Frag} {C : Addr} {f : Str} (h : decide (findIn K (.ref C) f = some none) = true) : NoAttr K C f := by have e : findIn K (.ref C) f = some none := of_decide_eq_true h; exact e
end Hd
set_option Elab.async false
set_option linter.all false
set_option maxRecDepth 100000
set_option maxHeartbeats 4000000
namespace L2
open PySem PySem.Spec PyProof.Rows
abbrev NewAt (o : HO) (H : Hp) (Q : VK) : Prop := ∀ p H', H p = none → Same H H' → H' p = some o → Q (.ref p) H'
theorem NewAt.put {o : HO} {H : Hp} {Q : VK} (k : NewAt o H Q) {p : Addr} (hp : H p = none) : Q (.ref p) (upd H p o) := k p _ hp (Same.upd_new hp) upd_same
inductive gLstN (xs : List V) (H : Hp) (Q : VK) : Prop
  | mk : xs.length ≤ sizeLine → NewAt (.lst xs) H Q → gLstN xs H Q
inductive gTupN (xs : List V) (H : Hp) (Q : VK) : Prop
  | mk : xs.length ≤ sizeLine → NewAt (.tup xs) H Q → gTupN xs H Q
def tLstG (t : TA) : TE := fun σ H Q => t σ H fun xs H1 => gLstN xs H1 Q
def tTupG (t : TA) : TE := fun σ H Q => t σ H fun xs H1 => gTupN xs H1 Q
theorem pe_lstG {X : Cx} {es : List Expr} {t : TA} {pos : Pos} (h : PAs X es t) : PE X (.List es pos) (tLstG t) := by
  intro pins s σ H Q I hq
  refine wpAny_List_spliced (thn (h.h pos pins s σ H _ I hq) fun us s1 ⟨xs, H1, I1, r, z, q⟩ => ⟨by rw [← r.length]; exact z, ?_⟩)
  have hf : H1 s1.heap.objs.size = none := I1.hok.fresh (Nat.le_refl _)
  refine ⟨.ref s1.heap.objs.size, upd H1 s1.heap.objs.size (.lst xs), I1.laid (t' := s1.toks) (fun b u e => Heap.get?_push_of_some _ e) (Nat.le_refl _) ?_, rfl, NewAt.put q hf⟩
  exact ⟨z, us, 0, r, Heap.get?_push_size _ rfl⟩
theorem pe_tupG {X : Cx} {es : List Expr} {t : TA} {x1 : Nat} {pos : Pos} (h : PAs X es t) : PE X (.Tuple es x1 pos) (tTupG t) := by
  intro pins s σ H Q I hq
  refine wpAny_Tuple_spliced (thn (h.h pos pins s σ H _ I hq) fun us s1 ⟨xs, H1, I1, r, z, q⟩ => ⟨by rw [← r.length]; exact z, ?_⟩)
  have hf : H1 s1.heap.objs.size = none := I1.hok.fresh (Nat.le_refl _)
  refine ⟨.ref s1.heap.objs.size, upd H1 s1.heap.objs.size (.tup xs), I1.laid (t' := s1.toks) (fun b u e => Heap.get?_push_of_some _ e) (Nat.le_refl _) ?_, rfl, NewAt.put q hf⟩
  exact ⟨z, us, r, ⟨_, Heap.get?_push_size _ rfl, rfl, _, rfl⟩⟩
theorem OpR.mono {X : Cx} {f : Value → Value → Sem Value} {r r' : R2} (h : OpR X f r) (k : ∀ x y H Q, r' x y H Q → r x y H Q) : OpR X f r' :=
  fun pins s σ H x y v u Q I rx ry q => h pins s σ H x y v u Q I rx ry (k _ _ _ _ q)
inductive gCat (x y : V) (H : Hp) (Q : VK) : Prop
  | mk : ∀ l b xs zs, x = .ref l → y = .ref b → H l = some (.lst xs) → H b = some (.lst zs) → xs.length + zs.length ≤ sizeLine → NewAt (.lst (xs ++ zs)) H Q → gCat x y H Q
theorem op_catG {X : Cx} : OpR X (binaryOp .Add) gCat := op_cat.mono fun x y H Q ⟨l, b, xs, zs, e1, e2, h1, h2, hz, k⟩ => ⟨l, b, xs, zs, e1, e2, h1, h2, hz, fun p hp => NewAt.put k hp⟩
end L2
set_option Elab.async false
set_option linter.all false
set_option maxRecDepth 100000
set_option maxHeartbeats 4000000
namespace L2
open PySem PySem.Spec PyProof.Rows
section
variable {X : Cx} {o e : Expr} {es : List Expr} {ta : TE} {t : TA} {m : Str} {apos pos : Pos}
end
end L2
set_option Elab.async false
set_option linter.all false
set_option maxRecDepth 100000
set_option maxHeartbeats 4000000
namespace L2
open PySem PySem.Spec PyProof.Rows
end L2
set_option Elab.async false
set_option linter.all false
set_option maxRecDepth 100000
set_option maxHeartbeats 4000000
namespace L2
open PySem PySem.Spec PyProof.Rows
end L2
set_option Elab.async false
set_option linter.all false
set_option maxRecDepth 100000
set_option maxHeartbeats 4000000
namespace Hd
open PySem PySem.W L2
end Hd
set_option Elab.async false
set_option linter.all false
set_option maxRecDepth 100000
set_option maxHeartbeats 4000000
namespace L2
open PySem PySem.Spec PyProof.Rows
section
variable {X : Cx} {e : Expr} {es : List Expr} {te : TE} {t : TF} {pos : Pos}
end
end L2
set_option Elab.async false
set_option linter.all false
set_option maxRecDepth 100000
set_option maxHeartbeats 4000000
namespace L2
open PySem PySem.Spec PyProof.Rows
end L2
set_option Elab.async false
set_option linter.all false
set_option maxRecDepth 100000
set_option maxHeartbeats 4000000
namespace L2
open PySem PySem.Spec PyProof.Rows
end L2
set_option Elab.async false
set_option linter.all false
set_option maxRecDepth 100000
set_option maxHeartbeats 4000000
namespace L2
open PySem PySem.Spec PyProof.Rows
section
variable {X : Cx} {pins : List (Addr × Obj)} {σ : List (Option V)} {H : Hp} {s : Shared}
end
end L2
set_option Elab.async false
set_option linter.all false
set_option maxRecDepth 100000
set_option maxHeartbeats 4000000
namespace L2
open PySem PySem.Spec PyProof.Rows
section
variable {P : Program} {w : World} {K : PySem.W.Frag} {mg : Str → Option Value} {base : Heap}
end
section
variable {X : Cx} {CX : CXT} {k : Nat} {f C : Addr} {fd : FuncData} {ps : List Str} {ds : List Value} {dvs : List V} {sp : Sp} {E : XK} {x : Str} {p pos : Pos} {e o : Expr} {es : List Expr} {t : TA} {st : Stmt} {rest : List Stmt} {ts u : TS} {te ta tv : TE}
end
end L2
set_option Elab.async false
set_option linter.all false
set_option maxRecDepth 100000
set_option maxHeartbeats 4000000
namespace L2
open PySem PySem.Spec PyProof.Rows
section
variable {prog : Program} {w : World} {A : Around} {R : Result → Shared → Prop} {I : Addr} {fp wr : List Addr} {n : Nat} {P : Nat → Value → Prop} {St : Nat → Heap → Prop} {dv : Value}
end
end L2
set_option Elab.async false
set_option linter.all false
set_option maxRecDepth 100000
set_option maxHeartbeats 4000000
namespace L2
open PySem PySem.Spec PyProof.Rows
end L2
set_option Elab.async false
set_option linter.all false
set_option maxRecDepth 100000
set_option maxHeartbeats 4000000
namespace L2
open PySem PySem.Spec PyProof.Rows
end L2
set_option Elab.async false
set_option linter.all false
set_option maxRecDepth 100000
set_option maxHeartbeats 4000000
namespace HT
open PySem PyProof.Rows
section
open PySem.SeqAt
open PySem.AutoSeq1 (wpAny_loadPart')
open PySem.MeetsSeq PySem.MeetsSeq2 PySem.MeetsSeq3
end
end HT
namespace L2
open PySem PySem.Spec PyProof.Rows
inductive gRep (x y : V) (H : Hp) (Q : VK) : Prop
  | mk : ∀ l k xs, x = .ref l → y = .int k → H l = some (.lst xs) → -(2 ^ 63) ≤ k → k < 2 ^ 63 → xs.length * k.toNat ≤ sizeLine → NewAt (.lst (List.replicate k.toNat xs).flatten) H Q → gRep x y H Q
theorem op_repG {X : Cx} : OpR X (binaryOp .Mult) gRep := op_rep.mono fun x y H Q ⟨l, k, xs, e1, e2, h1, h2, h3, hz, q⟩ => ⟨l, k, xs, e1, e2, h1, h2, h3, hz, fun p hp => NewAt.put q hp⟩
end L2
set_option Elab.async false
set_option linter.all false
set_option maxRecDepth 100000
set_option maxHeartbeats 4000000
namespace L2
open PySem PySem.Spec PyProof.Rows
section
variable {K : PySem.W.Frag} {x qual : Str} {st : Stmt} {f : Addr} {fd : FuncData} {ps : List Str}
end
end L2
set_option Elab.async false
set_option linter.all false
set_option maxRecDepth 100000
set_option maxHeartbeats 4000000
namespace L2
open PySem PySem.Spec PyProof.Rows
end L2
set_option Elab.async false
set_option linter.all false
set_option maxRecDepth 100000
set_option maxHeartbeats 4000000
namespace L2
open PySem PySem.Spec PyProof.Rows
end L2
set_option Elab.async false
set_option linter.all false
set_option maxRecDepth 100000
set_option maxHeartbeats 4000000
namespace L2
open PySem PySem.Spec PyProof.Rows
section
variable {X : Cx} {pins : List (Addr × Obj)} {σ : St} {H : Hp} {s : Shared} {a : Addr}
theorem rel_ref {t : Addr} {v : Value} (h : RelV (.ref t) v) : v = .ref t := by cases h; rfl
end
end L2
set_option Elab.async false
set_option linter.all false
set_option maxRecDepth 100000
set_option maxHeartbeats 4000000
namespace L2
open PySem PySem.Spec PyProof.Rows
end L2
set_option Elab.async false
set_option linter.all false
set_option maxRecDepth 100000
set_option maxHeartbeats 4000000
namespace L2
open PySem PySem.Spec PyProof.Rows
section
variable {lt : Nat → Nat → Bool} {p : Array Nat}
end
section
variable {α β : Type} {key : α → KD} {xs : List α}
theorem pw_unique {R : α → α → Prop} : ∀ {a b : List α}, a.Perm b → a.Pairwise R → b.Pairwise R → (∀ x ∈ a, ∀ y ∈ a, R x y → R y x → x = y) → a = b
  | [], b, p, _, _, _ => p.nil_eq
  | x :: a, [], p, _, _, _ => absurd p.symm.nil_eq (by simp)
  | x :: a, y :: b, p, h1, h2, h => by
    have hx : x = y := by
      rcases List.mem_cons.mp (p.mem_iff.mp (List.mem_cons_self ..)) with e | e
      · exact e
      · rcases List.mem_cons.mp (p.mem_iff.mpr (List.mem_cons_self ..)) with e' | e'
        · exact e'.symm
        · exact h x (List.mem_cons_self ..) y (List.mem_cons_of_mem _ e') ((List.pairwise_cons.mp h1).1 y e') ((List.pairwise_cons.mp h2).1 x e)
    subst hx
    rw [pw_unique (List.perm_cons x |>.mp p) (List.pairwise_cons.mp h1).2 (List.pairwise_cons.mp h2).2 fun u hu v hv => h u (List.mem_cons_of_mem _ hu) v (List.mem_cons_of_mem _ hv)]
end
end L2
set_option Elab.async false
set_option linter.all false
set_option maxRecDepth 100000
set_option maxHeartbeats 4000000
namespace L2
open PySem PySem.Spec PyProof.Rows
structure SEnv where
  prog : Program
  w : World
  A : Around
  E : Value → Shared → Prop
  P : Shared → Prop
  κ : SortKind
  lv : Keyed → Keyed → Bool
  It : Keyed → Prop
  cmp : ∀ x y, It x → It y → ∀ s, P s → ∀ C : Bool → Shared → Prop, (∀ s', P s' → C (lv x y) s') → wpAny (model prog w) A (keyLt' κ x.1 y.1) C (fun _ _ => False) s
  asym : ∀ x y, lv x y = true → lv y x = false
  neg : ∀ x y z, lv x y = false → lv y z = false → lv x z = false
/-- no greater -/
def SEnv.le (X : SEnv) (x y : Keyed) : Prop := X.lv y x = false
section
variable {X : SEnv}
theorem SEnv.refl (x : Keyed) : X.le x x := by
  cases h : X.lv x x with
  | false => exact h
  | true => exact X.asym x x h
theorem SEnv.trans {x y z : Keyed} (h1 : X.le x y) (h2 : X.le y z) : X.le x z := X.neg z y x h2 h1
theorem SEnv.of_lt {x y : Keyed} (h : X.lv x y = true) : X.le x y := X.asym x y h
/-- what the sorter's step comes to -/
def SoT (X : SEnv) {α : Type} (m : StateT SortSt Sem α) (st : SortSt) (Q : α → SortSt → Prop) : Prop :=
  ∀ s, X.P s → ∀ R : α → SortSt → Shared → Prop, (∀ a st' s', X.P s' → Q a st' → R a st' s') → W.kasC (model X.prog X.w) X.A X.E m R st s
theorem SoT.pure {α : Type} {a : α} {st : SortSt} {Q : α → SortSt → Prop} (h : Q a st) : SoT X (pure a) st Q := fun s p R k => W.kasC_pure (k a st s p h)
theorem SoT.bind {α β : Type} {m : StateT SortSt Sem α} {f : α → StateT SortSt Sem β} {st : SortSt} {Q : β → SortSt → Prop} (h : SoT X m st fun a st' => SoT X (f a) st' Q) : SoT X (m >>= f) st Q :=
  fun s p R k => W.kasC_bind (h s p _ fun a st' s' p' q => q s' p' R k)
theorem SoT.get {st : SortSt} {Q : SortSt → SortSt → Prop} (h : Q st st) : SoT X (get : StateT SortSt Sem SortSt) st Q := fun s p R k => W.kasC_get (k st st s p h)
theorem SoT.modify {f : SortSt → SortSt} {st : SortSt} {Q : PUnit → SortSt → Prop} (h : Q ⟨⟩ (f st)) : SoT X (modify f : StateT SortSt Sem PUnit) st Q := fun s p R k => W.kasC_modify (k ⟨⟩ (f st) s p h)
theorem SoT.set {st st' : SortSt} {Q : PUnit → SortSt → Prop} (h : Q ⟨⟩ st') : SoT X (set st' : StateT SortSt Sem PUnit) st Q := fun s p R k => by
  unfold W.kasC
  rw [StateT.run_set]
  exact wpAny_pure (k ⟨⟩ st' s p h)
theorem SoT.mono {α : Type} {m : StateT SortSt Sem α} {st : SortSt} {Q Q' : α → SortSt → Prop} (h : SoT X m st Q) (k : ∀ a st', Q a st' → Q' a st') : SoT X m st Q' := fun s p R kr => h s p R fun a st' s' p' q => kr a st' s' p' (k a st' q)
theorem SoT.rule {r : String} {st : SortSt} {Q : Unit → SortSt → Prop} (h : Q () st) : SoT X (liftM (PySem.rule r : Sem Unit) : StateT SortSt Sem Unit) st Q := fun s p R k => W.kasC_lift (wpAny_rule (k () st s p h))
theorem SoT.lt {x y : Keyed} {st : SortSt} {Q : Option Bool → SortSt → Prop} (hx : X.It x) (hy : X.It y) (hk : kindOf st = X.κ) (h : Q (some (X.lv x y)) st) : SoT X (lt' x y) st Q := fun s p R k => by
  rw [lt'_eq]
  refine W.kasC_bind (W.kasC_get ?_)
  have hc0 : wpAny (model X.prog X.w) X.A (keyLt' (kindOf st) x.1 y.1) (fun b s' => b = X.lv x y ∧ X.P s') (fun _ _ => False) s := by rw [hk]; exact X.cmp x y hx hy s p (fun b s' => b = X.lv x y ∧ X.P s') fun s' p' => ⟨rfl, p'⟩
  refine W.kasC_bind (W.kasC_lift (wpAny_attempt (wpAny_mono hc0 (fun c s' hc => ?_) fun _ _ hF => False.elim hF)))
  obtain ⟨rfl, p'⟩ := hc
  exact W.kasC_pure (k _ st s' p' h)
theorem SoT.elem {arr : Array Keyed} {i : Nat} {x : Keyed} {st : SortSt} {Q : Keyed → SortSt → Prop} (e : arr[i]? = some x) (h : Q x st) : SoT X (elem' arr i) st Q := by
  rw [elem'_eq, e]
  exact SoT.pure h
theorem SoT.range {β : Type} {a b : Nat} {c : β} {f : Nat → β → StateT SortSt Sem (ForInStep β)} {st : SortSt} {Q : β → SortSt → Prop} (I : Nat → β → SortSt → Prop) (h0 : I 0 c st)
    (step : ∀ k v st', k < b - a → I k v st' → SoT X (f (a + k) v) st' fun r st'' => match r with | .done v' => Q v' st'' | .yield v' => I (k + 1) v' st'') (fin : ∀ v st', I (b - a) v st' → Q v st') : SoT X (forIn [a:b] c f) st Q := fun s p R kr => by
  refine W.kasC_range ?_
  have key : ∀ (n k : Nat) (v : β) (st' : SortSt) (s : Shared), k + n = b - a → I k v st' → X.P s → W.kasC (model X.prog X.w) X.A X.E (forIn (List.range' (a + k) n) v f) R st' s := by
    intro n
    induction n with
    | zero =>
      intro k v st' s hk hi p
      exact W.kasC_nil (kr _ _ _ p (fin _ _ (by rw [← hk, Nat.add_zero]; exact hi)))
    | succ n ih =>
      intro k v st' s hk hi p
      rw [List.range'_succ]
      refine W.kasC_cons (step k v st' (by omega) hi s p _ fun r st'' s' p' q => ?_)
      cases r with
      | done v' => exact kr _ _ _ p' q
      | yield v' =>
        show W.kasC _ _ _ (forIn (List.range' (a + k + 1) n) v' f) R st'' s'
        rw [Nat.add_assoc]
        exact ih (k + 1) v' st'' s' (by omega) q p'
  exact key (b - a) 0 c st s (by omega) h0 p
end
def gallop' : Bool → Keyed → Array Keyed → Nat → Nat → Nat → StateT SortSt Sem (Option Nat) := sortPriv% PySem.Builtin.gallop
def mergeLo' : Array Keyed → Array Keyed → StateT SortSt Sem (Array Keyed) := sortPriv% PySem.Builtin.mergeLo
def mergeHi' : Array Keyed → Array Keyed → StateT SortSt Sem (Array Keyed) := sortPriv% PySem.Builtin.mergeHi
def beyond' (left : Bool) (key : Keyed) (arr : Array Keyed) (base : Nat) (i : Nat) : StateT SortSt Sem (Option Bool) := do
  let x ← elem' arr (base + i)
  if left then lt' x key else return (← lt' key x).map (!·)
theorem gallop'_eq (left : Bool) (key : Keyed) (arr : Array Keyed) (base n hint : Nat) : gallop' left key arr base n hint = (do
  let mut lastofs := 0
  let mut ofs := 1
  let mut lo := 0
  let mut hi := 0
  let some right ← beyond' left key arr base hint | return none
  if right then
    let maxofs := n - hint
    for _ in [0:n] do
      if ofs ≥ maxofs then break
      let some more ← beyond' left key arr base (hint + ofs) | return none
      if !more then break
      lastofs := ofs
      ofs := 2 * ofs + 1
    lo := hint + lastofs + 1
    hi := hint + min ofs maxofs
  else
    let maxofs := hint + 1
    for _ in [0:n] do
      if ofs ≥ maxofs then break
      let some found ← beyond' left key arr base (hint - ofs) | return none
      if found then break
      lastofs := ofs
      ofs := 2 * ofs + 1
    lo := hint + 1 - min ofs maxofs
    hi := hint - lastofs
  for _ in [0:n] do
    if lo ≥ hi then break
    let m := lo + (hi - lo) / 2
    let some more ← beyond' left key arr base m | return none
    if more then lo := m + 1 else hi := m
  return some hi) := rfl
end L2
set_option Elab.async false
set_option linter.all false
set_option maxRecDepth 100000
set_option maxHeartbeats 4000000
namespace L2
open PySem PySem.Spec PyProof.Rows
section
variable {X : SEnv}
/-- true up to a place, then false -/
structure Galp (X : SEnv) (left : Bool) (key : Keyed) (arr : Array Keyed) (base n : Nat) (B : Nat → Bool) : Prop where
  ik : X.It key
  at_ : ∀ i, i < n → ∃ x, arr[base + i]? = some x ∧ X.It x ∧ B i = (if left then X.lv x key else !(X.lv key x))
  mono : ∀ i j, i ≤ j → j < n → B j = true → B i = true
theorem beyond_ok {left : Bool} {key : Keyed} {arr : Array Keyed} {base n i : Nat} {B : Nat → Bool} (g : Galp X left key arr base n B) {st : SortSt} {Q : Option Bool → SortSt → Prop} (hk : kindOf st = X.κ) (hi : i < n) (h : Q (some (B i)) st) : SoT X (beyond' left key arr base i) st Q := by
  obtain ⟨x, e, hx, eB⟩ := g.at_ i hi
  unfold beyond'
  refine SoT.bind (SoT.elem e ?_)
  cases left with
  | true =>
    simp only [if_true] at eB ⊢
    rw [eB] at h
    exact SoT.lt hx g.ik hk h
  | false =>
    simp only [Bool.false_eq_true, if_false] at eB ⊢
    rw [eB] at h
    exact SoT.bind (SoT.lt g.ik hx hk (SoT.pure h))
def binPart (left : Bool) (key : Keyed) (arr : Array Keyed) (base n lo0 hi0 : Nat) : StateT SortSt Sem (Option Nat) := do
  let mut lo := lo0
  let mut hi := hi0
  for _ in [0:n] do
    if lo ≥ hi then break
    let m := lo + (hi - lo) / 2
    let some more ← beyond' left key arr base m | return none
    if more then lo := m + 1 else hi := m
  return some hi
theorem bin_ok {left : Bool} {key : Keyed} {arr : Array Keyed} {base n lo hi : Nat} {B : Nat → Bool} (g : Galp X left key arr base n B) {st : SortSt} {Q : Option Nat → SortSt → Prop} (hk : kindOf st = X.κ) (h1 : lo ≤ hi) (h2 : hi ≤ n) (h3 : lo = 0 ∨ B (lo - 1) = true) (h4 : hi = n ∨ B hi = false)
    (h : ∀ k, k ≤ n → (∀ i, i < k → B i = true) → (∀ i, k ≤ i → i < n → B i = false) → Q (some k) st) : SoT X (binPart left key arr base n lo hi) st Q := by
  unfold binPart
  dsimp only
  refine SoT.bind (SoT.range (fun k v st' => st' = st ∧ v.1 = none ∧ v.2.1 ≤ v.2.2 ∧ v.2.2 ≤ n ∧ (v.2.1 = 0 ∨ B (v.2.1 - 1) = true) ∧ (v.2.2 = n ∨ B v.2.2 = false) ∧ v.2.2 - v.2.1 ≤ n - k) ⟨rfl, rfl, h1, h2, h3, h4, by dsimp only; omega⟩ ?_ ?_)
  · rintro k ⟨v0, l, r⟩ st' hkn ⟨rfl, rfl, a1, a2, a3, a4, a5⟩
    dsimp only at a1 a2 a3 a4 a5 ⊢
    by_cases e : l ≥ r
    · rw [if_pos e]
      refine SoT.pure ?_
      dsimp only
      have : l = r := by omega
      subst this
      refine SoT.pure (h l a2 (fun i hi' => ?_) fun i h5 h6 => ?_)
      · rcases a3 with z | z
        · omega
        · exact g.mono i (l - 1) (by omega) (by omega) z
      · rcases a4 with z | z
        · omega
        · cases eb : B i with
          | false => rfl
          | true => rw [g.mono l i h5 h6 eb] at z; cases z
    · rw [if_neg e]
      have hm : l + (r - l) / 2 < n := by omega
      refine SoT.bind (beyond_ok g hk hm ?_)
      dsimp only
      cases eb : B (l + (r - l) / 2) with
      | true =>
        rw [if_pos rfl]
        refine SoT.pure ⟨rfl, rfl, by dsimp only; omega, a2, .inr (by dsimp only; rw [Nat.add_sub_cancel]; exact eb), a4, by dsimp only; omega⟩
      | false =>
        rw [if_neg (by decide)]
        refine SoT.pure ⟨rfl, rfl, by dsimp only; omega, by dsimp only; omega, a3, .inr eb, by dsimp only; omega⟩
  · rintro ⟨v0, l, r⟩ st' ⟨rfl, rfl, a1, a2, a3, a4, a5⟩
    dsimp only at a1 a2 a3 a4 a5 ⊢
    have : l = r := by omega
    subst this
    refine SoT.pure (h l a2 (fun i hi' => ?_) fun i h5 h6 => ?_)
    · rcases a3 with z | z
      · omega
      · exact g.mono i (l - 1) (by omega) (by omega) z
    · rcases a4 with z | z
      · omega
      · cases eb : B i with
        | false => rfl
        | true => rw [g.mono l i h5 h6 eb] at z; cases z
theorem gallop_ok {left : Bool} {key : Keyed} {arr : Array Keyed} {base n hint : Nat} {B : Nat → Bool} (g : Galp X left key arr base n B) {st : SortSt} {Q : Option Nat → SortSt → Prop} (hk : kindOf st = X.κ) (hh : hint < n)
    (h : ∀ k, k ≤ n → (∀ i, i < k → B i = true) → (∀ i, k ≤ i → i < n → B i = false) → Q (some k) st) : SoT X (gallop' left key arr base n hint) st Q := by
  rw [gallop'_eq]
  refine SoT.bind (beyond_ok g hk hh ?_)
  dsimp only
  cases hb : B hint with
  | true =>
    rw [if_pos rfl]
    refine SoT.bind (SoT.range (fun k v st' => st' = st ∧ v.1 = none ∧ v.2.1 < v.2.2 ∧ k + 1 ≤ v.2.2 ∧ hint + v.2.1 < n ∧ B (hint + v.2.1) = true) ⟨rfl, rfl, by decide, Nat.le_refl _, hh, hb⟩ ?_ ?_)
    · rintro k ⟨v0, l, r⟩ st' hkn ⟨rfl, rfl, a1, a2, a3, a4⟩
      dsimp only at a1 a2 a3 a4 ⊢
      by_cases e : r ≥ n - hint
      · rw [if_pos e]
        refine SoT.pure ?_
        dsimp only
        exact (show SoT X (binPart left key arr base n (hint + l + 1) (hint + min r (n - hint))) st' Q from bin_ok g hk (by omega) (by omega) (.inr (by rw [Nat.add_sub_cancel]; exact a4)) (.inl (by omega)) h)
      · rw [if_neg e]
        refine SoT.bind (beyond_ok g hk (by omega) ?_)
        dsimp only
        cases eb : B (hint + r) with
        | true =>
          rw [if_neg (by decide)]
          exact SoT.pure ⟨rfl, rfl, by dsimp only; omega, by dsimp only; omega, by dsimp only; omega, eb⟩
        | false =>
          rw [if_pos (by decide)]
          refine SoT.pure ?_
          dsimp only
          refine (show SoT X (binPart left key arr base n (hint + l + 1) (hint + min r (n - hint))) st' Q from bin_ok g hk (by omega) (by omega) (.inr (by rw [Nat.add_sub_cancel]; exact a4)) (.inr (by rw [Nat.min_eq_left (by omega)]; exact eb)) h)
    · rintro ⟨v0, l, r⟩ st' ⟨rfl, rfl, a1, a2, a3, a4⟩
      dsimp only at a1 a2 a3 a4 ⊢
      exact (show SoT X (binPart left key arr base n (hint + l + 1) (hint + min r (n - hint))) st' Q from bin_ok g hk (by omega) (by omega) (.inr (by rw [Nat.add_sub_cancel]; exact a4)) (.inl (by omega)) h)
  | false =>
    rw [if_neg (by decide)]
    refine SoT.bind (SoT.range (fun k v st' => st' = st ∧ v.1 = none ∧ v.2.1 < v.2.2 ∧ k + 1 ≤ v.2.2 ∧ v.2.1 ≤ hint ∧ B (hint - v.2.1) = false) ⟨rfl, rfl, by decide, Nat.le_refl _, Nat.zero_le _, hb⟩ ?_ ?_)
    · rintro k ⟨v0, l, r⟩ st' hkn ⟨rfl, rfl, a1, a2, a3, a4⟩
      dsimp only at a1 a2 a3 a4 ⊢
      by_cases e : r ≥ hint + 1
      · rw [if_pos e]
        refine SoT.pure ?_
        dsimp only
        exact (show SoT X (binPart left key arr base n (hint + 1 - min r (hint + 1)) (hint - l)) st' Q from bin_ok g hk (by omega) (by omega) (.inl (by omega)) (.inr a4) h)
      · rw [if_neg e]
        refine SoT.bind (beyond_ok g hk (by omega) ?_)
        dsimp only
        cases eb : B (hint - r) with
        | false =>
          rw [if_neg (by decide)]
          exact SoT.pure ⟨rfl, rfl, by dsimp only; omega, by dsimp only; omega, by dsimp only; omega, eb⟩
        | true =>
          rw [if_pos rfl]
          refine SoT.pure ?_
          dsimp only
          exact (show SoT X (binPart left key arr base n (hint + 1 - min r (hint + 1)) (hint - l)) st' Q from bin_ok g hk (by omega) (by omega) (.inr (by rw [Nat.min_eq_left (by omega), show hint + 1 - r - 1 = hint - r by omega]; exact eb)) (.inr a4) h)
    · rintro ⟨v0, l, r⟩ st' ⟨rfl, rfl, a1, a2, a3, a4⟩
      dsimp only at a1 a2 a3 a4 ⊢
      exact (show SoT X (binPart left key arr base n (hint + 1 - min r (hint + 1)) (hint - l)) st' Q from bin_ok g hk (by omega) (by omega) (.inl (by omega)) (.inr a4) h)
end
end L2
set_option Elab.async false
set_option linter.all false
set_option maxRecDepth 100000
set_option maxHeartbeats 4000000
namespace L2
open PySem PySem.Spec PyProof.Rows
abbrev setGal (st : SortSt) (g : Nat) : SortSt := SortSt.mk' (kindOf st) (arrOf st) (pendingOf st) g (failedOf st)
def setMinGallop' (g : Nat) : StateT SortSt Sem Unit := modify fun s => setGal s g
theorem mergeLo'_eq (a b : Array Keyed) : mergeLo' a b = (do
  rule "list.sort.merge-lo"
  let total := a.size + b.size
  let done (out : Array Keyed) (ia ib : Nat) := out ++ a.extract ia a.size ++ b.extract ib b.size
  let lastOfA (out : Array Keyed) (ia ib : Nat) := out ++ b.extract ib b.size ++ a.extract ia a.size
  let mut out : Array Keyed := #[← elem' b 0]
  let mut ia := 0
  let mut ib := 1
  if ib == b.size then return done out ia ib
  if ia + 1 == a.size then return lastOfA out ia ib
  let mut minGallop := gallopOf (← get)
  for _ in [0:total] do
    let mut acount := 0
    let mut bcount := 0
    for _ in [0:total] do
      let some bWins ← lt' (← elem' b ib) (← elem' a ia) | return done out ia ib
      if bWins then
        out := out.push (← elem' b ib); ib := ib + 1; bcount := bcount + 1; acount := 0
        if ib == b.size then return done out ia ib
        if bcount ≥ minGallop then break
      else
        out := out.push (← elem' a ia); ia := ia + 1; acount := acount + 1; bcount := 0
        if ia + 1 == a.size then return lastOfA out ia ib
        if acount ≥ minGallop then break
    rule "list.sort.gallop"
    minGallop := minGallop + 1
    for _ in [0:total] do
      if minGallop > 1 then minGallop := minGallop - 1
      setMinGallop' minGallop
      let some k ← gallop' false (← elem' b ib) a ia (a.size - ia) 0 | return done out ia ib
      acount := k
      if k > 0 then
        out := out ++ a.extract ia (ia + k); ia := ia + k
        if ia + 1 == a.size then return lastOfA out ia ib
        if ia == a.size then return done out ia ib
      out := out.push (← elem' b ib); ib := ib + 1
      if ib == b.size then return done out ia ib
      let some k ← gallop' true (← elem' a ia) b ib (b.size - ib) 0 | return done out ia ib
      bcount := k
      if k > 0 then
        out := out ++ b.extract ib (ib + k); ib := ib + k
        if ib == b.size then return done out ia ib
      out := out.push (← elem' a ia); ia := ia + 1
      if ia + 1 == a.size then return lastOfA out ia ib
      if acount < 7 && bcount < 7 then break
    minGallop := minGallop + 1
    setMinGallop' minGallop
  unsupported "internal:list.sort.merge-bound") := rfl
section
variable {X : SEnv}
/-- two sorted lists, merged as far as these places -/
structure Mrg (X : SEnv) (A B out : List Keyed) (ia ib : Nat) : Prop where
  pm : out.Perm (A.take ia ++ B.take ib)
  so : out.Pairwise X.le
  la : ∀ x ∈ out, ∀ y ∈ A.drop ia, X.le x y
  lb : ∀ x ∈ out, ∀ y ∈ B.drop ib, X.le x y
variable {A B out : List Keyed} {ia ib k : Nat} {x y : Keyed}
theorem drop_at' {L : List Keyed} {i : Nat} {x : Keyed} (e : L[i]? = some x) : L.drop i = x :: L.drop (i + 1) := by
  have h := (List.getElem?_eq_some_iff.mp e)
  rw [List.drop_eq_getElem_cons h.1, h.2]
theorem so_head {L : List Keyed} (s : L.Pairwise X.le) {i : Nat} {x : Keyed} (e : L[i]? = some x) : ∀ z ∈ L.drop i, X.le x z := fun z hz => by
  have := s.sublist (List.drop_sublist i L)
  rw [drop_at' e] at this hz
  rcases List.mem_cons.mp hz with q | q
  · rw [q]; exact X.refl _
  · exact (List.pairwise_cons.mp this).1 z q
theorem Mrg.pushB (m : Mrg X A B out ia ib) (sB : B.Pairwise X.le) (e : B[ib]? = some y) (h : ∀ z ∈ A.drop ia, X.le y z) : Mrg X A B (out ++ [y]) ia (ib + 1) := by
  have ed := drop_at' e
  refine ⟨?_, ?_, fun x hx z hz => ?_, fun x hx z hz => ?_⟩
  · rw [List.take_add_one, e]
    show (out ++ [y]).Perm (A.take ia ++ (B.take ib ++ [y]))
    rw [← List.append_assoc]
    exact m.pm.append_right _
  · refine List.pairwise_append.mpr ⟨m.so, List.pairwise_singleton _ _, fun x hx z hz => ?_⟩
    rw [List.mem_singleton.mp hz]
    exact m.lb x hx y (by rw [ed]; exact List.mem_cons_self ..)
  · rcases List.mem_append.mp hx with q | q
    · exact m.la x q z hz
    · rw [List.mem_singleton.mp q]; exact h z hz
  · rcases List.mem_append.mp hx with q | q
    · exact m.lb x q z (by rw [ed]; exact List.mem_cons_of_mem _ hz)
    · rw [List.mem_singleton.mp q]; exact so_head sB e z (by rw [ed]; exact List.mem_cons_of_mem _ hz)
theorem Mrg.pushA (m : Mrg X A B out ia ib) (sA : A.Pairwise X.le) (e : A[ia]? = some y) (h : ∀ z ∈ B.drop ib, X.le y z) : Mrg X A B (out ++ [y]) (ia + 1) ib := by
  have ed := drop_at' e
  refine ⟨?_, ?_, fun x hx z hz => ?_, fun x hx z hz => ?_⟩
  · rw [List.take_add_one, e]
    show (out ++ [y]).Perm ((A.take ia ++ [y]) ++ B.take ib)
    refine (m.pm.append_right _).trans ?_
    rw [List.append_assoc, List.append_assoc]
    exact List.Perm.append_left _ List.perm_append_comm
  · refine List.pairwise_append.mpr ⟨m.so, List.pairwise_singleton _ _, fun x hx z hz => ?_⟩
    rw [List.mem_singleton.mp hz]
    exact m.la x hx y (by rw [ed]; exact List.mem_cons_self ..)
  · rcases List.mem_append.mp hx with q | q
    · exact m.la x q z (by rw [ed]; exact List.mem_cons_of_mem _ hz)
    · rw [List.mem_singleton.mp q]; exact so_head sA e z (by rw [ed]; exact List.mem_cons_of_mem _ hz)
  · rcases List.mem_append.mp hx with q | q
    · exact m.lb x q z hz
    · rw [List.mem_singleton.mp q]; exact h z hz
theorem Mrg.extA (m : Mrg X A B out ia ib) (sA : A.Pairwise X.le) : ∀ (k : Nat), ia + k ≤ A.length → (∀ i y, i < k → A[ia + i]? = some y → ∀ z ∈ B.drop ib, X.le y z) → Mrg X A B (out ++ (A.drop ia).take k) (ia + k) ib
  | 0, _, _ => by rw [List.take_zero, List.append_nil]; exact m
  | k + 1, hl, h => by
    have m' := m.extA sA k (by omega) fun i y hi e => h i y (by omega) e
    obtain ⟨y, e⟩ : ∃ y, A[ia + k]? = some y := ⟨_, List.getElem?_eq_getElem (by omega)⟩
    have := m'.pushA sA e (h k y (Nat.lt_succ_self _) e)
    rw [List.append_assoc] at this
    rw [List.take_add_one, List.getElem?_drop, e]
    exact this
theorem Mrg.extB (m : Mrg X A B out ia ib) (sB : B.Pairwise X.le) : ∀ (k : Nat), ib + k ≤ B.length → (∀ i y, i < k → B[ib + i]? = some y → ∀ z ∈ A.drop ia, X.le y z) → Mrg X A B (out ++ (B.drop ib).take k) ia (ib + k)
  | 0, _, _ => by rw [List.take_zero, List.append_nil]; exact m
  | k + 1, hl, h => by
    have m' := m.extB sB k (by omega) fun i y hi e => h i y (by omega) e
    obtain ⟨y, e⟩ : ∃ y, B[ib + k]? = some y := ⟨_, List.getElem?_eq_getElem (by omega)⟩
    have := m'.pushB sB e (h k y (Nat.lt_succ_self _) e)
    rw [List.append_assoc] at this
    rw [List.take_add_one, List.getElem?_drop, e]
    exact this
/-- what a merge comes to -/
def Mgd (X : SEnv) (A B : List Keyed) (m : List Keyed) : Prop := m.Perm (A ++ B) ∧ m.Pairwise X.le
theorem Mrg.fin1 (m : Mrg X A B out ia ib) (sA : A.Pairwise X.le) (sB : B.Pairwise X.le) (h : ∀ x ∈ A.drop ia, ∀ y ∈ B.drop ib, X.le x y) : Mgd X A B (out ++ A.drop ia ++ B.drop ib) := by
  refine ⟨?_, ?_⟩
  · have p1 : (out ++ A.drop ia ++ B.drop ib).Perm ((A.take ia ++ B.take ib) ++ A.drop ia ++ B.drop ib) := (m.pm.append_right _).append_right _
    refine p1.trans ?_
    have e : A ++ B = (A.take ia ++ A.drop ia) ++ (B.take ib ++ B.drop ib) := by rw [List.take_append_drop, List.take_append_drop]
    rw [e]
    simp only [List.append_assoc]
    refine List.Perm.append_left _ ?_
    rw [← List.append_assoc, ← List.append_assoc]
    exact List.Perm.append_right _ List.perm_append_comm
  · refine List.pairwise_append.mpr ⟨List.pairwise_append.mpr ⟨m.so, sA.sublist (List.drop_sublist _ _), m.la⟩, sB.sublist (List.drop_sublist _ _), fun x hx y hy => ?_⟩
    rcases List.mem_append.mp hx with q | q
    · exact m.lb x q y hy
    · exact h x q y hy
theorem Mrg.fin2 (m : Mrg X A B out ia ib) (sA : A.Pairwise X.le) (sB : B.Pairwise X.le) (h : ∀ y ∈ B.drop ib, ∀ x ∈ A.drop ia, X.le y x) : Mgd X A B (out ++ B.drop ib ++ A.drop ia) := by
  refine ⟨?_, ?_⟩
  · have p1 : (out ++ B.drop ib ++ A.drop ia).Perm ((A.take ia ++ B.take ib) ++ B.drop ib ++ A.drop ia) := (m.pm.append_right _).append_right _
    refine p1.trans ?_
    have e : A ++ B = (A.take ia ++ A.drop ia) ++ (B.take ib ++ B.drop ib) := by rw [List.take_append_drop, List.take_append_drop]
    rw [e]
    simp only [List.append_assoc]
    refine List.Perm.append_left _ ?_
    rw [← List.append_assoc]
    exact List.perm_append_comm
  · refine List.pairwise_append.mpr ⟨List.pairwise_append.mpr ⟨m.so, sB.sublist (List.drop_sublist _ _), m.lb⟩, sA.sublist (List.drop_sublist _ _), fun x hx y hy => ?_⟩
    rcases List.mem_append.mp hx with q | q
    · exact m.la x q y hy
    · exact h x q y hy
end
end L2
set_option Elab.async false
set_option linter.all false
set_option maxRecDepth 100000
set_option maxHeartbeats 4000000
namespace L2
open PySem PySem.Spec PyProof.Rows
section
variable {X : SEnv}
/-- the sorter's state, but for the gallop's number -/
def GalEq (st st' : SortSt) : Prop := ∃ g, st' = setGal st g
theorem GalEq.kind {st st' : SortSt} (h : GalEq st st') : kindOf st' = kindOf st := by obtain ⟨g, rfl⟩ := h; rfl
theorem GalEq.set {st st' : SortSt} (h : GalEq st st') (g : Nat) : GalEq st (setGal st' g) := by obtain ⟨g', rfl⟩ := h; exact ⟨g, rfl⟩
theorem GalEq.refl (st : SortSt) : GalEq st st := ⟨gallopOf st, rfl⟩
theorem ex_k (a : Array Keyed) (i k : Nat) : (a.extract i (i + k)).toList = (a.toList.drop i).take k := by rw [Array.toList_extract, List.extract_eq_take_drop, Nat.add_sub_cancel_left]
theorem ex_all (a : Array Keyed) (i : Nat) : (a.extract i a.size).toList = a.toList.drop i := by
  rw [Array.toList_extract, List.extract_eq_take_drop, List.take_of_length_le (by rw [List.length_drop, Array.length_toList]; exact Nat.le_refl _)]
abbrev V7 := Option (Array Keyed) × Array Keyed × Nat × Nat × Nat × Nat × Nat
def loT3 (a b out : Array Keyed) (ia ib mg ac bc : Nat) : StateT SortSt Sem (ForInStep V7) := elem' a ia >>= fun x =>
  if (ia + 1 + 1 == a.size) = true then pure (.done (some (out.push x ++ b.extract ib b.size ++ a.extract (ia + 1) a.size), out.push x, ia + 1, ib, mg, ac, bc))
  else if (decide (ac < 7) && decide (bc < 7)) = true then pure (.done (none, out.push x, ia + 1, ib, mg, ac, bc)) else pure (.yield (none, out.push x, ia + 1, ib, mg, ac, bc))
def loT2 (a b out : Array Keyed) (ia ib mg ac bc : Nat) : StateT SortSt Sem (ForInStep V7) := elem' a ia >>= fun x => gallop' true x b ib (b.size - ib) 0 >>= fun r => match r with
  | some k => if k > 0 then (if (ib + k == b.size) = true then pure (.done (some (out ++ b.extract ib (ib + k) ++ a.extract ia a.size ++ b.extract (ib + k) b.size), out ++ b.extract ib (ib + k), ia, ib + k, mg, ac, k)) else loT3 a b (out ++ b.extract ib (ib + k)) ia (ib + k) mg ac k) else loT3 a b out ia ib mg ac k
  | _ => pure (.done (some (out ++ a.extract ia a.size ++ b.extract ib b.size), out, ia, ib, mg, ac, bc))
def loT1 (a b out : Array Keyed) (ia ib mg ac bc : Nat) : StateT SortSt Sem (ForInStep V7) := elem' b ib >>= fun y =>
  if (ib + 1 == b.size) = true then pure (.done (some (out.push y ++ a.extract ia a.size ++ b.extract (ib + 1) b.size), out.push y, ia, ib + 1, mg, ac, bc)) else loT2 a b (out.push y) ia (ib + 1) mg ac bc
def loT0 (a b out : Array Keyed) (ia ib mg ac bc : Nat) : StateT SortSt Sem (ForInStep V7) := setMinGallop' mg >>= fun _ => elem' b ib >>= fun y => gallop' false y a ia (a.size - ia) 0 >>= fun r => match r with
  | some k => if k > 0 then (if (ia + k + 1 == a.size) = true then pure (.done (some (out ++ a.extract ia (ia + k) ++ b.extract ib b.size ++ a.extract (ia + k) a.size), out ++ a.extract ia (ia + k), ia + k, ib, mg, k, bc)) else if (ia + k == a.size) = true then pure (.done (some (out ++ a.extract ia (ia + k) ++ a.extract (ia + k) a.size ++ b.extract ib b.size), out ++ a.extract ia (ia + k), ia + k, ib, mg, k, bc)) else loT1 a b (out ++ a.extract ia (ia + k)) (ia + k) ib mg k bc) else loT1 a b out ia ib mg k bc
  | _ => pure (.done (some (out ++ a.extract ia a.size ++ b.extract ib b.size), out, ia, ib, mg, ac, bc))
/-- two runs to be merged -/
structure MPre (X : SEnv) (a b : Array Keyed) : Prop where
  a1 : 1 ≤ a.size
  b1 : 1 ≤ b.size
  sA : a.toList.Pairwise X.le
  sB : b.toList.Pairwise X.le
  iA : ∀ x ∈ a.toList, X.It x
  iB : ∀ x ∈ b.toList, X.It x
  h1 : ∀ y, b[0]? = some y → ∀ x ∈ a.toList, X.le y x
  h2 : ∀ x, a[a.size - 1]? = some x → ∀ y ∈ b.toList, X.le y x
/-- under way -/
def LoJ (X : SEnv) (a b : Array Keyed) (st : SortSt) (base : Nat) (out : Array Keyed) (ia ib : Nat) (st' : SortSt) : Prop := GalEq st st' ∧ Mrg X a.toList b.toList out.toList ia ib ∧ ia + 1 < a.size ∧ ib < b.size ∧ base ≤ ia + ib
def LoF (X : SEnv) (a b : Array Keyed) (st : SortSt) (r : Option (Array Keyed)) (st' : SortSt) : Prop := ∃ m, r = some m ∧ GalEq st st' ∧ Mgd X a.toList b.toList m.toList
def LoR (X : SEnv) (a b : Array Keyed) (st : SortSt) (base : Nat) (r : ForInStep V7) (st' : SortSt) : Prop := match r with
  | .done v => LoF X a b st v.1 st' ∨ (v.1 = none ∧ LoJ X a b st base v.2.1 v.2.2.1 v.2.2.2.1 st')
  | .yield v => v.1 = none ∧ LoJ X a b st base v.2.1 v.2.2.1 v.2.2.2.1 st'
variable {a b out : Array Keyed} {ia ib mg ac bc base : Nat} {st st' : SortSt}
theorem ends_A (p : MPre X a b) (m : Mrg X a.toList b.toList out.toList ia ib) (e : ia + 1 = a.size) (g : GalEq st st') : LoF X a b st (some (out ++ b.extract ib b.size ++ a.extract ia a.size)) st' := by
  refine ⟨_, rfl, g, ?_⟩
  rw [Array.toList_append, Array.toList_append, ex_all, ex_all]
  refine m.fin2 p.sA p.sB fun y hy x hx => ?_
  obtain ⟨x0, e0⟩ : ∃ x0, a[a.size - 1]? = some x0 := ⟨_, Array.getElem?_eq_getElem (by omega)⟩
  have e1 : a.toList[ia]? = some x0 := by rw [Array.getElem?_toList, show ia = a.size - 1 by omega]; exact e0
  rw [drop_at' e1, List.drop_of_length_le (by rw [Array.length_toList]; omega)] at hx
  rw [List.mem_singleton.mp hx]
  exact p.h2 x0 e0 y (List.mem_of_mem_drop hy)
theorem ends_B (p : MPre X a b) (m : Mrg X a.toList b.toList out.toList ia ib) (e : ib = b.size ∨ ia = a.size) (g : GalEq st st') : LoF X a b st (some (out ++ a.extract ia a.size ++ b.extract ib b.size)) st' := by
  refine ⟨_, rfl, g, ?_⟩
  rw [Array.toList_append, Array.toList_append, ex_all, ex_all]
  refine m.fin1 p.sA p.sB fun x hx y hy => ?_
  rcases e with e | e
  · rw [List.drop_of_length_le (by rw [Array.length_toList]; omega)] at hy; cases hy
  · rw [List.drop_of_length_le (by rw [Array.length_toList]; omega)] at hx; cases hx
theorem at_l {a : Array Keyed} {i : Nat} (h : i < a.size) : ∃ x, a[i]? = some x ∧ a.toList[i]? = some x ∧ x ∈ a.toList := by
  obtain ⟨x, e⟩ : ∃ x, a[i]? = some x := ⟨_, Array.getElem?_eq_getElem h⟩
  exact ⟨x, e, by rw [Array.getElem?_toList]; exact e, List.mem_of_getElem? (by rw [Array.getElem?_toList]; exact e)⟩
theorem loT3_ok (p : MPre X a b) (m : Mrg X a.toList b.toList out.toList ia ib) (ha : ia + 1 < a.size) (hb : ib < b.size) (hbase : base ≤ ia + ib) (g : GalEq st st') (hx : ∀ x, a.toList[ia]? = some x → ∀ z ∈ b.toList.drop ib, X.le x z) : SoT X (loT3 a b out ia ib mg ac bc) st' (LoR X a b st base) := by
  obtain ⟨x, e, e', _⟩ := at_l (show ia < a.size by omega)
  unfold loT3
  refine SoT.bind (SoT.elem e ?_)
  have m' : Mrg X a.toList b.toList (out.push x).toList (ia + 1) ib := by rw [Array.toList_push]; exact m.pushA p.sA e' (hx x e')
  split
  · rename_i q
    exact SoT.pure (.inl (ends_A p m' (eq_of_beq q) g))
  · rename_i q
    have q : ¬ ia + 1 + 1 = a.size := fun z => q (beq_iff_eq.mpr z)
    split
    · exact SoT.pure (.inr ⟨rfl, g, m', by dsimp only; omega, hb, by dsimp only; omega⟩)
    · exact SoT.pure ⟨rfl, g, m', by dsimp only; omega, hb, by dsimp only; omega⟩
theorem gal_r (p : MPre X a b) {y : Keyed} (hy : X.It y) (ia : Nat) : Galp X false y a ia (a.size - ia) (fun i => match a[ia + i]? with | some x => !(X.lv y x) | none => false) := by
  refine ⟨hy, fun i hi => ?_, fun i j hij hj h => ?_⟩
  · obtain ⟨x, e, _, hx⟩ := at_l (show ia + i < a.size by omega)
    exact ⟨x, e, p.iA x hx, by rw [e]; rfl⟩
  · obtain ⟨x, e, e', hx⟩ := at_l (show ia + i < a.size by omega)
    obtain ⟨z, ez, ez', hz⟩ := at_l (show ia + j < a.size by omega)
    rw [ez] at h
    rw [e]
    have h : (!(X.lv y z)) = true := h
    have h : X.lv y z = false := by cases q : X.lv y z with | false => rfl | true => rw [q] at h; cases h
    have le1 : X.le x z := by
      refine so_head p.sA e' z (List.mem_iff_getElem?.mpr ⟨j - i, ?_⟩)
      rw [List.getElem?_drop, show ia + i + (j - i) = ia + j by omega]; exact ez'
    show (!(X.lv y x)) = true
    rw [show X.lv y x = false from X.trans (y := z) le1 h]
    rfl
theorem gal_l (p : MPre X a b) {y : Keyed} (hy : X.It y) (ib : Nat) : Galp X true y b ib (b.size - ib) (fun i => match b[ib + i]? with | some x => X.lv x y | none => false) := by
  refine ⟨hy, fun i hi => ?_, fun i j hij hj h => ?_⟩
  · obtain ⟨x, e, _, hx⟩ := at_l (show ib + i < b.size by omega)
    exact ⟨x, e, p.iB x hx, by rw [e]; rfl⟩
  · obtain ⟨x, e, e', hx⟩ := at_l (show ib + i < b.size by omega)
    obtain ⟨z, ez, ez', hz⟩ := at_l (show ib + j < b.size by omega)
    rw [ez] at h
    rw [e]
    have le1 : X.le x z := by
      refine so_head p.sB e' z (List.mem_iff_getElem?.mpr ⟨j - i, ?_⟩)
      rw [List.getElem?_drop, show ib + i + (j - i) = ib + j by omega]; exact ez'
    show X.lv x y = true
    cases q : X.lv x y with
    | true => rfl
    | false =>
      have : X.le y x := q
      have : X.lv z y = false := X.trans this le1
      have h : X.lv z y = true := h
      rw [this] at h; cases h
theorem loT2_ok (p : MPre X a b) (hk : kindOf st = X.κ) (m : Mrg X a.toList b.toList out.toList ia ib) (ha : ia + 1 < a.size) (hb : ib < b.size) (hbase : base ≤ ia + ib) (g : GalEq st st') : SoT X (loT2 a b out ia ib mg ac bc) st' (LoR X a b st base) := by
  obtain ⟨x, e, e', hxm⟩ := at_l (show ia < a.size by omega)
  unfold loT2
  refine SoT.bind (SoT.elem e ?_)
  refine SoT.bind (gallop_ok (gal_l p (p.iA x hxm) ib) (g.kind.trans hk) (by omega) fun k hk' hlt hge => ?_)
  dsimp only
  have rest : ∀ x', a.toList[ia]? = some x' → ∀ z ∈ b.toList.drop (ib + k), X.le x' z := fun x' ex z hz => by
    rw [e'] at ex
    cases ex
    obtain ⟨i, ei⟩ := List.mem_iff_getElem?.mp hz
    rw [List.getElem?_drop, Array.getElem?_toList] at ei
    have hi := (Array.getElem?_eq_some_iff.mp ei).1
    have := hge (k + i) (by omega) (by omega)
    rw [show ib + (k + i) = ib + k + i by omega, ei] at this
    exact this
  have m' : Mrg X a.toList b.toList (out ++ b.extract ib (ib + k)).toList ia (ib + k) := by
    rw [Array.toList_append, ex_k]
    refine m.extB p.sB k (by rw [Array.length_toList]; omega) fun i y hi ey z hz => ?_
    have := hlt i hi
    rw [Array.getElem?_toList] at ey
    rw [ey] at this
    exact X.trans (X.of_lt this) (so_head p.sA e' z hz)
  by_cases h0 : k > 0
  · rw [if_pos h0]
    split
    · rename_i q
      exact SoT.pure (.inl (ends_B p m' (.inl (eq_of_beq q)) g))
    · rename_i q
      have q : ¬ ib + k = b.size := fun z => q (beq_iff_eq.mpr z)
      exact loT3_ok p m' ha (by omega) (by omega) g rest
  · rw [if_neg h0]
    have : k = 0 := by omega
    subst this
    exact loT3_ok p m ha hb hbase g rest
theorem loT1_ok (p : MPre X a b) (hk : kindOf st = X.κ) (m : Mrg X a.toList b.toList out.toList ia ib) (ha : ia + 1 < a.size) (hb : ib < b.size) (hbase : base ≤ ia + ib) (g : GalEq st st') (hy : ∀ y, b.toList[ib]? = some y → ∀ z ∈ a.toList.drop ia, X.le y z) : SoT X (loT1 a b out ia ib mg ac bc) st' (LoR X a b st base) := by
  obtain ⟨y, e, e', _⟩ := at_l hb
  unfold loT1
  refine SoT.bind (SoT.elem e ?_)
  have m' : Mrg X a.toList b.toList (out.push y).toList ia (ib + 1) := by rw [Array.toList_push]; exact m.pushB p.sB e' (hy y e')
  split
  · rename_i q
    exact SoT.pure (.inl (ends_B p m' (.inl (eq_of_beq q)) g))
  · rename_i q
    have q : ¬ ib + 1 = b.size := fun z => q (beq_iff_eq.mpr z)
    exact loT2_ok p hk m' ha (by omega) (by omega) g
theorem loT0_ok (p : MPre X a b) (hk : kindOf st = X.κ) (m : Mrg X a.toList b.toList out.toList ia ib) (ha : ia + 1 < a.size) (hb : ib < b.size) (hbase : base ≤ ia + ib) (g : GalEq st st') : SoT X (loT0 a b out ia ib mg ac bc) st' (LoR X a b st base) := by
  obtain ⟨y, e, e', hym⟩ := at_l hb
  unfold loT0 setMinGallop'
  refine SoT.bind (SoT.modify ?_)
  have g' := g.set mg
  generalize setGal st' mg = st2 at g' ⊢
  refine SoT.bind (SoT.elem e ?_)
  refine SoT.bind (gallop_ok (gal_r p (p.iB y hym) ia) (g'.kind.trans hk) (by omega) fun k hk' hlt hge => ?_)
  dsimp only
  have rest : ∀ y', b.toList[ib]? = some y' → ∀ z ∈ a.toList.drop (ia + k), X.le y' z := fun y' ey z hz => by
    rw [e'] at ey
    cases ey
    obtain ⟨i, ei⟩ := List.mem_iff_getElem?.mp hz
    rw [List.getElem?_drop, Array.getElem?_toList] at ei
    have hi := (Array.getElem?_eq_some_iff.mp ei).1
    have := hge (k + i) (by omega) (by omega)
    rw [show ia + (k + i) = ia + k + i by omega, ei] at this
    have this : (!(X.lv y z)) = false := this
    refine X.of_lt ?_
    cases q : X.lv y z with
    | true => rfl
    | false => rw [q] at this; cases this
  have m' : Mrg X a.toList b.toList (out ++ a.extract ia (ia + k)).toList (ia + k) ib := by
    rw [Array.toList_append, ex_k]
    refine m.extA p.sA k (by rw [Array.length_toList]; omega) fun i x hi ex z hz => ?_
    have := hlt i hi
    rw [Array.getElem?_toList] at ex
    rw [ex] at this
    have this : (!(X.lv y x)) = true := this
    have le1 : X.le x y := by
      show X.lv y x = false
      cases q : X.lv y x with
      | false => rfl
      | true => rw [q] at this; cases this
    exact X.trans le1 (so_head p.sB e' z hz)
  by_cases h0 : k > 0
  · rw [if_pos h0]
    split
    · rename_i q
      exact SoT.pure (.inl (ends_A p m' (eq_of_beq q) g'))
    · rename_i q
      have q : ¬ ia + k + 1 = a.size := fun z => q (beq_iff_eq.mpr z)
      split
      · rename_i q'
        exact SoT.pure (.inl (ends_B p m' (.inr (eq_of_beq q')) g'))
      · rename_i q'
        have q' : ¬ ia + k = a.size := fun z => q' (beq_iff_eq.mpr z)
        exact loT1_ok p hk m' (by omega) hb (by omega) g' rest
  · rw [if_neg h0]
    have : k = 0 := by omega
    subst this
    exact loT1_ok p hk m ha hb hbase g' rest
end
end L2
set_option Elab.async false
set_option linter.all false
set_option maxRecDepth 100000
set_option maxHeartbeats 4000000
namespace L2
open PySem PySem.Spec PyProof.Rows
section
variable {X : SEnv} {a b : Array Keyed} {st : SortSt}
theorem mergeLo_ok (p : MPre X a b) {Q : Array Keyed → SortSt → Prop} (hk : kindOf st = X.κ) (h : ∀ m st', GalEq st st' → Mgd X a.toList b.toList m.toList → Q m st') : SoT X (mergeLo' a b) st Q := by
  have fin : ∀ {r st'}, LoF X a b st r st' → ∃ m, r = some m ∧ Q m st' := fun ⟨m, e, g, d⟩ => ⟨m, e, h m _ g d⟩
  rw [mergeLo'_eq]
  refine SoT.bind (SoT.rule ?_)
  have pa := p.a1
  have pb := p.b1
  obtain ⟨y0, e0, e0', hy0⟩ := at_l (show 0 < b.size by omega)
  refine SoT.bind (SoT.elem e0 ?_)
  dsimp only
  have m0 : Mrg X a.toList b.toList (#[y0] : Array Keyed).toList 0 1 := by
    refine ⟨?_, List.pairwise_singleton _ _, fun x hx z hz => ?_, fun x hx z hz => ?_⟩
    · rw [List.take_zero, List.take_add_one, List.take_zero, e0']; exact List.Perm.refl _
    · rw [List.mem_singleton.mp hx]; exact p.h1 y0 e0 z hz
    · rw [List.mem_singleton.mp hx]
      exact so_head p.sB e0' z (by rw [List.drop_zero]; exact List.mem_of_mem_drop hz)
  by_cases q1 : 1 = b.size
  · rw [if_pos (beq_iff_eq.mpr q1)]
    obtain ⟨m, e, qm⟩ := fin (ends_B p m0 (.inl q1) (GalEq.refl st))
    cases e
    exact SoT.pure qm
  rw [if_neg (fun z => q1 (beq_iff_eq.mp z))]
  by_cases q2 : 0 + 1 = a.size
  · rw [if_pos (beq_iff_eq.mpr q2)]
    obtain ⟨m, e, qm⟩ := fin (ends_A p m0 q2 (GalEq.refl st))
    cases e
    exact SoT.pure qm
  rw [if_neg (fun z => q2 (beq_iff_eq.mp z))]
  refine SoT.bind (SoT.get ?_)
  refine SoT.bind (SoT.range (fun k v st' => v.1 = none ∧ LoJ X a b st (k + 1) v.2.1 v.2.2.1 v.2.2.2.1 st') ⟨rfl, GalEq.refl st, m0, by dsimp only; omega, by dsimp only; omega, by dsimp only; omega⟩ ?_ ?_)
  · rintro k ⟨v0, out, ia, ib, mg⟩ st1 hkn ⟨rfl, g1, m1, ha1, hb1, hbase1⟩
    dsimp only at m1 ha1 hb1 hbase1 ⊢
    refine SoT.bind (SoT.mono (Q := fun v st' => LoF X a b st v.1 st' ∨ (v.1 = none ∧ LoJ X a b st (k + 2) v.2.1 v.2.2.1 v.2.2.2.1 st')) (SoT.range (fun j v st' => v.1 = none ∧ LoJ X a b st (k + 1 + min j 1) v.2.1 v.2.2.1 v.2.2.2.1 st') ⟨rfl, g1, m1, ha1, hb1, by dsimp only; omega⟩ ?_ ?_) ?_)
    · rintro j ⟨v0, out, ia, ib, ac, bc⟩ st2 hjn ⟨rfl, g2, m2, ha2, hb2, hbase2⟩
      dsimp only at m2 ha2 hb2 hbase2 ⊢
      obtain ⟨x, ex, ex', hx⟩ := at_l (show ia < a.size by omega)
      obtain ⟨y, ey, ey', hy⟩ := at_l hb2
      refine SoT.bind (SoT.elem ey (SoT.bind (SoT.elem ex (SoT.bind (SoT.lt (p.iB y hy) (p.iA x hx) (g2.kind.trans hk) ?_)))))
      dsimp only
      cases hl : X.lv y x with
      | true =>
        rw [if_pos rfl]
        refine SoT.bind (SoT.elem ey ?_)
        have m3 : Mrg X a.toList b.toList (out.push y).toList ia (ib + 1) := by rw [Array.toList_push]; exact m2.pushB p.sB ey' fun z hz => X.trans (X.of_lt hl) (so_head p.sA ex' z hz)
        by_cases q : ib + 1 = b.size
        · rw [if_pos (beq_iff_eq.mpr q)]
          exact SoT.pure (.inl (ends_B p m3 (.inl q) g2))
        · rw [if_neg (fun z => q (beq_iff_eq.mp z))]
          by_cases q' : bc + 1 ≥ mg
          · rw [if_pos q']
            exact SoT.pure (.inr ⟨rfl, g2, m3, ha2, by dsimp only; omega, by dsimp only; omega⟩)
          · rw [if_neg q']
            exact SoT.pure ⟨rfl, g2, m3, ha2, by dsimp only; omega, by dsimp only; omega⟩
      | false =>
        rw [if_neg (by decide)]
        refine SoT.bind (SoT.elem ex ?_)
        have m3 : Mrg X a.toList b.toList (out.push x).toList (ia + 1) ib := by rw [Array.toList_push]; exact m2.pushA p.sA ex' fun z hz => X.trans (show X.le x y from hl) (so_head p.sB ey' z hz)
        by_cases q : ia + 1 + 1 = a.size
        · rw [if_pos (beq_iff_eq.mpr q)]
          exact SoT.pure (.inl (ends_A p m3 q g2))
        · rw [if_neg (fun z => q (beq_iff_eq.mp z))]
          by_cases q' : ac + 1 ≥ mg
          · rw [if_pos q']
            exact SoT.pure (.inr ⟨rfl, g2, m3, by dsimp only; omega, hb2, by dsimp only; omega⟩)
          · rw [if_neg q']
            exact SoT.pure ⟨rfl, g2, m3, by dsimp only; omega, hb2, by dsimp only; omega⟩
    · rintro ⟨v0, out, ia, ib, ac, bc⟩ st2 ⟨rfl, g2, m2, ha2, hb2, hbase2⟩
      exact .inr ⟨rfl, g2, m2, ha2, hb2, by dsimp only at hbase2 ⊢; omega⟩
    · rintro ⟨v0, out, ia, ib, ac, bc⟩ st2 hv
      dsimp only at hv ⊢
      rcases hv with hv | ⟨rfl, g2, m2, ha2, hb2, hbase2⟩
      · obtain ⟨m, rfl, qm⟩ := fin hv
        exact SoT.pure (SoT.pure qm)
      · dsimp only
        refine SoT.bind (SoT.rule ?_)
        refine SoT.bind (SoT.mono (Q := fun v st' => LoF X a b st v.1 st' ∨ (v.1 = none ∧ LoJ X a b st (k + 2) v.2.1 v.2.2.1 v.2.2.2.1 st')) (SoT.range (fun j v st' => v.1 = none ∧ LoJ X a b st (k + 2) v.2.1 v.2.2.1 v.2.2.2.1 st') ⟨rfl, g2, m2, ha2, hb2, hbase2⟩ ?_ ?_) ?_)
        · rintro j ⟨v0, out, ia, ib, mg', ac, bc⟩ st3 hjn ⟨rfl, g3, m3, ha3, hb3, hbase3⟩
          dsimp only at m3 ha3 hb3 hbase3 ⊢
          by_cases q : mg' > 1
          · rw [if_pos q]
            exact (show SoT X (loT0 a b out ia ib (mg' - 1) ac bc) st3 (LoR X a b st (k + 2)) from loT0_ok p hk m3 ha3 hb3 hbase3 g3).mono fun r st' hr => by cases r <;> exact hr
          · rw [if_neg q]
            exact (show SoT X (loT0 a b out ia ib mg' ac bc) st3 (LoR X a b st (k + 2)) from loT0_ok p hk m3 ha3 hb3 hbase3 g3).mono fun r st' hr => by cases r <;> exact hr
        · rintro ⟨v0, out, ia, ib, mg', ac, bc⟩ st3 hv
          exact .inr hv
        · rintro ⟨v0, out, ia, ib, mg', ac, bc⟩ st3 hv
          dsimp only at hv ⊢
          rcases hv with hv | ⟨rfl, g3, m3, ha3, hb3, hbase3⟩
          · obtain ⟨m, rfl, qm⟩ := fin hv
            exact SoT.pure (SoT.pure qm)
          · dsimp only
            unfold setMinGallop'
            refine SoT.bind (SoT.modify (SoT.pure ⟨rfl, g3.set _, m3, ha3, hb3, hbase3⟩))
  · rintro ⟨v0, out, ia, ib, mg⟩ st1 ⟨rfl, g1, m1, ha1, hb1, hbase1⟩
    dsimp only at ha1 hb1 hbase1
    omega
end
end L2
set_option Elab.async false
set_option linter.all false
set_option maxRecDepth 100000
set_option maxHeartbeats 4000000
namespace L2
open PySem PySem.Spec PyProof.Rows
theorem mergeHi'_eq (a b : Array Keyed) : mergeHi' a b = (do
  rule "list.sort.merge-hi"
  let total := a.size + b.size
  let done (out : Array Keyed) (na nb : Nat) := a.extract 0 na ++ b.extract 0 nb ++ out.reverse
  let firstOfB (out : Array Keyed) (na nb : Nat) := b.extract 0 nb ++ a.extract 0 na ++ out.reverse
  let mut na := a.size - 1
  let mut nb := b.size
  let mut out : Array Keyed := #[← elem' a na]
  if na == 0 then return done out na nb
  if nb == 1 then return firstOfB out na nb
  let mut minGallop := gallopOf (← get)
  for _ in [0:total] do
    let mut acount := 0
    let mut bcount := 0
    for _ in [0:total] do
      let some aWins ← lt' (← elem' b (nb - 1)) (← elem' a (na - 1)) | return done out na nb
      if aWins then
        na := na - 1; out := out.push (← elem' a na); acount := acount + 1; bcount := 0
        if na == 0 then return done out na nb
        if acount ≥ minGallop then break
      else
        nb := nb - 1; out := out.push (← elem' b nb); bcount := bcount + 1; acount := 0
        if nb == 1 then return firstOfB out na nb
        if bcount ≥ minGallop then break
    rule "list.sort.gallop"
    minGallop := minGallop + 1
    for _ in [0:total] do
      if minGallop > 1 then minGallop := minGallop - 1
      setMinGallop' minGallop
      let some at_ ← gallop' false (← elem' b (nb - 1)) a 0 na (na - 1) | return done out na nb
      let k := na - at_
      acount := k
      if k > 0 then
        out := out ++ (a.extract at_ na).reverse; na := at_
        if na == 0 then return done out na nb
      nb := nb - 1; out := out.push (← elem' b nb)
      if nb == 1 then return firstOfB out na nb
      let some at_ ← gallop' true (← elem' a (na - 1)) b 0 nb (nb - 1) | return done out na nb
      let k := nb - at_
      bcount := k
      if k > 0 then
        out := out ++ (b.extract at_ nb).reverse; nb := at_
        if nb == 1 then return firstOfB out na nb
        if nb == 0 then return done out na nb
      na := na - 1; out := out.push (← elem' a na)
      if na == 0 then return done out na nb
      if acount < 7 && bcount < 7 then break
    minGallop := minGallop + 1
    setMinGallop' minGallop
  unsupported "internal:list.sort.merge-bound") := rfl
section
variable {X : SEnv}
/-- two sorted lists, merged from their ends down to these places -/
structure MrH (X : SEnv) (A B out : List Keyed) (na nb : Nat) : Prop where
  pm : out.Perm (A.drop na ++ B.drop nb)
  so : out.Pairwise fun x y => X.le y x
  la : ∀ x ∈ out, ∀ y ∈ A.take na, X.le y x
  lb : ∀ x ∈ out, ∀ y ∈ B.take nb, X.le y x
variable {A B out : List Keyed} {na nb : Nat} {y : Keyed}
theorem so_last {L : List Keyed} (s : L.Pairwise X.le) {i : Nat} {x : Keyed} (e : L[i]? = some x) : ∀ z ∈ L.take (i + 1), X.le z x := fun z hz => by
  rw [List.take_add_one, e] at hz
  have := s.sublist (List.take_sublist (i + 1) L)
  rw [List.take_add_one, e] at this
  rcases List.mem_append.mp hz with q | q
  · exact (List.pairwise_append.mp this).2.2 z q x (List.mem_singleton.mpr rfl)
  · rw [List.mem_singleton.mp q]; exact X.refl _
theorem take_last {L : List Keyed} {i : Nat} {x : Keyed} (e : L[i]? = some x) : L.take (i + 1) = L.take i ++ [x] := by rw [List.take_add_one, e]; rfl
theorem MrH.pushA (m : MrH X A B out (na + 1) nb) (sA : A.Pairwise X.le) (e : A[na]? = some y) (h : ∀ z ∈ B.take nb, X.le z y) : MrH X A B (out ++ [y]) na nb := by
  have et := take_last e
  refine ⟨?_, ?_, fun x hx z hz => ?_, fun x hx z hz => ?_⟩
  · rw [drop_at' e]
    refine (List.perm_append_comm).trans ?_
    exact m.pm.cons y
  · refine List.pairwise_append.mpr ⟨m.so, List.pairwise_singleton _ _, fun x hx z hz => ?_⟩
    rw [List.mem_singleton.mp hz]
    exact m.la x hx y (by rw [et]; exact List.mem_append_right _ (List.mem_singleton.mpr rfl))
  · rcases List.mem_append.mp hx with q | q
    · exact m.la x q z (by rw [et]; exact List.mem_append_left _ hz)
    · rw [List.mem_singleton.mp q]; exact so_last sA e z (by rw [et]; exact List.mem_append_left _ hz)
  · rcases List.mem_append.mp hx with q | q
    · exact m.lb x q z hz
    · rw [List.mem_singleton.mp q]; exact h z hz
theorem MrH.pushB (m : MrH X A B out na (nb + 1)) (sB : B.Pairwise X.le) (e : B[nb]? = some y) (h : ∀ z ∈ A.take na, X.le z y) : MrH X A B (out ++ [y]) na nb := by
  have et := take_last e
  refine ⟨?_, ?_, fun x hx z hz => ?_, fun x hx z hz => ?_⟩
  · rw [drop_at' e]
    refine (List.perm_append_comm).trans ?_
    exact (m.pm.cons y).trans List.perm_middle.symm
  · refine List.pairwise_append.mpr ⟨m.so, List.pairwise_singleton _ _, fun x hx z hz => ?_⟩
    rw [List.mem_singleton.mp hz]
    exact m.lb x hx y (by rw [et]; exact List.mem_append_right _ (List.mem_singleton.mpr rfl))
  · rcases List.mem_append.mp hx with q | q
    · exact m.la x q z hz
    · rw [List.mem_singleton.mp q]; exact h z hz
  · rcases List.mem_append.mp hx with q | q
    · exact m.lb x q z (by rw [et]; exact List.mem_append_left _ hz)
    · rw [List.mem_singleton.mp q]; exact so_last sB e z (by rw [et]; exact List.mem_append_left _ hz)
theorem MrH.extA (sA : A.Pairwise X.le) : ∀ (k na : Nat) (out : List Keyed), MrH X A B out (na + k) nb → na + k ≤ A.length → (∀ i y, na ≤ i → i < na + k → A[i]? = some y → ∀ z ∈ B.take nb, X.le z y) → MrH X A B (out ++ ((A.drop na).take k).reverse) na nb
  | 0, na, out, m, _, _ => by rw [List.take_zero, List.reverse_nil, List.append_nil]; exact m
  | k + 1, na, out, m, hl, h => by
    have m' : MrH X A B out ((na + 1) + k) nb := by rw [show na + 1 + k = na + (k + 1) by omega]; exact m
    have m2 := MrH.extA sA k (na + 1) out m' (by omega) fun i y h1 h2 e => h i y (by omega) (by omega) e
    obtain ⟨y, e⟩ : ∃ y, A[na]? = some y := ⟨_, List.getElem?_eq_getElem (by omega)⟩
    have m3 := m2.pushA sA e (h na y (Nat.le_refl _) (by omega) e)
    rw [drop_at' e, List.take_succ_cons, List.reverse_cons, ← List.append_assoc]
    exact m3
theorem MrH.extB (sB : B.Pairwise X.le) : ∀ (k nb : Nat) (out : List Keyed), MrH X A B out na (nb + k) → nb + k ≤ B.length → (∀ i y, nb ≤ i → i < nb + k → B[i]? = some y → ∀ z ∈ A.take na, X.le z y) → MrH X A B (out ++ ((B.drop nb).take k).reverse) na nb
  | 0, nb, out, m, _, _ => by rw [List.take_zero, List.reverse_nil, List.append_nil]; exact m
  | k + 1, nb, out, m, hl, h => by
    have m' : MrH X A B out na ((nb + 1) + k) := by rw [show nb + 1 + k = nb + (k + 1) by omega]; exact m
    have m2 := MrH.extB sB k (nb + 1) out m' (by omega) fun i y h1 h2 e => h i y (by omega) (by omega) e
    obtain ⟨y, e⟩ : ∃ y, B[nb]? = some y := ⟨_, List.getElem?_eq_getElem (by omega)⟩
    have m3 := m2.pushB sB e (h nb y (Nat.le_refl _) (by omega) e)
    rw [drop_at' e, List.take_succ_cons, List.reverse_cons, ← List.append_assoc]
    exact m3
theorem MrH.fin1 (m : MrH X A B out na nb) (sA : A.Pairwise X.le) (sB : B.Pairwise X.le) (h : ∀ x ∈ A.take na, ∀ y ∈ B.take nb, X.le x y) : Mgd X A B (A.take na ++ B.take nb ++ out.reverse) := by
  refine ⟨?_, ?_⟩
  · refine (List.Perm.append_left _ ((List.reverse_perm out).trans m.pm)).trans ?_
    have e : A ++ B = (A.take na ++ A.drop na) ++ (B.take nb ++ B.drop nb) := by rw [List.take_append_drop, List.take_append_drop]
    rw [e]
    simp only [List.append_assoc]
    refine List.Perm.append_left _ ?_
    rw [← List.append_assoc, ← List.append_assoc]
    exact List.Perm.append_right _ List.perm_append_comm
  · refine List.pairwise_append.mpr ⟨List.pairwise_append.mpr ⟨sA.sublist (List.take_sublist _ _), sB.sublist (List.take_sublist _ _), h⟩, List.pairwise_reverse.mpr m.so, fun x hx y hy => ?_⟩
    rcases List.mem_append.mp hx with q | q
    · exact m.la y (List.mem_reverse.mp hy) x q
    · exact m.lb y (List.mem_reverse.mp hy) x q
theorem MrH.fin2 (m : MrH X A B out na nb) (sA : A.Pairwise X.le) (sB : B.Pairwise X.le) (h : ∀ y ∈ B.take nb, ∀ x ∈ A.take na, X.le y x) : Mgd X A B (B.take nb ++ A.take na ++ out.reverse) := by
  refine ⟨?_, ?_⟩
  · refine (List.Perm.append_left _ ((List.reverse_perm out).trans m.pm)).trans ?_
    have e : A ++ B = (A.take na ++ A.drop na) ++ (B.take nb ++ B.drop nb) := by rw [List.take_append_drop, List.take_append_drop]
    rw [e]
    refine (List.Perm.append_right _ List.perm_append_comm).trans ?_
    simp only [List.append_assoc]
    refine List.Perm.append_left _ ?_
    rw [← List.append_assoc, ← List.append_assoc]
    exact List.Perm.append_right _ List.perm_append_comm
  · refine List.pairwise_append.mpr ⟨List.pairwise_append.mpr ⟨sB.sublist (List.take_sublist _ _), sA.sublist (List.take_sublist _ _), h⟩, List.pairwise_reverse.mpr m.so, fun x hx y hy => ?_⟩
    rcases List.mem_append.mp hx with q | q
    · exact m.lb y (List.mem_reverse.mp hy) x q
    · exact m.la y (List.mem_reverse.mp hy) x q
end
end L2
set_option Elab.async false
set_option linter.all false
set_option maxRecDepth 100000
set_option maxHeartbeats 4000000
namespace L2
open PySem PySem.Spec PyProof.Rows
section
variable {X : SEnv}
theorem ex_0 (a : Array Keyed) (n : Nat) : (a.extract 0 n).toList = a.toList.take n := by rw [Array.toList_extract, List.extract_eq_take_drop, List.drop_zero, Nat.sub_zero]
theorem ex_m (a : Array Keyed) (i j : Nat) : (a.extract i j).toList = (a.toList.drop i).take (j - i) := by rw [Array.toList_extract, List.extract_eq_take_drop]
abbrev W7 := Option (Array Keyed) × Nat × Nat × Array Keyed × Nat × Nat × Nat
def hiT3 (a b out : Array Keyed) (na nb mg ac bc : Nat) : StateT SortSt Sem (ForInStep W7) := elem' a (na - 1) >>= fun x =>
  if (na - 1 == 0) = true then pure (.done (some (a.extract 0 (na - 1) ++ b.extract 0 nb ++ (out.push x).reverse), na - 1, nb, out.push x, mg, ac, bc))
  else if (decide (ac < 7) && decide (bc < 7)) = true then pure (.done (none, na - 1, nb, out.push x, mg, ac, bc)) else pure (.yield (none, na - 1, nb, out.push x, mg, ac, bc))
def hiT2 (a b out : Array Keyed) (na nb mg ac bc : Nat) : StateT SortSt Sem (ForInStep W7) := elem' a (na - 1) >>= fun x => gallop' true x b 0 nb (nb - 1) >>= fun r => match r with
  | some t => if nb - t > 0 then (if (t == 1) = true then pure (.done (some (b.extract 0 t ++ a.extract 0 na ++ (out ++ (b.extract t nb).reverse).reverse), na, t, out ++ (b.extract t nb).reverse, mg, ac, nb - t)) else if (t == 0) = true then pure (.done (some (a.extract 0 na ++ b.extract 0 t ++ (out ++ (b.extract t nb).reverse).reverse), na, t, out ++ (b.extract t nb).reverse, mg, ac, nb - t)) else hiT3 a b (out ++ (b.extract t nb).reverse) na t mg ac (nb - t)) else hiT3 a b out na nb mg ac (nb - t)
  | _ => pure (.done (some (a.extract 0 na ++ b.extract 0 nb ++ out.reverse), na, nb, out, mg, ac, bc))
def hiT1 (a b out : Array Keyed) (na nb mg ac bc : Nat) : StateT SortSt Sem (ForInStep W7) := elem' b (nb - 1) >>= fun y =>
  if (nb - 1 == 1) = true then pure (.done (some (b.extract 0 (nb - 1) ++ a.extract 0 na ++ (out.push y).reverse), na, nb - 1, out.push y, mg, ac, bc)) else hiT2 a b (out.push y) na (nb - 1) mg ac bc
def hiT0 (a b out : Array Keyed) (na nb mg ac bc : Nat) : StateT SortSt Sem (ForInStep W7) := setMinGallop' mg >>= fun _ => elem' b (nb - 1) >>= fun y => gallop' false y a 0 na (na - 1) >>= fun r => match r with
  | some t => if na - t > 0 then (if (t == 0) = true then pure (.done (some (a.extract 0 t ++ b.extract 0 nb ++ (out ++ (a.extract t na).reverse).reverse), t, nb, out ++ (a.extract t na).reverse, mg, na - t, bc)) else hiT1 a b (out ++ (a.extract t na).reverse) t nb mg (na - t) bc) else hiT1 a b out na nb mg (na - t) bc
  | _ => pure (.done (some (a.extract 0 na ++ b.extract 0 nb ++ out.reverse), na, nb, out, mg, ac, bc))
def HiJ (X : SEnv) (a b : Array Keyed) (st : SortSt) (base : Nat) (out : Array Keyed) (na nb : Nat) (st' : SortSt) : Prop := GalEq st st' ∧ MrH X a.toList b.toList out.toList na nb ∧ (1 ≤ na ∧ na ≤ a.size) ∧ (2 ≤ nb ∧ nb ≤ b.size) ∧ base ≤ (a.size - na) + (b.size - nb)
def HiR (X : SEnv) (a b : Array Keyed) (st : SortSt) (base : Nat) (r : ForInStep W7) (st' : SortSt) : Prop := match r with
  | .done v => LoF X a b st v.1 st' ∨ (v.1 = none ∧ HiJ X a b st base v.2.2.2.1 v.2.1 v.2.2.1 st')
  | .yield v => v.1 = none ∧ HiJ X a b st base v.2.2.2.1 v.2.1 v.2.2.1 st'
variable {a b out : Array Keyed} {na nb mg ac bc base : Nat} {st st' : SortSt}
theorem endh_1 (p : MPre X a b) (m : MrH X a.toList b.toList out.toList na nb) (e : na = 0 ∨ nb = 0) (g : GalEq st st') : LoF X a b st (some (a.extract 0 na ++ b.extract 0 nb ++ out.reverse)) st' := by
  refine ⟨_, rfl, g, ?_⟩
  rw [Array.toList_append, Array.toList_append, ex_0, ex_0, Array.toList_reverse]
  refine m.fin1 p.sA p.sB fun x hx y hy => ?_
  rcases e with e | e
  · rw [e, List.take_zero] at hx; cases hx
  · rw [e, List.take_zero] at hy; cases hy
theorem endh_2 (p : MPre X a b) (m : MrH X a.toList b.toList out.toList na nb) (e : nb = 1) (g : GalEq st st') : LoF X a b st (some (b.extract 0 nb ++ a.extract 0 na ++ out.reverse)) st' := by
  refine ⟨_, rfl, g, ?_⟩
  rw [Array.toList_append, Array.toList_append, ex_0, ex_0, Array.toList_reverse]
  refine m.fin2 p.sA p.sB fun y hy x hx => ?_
  have pb := p.b1
  obtain ⟨y0, e0, e0', _⟩ := at_l (show 0 < b.size by omega)
  rw [e, take_last e0', List.take_zero] at hy
  rw [List.mem_singleton.mp hy]
  exact p.h1 y0 e0 x (List.mem_of_mem_take hx)
theorem gal_rn (p : MPre X a b) {y : Keyed} (hy : X.It y) {n : Nat} (hn : n ≤ a.size) : Galp X false y a 0 n (fun i => match a[0 + i]? with | some x => !(X.lv y x) | none => false) := by
  have g := gal_r p hy 0
  exact ⟨hy, fun i hi => g.at_ i (by omega), fun i j hij hj h => g.mono i j hij (by omega) h⟩
theorem gal_ln (p : MPre X a b) {y : Keyed} (hy : X.It y) {n : Nat} (hn : n ≤ b.size) : Galp X true y b 0 n (fun i => match b[0 + i]? with | some x => X.lv x y | none => false) := by
  have g := gal_l p hy 0
  exact ⟨hy, fun i hi => g.at_ i (by omega), fun i j hij hj h => g.mono i j hij (by omega) h⟩
theorem hiT3_ok (p : MPre X a b) (m : MrH X a.toList b.toList out.toList na nb) (ha : 1 ≤ na ∧ na ≤ a.size) (hb : 2 ≤ nb ∧ nb ≤ b.size) (hbase : base ≤ (a.size - na) + (b.size - nb)) (g : GalEq st st') (hx : ∀ x, a.toList[na - 1]? = some x → ∀ z ∈ b.toList.take nb, X.le z x) : SoT X (hiT3 a b out na nb mg ac bc) st' (HiR X a b st base) := by
  obtain ⟨x, e, e', _⟩ := at_l (show na - 1 < a.size by omega)
  unfold hiT3
  refine SoT.bind (SoT.elem e ?_)
  have m' : MrH X a.toList b.toList (out.push x).toList (na - 1) nb := by
    rw [Array.toList_push]
    exact MrH.pushA (na := na - 1) (by rw [show na - 1 + 1 = na by omega]; exact m) p.sA e' (hx x e')
  by_cases q : na - 1 = 0
  · rw [if_pos (beq_iff_eq.mpr q)]
    exact SoT.pure (.inl (endh_1 p m' (.inl q) g))
  · rw [if_neg (fun z => q (beq_iff_eq.mp z))]
    split
    · exact SoT.pure (.inr ⟨rfl, g, m', by dsimp only; omega, hb, by dsimp only; omega⟩)
    · exact SoT.pure ⟨rfl, g, m', by dsimp only; omega, hb, by dsimp only; omega⟩
theorem hiT2_ok (p : MPre X a b) (hk : kindOf st = X.κ) (m : MrH X a.toList b.toList out.toList na nb) (ha : 1 ≤ na ∧ na ≤ a.size) (hb : 2 ≤ nb ∧ nb ≤ b.size) (hbase : base ≤ (a.size - na) + (b.size - nb)) (g : GalEq st st') : SoT X (hiT2 a b out na nb mg ac bc) st' (HiR X a b st base) := by
  obtain ⟨x, e, e', hxm⟩ := at_l (show na - 1 < a.size by omega)
  unfold hiT2
  refine SoT.bind (SoT.elem e ?_)
  refine SoT.bind (gallop_ok (gal_ln p (p.iA x hxm) hb.2) (g.kind.trans hk) (by omega) fun t ht hlt hge => ?_)
  dsimp only
  have rest : ∀ x', a.toList[na - 1]? = some x' → ∀ z ∈ b.toList.take t, X.le z x' := fun x' ex z hz => by
    rw [e'] at ex
    cases ex
    obtain ⟨i, ei⟩ := List.mem_iff_getElem?.mp hz
    have hi : i < t := by have := (List.getElem?_eq_some_iff.mp ei).1; rw [List.length_take] at this; omega
    rw [List.getElem?_take, if_pos hi, Array.getElem?_toList] at ei
    have := hlt i hi
    rw [Nat.zero_add, ei] at this
    exact X.of_lt this
  have m' : MrH X a.toList b.toList (out ++ (b.extract t nb).reverse).toList na t := by
    rw [Array.toList_append, Array.toList_reverse, ex_m]
    refine MrH.extB p.sB (nb - t) t out.toList (by rw [show t + (nb - t) = nb by omega]; exact m) (by rw [Array.length_toList]; omega) fun i y h1 h2 ey z hz => ?_
    rw [Array.getElem?_toList] at ey
    have := hge i h1 (by omega)
    rw [Nat.zero_add, ey] at this
    have this : X.le x y := this
    exact X.trans (so_last p.sA e' z (by rw [show na - 1 + 1 = na by omega]; exact hz)) this
  by_cases h0 : nb - t > 0
  · rw [if_pos h0]
    by_cases q : t = 1
    · rw [if_pos (beq_iff_eq.mpr q)]
      exact SoT.pure (.inl (endh_2 p m' q g))
    · rw [if_neg (fun z => q (beq_iff_eq.mp z))]
      by_cases q' : t = 0
      · rw [if_pos (beq_iff_eq.mpr q')]
        exact SoT.pure (.inl (endh_1 p m' (.inr q') g))
      · rw [if_neg (fun z => q' (beq_iff_eq.mp z))]
        exact hiT3_ok p m' ha (by omega) (by omega) g rest
  · rw [if_neg h0]
    have : t = nb := by omega
    subst this
    exact hiT3_ok p m ha hb hbase g rest
theorem hiT1_ok (p : MPre X a b) (hk : kindOf st = X.κ) (m : MrH X a.toList b.toList out.toList na nb) (ha : 1 ≤ na ∧ na ≤ a.size) (hb : 2 ≤ nb ∧ nb ≤ b.size) (hbase : base ≤ (a.size - na) + (b.size - nb)) (g : GalEq st st') (hy : ∀ y, b.toList[nb - 1]? = some y → ∀ z ∈ a.toList.take na, X.le z y) : SoT X (hiT1 a b out na nb mg ac bc) st' (HiR X a b st base) := by
  obtain ⟨y, e, e', _⟩ := at_l (show nb - 1 < b.size by omega)
  unfold hiT1
  refine SoT.bind (SoT.elem e ?_)
  have m' : MrH X a.toList b.toList (out.push y).toList na (nb - 1) := by
    rw [Array.toList_push]
    exact MrH.pushB (nb := nb - 1) (by rw [show nb - 1 + 1 = nb by omega]; exact m) p.sB e' (hy y e')
  by_cases q : nb - 1 = 1
  · rw [if_pos (beq_iff_eq.mpr q)]
    exact SoT.pure (.inl (endh_2 p m' q g))
  · rw [if_neg (fun z => q (beq_iff_eq.mp z))]
    exact hiT2_ok p hk m' ha (by omega) (by omega) g
theorem hiT0_ok (p : MPre X a b) (hk : kindOf st = X.κ) (m : MrH X a.toList b.toList out.toList na nb) (ha : 1 ≤ na ∧ na ≤ a.size) (hb : 2 ≤ nb ∧ nb ≤ b.size) (hbase : base ≤ (a.size - na) + (b.size - nb)) (g : GalEq st st') : SoT X (hiT0 a b out na nb mg ac bc) st' (HiR X a b st base) := by
  obtain ⟨y, e, e', hym⟩ := at_l (show nb - 1 < b.size by omega)
  unfold hiT0 setMinGallop'
  refine SoT.bind (SoT.modify ?_)
  have g' := g.set mg
  generalize setGal st' mg = st2 at g' ⊢
  refine SoT.bind (SoT.elem e ?_)
  refine SoT.bind (gallop_ok (gal_rn p (p.iB y hym) ha.2) (g'.kind.trans hk) (by omega) fun t ht hlt hge => ?_)
  dsimp only
  have rest : ∀ y', b.toList[nb - 1]? = some y' → ∀ z ∈ a.toList.take t, X.le z y' := fun y' ey z hz => by
    rw [e'] at ey
    cases ey
    obtain ⟨i, ei⟩ := List.mem_iff_getElem?.mp hz
    have hi : i < t := by have := (List.getElem?_eq_some_iff.mp ei).1; rw [List.length_take] at this; omega
    rw [List.getElem?_take, if_pos hi, Array.getElem?_toList] at ei
    have := hlt i hi
    rw [Nat.zero_add, ei] at this
    have this : (!(X.lv y z)) = true := this
    show X.lv y z = false
    cases q : X.lv y z with
    | false => rfl
    | true => rw [q] at this; cases this
  have m' : MrH X a.toList b.toList (out ++ (a.extract t na).reverse).toList t nb := by
    rw [Array.toList_append, Array.toList_reverse, ex_m]
    refine MrH.extA p.sA (na - t) t out.toList (by rw [show t + (na - t) = na by omega]; exact m) (by rw [Array.length_toList]; omega) fun i x h1 h2 ex z hz => ?_
    rw [Array.getElem?_toList] at ex
    have := hge i h1 (by omega)
    rw [Nat.zero_add, ex] at this
    have this : (!(X.lv y x)) = false := this
    have lt1 : X.lv y x = true := by
      cases q : X.lv y x with
      | true => rfl
      | false => rw [q] at this; cases this
    exact X.trans (so_last p.sB e' z (by rw [show nb - 1 + 1 = nb by omega]; exact hz)) (X.of_lt lt1)
  by_cases h0 : na - t > 0
  · rw [if_pos h0]
    by_cases q : t = 0
    · rw [if_pos (beq_iff_eq.mpr q)]
      exact SoT.pure (.inl (endh_1 p m' (.inl q) g'))
    · rw [if_neg (fun z => q (beq_iff_eq.mp z))]
      exact hiT1_ok p hk m' (by omega) hb (by omega) g' rest
  · rw [if_neg h0]
    have : t = na := by omega
    subst this
    exact hiT1_ok p hk m ha hb hbase g' rest
theorem mergeHi_ok (p : MPre X a b) {Q : Array Keyed → SortSt → Prop} (hk : kindOf st = X.κ) (h : ∀ m st', GalEq st st' → Mgd X a.toList b.toList m.toList → Q m st') : SoT X (mergeHi' a b) st Q := by
  have fin : ∀ {r st'}, LoF X a b st r st' → ∃ m, r = some m ∧ Q m st' := fun ⟨m, e, g, d⟩ => ⟨m, e, h m _ g d⟩
  rw [mergeHi'_eq]
  refine SoT.bind (SoT.rule ?_)
  have pa := p.a1
  have pb := p.b1
  obtain ⟨x0, e0, e0', hx0⟩ := at_l (show a.size - 1 < a.size by omega)
  dsimp only
  refine SoT.bind (SoT.elem e0 ?_)
  have m0 : MrH X a.toList b.toList (#[x0] : Array Keyed).toList (a.size - 1) b.size := by
    refine ⟨?_, List.pairwise_singleton _ _, fun x hx z hz => ?_, fun x hx z hz => ?_⟩
    · rw [drop_at' e0', List.drop_of_length_le (by rw [Array.length_toList]; omega), List.drop_of_length_le (by rw [Array.length_toList]; omega)]; exact List.Perm.refl _
    · rw [List.mem_singleton.mp hx]; exact so_last p.sA e0' z (by rw [take_last e0']; exact List.mem_append_left _ hz)
    · rw [List.mem_singleton.mp hx]; exact p.h2 x0 e0 z (List.mem_of_mem_take hz)
  by_cases q1 : a.size - 1 = 0
  · rw [if_pos (beq_iff_eq.mpr q1)]
    obtain ⟨m, e, qm⟩ := fin (endh_1 p m0 (.inl q1) (GalEq.refl st))
    cases e
    exact SoT.pure qm
  rw [if_neg (fun z => q1 (beq_iff_eq.mp z))]
  by_cases q2 : b.size = 1
  · rw [if_pos (beq_iff_eq.mpr q2)]
    obtain ⟨m, e, qm⟩ := fin (endh_2 p m0 q2 (GalEq.refl st))
    cases e
    exact SoT.pure qm
  rw [if_neg (fun z => q2 (beq_iff_eq.mp z))]
  refine SoT.bind (SoT.get ?_)
  refine SoT.bind (SoT.range (fun k v st' => v.1 = none ∧ HiJ X a b st (k + 1) v.2.2.2.1 v.2.1 v.2.2.1 st') ⟨rfl, GalEq.refl st, m0, by dsimp only; omega, by dsimp only; omega, by dsimp only; omega⟩ ?_ ?_)
  · rintro k ⟨v0, na, nb, out, mg⟩ st1 hkn ⟨rfl, g1, m1, ha1, hb1, hbase1⟩
    dsimp only at m1 ha1 hb1 hbase1 ⊢
    refine SoT.bind (SoT.mono (Q := fun v st' => LoF X a b st v.1 st' ∨ (v.1 = none ∧ HiJ X a b st (k + 2) v.2.2.2.1 v.2.1 v.2.2.1 st')) (SoT.range (fun j v st' => v.1 = none ∧ HiJ X a b st (k + 1 + min j 1) v.2.2.2.1 v.2.1 v.2.2.1 st') ⟨rfl, g1, m1, ha1, hb1, by dsimp only; omega⟩ ?_ ?_) ?_)
    · rintro j ⟨v0, na, nb, out, ac, bc⟩ st2 hjn ⟨rfl, g2, m2, ha2, hb2, hbase2⟩
      dsimp only at m2 ha2 hb2 hbase2 ⊢
      obtain ⟨x, ex, ex', hx⟩ := at_l (show na - 1 < a.size by omega)
      obtain ⟨y, ey, ey', hy⟩ := at_l (show nb - 1 < b.size by omega)
      refine SoT.bind (SoT.elem ey (SoT.bind (SoT.elem ex (SoT.bind (SoT.lt (p.iB y hy) (p.iA x hx) (g2.kind.trans hk) ?_)))))
      dsimp only
      cases hl : X.lv y x with
      | true =>
        rw [if_pos rfl]
        refine SoT.bind (SoT.elem ex ?_)
        have m3 : MrH X a.toList b.toList (out.push x).toList (na - 1) nb := by
          rw [Array.toList_push]
          exact MrH.pushA (na := na - 1) (by rw [show na - 1 + 1 = na by omega]; exact m2) p.sA ex' fun z hz => X.trans (so_last p.sB ey' z (by rw [show nb - 1 + 1 = nb by omega]; exact hz)) (X.of_lt hl)
        by_cases q : na - 1 = 0
        · rw [if_pos (beq_iff_eq.mpr q)]
          exact SoT.pure (.inl (endh_1 p m3 (.inl q) g2))
        · rw [if_neg (fun z => q (beq_iff_eq.mp z))]
          by_cases q' : ac + 1 ≥ mg
          · rw [if_pos q']
            exact SoT.pure (.inr ⟨rfl, g2, m3, by dsimp only; omega, hb2, by dsimp only; omega⟩)
          · rw [if_neg q']
            exact SoT.pure ⟨rfl, g2, m3, by dsimp only; omega, hb2, by dsimp only; omega⟩
      | false =>
        rw [if_neg (by decide)]
        refine SoT.bind (SoT.elem ey ?_)
        have m3 : MrH X a.toList b.toList (out.push y).toList na (nb - 1) := by
          rw [Array.toList_push]
          exact MrH.pushB (nb := nb - 1) (by rw [show nb - 1 + 1 = nb by omega]; exact m2) p.sB ey' fun z hz => X.trans (so_last p.sA ex' z (by rw [show na - 1 + 1 = na by omega]; exact hz)) (show X.le x y from hl)
        by_cases q : nb - 1 = 1
        · rw [if_pos (beq_iff_eq.mpr q)]
          exact SoT.pure (.inl (endh_2 p m3 q g2))
        · rw [if_neg (fun z => q (beq_iff_eq.mp z))]
          by_cases q' : bc + 1 ≥ mg
          · rw [if_pos q']
            exact SoT.pure (.inr ⟨rfl, g2, m3, ha2, by dsimp only; omega, by dsimp only; omega⟩)
          · rw [if_neg q']
            exact SoT.pure ⟨rfl, g2, m3, ha2, by dsimp only; omega, by dsimp only; omega⟩
    · rintro ⟨v0, na, nb, out, ac, bc⟩ st2 ⟨rfl, g2, m2, ha2, hb2, hbase2⟩
      exact .inr ⟨rfl, g2, m2, ha2, hb2, by dsimp only at hbase2 ⊢; omega⟩
    · rintro ⟨v0, na, nb, out, ac, bc⟩ st2 hv
      dsimp only at hv ⊢
      rcases hv with hv | ⟨rfl, g2, m2, ha2, hb2, hbase2⟩
      · obtain ⟨m, rfl, qm⟩ := fin hv
        exact SoT.pure (SoT.pure qm)
      · dsimp only
        refine SoT.bind (SoT.rule ?_)
        refine SoT.bind (SoT.mono (Q := fun v st' => LoF X a b st v.1 st' ∨ (v.1 = none ∧ HiJ X a b st (k + 2) v.2.2.2.1 v.2.1 v.2.2.1 st')) (SoT.range (fun j v st' => v.1 = none ∧ HiJ X a b st (k + 2) v.2.2.2.1 v.2.1 v.2.2.1 st') ⟨rfl, g2, m2, ha2, hb2, hbase2⟩ ?_ ?_) ?_)
        · rintro j ⟨v0, na, nb, out, mg', ac, bc⟩ st3 hjn ⟨rfl, g3, m3, ha3, hb3, hbase3⟩
          dsimp only at m3 ha3 hb3 hbase3 ⊢
          by_cases q : mg' > 1
          · rw [if_pos q]
            exact (show SoT X (hiT0 a b out na nb (mg' - 1) ac bc) st3 (HiR X a b st (k + 2)) from hiT0_ok p hk m3 ha3 hb3 hbase3 g3).mono fun r st' hr => by cases r <;> exact hr
          · rw [if_neg q]
            exact (show SoT X (hiT0 a b out na nb mg' ac bc) st3 (HiR X a b st (k + 2)) from hiT0_ok p hk m3 ha3 hb3 hbase3 g3).mono fun r st' hr => by cases r <;> exact hr
        · rintro ⟨v0, na, nb, out, mg', ac, bc⟩ st3 hv
          exact .inr hv
        · rintro ⟨v0, na, nb, out, mg', ac, bc⟩ st3 hv
          dsimp only at hv ⊢
          rcases hv with hv | ⟨rfl, g3, m3, ha3, hb3, hbase3⟩
          · obtain ⟨m, rfl, qm⟩ := fin hv
            exact SoT.pure (SoT.pure qm)
          · dsimp only
            unfold setMinGallop'
            refine SoT.bind (SoT.modify (SoT.pure ⟨rfl, g3.set _, m3, ha3, hb3, hbase3⟩))
  · rintro ⟨v0, na, nb, out, mg⟩ st1 ⟨rfl, g1, m1, ha1, hb1, hbase1⟩
    dsimp only at ha1 hb1 hbase1
    omega
end
end L2
set_option Elab.async false
set_option linter.all false
set_option maxRecDepth 100000
set_option maxHeartbeats 4000000
namespace L2
open PySem PySem.Spec PyProof.Rows
theorem mergeAt'_eq (i : Nat) : mergeAt' i = (do
  let s ← get
  let (some (sa, na, power), some (sb, nb, _)) := ((pendingOf s)[i]?, (pendingOf s)[i + 1]?) | unsupported "internal:list.sort.pending"
  set (setPending s (((pendingOf s).setIfInBounds i (sa, na + nb, power)).eraseIdxIfInBounds (i + 1)))
  let some k ← gallop' false (← elem' (arrOf s) sb) (arrOf s) sa na 0 | return false
  let (sa, na) := (sa + k, na - k)
  if na == 0 then return true
  let some nb ← gallop' true (← elem' (arrOf s) (sa + na - 1)) (arrOf s) sb nb (nb - 1) | return false
  if nb == 0 then return true
  let x := (arrOf s).extract sa sb
  let y := (arrOf s).extract sb (sb + nb)
  let merged ← if na ≤ nb then mergeLo' x y else mergeHi' x y
  modify fun s => setArr s (merged.toList.zipIdx.foldl (fun a (p, j) => a.setIfInBounds (sa + j) p) (arrOf s))
  return (failedOf (← get)).isNone) := rfl
section
variable {X : SEnv}
theorem write_back (s : Nat) : ∀ (ms : List Keyed) (n : Nat) (arr : Array Keyed), s + n + ms.length ≤ arr.size → ((ms.zipIdx n).foldl (fun a (q : Keyed × Nat) => a.setIfInBounds (s + q.2) q.1) arr).toList = arr.toList.take (s + n) ++ ms ++ arr.toList.drop (s + n + ms.length)
  | [], n, arr, _ => by
    rw [List.zipIdx_nil, List.foldl_nil, List.append_nil, List.length_nil, Nat.add_zero, List.take_append_drop]
  | m :: ms, n, arr, h => by
    rw [List.length_cons] at h ⊢
    rw [List.zipIdx_cons, List.foldl_cons, write_back s ms (n + 1) _ (by rw [Array.size_setIfInBounds]; omega), Array.toList_setIfInBounds]
    have hl : s + n < arr.toList.length := by rw [Array.length_toList]; omega
    have e1 : (arr.toList.set (s + n) m).take (s + (n + 1)) = arr.toList.take (s + n) ++ [m] := by
      rw [show s + (n + 1) = (s + n) + 1 by omega, List.take_add_one, List.getElem?_set_self hl, List.take_set_of_le (Nat.le_refl _)]
      rfl
    have e2 : (arr.toList.set (s + n) m).drop (s + (n + 1) + ms.length) = arr.toList.drop (s + n + (ms.length + 1)) := by
      rw [List.drop_set_of_lt (by omega), show s + (n + 1) + ms.length = s + n + (ms.length + 1) by omega]
    rw [e1, e2]
    simp only [List.append_assoc, List.singleton_append]
/-- a stretch of a list -/
abbrev seg (L : List Keyed) (s n : Nat) : List Keyed := (L.drop s).take n
theorem seg_at {L : List Keyed} {s n i : Nat} (h : i < n) : (seg L s n)[i]? = L[s + i]? := by rw [List.getElem?_take, if_pos h, List.getElem?_drop]
theorem seg_len {L : List Keyed} {s n : Nat} (h : s + n ≤ L.length) : (seg L s n).length = n := by rw [List.length_take, List.length_drop]; omega
theorem galR {arr : Array Keyed} {s n : Nat} {y : Keyed} (hy : X.It y) (so : (seg arr.toList s n).Pairwise X.le) (hz : s + n ≤ arr.size) (it : ∀ x ∈ arr.toList, X.It x) : Galp X false y arr s n (fun i => match arr[s + i]? with | some x => !(X.lv y x) | none => false) := by
  refine ⟨hy, fun i hi => ?_, fun i j hij hj h => ?_⟩
  · obtain ⟨x, e, _, hx⟩ := at_l (show s + i < arr.size by omega)
    exact ⟨x, e, it x hx, by rw [e]; rfl⟩
  · obtain ⟨x, e, e', hx⟩ := at_l (show s + i < arr.size by omega)
    obtain ⟨z, ez, ez', hz'⟩ := at_l (show s + j < arr.size by omega)
    rw [ez] at h
    rw [e]
    have h : (!(X.lv y z)) = true := h
    have h : X.lv y z = false := by cases q : X.lv y z with | false => rfl | true => rw [q] at h; cases h
    have le1 : X.le x z := by
      refine so_head so (i := i) (by rw [seg_at (by omega)]; exact e') z (List.mem_iff_getElem?.mpr ⟨j - i, ?_⟩)
      rw [List.getElem?_drop, show i + (j - i) = j by omega, seg_at hj]; exact ez'
    show (!(X.lv y x)) = true
    rw [show X.lv y x = false from X.trans (y := z) le1 h]
    rfl
theorem galL {arr : Array Keyed} {s n : Nat} {y : Keyed} (hy : X.It y) (so : (seg arr.toList s n).Pairwise X.le) (hz : s + n ≤ arr.size) (it : ∀ x ∈ arr.toList, X.It x) : Galp X true y arr s n (fun i => match arr[s + i]? with | some x => X.lv x y | none => false) := by
  refine ⟨hy, fun i hi => ?_, fun i j hij hj h => ?_⟩
  · obtain ⟨x, e, _, hx⟩ := at_l (show s + i < arr.size by omega)
    exact ⟨x, e, it x hx, by rw [e]; rfl⟩
  · obtain ⟨x, e, e', hx⟩ := at_l (show s + i < arr.size by omega)
    obtain ⟨z, ez, ez', hz'⟩ := at_l (show s + j < arr.size by omega)
    rw [ez] at h
    rw [e]
    have le1 : X.le x z := by
      refine so_head so (i := i) (by rw [seg_at (by omega)]; exact e') z (List.mem_iff_getElem?.mpr ⟨j - i, ?_⟩)
      rw [List.getElem?_drop, show i + (j - i) = j by omega, seg_at hj]; exact ez'
    show X.lv x y = true
    cases q : X.lv x y with
    | true => rfl
    | false =>
      have this : X.lv z y = false := X.trans (show X.le y x from q) le1
      have h : X.lv z y = true := h
      rw [this] at h; cases h
theorem mergeAt_ok {st : SortSt} {i sa na pw sb nb pw2 : Nat} {Q : Bool → SortSt → Prop} (hk : kindOf st = X.κ) (hf : failedOf st = none) (e1 : (pendingOf st)[i]? = some (sa, na, pw)) (e2 : (pendingOf st)[i + 1]? = some (sb, nb, pw2)) (hs : sb = sa + na) (hn : 1 ≤ na) (hb : 1 ≤ nb) (hz : sb + nb ≤ (arrOf st).size)
    (sA : (seg (arrOf st).toList sa na).Pairwise X.le) (sB : (seg (arrOf st).toList sb nb).Pairwise X.le) (it : ∀ x ∈ (arrOf st).toList, X.It x)
    (h : ∀ st' M, kindOf st' = X.κ → failedOf st' = none → pendingOf st' = (((pendingOf st).setIfInBounds i (sa, na + nb, pw)).eraseIdxIfInBounds (i + 1)) → (arrOf st').toList = (arrOf st).toList.take sa ++ M ++ (arrOf st).toList.drop (sb + nb) → M.Perm (seg (arrOf st).toList sa na ++ seg (arrOf st).toList sb nb) → M.Pairwise X.le → Q true st') : SoT X (mergeAt' i) st Q := by
  rw [mergeAt'_eq]
  refine SoT.bind (SoT.get ?_)
  rw [e1, e2]
  dsimp only
  refine SoT.bind (SoT.set ?_)
  obtain ⟨arr, harr⟩ : ∃ arr, arr = arrOf st := ⟨_, rfl⟩
  obtain ⟨pd, hpd⟩ : ∃ pd, pd = (((pendingOf st).setIfInBounds i (sa, na + nb, pw)).eraseIdxIfInBounds (i + 1)) := ⟨_, rfl⟩
  rw [← harr] at hz sA sB it h ⊢
  rw [← hpd] at h ⊢
  obtain ⟨L, hL⟩ : ∃ L, L = arr.toList := ⟨_, rfl⟩
  have hLl : L.length = arr.size := by rw [hL, Array.length_toList]
  have itL : ∀ x ∈ L, X.It x := by rw [hL]; exact it
  obtain ⟨y0, ey0, ey0', hy0⟩ := at_l (show sb < arr.size by omega)
  refine SoT.bind (SoT.elem ey0 ?_)
  have kS : ∀ {p}, kindOf (setPending st p) = X.κ := hk
  refine SoT.bind (gallop_ok (galR (it y0 hy0) sA (by omega) it) hk (by omega) fun k hkn hlt hge => ?_)
  dsimp only
  rw [← hL] at sA sB h ey0'
  have lenA : (seg L sa na).length = na := seg_len (by omega)
  have lenB : (seg L sb nb).length = nb := seg_len (by omega)
  have eB0 : (seg L sb nb)[0]? = some y0 := by rw [seg_at (by omega)]; exact ey0'
  have yB : ∀ z ∈ seg L sb nb, X.le y0 z := fun z hz => so_head sB eB0 z (by rw [List.drop_zero]; exact hz)
  have gA : ∀ (j : Nat) x, (seg L sa na)[j]? = some x → j < na ∧ arr[sa + j]? = some x := fun j x e => by
    have hj : j < na := by have := (List.getElem?_eq_some_iff.mp e).1; omega
    rw [seg_at hj, hL, Array.getElem?_toList] at e
    exact ⟨hj, e⟩
  have gB : ∀ (j : Nat) x, (seg L sb nb)[j]? = some x → j < nb ∧ arr[sb + j]? = some x := fun j x e => by
    have hj : j < nb := by have := (List.getElem?_eq_some_iff.mp e).1; omega
    rw [seg_at hj, hL, Array.getElem?_toList] at e
    exact ⟨hj, e⟩
  have hA0 : ∀ x ∈ (seg L sa na).take k, X.le x y0 := fun x hx => by
    obtain ⟨j, ej⟩ := List.mem_iff_getElem?.mp hx
    have hj : j < k := by have := (List.getElem?_eq_some_iff.mp ej).1; rw [List.length_take] at this; omega
    rw [List.getElem?_take, if_pos hj] at ej
    have := hlt j hj
    rw [(gA j x ej).2] at this
    have this : (!(X.lv y0 x)) = true := this
    show X.lv y0 x = false
    cases q : X.lv y0 x with
    | false => rfl
    | true => rw [q] at this; cases this
  have hA1 : ∀ x ∈ (seg L sa na).drop k, X.le y0 x := fun x hx => by
    obtain ⟨j, ej⟩ := List.mem_iff_getElem?.mp hx
    rw [List.getElem?_drop] at ej
    have := hge (k + j) (by omega) (gA _ x ej).1
    rw [(gA _ x ej).2] at this
    have this : (!(X.lv y0 x)) = false := this
    refine X.of_lt ?_
    cases q : X.lv y0 x with
    | true => rfl
    | false => rw [q] at this; cases this
  have split4 : L = L.take sa ++ (seg L sa na ++ seg L sb nb) ++ L.drop (sb + nb) := by
    have a1 : L.drop sa = seg L sa na ++ L.drop sb := by
      rw [hs, ← List.drop_drop]; exact (List.take_append_drop na (L.drop sa)).symm
    have a2 : L.drop sb = seg L sb nb ++ L.drop (sb + nb) := by
      rw [← List.drop_drop]; exact (List.take_append_drop nb (L.drop sb)).symm
    conv => lhs; rw [← List.take_append_drop sa L, a1, a2]
    simp only [List.append_assoc]
  have whole : (seg L sa na ++ seg L sb nb).Pairwise X.le → Q true (setPending st pd) := fun hp => h _ (seg L sa na ++ seg L sb nb) hk hf rfl (by rw [show (arrOf (setPending st pd)).toList = L by rw [hL, harr]]; exact split4) (List.Perm.refl _) hp
  by_cases q1 : na - k = 0
  · rw [if_pos (beq_iff_eq.mpr q1)]
    refine SoT.pure (whole (List.pairwise_append.mpr ⟨sA, sB, fun x hx y hy => X.trans (hA0 x ?_) (yB y hy)⟩))
    rw [List.take_of_length_le (by omega)]; exact hx
  rw [if_neg (fun z => q1 (beq_iff_eq.mp z))]
  obtain ⟨x1, ex1, ex1', hx1⟩ := at_l (show sa + k + (na - k) - 1 < arr.size by omega)
  refine SoT.bind (SoT.elem ex1 ?_)
  have eA1 : (seg L sa na)[na - 1]? = some x1 := by
    rw [seg_at (by omega), show sa + (na - 1) = sa + k + (na - k) - 1 by omega, hL]; exact ex1'
  have xA : ∀ z ∈ seg L sa na, X.le z x1 := fun z hz => so_last sA eA1 z (by rw [show na - 1 + 1 = na by omega, List.take_of_length_le (by omega)]; exact hz)
  refine SoT.bind (gallop_ok (galL (it x1 hx1) (by rw [← hL]; exact sB) (by omega) it) hk (by omega) fun n2 hn2 hlt2 hge2 => ?_)
  dsimp only
  have hB0 : ∀ y ∈ (seg L sb nb).take n2, X.le y x1 := fun y hy => by
    obtain ⟨j, ej⟩ := List.mem_iff_getElem?.mp hy
    have hj : j < n2 := by have := (List.getElem?_eq_some_iff.mp ej).1; rw [List.length_take] at this; omega
    rw [List.getElem?_take, if_pos hj] at ej
    have := hlt2 j hj
    rw [(gB j y ej).2] at this
    exact X.of_lt this
  have hB1 : ∀ y ∈ (seg L sb nb).drop n2, X.le x1 y := fun y hy => by
    obtain ⟨j, ej⟩ := List.mem_iff_getElem?.mp hy
    rw [List.getElem?_drop] at ej
    have := hge2 (n2 + j) (by omega) (gB _ y ej).1
    rw [(gB _ y ej).2] at this
    exact this
  by_cases q2 : n2 = 0
  · rw [if_pos (beq_iff_eq.mpr q2)]
    refine SoT.pure (whole (List.pairwise_append.mpr ⟨sA, sB, fun x hx y hy => X.trans (xA x hx) (hB1 y ?_)⟩))
    rw [q2, List.drop_zero]; exact hy
  rw [if_neg (fun z => q2 (beq_iff_eq.mp z))]
  have eX : (arr.extract (sa + k) sb).toList = (seg L sa na).drop k := by
    rw [ex_m, ← hL, List.drop_take, List.drop_drop, show sb - (sa + k) = na - k by omega]
  have eY : (arr.extract sb (sb + n2)).toList = (seg L sb nb).take n2 := by
    rw [ex_k, ← hL, List.take_take, Nat.min_eq_left hn2]
  have zX : (arr.extract (sa + k) sb).size = na - k := by rw [← Array.length_toList, eX, List.length_drop, lenA]
  have zY : (arr.extract sb (sb + n2)).size = n2 := by rw [← Array.length_toList, eY, List.length_take, lenB]; omega
  have inA : ∀ x ∈ seg L sa na, x ∈ L := fun x hx => List.mem_of_mem_drop (List.mem_of_mem_take hx)
  have inB : ∀ x ∈ seg L sb nb, x ∈ L := fun x hx => List.mem_of_mem_drop (List.mem_of_mem_take hx)
  have pre : MPre X (arr.extract (sa + k) sb) (arr.extract sb (sb + n2)) := by
    refine ⟨by omega, by omega, by rw [eX]; exact sA.sublist (List.drop_sublist _ _), by rw [eY]; exact sB.sublist (List.take_sublist _ _), fun x hx => by rw [eX] at hx; exact itL x (inA x (List.mem_of_mem_drop hx)), fun x hx => by rw [eY] at hx; exact itL x (inB x (List.mem_of_mem_take hx)), fun y ey x hx => ?_, fun x ex y hy => ?_⟩
    · rw [← Array.getElem?_toList, eY, List.getElem?_take, if_pos (by omega), eB0] at ey
      cases ey
      rw [eX] at hx
      exact hA1 x hx
    · rw [← Array.getElem?_toList, eX, zX, List.getElem?_drop, show k + (na - k - 1) = na - 1 by omega, eA1] at ex
      cases ex
      rw [eY] at hy
      exact hB0 y hy
  have fin : ∀ (m : Array Keyed) (st2 : SortSt), GalEq (setPending st pd) st2 → Mgd X (arr.extract (sa + k) sb).toList (arr.extract sb (sb + n2)).toList m.toList → SoT X (do
      modify fun s => setArr s (m.toList.zipIdx.foldl (fun a (p, j) => a.setIfInBounds (sa + k + j) p) (arrOf s))
      return (failedOf (← get)).isNone) st2 Q := fun m st2 g mg => by
    obtain ⟨gg, rfl⟩ := g
    refine SoT.bind (SoT.modify (SoT.bind (SoT.get ?_)))
    rw [eX, eY] at mg
    have ml : m.toList.length = (na - k) + n2 := by rw [mg.1.length_eq, List.length_append, List.length_drop, lenA, List.length_take (l := seg L sb nb), lenB]; omega
    rw [show (failedOf (setArr (setGal (setPending st pd) gg) (m.toList.zipIdx.foldl (fun a (p, j) => a.setIfInBounds (sa + k + j) p) (arrOf (setGal (setPending st pd) gg))))).isNone = true by show (failedOf st).isNone = true; rw [hf]; rfl]
    refine SoT.pure (h _ ((seg L sa na).take k ++ m.toList ++ (seg L sb nb).drop n2) hk hf rfl ?_ ?_ ?_)
    · show ((m.toList.zipIdx.foldl (fun a (q : Keyed × Nat) => a.setIfInBounds (sa + k + q.2) q.1) (arrOf st))).toList = _
      rw [← harr, write_back (sa + k) m.toList 0 arr (by omega), ← hL, Nat.add_zero, ml]
      have t1 : L.take (sa + k) = L.take sa ++ (seg L sa na).take k := by
        rw [List.take_add, List.take_take, Nat.min_eq_left hkn]
      have t2 : L.drop (sa + k + (na - k + n2)) = (seg L sb nb).drop n2 ++ L.drop (sb + nb) := by
        rw [show sa + k + (na - k + n2) = sb + n2 by omega, ← List.drop_drop, List.drop_take]
        conv => lhs; rw [← List.take_append_drop (nb - n2) ((L.drop sb).drop n2)]
        rw [List.drop_drop, List.drop_drop, show sb + n2 + (nb - n2) = sb + nb by omega]
      rw [t1, t2]
      simp only [List.append_assoc]
    · have pA : seg L sa na ++ seg L sb nb = ((seg L sa na).take k ++ (seg L sa na).drop k) ++ ((seg L sb nb).take n2 ++ (seg L sb nb).drop n2) := by rw [List.take_append_drop, List.take_append_drop]
      rw [pA]
      refine (List.Perm.append_right _ (List.Perm.append_left _ mg.1)).trans ?_
      simp only [List.append_assoc]
      exact List.Perm.refl _
    · have inM : ∀ x ∈ m.toList, x ∈ (seg L sa na).drop k ∨ x ∈ (seg L sb nb).take n2 := fun x hx => List.mem_append.mp (mg.1.mem_iff.mp hx)
      have sA' := sA
      rw [← List.take_append_drop k (seg L sa na)] at sA'
      have sB' := sB
      rw [← List.take_append_drop n2 (seg L sb nb)] at sB'
      refine List.pairwise_append.mpr ⟨List.pairwise_append.mpr ⟨sA.sublist (List.take_sublist _ _), mg.2, fun x hx y hy => ?_⟩, sB.sublist (List.drop_sublist _ _), fun x hx y hy => ?_⟩
      · rcases inM y hy with z | z
        · exact (List.pairwise_append.mp sA').2.2 x hx y z
        · exact X.trans (hA0 x hx) (yB y (List.mem_of_mem_take z))
      · rcases List.mem_append.mp hx with z | z
        · exact X.trans (hA0 x z) (yB y (List.mem_of_mem_drop hy))
        · rcases inM x z with z | z
          · exact X.trans (xA x (List.mem_of_mem_drop z)) (hB1 y hy)
          · exact (List.pairwise_append.mp sB').2.2 x z y hy
  by_cases q3 : na - k ≤ n2
  · rw [if_pos q3]
    exact SoT.bind (mergeLo_ok pre hk fun m st2 g mg => fin m st2 g mg)
  · rw [if_neg q3]
    exact SoT.bind (mergeHi_ok pre hk fun m st2 g mg => fin m st2 g mg)
end
end L2
set_option Elab.async false
set_option linter.all false
set_option maxRecDepth 100000
set_option maxHeartbeats 4000000
namespace L2
open PySem PySem.Spec PyProof.Rows
section
variable {X : SEnv}
abbrev kA (arr : Array Keyed) (k : Nat) : Keyed := (arr[k]?).getD (Value.none, Value.none)
theorem kA_at {arr : Array Keyed} {k : Nat} (h : k < arr.size) : arr[k]? = some (kA arr k) := by rw [kA, Array.getElem?_eq_getElem h]; rfl
theorem kA_mem {arr : Array Keyed} {k : Nat} (h : k < arr.size) : kA arr k ∈ arr.toList := List.mem_of_getElem? (i := k) (by rw [Array.getElem?_toList]; exact kA_at h)
def UpK (X : SEnv) (arr : Array Keyed) (lo n : Nat) : Prop := ∀ i j, i ≤ j → j < n → X.le (kA arr (lo + i)) (kA arr (lo + j))
def DnK (X : SEnv) (arr : Array Keyed) (lo n : Nat) : Prop := ∀ i j, i ≤ j → j < n → X.le (kA arr (lo + j)) (kA arr (lo + i))
def EqK (X : SEnv) (x y : Keyed) : Prop := X.le x y ∧ X.le y x
theorem EqK.refl (x : Keyed) : EqK X x x := ⟨X.refl x, X.refl x⟩
theorem SoT.ltAt {st : SortSt} {i j : Nat} {Q : Option Bool → SortSt → Prop} (hk : kindOf st = X.κ) (it : ∀ x ∈ (arrOf st).toList, X.It x) (hi : i < (arrOf st).size) (hj : j < (arrOf st).size) (h : Q (some (X.lv (kA (arrOf st) i) (kA (arrOf st) j))) st) : SoT X (ltAt' i j) st Q := by
  rw [ltAt'_eq]
  refine SoT.bind (SoT.get ?_)
  dsimp only
  exact SoT.bind (SoT.elem (kA_at hi) (SoT.bind (SoT.elem (kA_at hj) (SoT.lt (it _ (kA_mem hi)) (it _ (kA_mem hj)) hk h))))
theorem up_1 (arr : Array Keyed) (lo : Nat) : UpK X arr lo 1 := fun i j hij hj => by rw [show i = j by omega]; exact X.refl _
theorem up_more {arr : Array Keyed} {lo n : Nat} (u : UpK X arr lo n) (h1 : 1 ≤ n) (h : X.le (kA arr (lo + n - 1)) (kA arr (lo + n))) : UpK X arr lo (n + 1) := fun i j hij hj => by
  by_cases e : j = n
  · subst e
    by_cases e' : i = j
    · rw [e']; exact X.refl _
    · have := u i (j - 1) (by omega) (by omega)
      rw [show lo + (j - 1) = lo + j - 1 by omega] at this
      exact X.trans this h
  · exact u i j hij (by omega)
theorem dn_more {arr : Array Keyed} {lo n : Nat} (u : DnK X arr lo n) (h1 : 1 ≤ n) (h : X.le (kA arr (lo + n)) (kA arr (lo + n - 1))) : DnK X arr lo (n + 1) := fun i j hij hj => by
  by_cases e : j = n
  · subst e
    by_cases e' : i = j
    · rw [e']; exact X.refl _
    · have := u i (j - 1) (by omega) (by omega)
      rw [show lo + (j - 1) = lo + j - 1 by omega] at this
      exact X.trans h this
  · exact u i j hij (by omega)
/-- the same things, and the same places outside -/
structure Chg (arr arr' : Array Keyed) (lo hi : Nat) : Prop where
  z : arr'.size = arr.size
  pm : arr'.toList.Perm arr.toList
  out : ∀ k, k < lo ∨ hi ≤ k → arr'[k]? = arr[k]?
theorem Chg.refl (arr : Array Keyed) (lo hi : Nat) : Chg arr arr lo hi := ⟨rfl, List.Perm.refl _, fun _ _ => rfl⟩
theorem Chg.trans {a b c : Array Keyed} {lo hi : Nat} (x : Chg a b lo hi) (y : Chg b c lo hi) : Chg a c lo hi := ⟨y.z.trans x.z, y.pm.trans x.pm, fun k h => (y.out k h).trans (x.out k h)⟩
theorem Chg.wide {a b : Array Keyed} {lo hi lo' hi' : Nat} (x : Chg a b lo hi) (h1 : lo' ≤ lo) (h2 : hi ≤ hi') : Chg a b lo' hi' := ⟨x.z, x.pm, fun k h => x.out k (by omega)⟩
theorem Chg.it {a b : Array Keyed} {lo hi : Nat} (x : Chg a b lo hi) (it : ∀ y ∈ a.toList, X.It y) : ∀ y ∈ b.toList, X.It y := fun y hy => it y (x.pm.mem_iff.mp hy)
abbrev rvs (arr : Array Keyed) (i j : Nat) : Array Keyed := mirror arr i j ((j - i) / 2)
theorem kA_rev {arr : Array Keyed} {i j : Nat} (hj : j ≤ arr.size) (k : Nat) : kA (rvs arr i j) k = if i ≤ k ∧ k < j then kA arr (i + j - 1 - k) else kA arr k := by
  unfold kA rvs
  rw [getElem?_mirror_all hj]
  split <;> rfl
theorem rev_chg {arr : Array Keyed} {i j : Nat} (hj : j ≤ arr.size) : Chg arr (rvs arr i j) i j := ⟨mirror_size _ _ _ _, (Array.perm_iff_toList_perm.mp (mirror_perm _ _ _ _)), fun k h => by
  unfold rvs
  rw [getElem?_mirror_all hj, if_neg (by omega)]⟩
theorem rev_eqK {arr : Array Keyed} {i j : Nat} (hj : j ≤ arr.size) (e : ∀ k, i ≤ k → k < j → EqK X (kA arr k) (kA arr (j - 1))) (k : Nat) : EqK X (kA (rvs arr i j) k) (kA arr k) := by
  rw [kA_rev hj]
  split
  · rename_i hk
    have e1 := e (i + j - 1 - k) (by omega) (by omega)
    have e2 := e k hk.1 hk.2
    exact ⟨X.trans e1.1 e2.2, X.trans e2.1 e1.2⟩
  · exact EqK.refl _
theorem dn_eqK {arr arr' : Array Keyed} {lo n : Nat} (e : ∀ k, EqK X (kA arr' k) (kA arr k)) (d : DnK X arr lo n) : DnK X arr' lo n := fun i j hij hj => X.trans (e _).1 (X.trans (d i j hij hj) (e _).2)
theorem rev_upK {arr : Array Keyed} {lo n : Nat} (hn : lo + n ≤ arr.size) (d : DnK X arr lo n) : UpK X (rvs arr lo (lo + n)) lo n := fun i j hij hj => by
  rw [kA_rev hn, kA_rev hn, if_pos ⟨by omega, by omega⟩, if_pos ⟨by omega, by omega⟩]
  have := d (n - 1 - j) (n - 1 - i) (by omega) (by omega)
  rw [show lo + (lo + n) - 1 - (lo + i) = lo + (n - 1 - i) by omega, show lo + (lo + n) - 1 - (lo + j) = lo + (n - 1 - j) by omega]
  exact this
theorem SoT.rev {st : SortSt} {i j : Nat} {Q : Unit → SortSt → Prop} (h : Q () (setArr st (rvs (arrOf st) i j))) : SoT X (reverseSlice' i j) st Q := by
  rw [reverseSlice'_eq]
  exact SoT.modify h
def ascL (lo a nrem n0 : Nat) : StateT SortSt Sem (Option (Option Nat) × Nat) := forIn [a:nrem] ((none : Option (Option Nat)), n0) fun _ s => ltAt' (lo + s.2) (lo + s.2 - 1) >>= fun r => match r with
  | some sm => if sm = true then pure (.done (none, s.2)) else pure (.yield (none, s.2 + 1))
  | _ => pure (.done (some none, s.2))
theorem asc_ok {st : SortSt} {lo n0 nrem : Nat} {Q : Option (Option Nat) × Nat → SortSt → Prop} (hk : kindOf st = X.κ) (it : ∀ x ∈ (arrOf st).toList, X.It x) (h1 : 1 ≤ n0) (h2 : n0 ≤ nrem) (hz : lo + nrem ≤ (arrOf st).size) (u : UpK X (arrOf st) lo n0)
    (h : ∀ n, n0 ≤ n → n ≤ nrem → UpK X (arrOf st) lo n → (n < nrem → X.lv (kA (arrOf st) (lo + n)) (kA (arrOf st) (lo + n - 1)) = true) → Q (none, n) st) : SoT X (ascL lo n0 nrem n0) st Q := by
  unfold ascL
  refine SoT.range (fun k v st' => st' = st ∧ v = (none, n0 + k) ∧ n0 + k ≤ nrem ∧ UpK X (arrOf st) lo (n0 + k)) ⟨rfl, rfl, h2, u⟩ ?_ ?_
  · rintro k ⟨v0, n⟩ st' hkn ⟨rfl, e, a1, a2⟩
    cases e
    dsimp only
    refine SoT.bind (SoT.ltAt hk it (by omega) (by omega) ?_)
    dsimp only
    cases c : X.lv (kA (arrOf st') (lo + (n0 + k))) (kA (arrOf st') (lo + (n0 + k) - 1)) with
    | true =>
      rw [if_pos rfl]
      exact SoT.pure (h _ (by omega) a1 a2 fun _ => c)
    | false =>
      rw [if_neg (by decide)]
      have u' := up_more a2 (show 1 ≤ n0 + k by omega) c
      exact SoT.pure ⟨rfl, rfl, by omega, u'⟩
  · rintro ⟨v0, n⟩ st' ⟨rfl, e, a1, a2⟩
    cases e
    exact h _ (by omega) a1 a2 fun z => by omega
def EqE (X : SEnv) (arr : Array Keyed) (e q : Nat) : Prop := ∀ k, e - (q + 1) ≤ k → k < e → EqK X (kA arr k) (kA arr (e - 1))
theorem eqe_0 (arr : Array Keyed) (e : Nat) : EqE X arr e 0 := fun k h1 h2 => by rw [show k = e - 1 by omega]; exact EqK.refl _
def descL (lo n0 nrem : Nat) : StateT SortSt Sem (Option (Option Nat) × Nat × Nat) := forIn [n0:nrem] ((none : Option (Option Nat)), n0, 0) fun _ s => ltAt' (lo + s.2.1) (lo + s.2.1 - 1) >>= fun r => match r with
  | some sm => if sm = true then (if s.2.2 > 0 then reverseSlice' (lo + s.2.1 - (s.2.2 + 1)) (lo + s.2.1) >>= fun _ => pure (.yield (none, s.2.1 + 1, 0)) else pure (.yield (none, s.2.1 + 1, 0)))
    else ltAt' (lo + s.2.1 - 1) (lo + s.2.1) >>= fun r2 => match r2 with
      | some lg => if lg = true then pure (.done (none, s.2.1, s.2.2)) else pure (.yield (none, s.2.1 + 1, s.2.2 + 1))
      | _ => pure (.done (some none, s.2.1, s.2.2))
  | _ => pure (.done (some none, s.2.1, s.2.2))
theorem desc_ok {st : SortSt} {lo n0 nrem : Nat} {Q : Option (Option Nat) × Nat × Nat → SortSt → Prop} (hk : kindOf st = X.κ) (it : ∀ x ∈ (arrOf st).toList, X.It x) (h1 : 1 ≤ n0) (h2 : n0 ≤ nrem) (hz : lo + nrem ≤ (arrOf st).size) (u : DnK X (arrOf st) lo n0)
    (h : ∀ n q arr', n0 ≤ n → n ≤ nrem → q + 1 ≤ n → Chg (arrOf st) arr' lo (lo + n) → DnK X arr' lo n → EqE X arr' (lo + n) q → Q (none, n, q) (setArr st arr')) : SoT X (descL lo n0 nrem) st Q := by
  unfold descL
  refine SoT.range (fun k v st' => ∃ q arr', v = (none, n0 + k, q) ∧ st' = setArr st arr' ∧ n0 + k ≤ nrem ∧ q + 1 ≤ n0 + k ∧ Chg (arrOf st) arr' lo (lo + (n0 + k)) ∧ DnK X arr' lo (n0 + k) ∧ EqE X arr' (lo + (n0 + k)) q) ⟨0, arrOf st, rfl, rfl, h2, by omega, Chg.refl _ _ _, u, eqe_0 _ _⟩ ?_ ?_
  · rintro k v st' hkn ⟨q, arr', rfl, rfl, a1, a2, a3, a4, a5⟩
    dsimp only
    have zz := a3.z
    have it' : ∀ x ∈ (arrOf (setArr st arr')).toList, X.It x := a3.it it
    refine SoT.bind (SoT.ltAt hk it' (by show _ < arr'.size; omega) (by show _ < arr'.size; omega) ?_)
    dsimp only
    cases c : X.lv (kA (arrOf (setArr st arr')) (lo + (n0 + k))) (kA (arrOf (setArr st arr')) (lo + (n0 + k) - 1)) with
    | true =>
      rw [if_pos rfl]
      have c : X.lv (kA arr' (lo + (n0 + k))) (kA arr' (lo + (n0 + k) - 1)) = true := c
      have d1 : DnK X arr' lo (n0 + k + 1) := dn_more a4 (by omega) (X.of_lt c)
      by_cases hq : q > 0
      · rw [if_pos hq]
        refine SoT.bind (SoT.rev (SoT.pure ⟨0, rvs arr' (lo + (n0 + k) - (q + 1)) (lo + (n0 + k)), rfl, rfl, by omega, by omega, ?_, ?_, eqe_0 _ _⟩))
        · exact (a3.wide (Nat.le_refl _) (by omega)).trans ((rev_chg (by omega)).wide (by omega) (by omega))
        · exact dn_eqK (rev_eqK (by omega) fun k' h1' h2' => a5 k' h1' h2') d1
      · rw [if_neg hq]
        exact SoT.pure ⟨0, arr', rfl, rfl, by omega, by omega, a3.wide (Nat.le_refl _) (by omega), d1, eqe_0 _ _⟩
    | false =>
      rw [if_neg (by decide)]
      have c : X.lv (kA arr' (lo + (n0 + k))) (kA arr' (lo + (n0 + k) - 1)) = false := c
      refine SoT.bind (SoT.ltAt hk it' (by show _ < arr'.size; omega) (by show _ < arr'.size; omega) ?_)
      dsimp only
      cases c2 : X.lv (kA (arrOf (setArr st arr')) (lo + (n0 + k) - 1)) (kA (arrOf (setArr st arr')) (lo + (n0 + k))) with
      | true =>
        rw [if_pos rfl]
        exact SoT.pure (h _ q arr' (by omega) a1 a2 a3 a4 a5)
      | false =>
        rw [if_neg (by decide)]
        have c2 : X.lv (kA arr' (lo + (n0 + k) - 1)) (kA arr' (lo + (n0 + k))) = false := c2
        have d2 := dn_more a4 (show 1 ≤ n0 + k by omega) c2
        refine SoT.pure ⟨q + 1, arr', rfl, rfl, by omega, by omega, a3.wide (Nat.le_refl _) (by omega), d2, fun k' h1' h2' => ?_⟩
        rw [show lo + (n0 + (k + 1)) - 1 = lo + (n0 + k) by omega]
        by_cases e : k' = lo + (n0 + k)
        · rw [e]; exact EqK.refl _
        · have e5 := a5 k' (by omega) (by omega)
          exact ⟨X.trans e5.1 c, X.trans c2 e5.2⟩
  · rintro v st' ⟨q, arr', rfl, rfl, a1, a2, a3, a4, a5⟩
    exact h _ q arr' (by omega) a1 a2 a3 a4 a5
theorem cTail_ok {st : SortSt} {lo n nrem : Nat} {L : StateT SortSt Sem (Option (Option Nat) × Nat)} {T : Option (Option Nat) × Nat → StateT SortSt Sem (Option Nat)} {Q : Option Nat → SortSt → Prop} (hL : L = ascL lo n nrem n) (hT : ∀ k, T (none, k) = pure (some k)) (hk : kindOf st = X.κ) (it : ∀ x ∈ (arrOf st).toList, X.It x) (h1 : 1 ≤ n) (h2 : n ≤ nrem) (hz : lo + nrem ≤ (arrOf st).size) (d : DnK X (arrOf st) lo n)
    (h : ∀ n' arr', n ≤ n' → n' ≤ nrem → Chg (arrOf st) arr' lo (lo + n') → UpK X arr' lo n' → Q (some n') (setArr st arr')) : SoT X (reverseSlice' lo (lo + n) >>= fun _ => L >>= T) st Q := by
  subst hL
  have rc := rev_chg (arr := arrOf st) (i := lo) (j := lo + n) (by omega)
  refine SoT.bind (SoT.rev (SoT.bind (asc_ok (st := setArr st (rvs (arrOf st) lo (lo + n))) hk (rc.it it) h1 h2 (by show _ ≤ (rvs (arrOf st) lo (lo + n)).size; rw [rc.z]; exact hz) (rev_upK (by omega) d) fun n' a1 a2 a3 _ => ?_)))
  rw [hT]
  exact SoT.pure (h n' _ a1 a2 (rc.wide (Nat.le_refl _) (by omega)) a3)
theorem cMid_ok {st : SortSt} {lo n n' q nrem : Nat} {L : StateT SortSt Sem (Option (Option Nat) × Nat)} {T : Option (Option Nat) × Nat → StateT SortSt Sem (Option Nat)} {arr' : Array Keyed} {Q : Option Nat → SortSt → Prop} (hL : L = ascL lo n' nrem n') (hT : ∀ k, T (none, k) = pure (some k)) (hk : kindOf st = X.κ) (it : ∀ x ∈ (arrOf st).toList, X.It x) (h1 : 1 ≤ n) (hz : lo + nrem ≤ (arrOf st).size)
    (h : ∀ n' arr', n ≤ n' → n' ≤ nrem → Chg (arrOf st) arr' lo (lo + n') → UpK X arr' lo n' → Q (some n') (setArr st arr')) (a1 : n ≤ n') (a2 : n' ≤ nrem) (a3 : q + 1 ≤ n') (a4 : Chg (arrOf st) arr' lo (lo + n')) (a5 : DnK X arr' lo n') (a6 : EqE X arr' (lo + n') q) :
    SoT X (if q > 0 then reverseSlice' (lo + n' - (q + 1)) (lo + n') >>= fun _ => reverseSlice' lo (lo + n') >>= fun _ => L >>= T else reverseSlice' lo (lo + n') >>= fun _ => L >>= T) (setArr st arr') Q := by
  have zz := a4.z
  by_cases hq : q > 0
  · rw [if_pos hq]
    have rc := rev_chg (arr := arr') (i := lo + n' - (q + 1)) (j := lo + n') (by omega)
    refine SoT.bind (SoT.rev (cTail_ok (st := setArr st (rvs arr' (lo + n' - (q + 1)) (lo + n'))) hL hT hk (rc.it (a4.it it)) (by omega) a2 (by show _ ≤ (rvs arr' _ _).size; rw [rc.z]; omega) (dn_eqK (rev_eqK (by omega) a6) a5) fun n2 arr2 b1 b2 b3 b4 => ?_))
    exact h n2 arr2 (by omega) b2 (((a4.wide (Nat.le_refl _) (by omega)).trans (rc.wide (by omega) (by omega))).trans b3) b4
  · rw [if_neg hq]
    refine cTail_ok (st := setArr st arr') hL hT hk (a4.it it) (by omega) a2 (by show _ ≤ arr'.size; omega) a5 fun n2 arr2 b1 b2 b3 b4 => ?_
    exact h n2 arr2 (by omega) b2 ((a4.wide (Nat.le_refl _) (by omega)).trans b3) b4
theorem countRun_ok {st : SortSt} {lo nrem : Nat} {Q : Option Nat → SortSt → Prop} (hk : kindOf st = X.κ) (it : ∀ x ∈ (arrOf st).toList, X.It x) (h1 : 1 ≤ nrem) (hz : lo + nrem ≤ (arrOf st).size)
    (h : ∀ n arr', 1 ≤ n → n ≤ nrem → Chg (arrOf st) arr' lo (lo + n) → UpK X arr' lo n → Q (some n) (setArr st arr')) : SoT X (countRun' lo nrem) st Q := by
  rw [countRun'_eq]
  dsimp only
  refine SoT.bind (show SoT X (ascL lo 1 nrem 1) st _ from asc_ok hk it (Nat.le_refl _) h1 hz (up_1 _ _) fun n a1 a2 a3 a4 => ?_)
  dsimp only
  by_cases q : n = nrem
  · rw [if_pos (beq_iff_eq.mpr q)]
    exact SoT.pure (h n (arrOf st) a1 a2 (Chg.refl _ _ _) a3)
  rw [if_neg (fun z => q (beq_iff_eq.mp z))]
  have lst := a4 (by omega)
  by_cases q1 : n > 1
  · rw [if_pos q1]
    refine SoT.bind (SoT.ltAt hk it (by omega) (by omega) ?_)
    dsimp only
    cases c : X.lv (kA (arrOf st) lo) (kA (arrOf st) (lo + n - 1)) with
    | true =>
      rw [if_pos rfl]
      exact SoT.pure (h n (arrOf st) a1 a2 (Chg.refl _ _ _) a3)
    | false =>
      rw [if_neg (by decide)]
      have rc := rev_chg (arr := arrOf st) (i := lo) (j := lo + n) (by omega)
      have eqs : ∀ k, lo ≤ k → k < lo + n → EqK X (kA (arrOf st) k) (kA (arrOf st) (lo + n - 1)) := fun k h1' h2' => by
        have b1 := a3 (k - lo) (n - 1) (by omega) (by omega)
        have b2 := a3 0 (k - lo) (by omega) (by omega)
        rw [show lo + (k - lo) = k by omega] at b1 b2
        rw [show lo + (n - 1) = lo + n - 1 by omega] at b1
        exact ⟨b1, X.trans (show X.le (kA (arrOf st) (lo + n - 1)) (kA (arrOf st) (lo + 0)) from c) b2⟩
      have ek := rev_eqK (X := X) (arr := arrOf st) (i := lo) (j := lo + n) (by omega) eqs
      have dn : DnK X (rvs (arrOf st) lo (lo + n)) lo (n + 1) := by
        refine dn_more (fun i j hij hj => ?_) (by omega) ?_
        · have e1 := eqs (lo + i) (by omega) (by omega)
          have e2 := eqs (lo + j) (by omega) (by omega)
          exact X.trans (ek _).1 (X.trans (X.trans e2.1 e1.2) (ek _).2)
        · exact X.trans (ek _).1 (X.trans (X.of_lt lst) (ek _).2)
      refine SoT.bind (SoT.rev ?_)
      refine SoT.bind (SoT.rule ?_)
      refine SoT.bind (show SoT X (descL lo (n + 1) nrem) (setArr st (rvs (arrOf st) lo (lo + n))) _ from desc_ok (st := setArr st (rvs (arrOf st) lo (lo + n))) hk (rc.it it) (by omega) (by omega) (by show _ ≤ (rvs (arrOf st) lo (lo + n)).size; rw [rc.z]; exact hz) dn fun n' q arr' a1 a2 a3 a4 a5 a6 => ?_)
      dsimp only
      refine cMid_ok (st := setArr st (rvs (arrOf st) lo (lo + n))) (n := n + 1) (Q := Q) ?_ ?_ hk (rc.it it) (by omega) (by show _ ≤ (rvs (arrOf st) lo (lo + n)).size; rw [rc.z]; exact hz) (fun n' arr' b1 b2 b3 b4 => h n' arr' (by omega) b2 ((rc.wide (Nat.le_refl _) (by omega)).trans b3) b4) a1 a2 a3 a4 a5 a6
      · rfl
      · exact fun _ => rfl
  · rw [if_neg q1]
    have n1 : n = 1 := by omega
    subst n1
    have dn : DnK X (arrOf st) lo (1 + 1) := dn_more (fun i j hij hj => by rw [show i = j by omega]; exact X.refl _) (by omega) (X.of_lt lst)
    refine SoT.bind (SoT.rule ?_)
    refine SoT.bind (show SoT X (descL lo (1 + 1) nrem) st _ from desc_ok hk it (by omega) (by omega) hz dn fun n' q arr' a1 a2 a3 a4 a5 a6 => ?_)
    dsimp only
    refine cMid_ok (n := 1 + 1) (Q := Q) ?_ ?_ hk it (by omega) hz (fun n' arr' b1 b2 b3 b4 => h n' arr' (by omega) b2 b3 b4) a1 a2 a3 a4 a5 a6
    · rfl
    · exact fun _ => rfl
end
end L2
set_option Elab.async false
set_option linter.all false
set_option maxRecDepth 100000
set_option maxHeartbeats 4000000
namespace L2
open PySem PySem.Spec PyProof.Rows
section
variable {X : SEnv}
theorem kA_bub {arr : Array Keyed} {k d : Nat} (hk : k < arr.size) (hd : d ≤ k) (j : Nat) : kA (bubble arr k d) j = if j = k - d then kA arr k else if k - d < j ∧ j ≤ k then kA arr (j - 1) else kA arr j := by
  unfold kA
  rw [getElem?_bubble hk d hd]
  by_cases h1 : j = k - d
  · rw [if_pos h1, if_pos h1]
  · rw [if_neg h1, if_neg h1]
    by_cases h2 : k - d < j ∧ j ≤ k
    · rw [if_pos h2, if_pos h2]
    · rw [if_neg h2, if_neg h2]
theorem bub_chg {arr : Array Keyed} {k d : Nat} (hk : k < arr.size) (hd : d ≤ k) : Chg arr (bubble arr k d) (k - d) (k + 1) := ⟨bubble_size .., Array.perm_iff_toList_perm.mp (bubble_perm _ _ _), fun j h => by
  rw [getElem?_bubble hk d hd, if_neg (by omega), if_neg (by omega)]⟩
theorem bub_upK {arr : Array Keyed} {lo k l : Nat} (hk : lo + k < arr.size) (u : UpK X arr lo k) (hl : l ≤ k) (ha : ∀ i, i < l → X.le (kA arr (lo + i)) (kA arr (lo + k))) (hb : ∀ i, l ≤ i → i < k → X.le (kA arr (lo + k)) (kA arr (lo + i))) : UpK X (bubble arr (lo + k) (lo + k - (lo + l))) lo (k + 1) := fun i j hij hj => by
  rw [kA_bub hk (by omega), kA_bub hk (by omega), show lo + k - (lo + k - (lo + l)) = lo + l by omega]
  by_cases hi : i = l
  · subst hi
    rw [if_pos rfl]
    by_cases hjl : j = i
    · rw [if_pos (by omega)]; exact X.refl _
    · rw [if_neg (by omega), if_pos (by omega)]
      have := hb (j - 1) (by omega) (by omega)
      rwa [show lo + (j - 1) = lo + j - 1 by omega] at this
  · rw [if_neg (show ¬ lo + i = lo + l by omega)]
    by_cases hil : i < l
    · rw [if_neg (show ¬ (lo + l < lo + i ∧ lo + i ≤ lo + k) by omega)]
      by_cases hjl : j = l
      · rw [if_pos (by omega)]; exact ha i hil
      · rw [if_neg (by omega)]
        by_cases hj2 : l < j
        · rw [if_pos (by omega)]
          have := u i (j - 1) (by omega) (by omega)
          rwa [show lo + (j - 1) = lo + j - 1 by omega] at this
        · rw [if_neg (by omega)]
          exact u i j hij (by omega)
    · rw [if_pos (show lo + l < lo + i ∧ lo + i ≤ lo + k by omega), if_neg (by omega), if_pos (by omega)]
      have := u (i - 1) (j - 1) (by omega) (by omega)
      rwa [show lo + (j - 1) = lo + j - 1 by omega, show lo + (i - 1) = lo + i - 1 by omega] at this
theorem binarySort_ok {st : SortSt} {lo n ok : Nat} {Q : Bool → SortSt → Prop} (hk : kindOf st = X.κ) (it : ∀ x ∈ (arrOf st).toList, X.It x) (h1 : ok ≤ n) (hn : 1 ≤ n) (hz : lo + n ≤ (arrOf st).size) (u : UpK X (arrOf st) lo ok)
    (h : ∀ arr', Chg (arrOf st) arr' lo (lo + n) → UpK X arr' lo n → Q true (setArr st arr')) : SoT X (binarySort' lo n ok) st Q := by
  rw [binarySort'_eq]
  dsimp only
  refine SoT.bind (SoT.range (fun k v st' => v = (none, ()) ∧ ∃ arr', st' = setArr st arr' ∧ Chg (arrOf st) arr' lo (lo + n) ∧ UpK X arr' lo (min (max ok 1 + k) n)) ⟨rfl, arrOf st, rfl, Chg.refl _ _ _, fun i j hij hj => ?_⟩ ?_ ?_)
  · by_cases h0 : ok = 0
    · rw [show i = j by omega]; exact X.refl _
    · exact u i j hij (by omega)
  · rintro k v st' hkn ⟨rfl, arr', rfl, a1, a2⟩
    rw [show min (max ok 1 + k) n = max ok 1 + k by omega] at a2
    have zz := a1.z
    have hK : max ok 1 + k < n := by omega
    obtain ⟨K, eK⟩ : ∃ K, K = max ok 1 + k := ⟨_, rfl⟩
    rw [← eK] at a2 hK ⊢
    refine SoT.bind (SoT.mono (Q := fun v st'' => st'' = setArr st arr' ∧ ∃ l r, v = (none, l, r) ∧ l ≤ K ∧ (∀ i, i < l → X.le (kA arr' (lo + i)) (kA arr' (lo + K))) ∧ (∀ i, l ≤ i → i < K → X.le (kA arr' (lo + K)) (kA arr' (lo + i)))) (SoT.range (fun x v st'' => st'' = setArr st arr' ∧ ∃ l r, v = (none, l, r) ∧ l ≤ r ∧ r ≤ K ∧ r - l ≤ K - x ∧ (∀ i, i < l → X.le (kA arr' (lo + i)) (kA arr' (lo + K))) ∧ (∀ i, r ≤ i → i < K → X.le (kA arr' (lo + K)) (kA arr' (lo + i)))) ⟨rfl, 0, K, rfl, Nat.zero_le _, Nat.le_refl _, Nat.le_refl _, fun i hi => absurd hi (Nat.not_lt_zero _), fun i b1 b2 => by omega⟩ ?_ ?_) ?_)
    · rintro x v st'' hx ⟨rfl, l, r, rfl, b1, b2, b3, b4, b5⟩
      dsimp only
      by_cases hge : l ≥ r
      · rw [if_pos hge]
        have : l = r := by omega
        subst this
        exact SoT.pure ⟨rfl, l, l, rfl, b2, b4, b5⟩
      · rw [if_neg hge]
        refine SoT.bind (SoT.ltAt (st := setArr st arr') hk (a1.it it) (by show _ < arr'.size; omega) (by show _ < arr'.size; omega) ?_)
        dsimp only
        show SoT X (if X.lv (kA arr' (lo + K)) (kA arr' (lo + (l + r) / 2)) = true then _ else _) _ _
        cases c : X.lv (kA arr' (lo + K)) (kA arr' (lo + (l + r) / 2)) with
        | true =>
          rw [if_pos rfl]
          exact SoT.pure ⟨rfl, l, (l + r) / 2, rfl, by omega, by omega, by omega, b4, fun i c1 c2 => X.trans (X.of_lt c) (a2 _ _ c1 c2)⟩
        | false =>
          rw [if_neg (by decide)]
          exact SoT.pure ⟨rfl, (l + r) / 2 + 1, r, rfl, by omega, by omega, by omega, fun i c1 => X.trans (a2 i ((l + r) / 2) (by omega) (by omega)) c, b5⟩
    · rintro v st'' ⟨rfl, l, r, rfl, b1, b2, b3, b4, b5⟩
      have : l = r := by omega
      subst this
      exact ⟨rfl, l, l, rfl, b2, b4, b5⟩
    · rintro v st'' ⟨rfl, l, r, rfl, b2, b4, b5⟩
      dsimp only
      rw [moveDown'_eq]
      refine SoT.bind (SoT.modify (SoT.pure ?_))
      refine ⟨rfl, bubble arr' (lo + K) (lo + K - (lo + l)), rfl, a1.trans ((bub_chg (by omega) (by omega)).wide (by omega) (by omega)), ?_⟩
      rw [show min (max ok 1 + (k + 1)) n = K + 1 by omega]
      exact bub_upK (by omega) a2 b2 b4 b5
  · rintro v st' ⟨rfl, arr', rfl, a1, a2⟩
    dsimp only
    rw [show min (max ok 1 + (n - max ok 1)) n = n by omega] at a2
    exact SoT.pure (h arr' a1 a2)
end
end L2
set_option Elab.async false
set_option linter.all false
set_option maxRecDepth 100000
set_option maxHeartbeats 4000000
namespace L2
open PySem PySem.Spec PyProof.Rows
section
variable {X : SEnv}
/-- runs that follow on one another -/
def Runs (X : SEnv) (arr : Array Keyed) : Nat → List (Nat × Nat × Nat) → Nat → Prop
  | s, [], e => s = e
  | s, p :: r, e => p.1 = s ∧ 1 ≤ p.2.1 ∧ UpK X arr s p.2.1 ∧ Runs X arr (s + p.2.1) r e
theorem runs_le {arr : Array Keyed} : ∀ {l : List (Nat × Nat × Nat)} {s e : Nat}, Runs X arr s l e → s + l.length ≤ e
  | [], s, e, h => by have : s = e := h; simp [this]
  | p :: r, s, e, h => by
    have := runs_le h.2.2.2
    have := h.2.1
    rw [List.length_cons]
    omega
theorem runs_cong {arr arr' : Array Keyed} : ∀ {l : List (Nat × Nat × Nat)} {s e : Nat}, Runs X arr s l e → (∀ k, s ≤ k → k < e → arr'[k]? = arr[k]?) → Runs X arr' s l e
  | [], s, e, h, _ => h
  | p :: r, s, e, h, c => by
    have q := runs_le h.2.2.2
    refine ⟨h.1, h.2.1, fun i j hij hj => ?_, runs_cong h.2.2.2 fun k h1 h2 => c k (by omega) h2⟩
    have := h.2.2.1 i j hij hj
    unfold kA at this ⊢
    rw [c (s + i) (by omega) (by omega), c (s + j) (by omega) (by omega)]
    exact this
theorem runs_app {arr : Array Keyed} : ∀ {l r : List (Nat × Nat × Nat)} {s e : Nat}, Runs X arr s (l ++ r) e ↔ ∃ m, Runs X arr s l m ∧ Runs X arr m r e
  | [], r, s, e => ⟨fun h => ⟨s, rfl, h⟩, fun ⟨m, h1, h2⟩ => by have : s = m := h1; subst this; exact h2⟩
  | p :: l, r, s, e => by
    constructor
    · intro h
      obtain ⟨m, h1, h2⟩ := runs_app.mp h.2.2.2
      exact ⟨m, ⟨h.1, h.2.1, h.2.2.1, h1⟩, h2⟩
    · rintro ⟨m, h1, h2⟩
      exact ⟨h1.1, h1.2.1, h1.2.2.1, runs_app.mpr ⟨m, h1.2.2.2, h2⟩⟩
theorem runs_mod {arr : Array Keyed} {f : Nat × Nat × Nat → Nat × Nat × Nat} (f1 : ∀ p, (f p).1 = p.1) (f2 : ∀ p, (f p).2.1 = p.2.1) : ∀ {l : List (Nat × Nat × Nat)} {i s e : Nat}, Runs X arr s l e → Runs X arr s (l.modify i f) e
  | [], i, s, e, h => by cases i <;> exact h
  | p :: r, 0, s, e, h => by
    show (f p).1 = s ∧ 1 ≤ (f p).2.1 ∧ UpK X arr s (f p).2.1 ∧ Runs X arr (s + (f p).2.1) r e
    rw [f1, f2]
    exact h
  | p :: r, i + 1, s, e, h => ⟨h.1, h.2.1, h.2.2.1, runs_mod f1 f2 h.2.2.2⟩
theorem up_seg {arr : Array Keyed} {s n : Nat} (u : UpK X arr s n) (hz : s + n ≤ arr.size) : (seg arr.toList s n).Pairwise X.le := by
  rw [List.pairwise_iff_getElem]
  intro i j hi hj hij
  have ln : (seg arr.toList s n).length = n := seg_len (by rw [Array.length_toList]; exact hz)
  rw [ln] at hi hj
  have key : ∀ k (h : k < (seg arr.toList s n).length), (seg arr.toList s n)[k] = kA arr (s + k) := fun k h => by
    have e := seg_at (L := arr.toList) (s := s) (n := n) (i := k) (by omega)
    rw [List.getElem?_eq_getElem h, Array.getElem?_toList, kA_at (by omega)] at e
    exact Option.some.inj e
  rw [key, key]
  exact u i j (by omega) hj
theorem up_of {arr : Array Keyed} {T M D : List Keyed} {s n : Nat} (e : arr.toList = T ++ M ++ D) (hT : T.length = s) (hM : M.length = n) (so : M.Pairwise X.le) : UpK X arr s n := fun i j hij hj => by
  have key : ∀ k (h : k < M.length), kA arr (s + k) = M[k] := fun k h => by
    unfold kA
    rw [← Array.getElem?_toList, e, List.append_assoc, List.getElem?_append_right (by omega), List.getElem?_append_left (by omega), show s + k - T.length = k by omega, List.getElem?_eq_getElem h]
    rfl
  by_cases q : i = j
  · rw [q]; exact X.refl _
  · rw [key i (by omega), key j (by omega)]
    exact List.pairwise_iff_getElem.mp so i j (by omega) (by omega) (by omega)
/-- where the sorter stands -/
structure Sorr (X : SEnv) (L : List Keyed) (st : SortSt) (lo : Nat) : Prop where
  kind : kindOf st = X.κ
  failed : failedOf st = none
  pm : (arrOf st).toList.Perm L
  runs : Runs X (arrOf st) 0 (pendingOf st).toList lo
  le : lo ≤ L.length
theorem Sorr.size {L : List Keyed} {st : SortSt} {lo : Nat} (v : Sorr X L st lo) : (arrOf st).size = L.length := by rw [← Array.length_toList]; exact v.pm.length_eq
theorem Sorr.it {L : List Keyed} {st : SortSt} {lo : Nat} (v : Sorr X L st lo) (it : ∀ x ∈ L, X.It x) : ∀ x ∈ (arrOf st).toList, X.It x := fun x h => it x (v.pm.mem_iff.mp h)
theorem Sorr.chg {L : List Keyed} {st : SortSt} {lo n : Nat} {arr' : Array Keyed} (v : Sorr X L st lo) (c : Chg (arrOf st) arr' lo (lo + n)) : Sorr X L (setArr st arr') lo :=
  ⟨v.kind, v.failed, c.pm.trans v.pm, runs_cong v.runs fun k _ h => c.out k (Or.inl h), v.le⟩
theorem two_at {α : Type} {l : List α} {i : Nat} (h : i + 1 < l.length) : ∃ A x y B, l = A ++ x :: y :: B ∧ A.length = i := by
  refine ⟨l.take i, l[i], l[i + 1], l.drop (i + 2), ?_, by rw [List.length_take]; omega⟩
  rw [← List.drop_eq_getElem_cons (show i + 1 < l.length from h), ← List.drop_eq_getElem_cons (show i < l.length by omega), List.take_append_drop]
theorem sorMerge {L : List Keyed} {st : SortSt} {lo i : Nat} {Q : Bool → SortSt → Prop} (v : Sorr X L st lo) (it : ∀ x ∈ L, X.It x) (hi : i + 1 < (pendingOf st).size) (h : ∀ st', Sorr X L st' lo → (∀ k, lo ≤ k → (arrOf st').toList[k]? = (arrOf st).toList[k]?) → (pendingOf st').size + 1 = (pendingOf st).size → Q true st') : SoT X (mergeAt' i) st Q := by
  obtain ⟨A, x, y, B, eP, lA⟩ := two_at (l := (pendingOf st).toList) (i := i) (by rw [Array.length_toList]; exact hi)
  obtain ⟨sa, na, pw⟩ := x
  obtain ⟨sb, nb, pw2⟩ := y
  have r := v.runs
  rw [eP] at r
  obtain ⟨m, r1, r2⟩ := runs_app.mp r
  obtain ⟨c1, c2, c3, d1, d2, d3, r3⟩ := r2
  dsimp only at c1 c2 c3 d1 d2 d3 r3
  subst c1
  have z := v.size
  have l1 := runs_le r3
  have l2 := runs_le r1
  have hle := v.le
  have lenL : (arrOf st).toList.length = L.length := by rw [Array.length_toList]; exact z
  refine mergeAt_ok (sa := sa) (na := na) (pw := pw) (sb := sb) (nb := nb) (pw2 := pw2) v.kind v.failed ?_ ?_ d1 c2 d2 (by omega) (up_seg c3 (by omega)) (by rw [d1]; exact up_seg d3 (by omega)) (v.it it) fun st' M k1 k2 k3 k4 k5 k6 => ?_
  · rw [← Array.getElem?_toList, eP, List.getElem?_append_right (by omega), lA, Nat.sub_self]; rfl
  · rw [← Array.getElem?_toList, eP, List.getElem?_append_right (by omega), lA, show i + 1 - i = 1 by omega]; rfl
  have eM : seg (arrOf st).toList sa na ++ seg (arrOf st).toList sb nb = seg (arrOf st).toList sa (na + nb) := by
    rw [d1]
    unfold seg
    rw [← List.drop_drop, ← List.take_add]
  rw [eM] at k5
  have lM : M.length = na + nb := by rw [k5.length_eq, seg_len (by omega)]
  have lT : ((arrOf st).toList.take sa).length = sa := by rw [List.length_take]; omega
  have ge : ∀ k, sb + nb ≤ k → (arrOf st').toList[k]? = (arrOf st).toList[k]? := fun k hk => by
    rw [k4, List.getElem?_append_right (by rw [List.length_append]; omega), List.length_append, lT, lM, List.getElem?_drop]
    congr 1
    omega
  have lt : ∀ k, k < sa → (arrOf st').toList[k]? = (arrOf st).toList[k]? := fun k hk => by
    rw [k4, List.append_assoc, List.getElem?_append_left (by omega), List.getElem?_take, if_pos hk]
  have eP' : (pendingOf st').toList = A ++ (sa, na + nb, pw) :: B := by
    rw [k3, Array.toList_eraseIdxIfInBounds, Array.toList_setIfInBounds, eP, List.set_append_right _ _ (by omega), lA, Nat.sub_self, List.set_cons_zero, List.eraseIdx_append_of_length_le (by omega), lA, show i + 1 - i = 1 by omega]
    rfl
  refine h st' ⟨k1, k2, ?_, ?_, hle⟩ (fun k hk => ge k (by omega)) ?_
  · refine List.Perm.trans ?_ v.pm
    rw [k4]
    refine ((k5.append_left _).append_right _).trans (List.Perm.of_eq ?_)
    unfold seg
    rw [show sb + nb = sa + (na + nb) by omega, ← List.drop_drop, List.append_assoc, List.take_append_drop, List.take_append_drop]
  · rw [eP']
    refine runs_app.mpr ⟨sa, runs_cong r1 fun k _ hk => ?_, rfl, by show 1 ≤ na + nb; omega, up_of k4 lT lM k6, ?_⟩
    · rw [← Array.getElem?_toList, lt k hk, Array.getElem?_toList]
    · show Runs X _ (sa + (na + nb)) B lo
      rw [show sa + (na + nb) = sa + na + nb by omega]
      refine runs_cong r3 fun k hk _ => ?_
      rw [← Array.getElem?_toList, ge k (by omega), Array.getElem?_toList]
  · rw [← Array.length_toList, ← Array.length_toList, eP, eP']
    simp only [List.length_append, List.length_cons]
    omega
theorem Sorr.push {L : List Keyed} {st : SortSt} {lo n : Nat} (v : Sorr X L st lo) (h1 : 1 ≤ n) (u : UpK X (arrOf st) lo n) (hz : lo + n ≤ L.length) : Sorr X L (setPending st ((pendingOf st).push (lo, n, 0))) (lo + n) :=
  ⟨v.kind, v.failed, v.pm, by
    show Runs X (arrOf st) 0 ((pendingOf st).push (lo, n, 0)).toList (lo + n)
    rw [Array.toList_push]
    exact runs_app.mpr ⟨lo, v.runs, rfl, h1, u, rfl⟩, hz⟩
theorem Sorr.modp {L : List Keyed} {st : SortSt} {lo i : Nat} {f : Nat × Nat × Nat → Nat × Nat × Nat} (v : Sorr X L st lo) (f1 : ∀ p, (f p).1 = p.1) (f2 : ∀ p, (f p).2.1 = p.2.1) : Sorr X L (setPending st ((pendingOf st).modify i f)) lo :=
  ⟨v.kind, v.failed, v.pm, by
    show Runs X (arrOf st) 0 ((pendingOf st).modify i f).toList lo
    rw [Array.toList_modify]
    exact runs_mod f1 f2 v.runs, v.le⟩
theorem Sorr.one {L : List Keyed} {st : SortSt} (v : Sorr X L st L.length) (h : (pendingOf st).size ≤ 1) : (arrOf st).toList.Pairwise X.le := by
  have r := v.runs
  have z := v.size
  have e : seg (arrOf st).toList 0 L.length = (arrOf st).toList := by
    unfold seg
    rw [List.drop_zero, List.take_of_length_le (by rw [Array.length_toList]; omega)]
  rw [← e]
  refine up_seg ?_ (by omega)
  rw [← Array.length_toList] at h
  match hp : (pendingOf st).toList, h, r with
  | [], _, r => 
    have : 0 = L.length := r
    rw [← this]
    exact fun i j hij hj => by omega
  | [p], _, r => 
    have e2 : 0 + p.2.1 = L.length := r.2.2.2
    rw [← e2, Nat.zero_add]
    exact r.2.2.1
  | p :: q :: t, h, _ => exact absurd h (by simp)
theorem SoT.ite {α : Type} {c : Prop} [Decidable c] {m m' : StateT SortSt Sem α} {st : SortSt} {Q : α → SortSt → Prop} (a : c → SoT X m st Q) (b : ¬ c → SoT X m' st Q) : SoT X (if c then m else m') st Q := by
  by_cases h : c
  · rw [if_pos h]; exact a h
  · rw [if_neg h]; exact b h
theorem up_out {arr arr' : Array Keyed} {lo n : Nat} (e : ∀ k, lo ≤ k → arr'.toList[k]? = arr.toList[k]?) (u : UpK X arr lo n) : UpK X arr' lo n := fun i j hij hj => by
  have := u i j hij hj
  unfold kA at this ⊢
  rw [← Array.getElem?_toList, ← Array.getElem?_toList, e _ (by omega), e _ (by omega), Array.getElem?_toList, Array.getElem?_toList]
  exact this
theorem sortRuns_ok {L : List Keyed} {st : SortSt} {Q : Unit → SortSt → Prop} (it : ∀ x ∈ L, X.It x) (hk : kindOf st = X.κ) (hf : failedOf st = none) (hp : pendingOf st = #[]) (ha : (arrOf st).toList = L)
    (h : ∀ st', kindOf st' = X.κ → failedOf st' = none → (arrOf st').toList.Perm L → (arrOf st').toList.Pairwise X.le → Q () st') : SoT X sortRuns' st Q := by
  rw [sortRuns'_eq]
  refine SoT.bind (SoT.get ?_)
  dsimp only
  have zz : (arrOf st).size = L.length := by rw [← Array.length_toList, ha]
  rw [zz]
  refine SoT.bind (SoT.mono (Q := fun v st' => v = (none, L.length) ∧ Sorr X L st' L.length) (SoT.range (fun k v st' => ∃ lo, v = (none, lo) ∧ min k L.length ≤ lo ∧ Sorr X L st' lo) ⟨0, rfl, by omega, hk, hf, by rw [ha], by rw [hp]; rfl, Nat.zero_le _⟩ ?_ ?_) ?_)
  · rintro k v st' hkL ⟨lo, rfl, a1, v⟩
    have vl := v.le
    have vz := v.size
    dsimp only
    by_cases hge : lo ≥ L.length
    · rw [if_pos hge]
      have : lo = L.length := by omega
      subst this
      exact SoT.pure ⟨rfl, v⟩
    rw [if_neg hge]
    refine SoT.bind (countRun_ok v.kind (v.it it) (by omega) (by omega) fun n arr1 b1 b2 b3 b4 => ?_)
    dsimp only
    have v1 := v.chg b3
    have vz1 := v1.size
    by_cases hn : n < minRun' L.length L.length 0
    · rw [if_pos hn]
      refine SoT.bind (SoT.rule ?_)
      obtain ⟨n2, en⟩ : ∃ n2, n2 = min (L.length - lo) (minRun' L.length L.length 0) := ⟨_, rfl⟩
      rw [← en]
      refine SoT.bind (binarySort_ok (st := setArr st' arr1) v1.kind (v1.it it) (by omega) (by omega) (by omega) b4 fun arr2 d3 d4 => ?_)
      rw [if_neg (by decide)]
      have v2 := v1.chg d3
      have n1 : 1 ≤ n2 := by omega
      have n3 : lo + n2 ≤ L.length := by omega
      clear b4
      have u2 : UpK X (arrOf (setArr (setArr st' arr1) arr2)) lo n2 := d4
      generalize setArr (setArr st' arr1) arr2 = st2 at v2 u2 ⊢
      refine SoT.bind (SoT.get ?_)
      cases eb : (pendingOf st2).back? with
      | none =>
        dsimp only
        refine SoT.bind (SoT.modify (SoT.pure ?_))
        exact ⟨lo + n2, rfl, by omega, v2.push n1 u2 n3⟩
      | some x =>
        obtain ⟨s1, m1, p1⟩ := x
        dsimp only
        refine SoT.bind (SoT.mono (Q := fun v st3 => v = (none, ()) ∧ Sorr X L st3 lo ∧ UpK X (arrOf st3) lo n2) (SoT.range (fun _ v st3 => v = (none, ()) ∧ Sorr X L st3 lo ∧ UpK X (arrOf st3) lo n2) ⟨rfl, v2, u2⟩ ?_ ?_) ?_)
        · rintro k2 v3 st3 _ ⟨rfl, w1, w2⟩
          refine SoT.bind (SoT.get ?_)
          by_cases hs : (pendingOf st3).size > 1
          · rw [if_pos hs]
            obtain ⟨⟨x1, x2, x3⟩, e⟩ : ∃ x, (pendingOf st3)[(pendingOf st3).size - 2]? = some x := ⟨_, Array.getElem?_eq_getElem (by omega)⟩
            rw [e]
            dsimp only
            refine SoT.ite (fun _ => SoT.pure ⟨rfl, w1, w2⟩) fun _ => SoT.bind (sorMerge w1 it (by omega) fun st4 y1 y2 y3 => ?_)
            rw [if_neg (by decide)]
            exact SoT.pure ⟨rfl, y1, up_out y2 w2⟩
          · rw [if_neg hs]
            exact SoT.pure ⟨rfl, w1, w2⟩
        · exact fun v st3 hh => hh
        · rintro v st3 ⟨rfl, w1, w2⟩
          dsimp only
          refine SoT.bind (SoT.modify (SoT.bind (SoT.modify (SoT.pure ?_))))
          exact ⟨lo + n2, rfl, by omega, (Sorr.modp (i := (pendingOf st3).size - 1) (f := fun x => (x.1, x.2.1, power' L.length (2 * s1 + m1) (2 * s1 + m1 + m1 + n2) L.length)) w1 (fun _ => rfl) (fun _ => rfl)).push n1 w2 n3⟩
    · rw [if_neg hn]
      have n3 : lo + n ≤ L.length := by omega
      have u2 : UpK X (arrOf (setArr st' arr1)) lo n := b4
      have n1 := b1
      generalize setArr st' arr1 = st2 at v1 u2 ⊢
      refine SoT.bind (SoT.get ?_)
      cases eb : (pendingOf st2).back? with
      | none =>
        dsimp only
        refine SoT.bind (SoT.modify (SoT.pure ?_))
        exact ⟨lo + n, rfl, by omega, v1.push n1 u2 n3⟩
      | some x =>
        obtain ⟨s1, m1, p1⟩ := x
        dsimp only
        refine SoT.bind (SoT.mono (Q := fun v st3 => v = (none, ()) ∧ Sorr X L st3 lo ∧ UpK X (arrOf st3) lo n) (SoT.range (fun _ v st3 => v = (none, ()) ∧ Sorr X L st3 lo ∧ UpK X (arrOf st3) lo n) ⟨rfl, v1, u2⟩ ?_ ?_) ?_)
        · rintro k2 v3 st3 _ ⟨rfl, w1, w2⟩
          refine SoT.bind (SoT.get ?_)
          by_cases hs : (pendingOf st3).size > 1
          · rw [if_pos hs]
            obtain ⟨⟨x1, x2, x3⟩, e⟩ : ∃ x, (pendingOf st3)[(pendingOf st3).size - 2]? = some x := ⟨_, Array.getElem?_eq_getElem (by omega)⟩
            rw [e]
            dsimp only
            refine SoT.ite (fun _ => SoT.pure ⟨rfl, w1, w2⟩) fun _ => SoT.bind (sorMerge w1 it (by omega) fun st4 y1 y2 y3 => ?_)
            rw [if_neg (by decide)]
            exact SoT.pure ⟨rfl, y1, up_out y2 w2⟩
          · rw [if_neg hs]
            exact SoT.pure ⟨rfl, w1, w2⟩
        · exact fun v st3 hh => hh
        · rintro v st3 ⟨rfl, w1, w2⟩
          dsimp only
          refine SoT.bind (SoT.modify (SoT.bind (SoT.modify (SoT.pure ?_))))
          exact ⟨lo + n, rfl, by omega, (Sorr.modp (i := (pendingOf st3).size - 1) (f := fun x => (x.1, x.2.1, power' L.length (2 * s1 + m1) (2 * s1 + m1 + m1 + n) L.length)) w1 (fun _ => rfl) (fun _ => rfl)).push n1 w2 n3⟩
  · rintro v st' ⟨lo, rfl, a1, v⟩
    have vl := v.le
    have : lo = L.length := by omega
    subst this
    exact ⟨rfl, v⟩
  · rintro v st' ⟨rfl, v⟩
    dsimp only
    refine SoT.bind (SoT.mono (Q := fun v st2 => v = (none, ()) ∧ Sorr X L st2 L.length ∧ (pendingOf st2).size ≤ 1) (SoT.range (fun k v st2 => v = (none, ()) ∧ Sorr X L st2 L.length ∧ (pendingOf st2).size ≤ max 1 (L.length - k)) ⟨rfl, v, by have := runs_le v.runs; rw [Array.length_toList] at this; omega⟩ ?_ ?_) ?_)
    · rintro k v st2 hk ⟨rfl, w1, w2⟩
      refine SoT.bind (SoT.get ?_)
      by_cases hs : (pendingOf st2).size ≤ 1
      · rw [if_pos hs]
        exact SoT.pure ⟨rfl, w1, hs⟩
      · rw [if_neg hs]
        refine SoT.bind (sorMerge w1 it ?_ fun st3 y1 y2 y3 => ?_)
        · have key : ∀ (b : Bool), (if b = true then (pendingOf st2).size - 2 - 1 else (pendingOf st2).size - 2) + 1 < (pendingOf st2).size := fun b => by cases b <;> simp <;> omega
          exact key _
        · rw [if_neg (by decide)]
          exact SoT.pure ⟨rfl, y1, by omega⟩
    · rintro v st2 ⟨rfl, w1, w2⟩
      exact ⟨rfl, w1, by omega⟩
    · rintro v st2 ⟨rfl, w1, w2⟩
      dsimp only
      exact SoT.pure (h st2 w1.kind w1.failed w1.pm (w1.one w2))
end
end L2
set_option Elab.async false
set_option linter.all false
set_option maxRecDepth 100000
set_option maxHeartbeats 4000000
namespace L2
open PySem PySem.Spec PyProof.Rows
section
variable {prog : Program} {w : World} {A : Around} {E : Value → Shared → Prop} {s : Shared}
end
end L2
set_option Elab.async false
set_option linter.all false
set_option maxRecDepth 100000
set_option maxHeartbeats 4000000
namespace L2
open PySem PySem.Spec PyProof.Rows
section
variable {X : Cx} {pins : List (Addr × Obj)} {σ : St} {H : Hp} {s : Shared} {a : Addr}
end
end L2
set_option Elab.async false
set_option linter.all false
set_option maxRecDepth 100000
set_option maxHeartbeats 4000000
namespace L2
open PySem PySem.Spec PyProof.Rows
section
variable {prog : Program} {w : World} {A : Around} {E : Value → Shared → Prop} {s : Shared}
/-- the heap while a list is sorted -/
def tmpH (h : Heap) (a : Addr) (vs : List Value) : Heap := ((h.update a (Obj.mapSeq fun _ => #[])).push (seqObj "tuple" vs.toArray 0)).push (seqObj "list" #[] 0)
theorem tmpH_old {h : Heap} {a b : Addr} {vs : List Value} {o : Obj} (e : h.get? b = some o) (n : b ≠ a) : (tmpH h a vs).get? b = some o := by
  unfold tmpH
  exact Heap.get?_push_of_some _ (Heap.get?_push_of_some _ ((Heap.get?_update_ne _ _ _ _ n).trans e))
theorem list_sort_G {a : Addr} {vs : List Value} {n : Nat} {κ : SortKind} {P : PySem.Fin → Shared → Prop} (lv : Value → Value → Bool) (asy : ∀ x y, lv x y = true → lv y x = false) (neg : ∀ x y z, lv x y = false → lv y z = false → lv x z = false)
    (ho : s.heap.get? a = some (seqObj "list" vs.toArray n)) (hz : vs.length < 1024)
    (hk : 2 ≤ vs.length → ∀ Q : SortKind → Shared → Prop, Q κ { s with heap := tmpH s.heap a vs } → wpAny (model prog w) A (keyKind' vs.toArray) Q E { s with heap := tmpH s.heap a vs })
    (hc : ∀ x ∈ vs, ∀ y ∈ vs, ∀ C : Bool → Shared → Prop, C (lv x y) { s with heap := tmpH s.heap a vs } → wpAny (model prog w) A (keyLt' κ x y) C (fun _ _ => False) { s with heap := tmpH s.heap a vs })
    (h : ∀ out : List Value, out.Perm vs → out.Pairwise (fun x y => lv y x = false) → P (.done (.ret .none)) { s with heap := sortedHeap s.heap a vs out.toArray }) : wpAny (model prog w) A (Builtin.«list.sort» { pos := [.ref a] }) P E s := by
  have z64 : vs.length ≤ sizeLine := by rw [sizeLine_eq]; omega
  have ha := Heap.lt_size ho
  rw [list_sort_plain a]
  refine wpAny_bind (listItems_at ho rfl (wpAny_bind (listUpdate_at ho rfl ?_ (by simpa using z64) (Nat.zero_le _))))
  obtain ⟨e1, ho1⟩ : ∃ e1, (s.heap.update a (Obj.mapSeq fun x => #[])).get? a = some (seqObj "list" #[] e1) := ⟨_, get?_update_seq ho fun x => #[]⟩
  refine wpAny_bind (seqEpoch_at ho1 rfl (wpAny_bind (wpAny_newTuple ?_ (by simpa using z64))))
  refine wpAny_bind (wpAny_newList ?_ (Nat.zero_le _))
  refine wpAny_holding ?_
  have hz1 : (s.heap.update a (Obj.mapSeq fun x => #[])).objs.size = s.heap.objs.size := Heap.size_update _ _ _
  have ho6 : (tmpH s.heap a vs).get? a = some (seqObj "list" #[] e1) := by
    unfold tmpH
    rw [Heap.get?_push_ne _ a _ (by rw [size_push', hz1]; exact Nat.ne_of_lt (Nat.lt_succ_of_lt ha)), Heap.get?_push_ne _ a _ (by rw [hz1]; exact Nat.ne_of_lt ha)]
    exact ho1
  show wpAny _ _ _ _ _ { s with heap := tmpH s.heap a vs }
  have fin : ∀ (st : SortSt) (out : List Value), (arrOf st).map (fun x => x.2) = out.toArray → out.Perm vs → out.Pairwise (fun x y => lv y x = false) → failedOf st = none →
      wpAny (model prog w) A (do
        let __do_lift ← seqEpoch a
        Builtin.List.listUpdate (Value.ref a) fun x => Array.map (fun x => x.snd) (arrOf st)
        match failedOf st with
          | some e => do
            rule "list.sort.comparison-raised"
            throw e
            if (__do_lift != e1) = true then do
                rule "list.sort.modified"
                raiseErrorWords "ValueError" "list modified during sort"
                ret Value.none
              else ret Value.none
          | x =>
            if (__do_lift != e1) = true then do
              rule "list.sort.modified"
              raiseErrorWords "ValueError" "list modified during sort"
              ret Value.none
            else ret Value.none) P E { s with heap := tmpH s.heap a vs } := fun st out e1' e3' e4' e2' => by
    refine wpAny_bind (seqEpoch_at ho6 rfl (wpAny_bind (listUpdate_at ho6 rfl ?_ (Nat.zero_le _) ?_)))
    · rw [e2']
      simp only [bne_self_eq_false, Bool.false_eq_true, if_false]
      rw [e1']
      exact wpAny_pure (h out e3' e4')
    · rw [e1', List.size_toArray, e3'.length_eq]; exact Nat.le_succ_of_le z64
  have hsz : vs.toArray.size = vs.length := by simp
  have zz : (vs.toArray.zip vs.toArray).toList = vs.map fun v => (v, v) := by
    rw [Array.toList_zip]
    show vs.zip vs = _
    rw [List.zip_eq_zipWith]
    exact List.zipWith_self ..
  by_cases h2 : vs.toArray.size < 2
  · show wpAny _ _ (if vs.toArray.size < 2 then _ else _) _ _ _
    rw [if_pos h2]
    refine wpAny_bind (wpAny_pure ?_)
    dsimp only
    rw [if_pos h2, StateT.run_pure]
    refine wpAny_bind (wpAny_pure ?_)
    refine fin _ vs ?_ (.refl _) ?_ rfl
    · show Array.map (fun x => x.2) (vs.toArray.zip vs.toArray) = vs.toArray
      apply Array.ext'
      rw [Array.toList_map, zz, List.map_map]
      exact List.map_id _
    · rw [hsz] at h2
      match vs, h2 with
      | [], _ => exact .nil
      | [x], _ => exact List.pairwise_singleton _ _
  · show wpAny _ _ (if vs.toArray.size < 2 then _ else _) _ _ _
    rw [if_neg h2]
    refine wpAny_bind (hk (by omega) _ ?_)
    rw [if_neg h2]
    have cmpX : ∀ x y : Keyed, (x.1 ∈ vs ∧ x.1 = x.2) → (y.1 ∈ vs ∧ y.1 = y.2) → ∀ s', s' = { s with heap := tmpH s.heap a vs } → ∀ C : Bool → Shared → Prop, (∀ s'', s'' = { s with heap := tmpH s.heap a vs } → C (lv x.1 y.1) s'') → wpAny (model prog w) A (keyLt' κ x.1 y.1) C (fun _ _ => False) s' := by
      rintro x y hx hy s' rfl C k
      exact hc x.1 hx.1 y.1 hy.1 C (k _ rfl)
    let X : SEnv := { prog := prog, w := w, A := A, E := E, P := fun s' => s' = { s with heap := tmpH s.heap a vs }, κ := κ, lv := fun x y => lv x.1 y.1, It := fun x => x.1 ∈ vs ∧ x.1 = x.2, asym := fun x y h => asy _ _ h, neg := fun x y z h1 h2 => neg _ _ _ h1 h2, cmp := cmpX }
    have main : SoT X sortRuns' (SortSt.mk' κ (vs.toArray.zip vs.toArray) #[] 7 none) fun _ st => ∃ out : List Value, (arrOf st).map (fun x => x.2) = out.toArray ∧ out.Perm vs ∧ out.Pairwise (fun x y => lv y x = false) ∧ failedOf st = none := by
      refine sortRuns_ok (L := vs.map fun v => (v, v)) (fun x hx => ?_) rfl rfl rfl zz fun st' h1 h2 h3 h4 => ⟨(arrOf st').toList.map (·.2), ?_, ?_, ?_, h2⟩
      · obtain ⟨v, hv, rfl⟩ := List.mem_map.mp hx
        exact ⟨hv, rfl⟩
      · apply Array.ext'
        rw [Array.toList_map]
      · have := h3.map (·.2)
        rw [List.map_map] at this
        exact this.trans (by rw [show ((fun x : Keyed => x.2) ∘ fun v : Value => (v, v)) = id from rfl, List.map_id])
      · rw [List.pairwise_map]
        refine List.Pairwise.imp_of_mem ?_ h4
        intro x y hx hy hxy
        have ex : x.1 = x.2 := by obtain ⟨v, _, rfl⟩ := List.mem_map.mp (h3.mem_iff.mp hx); rfl
        have ey : y.1 = y.2 := by obtain ⟨v, _, rfl⟩ := List.mem_map.mp (h3.mem_iff.mp hy); rfl
        have : lv y.1 x.1 = false := hxy
        rw [ex, ey] at this
        exact this
    have := main { s with heap := tmpH s.heap a vs } rfl (fun _ st s' => (∃ out : List Value, (arrOf st).map (fun x => x.2) = out.toArray ∧ out.Perm vs ∧ out.Pairwise (fun x y => lv y x = false) ∧ failedOf st = none) ∧ s' = { s with heap := tmpH s.heap a vs }) fun _ st' s' p q => ⟨q, p⟩
    refine wpAny_bind (wpAny_mono this (fun r s' q => ?_) fun _ _ x => x)
    obtain ⟨⟨out, q1, q2, q3, q4⟩, rfl⟩ := q
    exact fin r.2 out q1 q2 q3 q4
/-- texts -/
theorem list_sort_S {a : Addr} {vs : List Value} {ss : List Str} {n : Nat} {P : PySem.Fin → Shared → Prop} (ho : s.heap.get? a = some (seqObj "list" vs.toArray n)) (hS : StrsAre vs ss) (hz : vs.length < 1024)
    (h : ∀ out : List Value, StrsAre out (sortS ss) → P (.done (.ret .none)) { s with heap := sortedHeap s.heap a vs out.toArray }) : wpAny (model prog w) A (Builtin.«list.sort» { pos := [.ref a] }) P E s := by
  have lt : ∀ x y : Str, ltCps x.cps.toList y.cps.toList = true → ltCps y.cps.toList x.cps.toList = false := fun x y e => by
    have := leS_total x y
    unfold leS at this
    rw [e] at this
    simpa using this
  refine list_sort_G (κ := oneType') (fun x y => ltCps (strOf x).cps.toList (strOf y).cps.toList) (fun x y e => lt _ _ e) (fun x y z e1 e2 => ?_) ho hz (fun h2 Q q => ?_) (fun x hx y hy C q => ?_) fun out p1 p2 => ?_
  · have := leS_trans (a := strOf z) (b := strOf y) (c := strOf x) (by unfold leS; rw [e2]; rfl) (by unfold leS; rw [e1]; rfl)
    unfold leS at this
    simpa using this
  · match vs, h2, hS with
    | v₁ :: v₂ :: rest, _, hS => rw [keyKind_strs hS]; exact wpAny_pure q
  · obtain ⟨u, t, rfl⟩ := hS.all x hx
    obtain ⟨u', t', rfl⟩ := hS.all y hy
    rw [keyLt'_oneType]
    refine oneLt_str ?_
    rw [← ltCps_eq]
    exact q
  · have h1 := strsAre_map out fun v hv => hS.all v (p1.mem_iff.mp hv)
    have e : out.map strOf = sortS ss := by
      refine sortS_eq ((p1.map strOf).trans (by rw [hS.strs])) (sor_of (sortedS_of_pairwise _ ?_))
      rw [List.pairwise_map]
      exact p2
    rw [e] at h1
    exact h out h1
end
theorem call_sortedB {X : Cx} : CallR X (.builtin "sorted") (fun xs H Q => ∃ p ss, xs = [.ref p] ∧ SqL X.K H p (ss.map V.str) ∧ ss.length < 1024 ∧ ∀ l, H l = none → Q (.ref l) (upd H l (.lst ((sortS ss).map V.str)))) := by
  intro pins s σ H xs us Q I r h
  obtain ⟨p, ss, rfl, hS, hl, q⟩ := h
  obtain ⟨u, rfl, rx⟩ := vals1 r
  cases rx
  obtain ⟨its, rv, pl, _⟩ := I.list hS
  have hst := strsAre_of rv
  have hlen : its.length = ss.length := by have := rv.length; rw [List.length_map] at this; exact this.symm
  have z64 : its.length ≤ sizeLine := by rw [sizeLine_eq]; omega
  refine Calls.call_function_entry kind_sorted plain_sorted entry_sorted (args_sorted1 _) ?_
  unfold Builtin.«sorted»
  refine wpAny_bind (m := checkCount "sorted" 1 1 _) (wpAny_pure ?_)
  refine wpAny_bind (collect_list pl.isList (wpAny_bind (wpAny_newList ?_ z64)) z64)
  have hsz : ((s.heap.push (seqObj "list" #[] 0)).update s.heap.objs.size (Obj.mapSeq fun x => x ++ its.toArray)).objs.size = s.heap.objs.size + 1 := by rw [Heap.size_update, size_push']
  have hoL : (((s.heap.push (seqObj "list" #[] 0)).update s.heap.objs.size (Obj.mapSeq fun x => x ++ its.toArray)).push (seqObj "list" its.toArray 0)).get? (s.heap.objs.size + 1) = some (seqObj "list" its.toArray 0) := by
    rw [← hsz]; exact Heap.get?_push_size _ rfl
  have old : ∀ b o, s.heap.get? b = some o → (((s.heap.push (seqObj "list" #[] 0)).update s.heap.objs.size (Obj.mapSeq fun x => x ++ its.toArray)).push (seqObj "list" its.toArray 0)).get? b = some o ∧ b ≠ s.heap.objs.size + 1 := fun b o e => by
    have hb := Heap.lt_size e
    refine ⟨?_, Nat.ne_of_lt (Nat.lt_succ_of_lt hb)⟩
    rw [Heap.get?_push_ne _ b _ (by rw [hsz]; exact Nat.ne_of_lt (Nat.lt_succ_of_lt hb)), Heap.get?_update_ne _ _ _ _ (Nat.ne_of_lt hb)]
    exact Heap.get?_push_of_some _ e
  rw [show (Value.ref ((s.heap.push (seqObj "list" #[] 0)).update s.heap.objs.size (Obj.mapSeq fun x => x ++ its.toArray)).objs.size) = .ref (s.heap.objs.size + 1) by rw [hsz]]
  refine wpAny_bind (wpAny_holding (wpAny_call_entry slot_list_sort ⟨_, hoL, rfl⟩ entry_list_sort (list_sort_S hoL hst (by omega) fun out ho => ⟨_, rfl, ?_⟩) (args_list_sort _)))
  refine wpAny_pure ⟨_, rfl, ?_⟩
  obtain ⟨e, he⟩ := sortedHeap_at (out := out.toArray) hoL
  have hz : s.heap.objs.size ≤ s.heap.objs.size + 1 := Nat.le_succ _
  refine ⟨.ref (s.heap.objs.size + 1), _, I.laid (t' := s.toks) (fun b u hb => ?_) hz (show ObjOk X.prog X.w _ _ _ (.lst ((sortS ss).map V.str)) from ⟨?_, out, e, vals_strsAre ho, he⟩), rfl, q _ (I.hok.fresh hz)⟩
  · obtain ⟨o1, o2⟩ := old b u hb
    rw [sortedHeap_old o2 (Heap.lt_size o1)]
    exact o1
  · rw [List.length_map, sortS_len, sizeLine_eq]; omega
theorem call_sorted_dictB {X : Cx} (hc : X.calm = true) : CallR X (.builtin "sorted") (fun xs H Q => ∃ p kvs ss, xs = [.ref p] ∧ H p = some (.dK kvs) ∧ kvs.map (fun kv => kV kv.1) = ss.map V.str ∧ ss.length < 1024 ∧ ∀ l, H l = none → Q (.ref l) (upd H l (.lst ((sortS ss).map V.str)))) := by
  intro pins s σ H xs us Q I r h
  obtain ⟨p, kvs, ss, rfl, hp, hks, hl, q⟩ := h
  obtain ⟨u, rfl, rx⟩ := vals1 r
  cases rx
  obtain ⟨hz, hlo, vs, rv, o, es, ep, h1, h2, h3, h4, h5, h6⟩ := dk_of I.hok hp
  have da : s.heap.DictAt (mixKind X.prog X.w) p vs ep := ⟨o, es, h1, h2, h3, h4, h5, h6⟩
  have hlen : kvs.length = vs.length := KV.length rv
  have hh : X.A.in1.handled = none := I.ok.hd hc
  refine Calls.call_function_entry kind_sorted plain_sorted entry_sorted (args_sorted1 _) ?_
  unfold Builtin.«sorted»
  refine wpAny_bind (m := checkCount "sorted" 1 1 _) (wpAny_pure ?_)
  refine wpAny_bind (collect_src (A := X.A.in1) (PySem.W.kdl_dict hlo) hh da (by rw [← hlen]; exact hz) fun h' tk acc hk hgr hacc => ?_)
  have hv : Vals (kvs.map fun kv => kV kv.1) acc.toList := by
    refine vals_of_get (by rw [List.length_map, hlen]; exact hacc.1.symm.trans (by simp)) fun j x u e1 e2 => ?_
    rw [List.getElem?_map] at e1
    cases hj : kvs[j]? with
    | none => rw [hj] at e1; cases e1
    | some kv =>
      rw [hj] at e1
      cases e1
      obtain ⟨k, y, e3, e4⟩ := hacc.2 j u (by rw [← Array.getElem?_toList]; exact e2)
      have ek : kv.1 = k := KV.at rv hj e3
      show RelV (kV kv.1) u
      rw [ek]
      rcases keyIs_shape (show keyIs k u = true from e4) with ⟨i, t, rfl, rfl⟩ | ⟨z, t, rfl, rfl⟩
      · exact ⟨t, rfl⟩
      · exact ⟨t, rfl⟩
  rw [hks] at hv
  have hst := strsAre_of hv
  have hal : acc.toList.length = ss.length := by have := hv.length; rw [List.length_map] at this; exact this.symm
  refine wpAny_bind (wpAny_newList ?_ (by rw [hal, sizeLine_eq]; omega))
  have hoL : (h'.push (seqObj "list" acc.toList.toArray 0)).get? h'.objs.size = some (seqObj "list" acc.toList.toArray 0) := Heap.get?_push_size _ rfl
  refine wpAny_bind (wpAny_holding (wpAny_call_entry slot_list_sort ⟨_, hoL, rfl⟩ entry_list_sort (list_sort_S hoL hst (by omega) fun out ho => ⟨_, rfl, ?_⟩) (args_list_sort _)))
  refine wpAny_pure ⟨_, rfl, ?_⟩
  obtain ⟨e, he⟩ := sortedHeap_at (out := out.toArray) hoL
  have hsz : s.heap.objs.size ≤ h'.objs.size := Nat.le_of_lt hgr
  refine ⟨.ref h'.objs.size, _, I.laid (t' := tk) (fun b u hb => ?_) hsz (show ObjOk X.prog X.w _ _ _ (.lst ((sortS ss).map V.str)) from ⟨?_, out, e, vals_strsAre ho, he⟩), rfl, q _ (I.hok.fresh hsz)⟩
  · have hb' := hk b u hb
    have hlt := Heap.lt_size hb'
    rw [sortedHeap_old (Nat.ne_of_lt hlt) (Heap.lt_size (Heap.get?_push_of_some _ hb'))]
    exact Heap.get?_push_of_some _ hb'
  · rw [List.length_map, sortS_len, sizeLine_eq]; omega
end L2
set_option Elab.async false
set_option linter.all false
set_option maxRecDepth 100000
set_option maxHeartbeats 4000000
namespace L2
open PySem PySem.Spec PyProof.Rows
def ltL : List Str → List Str → Bool
  | [], [] => false
  | [], _ :: _ => true
  | _ :: _, [] => false
  | x :: xs, y :: ys => if x = y then ltL xs ys else decide (x.cps.toList < y.cps.toList)
open AutoSeq1 (wpAny_loadPart')
theorem strsA_at {us : List Value} {xs : List Str} (h : StrsAre us xs) {i : Nat} {x : Str} (e : xs[i]? = some x) : ∃ t, us[i]? = some (.str x t) := by
  induction h generalizing i with
  | nil => simp at e
  | cons y t h ih =>
    cases i with
    | zero => simp at e; subst e; exact ⟨t, rfl⟩
    | succ i => simpa using ih (i := i) (by simpa using e)
theorem rich_lt {prog : Program} {w : World} {A : Around} {E : Value → Shared → Prop} {s : Shared} {a b : Str} {t u : Tok} {Q : Value → Shared → Prop} (h : Q (.bool (decide (a.cps.toList < b.cps.toList))) s) : wpAny (model prog w) A (richCompare .Lt (.str a t) (.str b u)) Q E s :=
  wpAny_richCompare_same (typeIs_str s a t) (typeIs_str s b u) slot_str_lt (call_str_lt ⟨(fun z => nomatch z), h⟩)
theorem lt_loop (l b : Addr) (items items2 : Array Value) (n n2 : Nat) {xs ys : List Str} (hx : StrsAre items.toList xs) (hy : StrsAre items2.toList ys) (k : Nat) :
    ∀ i : Nat, xs.length - i = k → i ≤ xs.length → i ≤ ys.length → Meets (Builtin.«list.__eq__.loop» ⟨[.ref l, .ref b, rawInt i, rawInt 0], []⟩)
      (fun _ R s => s.heap.get? l = some { cls := .type "list", dict := none, data := .seq items n, slots := #[] } ∧ s.heap.get? b = some { cls := .type "list", dict := none, data := .seq items2 n2, slots := #[] } ∧
        R (.ok (.ret (.bool (ltL (xs.drop i) (ys.drop i))))) s) := by
  have zx : items.size = xs.length := by have := strsA_len hx; rwa [Array.length_toList] at this
  have zy : items2.size = ys.length := by have := strsA_len hy; rwa [Array.length_toList] at this
  have stop : ∀ i : Nat, i ≤ xs.length → i ≤ ys.length → (i = xs.length ∨ i = ys.length) → Meets (Builtin.«list.__eq__.loop» ⟨[.ref l, .ref b, rawInt i, rawInt 0], []⟩)
      (fun _ R s => s.heap.get? l = some { cls := .type "list", dict := none, data := .seq items n, slots := #[] } ∧ s.heap.get? b = some { cls := .type "list", dict := none, data := .seq items2 n2, slots := #[] } ∧
        R (.ok (.ret (.bool (ltL (xs.drop i) (ys.drop i))))) s) := by
    intro i h1 h2 h3 prog w A R s h
    obtain ⟨hp, g, d, tk, os⟩ := s; obtain ⟨hl, hb, h⟩ := h
    wp_walk using wpAny_loadPart' hl, wpAny_loadPart' hb
    have e : ltL (xs.drop i) (ys.drop i) = decide (items.size < items2.size) := by
      rcases h3 with rfl | rfl
      · rw [List.drop_length]
        cases hd : ys.drop xs.length with
        | nil =>
          have := List.drop_eq_nil_iff.mp hd
          rw [decide_eq_false (by omega)]; rfl
        | cons z zs =>
          have : xs.length < ys.length := Nat.lt_of_not_le fun z => by rw [List.drop_eq_nil_iff.mpr z] at hd; cases hd
          rw [decide_eq_true (by omega)]; rfl
      · rw [List.drop_length]
        rw [decide_eq_false (by omega)]
        cases xs.drop ys.length <;> rfl
    rw [e] at h
    have hn : items[((i : Nat) : Int).toNat]? = none ∨ items2[((i : Nat) : Int).toNat]? = none := by
      rcases h3 with h3 | h3
      · exact .inl (by simp; omega)
      · exact .inr (by simp; omega)
    rcases hn with hn | hn
    · rw [hn]
      wp_walk using wpAny_loadPart' hl, wpAny_loadPart' hb
      exact h
    · rw [hn]
      cases items[((i : Nat) : Int).toNat]? with
      | none => wp_walk using wpAny_loadPart' hl, wpAny_loadPart' hb; exact h
      | some v => wp_walk using wpAny_loadPart' hl, wpAny_loadPart' hb; exact h
  induction k with
  | zero => exact fun i hk h1 h2 => stop i h1 h2 (.inl (by omega))
  | succ k ih =>
    intro i hk h1 h2
    by_cases hy' : i = ys.length
    · exact stop i h1 h2 (.inr hy')
    intro prog w A R s h
    obtain ⟨hp, g, d, tk, os⟩ := s; obtain ⟨hl, hb, h⟩ := h
    have i1 : i < xs.length := by omega
    have i2 : i < ys.length := by omega
    obtain ⟨t1, u1⟩ := strsA_at hx (List.getElem?_eq_getElem i1)
    obtain ⟨t2, u2⟩ := strsA_at hy (List.getElem?_eq_getElem i2)
    rw [Array.getElem?_toList] at u1 u2
    have hi1 : items[((i : Nat) : Int).toNat]? = some (.str xs[i] t1) := by simpa using u1
    have hi2 : items2[((i : Nat) : Int).toNat]? = some (.str ys[i] t2) := by simpa using u2
    have hc : ((i : Int) + 1) = ((i + 1 : Nat) : Int) := by push_cast; rfl
    rw [List.drop_eq_getElem_cons i1, List.drop_eq_getElem_cons i2] at h
    wp_walk using wpAny_loadPart' hl, wpAny_loadPart' hb
    rw [hi1, hi2]
    refine wpAny_bind (eqBool_str ?_)
    by_cases e : xs[i] = ys[i]
    · rw [show (xs[i] == ys[i]) = true by rw [e]; exact beq_self_eq_true _]
      rw [show ltL (xs[i] :: xs.drop (i + 1)) (ys[i] :: ys.drop (i + 1)) = ltL (xs.drop (i + 1)) (ys.drop (i + 1)) from if_pos e] at h
      wp_walk
      rw [hc]
      exact ⟨plainId_quiet MeetsSeq3.plain_eq_loop _, codeAny_builtin MeetsSeq3.entry_eq_loop (by
        rw [Around.under_plainId MeetsSeq3.plain_eq_loop _]
        exact ih (i + 1) (by omega) (by omega) (by omega) prog w A R _ ⟨hl, hb, h⟩)⟩
    · rw [show (xs[i] == ys[i]) = false from beq_eq_false_iff_ne.mpr e]
      rw [show ltL (xs[i] :: xs.drop (i + 1)) (ys[i] :: ys.drop (i + 1)) = decide (xs[i].cps.toList < ys[i].cps.toList) from if_neg e] at h
      wp_walk using wpAny_loadPart' hl, wpAny_loadPart' hb
      rw [hi1, hi2]
      refine wpAny_bind (rich_lt ?_)
      wp_walk
      exact h
/-- a list of texts before another -/
theorem list_lt (l b : Addr) (items items2 : Array Value) (n n2 : Nat) {xs ys : List Str} (hx : StrsAre items.toList xs) (hy : StrsAre items2.toList ys) : Meets (Builtin.«list.__lt__» ⟨[.ref l, .ref b], []⟩)
      (fun _ R s => s.heap.get? l = some { cls := .type "list", dict := none, data := .seq items n, slots := #[] } ∧ s.heap.get? b = some { cls := .type "list", dict := none, data := .seq items2 n2, slots := #[] } ∧
        R (.ok (.ret (.bool (ltL xs ys)))) s) := by
  intro prog w A R s h
  obtain ⟨hp, g, d, tk, os⟩ := s; obtain ⟨hl, hb, h⟩ := h
  have f3 := AutoSeq1.sub_list_list
  wp_walk using wpAny_loadPart' hl, wpAny_loadPart' hb
  exact ⟨plainId_quiet MeetsSeq3.plain_eq_loop _, codeAny_builtin MeetsSeq3.entry_eq_loop (by
    rw [Around.under_plainId MeetsSeq3.plain_eq_loop _]
    exact lt_loop l b items items2 n n2 hx hy _ 0 rfl (Nat.zero_le _) (Nat.zero_le _) prog w A R _ ⟨hl, hb, h⟩)⟩
theorem one_lt {prog : Program} {w : World} {A : Around} {E : Value → Shared → Prop} {s : Shared} {l b : Addr} {items items2 : Array Value} {n n2 : Nat} {xs ys : List Str} {Q : Bool → Shared → Prop} (hx : StrsAre items.toList xs) (hy : StrsAre items2.toList ys)
    (hl : s.heap.get? l = some (seqObj "list" items n)) (hb : s.heap.get? b = some (seqObj "list" items2 n2)) (hu : A.units < cLine) (h : Q (ltL xs ys) s) : wpAny (model prog w) A (oneLt' true (.ref l) (.ref b)) Q E s := by
  rw [oneLt'_eq]
  simp only [if_true]
  refine wpAny_bind (wpAny_cRoomFor hu ?_)
  refine wpAny_bind (wpAny_callSpecialIfBound?_slot (name := (cmpInfo .Lt).2.1) ⟨_, hl, rfl⟩ PySem.F.slot_list_lt (call_meets PySem.F.slot_list_lt ⟨_, hl, rfl⟩ PySem.F.entry_list_lt (PySem.F.args_list_lt_2 _ _) (list_lt l b items items2 n n2 hx hy) ⟨hl, hb, ?_⟩))
  exact wpAny_truthy_bool h
theorem ltL_asym : ∀ {a b : List Str}, ltL a b = true → ltL b a = false
  | [], [], h => by cases h
  | [], _ :: _, _ => rfl
  | _ :: _, [], h => by cases h
  | x :: xs, y :: ys, h => by
    unfold ltL at h ⊢
    by_cases e : x = y
    · rw [if_pos e] at h
      rw [if_pos e.symm]
      exact ltL_asym h
    · rw [if_neg e] at h
      rw [if_neg (fun z => e z.symm)]
      refine decide_eq_false fun z => ?_
      exact List.lt_asymm (of_decide_eq_true h) z
theorem ltL_neg : ∀ {a b c : List Str}, ltL a b = false → ltL b c = false → ltL a c = false
  | [], [], c, _, h => h
  | [], _ :: _, c, h, _ => by cases h
  | a :: as, [], [], _, _ => rfl
  | a :: as, [], _ :: _, _, h => by cases h
  | a :: as, b :: bs, [], _, _ => rfl
  | a :: as, b :: bs, c :: cs, h1, h2 => by
    unfold ltL at h1 h2 ⊢
    have tot : ∀ {x y : Str}, x ≠ y → decide (x.cps.toList < y.cps.toList) = false → leS y x = true ∧ ¬ leS x y = true := fun {x y} n e => by
      have h : leS y x = true := (leS_iff y x).mpr (of_decide_eq_false e)
      exact ⟨h, fun z => n (leS_antisymm z h)⟩
    by_cases e1 : a = b
    · subst e1
      rw [if_pos rfl] at h1
      by_cases e2 : a = c
      · rw [if_pos e2] at h2 ⊢; exact ltL_neg h1 h2
      · rw [if_neg e2] at h2 ⊢; exact h2
    · rw [if_neg e1] at h1
      obtain ⟨t1, t2⟩ := tot e1 h1
      by_cases e2 : b = c
      · subst e2
        rw [if_neg e1]; exact h1
      · rw [if_neg e2] at h2
        obtain ⟨t3, t4⟩ := tot e2 h2
        have t5 := leS_trans t3 t1
        have e3 : a ≠ c := fun z => e1 (leS_antisymm (by rw [z]; exact t3) t1)
        rw [if_neg e3]
        exact decide_eq_false ((leS_iff c a).mp t5)
theorem perm_liftA {α β : Type} {f : α → β} : ∀ {ys : List β} {xs : List α}, ys.Perm (xs.map f) → ∃ zs : List α, zs.Perm xs ∧ ys = zs.map f
  | [], xs, p => by
    cases xs with
    | nil => exact ⟨[], .nil, rfl⟩
    | cons x xs => exact absurd p.length_eq (by simp)
  | y :: ys, xs, p => by
    obtain ⟨x, hx, e⟩ := List.mem_map.mp (p.mem_iff.mp (List.mem_cons_self ..))
    obtain ⟨s, t, rfl⟩ := List.append_of_mem hx
    have p1 : (x :: (s ++ t)).Perm (s ++ x :: t) := List.perm_middle.symm
    have p2 : (y :: ys).Perm (y :: (s ++ t).map f) := by rw [← e]; exact (by rw [e]; exact p : (f x :: ys).Perm ((s ++ x :: t).map f)).trans (p1.symm.map f)
    obtain ⟨zs, q, r⟩ := perm_liftA ((List.perm_cons y).mp p2)
    exact ⟨x :: zs, (q.cons x).trans p1, by rw [List.map_cons, e, r]⟩
/-- lists of texts where they stand -/
inductive LsH (K : PySem.W.Frag) (H : Hp) : List Addr → List (List Str) → Prop
  | nil : LsH K H [] []
  | cons {b : Addr} {t : List Str} {bs : List Addr} {ts : List (List Str)} (e : H b = some (.lst (t.map V.str))) (r : LsH K H bs ts) : LsH K H (b :: bs) (t :: ts)
def strV : V → Str
  | .str x => x
  | _ => ""
def txH (H : Hp) (v : Value) : List Str := match v with
  | .ref b => match H b with
    | some (.lst ys) => ys.map strV
    | _ => []
  | _ => []
theorem txH_at {H : Hp} {b : Addr} {t : List Str} (e : H b = some (.lst (t.map V.str))) : txH H (.ref b) = t := by
  unfold txH
  dsimp only
  rw [e]
  show (t.map V.str).map strV = t
  rw [List.map_map]
  exact List.map_id _
theorem LsH.zip {K : PySem.W.Frag} {H : Hp} : ∀ {bs : List Addr} {ts : List (List Str)}, LsH K H bs ts → bs.map (fun b => (b, txH H (.ref b))) = bs.zip ts ∧ ∀ b ∈ bs, ∃ t : List Str, H b = some (.lst (t.map V.str))
  | _, _, .nil => ⟨rfl, fun b h => nomatch h⟩
  | _, _, .cons e r => by
    obtain ⟨z1, z2⟩ := LsH.zip r
    refine ⟨by rw [List.map_cons, z1, txH_at e]; rfl, fun b h => ?_⟩
    rcases List.mem_cons.mp h with rfl | h
    · exact ⟨_, e⟩
    · exact z2 b h
theorem vals_refsI : ∀ {bs : List Addr} {us : List Value}, Vals (bs.map V.ref) us → us = bs.map Value.ref
  | [], _, .nil => rfl
  | _ :: _, _, .cons r t => by rw [rel_ref r, vals_refsI t]; rfl
inductive rSortL_I (K : PySem.W.Frag) (xs : List V) (H : Hp) (Q : VK) : Prop
  | mk : ∀ (p : Addr) (bs : List Addr) (ts : List (List Str)), xs = [.ref p] → SqL K H p (bs.map V.ref) → LsH K H bs ts → bs.length < 1024 → (∀ l (qs : List (Addr × List Str)), H l = none → qs.Perm (bs.zip ts) → qs.Pairwise (fun a b => ltL b.2 a.2 = false) → Q (.ref l) (upd H l (.lst (qs.map fun q => V.ref q.1)))) → rSortL_I K xs H Q
theorem call_sortedL {X : Cx} (hu : X.A.units + 64 < cLine) : CallR X (.builtin "sorted") (fun xs H Q => rSortL_I X.K xs H Q) := by
  intro pins s σ H xs us Q I r h
  obtain ⟨p, bs, ts, rfl, hS, hT, hl, q⟩ := h
  obtain ⟨u, rfl, rx⟩ := vals1 r
  cases rx
  obtain ⟨its, rv, pl, _⟩ := I.list hS
  obtain rfl := vals_refsI rv
  obtain ⟨hzip, hall⟩ := hT.zip
  have hlen : (bs.map Value.ref).length = bs.length := List.length_map ..
  have z64 : (bs.map Value.ref).length ≤ sizeLine := by rw [sizeLine_eq]; omega
  refine Calls.call_function_entry kind_sorted plain_sorted entry_sorted (args_sorted1 _) ?_
  unfold Builtin.«sorted»
  refine wpAny_bind (m := checkCount "sorted" 1 1 _) (wpAny_pure ?_)
  refine wpAny_bind (collect_list pl.isList (wpAny_bind (wpAny_newList ?_ z64)) z64)
  generalize hits : bs.map Value.ref = its at *
  have hsz : ((s.heap.push (seqObj "list" #[] 0)).update s.heap.objs.size (Obj.mapSeq fun x => x ++ its.toArray)).objs.size = s.heap.objs.size + 1 := by rw [Heap.size_update, size_push']
  have hoL : (((s.heap.push (seqObj "list" #[] 0)).update s.heap.objs.size (Obj.mapSeq fun x => x ++ its.toArray)).push (seqObj "list" its.toArray 0)).get? (s.heap.objs.size + 1) = some (seqObj "list" its.toArray 0) := by
    rw [← hsz]; exact Heap.get?_push_size _ rfl
  have old : ∀ b o, s.heap.get? b = some o → (((s.heap.push (seqObj "list" #[] 0)).update s.heap.objs.size (Obj.mapSeq fun x => x ++ its.toArray)).push (seqObj "list" its.toArray 0)).get? b = some o ∧ b ≠ s.heap.objs.size + 1 := fun b o e => by
    have hb := Heap.lt_size e
    refine ⟨?_, Nat.ne_of_lt (Nat.lt_succ_of_lt hb)⟩
    rw [Heap.get?_push_ne _ b _ (by rw [hsz]; exact Nat.ne_of_lt (Nat.lt_succ_of_lt hb)), Heap.get?_update_ne _ _ _ _ (Nat.ne_of_lt hb)]
    exact Heap.get?_push_of_some _ e
  rw [show (Value.ref ((s.heap.push (seqObj "list" #[] 0)).update s.heap.objs.size (Obj.mapSeq fun x => x ++ its.toArray)).objs.size) = .ref (s.heap.objs.size + 1) by rw [hsz]]
  have at_ : ∀ v ∈ its, ∃ (b : Addr) (items : Array Value) (n : Nat), v = .ref b ∧ StrsAre items.toList (txH H v) ∧ s.heap.get? b = some (seqObj "list" items n) := fun v hv => by
    rw [← hits] at hv
    obtain ⟨b, hb, rfl⟩ := List.mem_map.mp hv
    obtain ⟨t, e⟩ := hall b hb
    obtain ⟨vs, rv2, pl2, _⟩ := I.list (SqL.of e)
    obtain ⟨_, vs', n', rv', eh⟩ := (show ObjOk X.prog X.w H s.heap b (.lst (t.map V.str)) from I.hok b _ e)
    exact ⟨b, vs'.toArray, n', rfl, by rw [txH_at e]; exact strsAre_of rv', eh⟩
  refine wpAny_bind (wpAny_holding (wpAny_call_entry slot_list_sort ⟨_, hoL, rfl⟩ entry_list_sort (list_sort_G (κ := oneType') (fun x y => ltL (txH H x) (txH H y)) (fun x y e => ltL_asym e) (fun x y z e1 e2 => ltL_neg e1 e2) hoL (by rw [hlen]; exact hl) (fun h2 Q' q' => ?_) (fun x hx y hy C q' => ?_) fun out p1 p2 => ⟨_, rfl, ?_⟩) (args_list_sort _)))
  · refine W.kas_kind (T := .type "list") h2 (fun v hv => ?_) (by decide) (by decide) q'
    obtain ⟨b, items, n, rfl, _, eb⟩ := at_ v hv
    have e2 := tmpH_old (vs := its) (old b _ eb).1 (old b _ eb).2
    exact (show W.Looks _ _ (typeOf (.ref b)) _ from (W.Looks.ld e2).andThen .now)
  · obtain ⟨b, items, n, rfl, s1, eb⟩ := at_ x hx
    obtain ⟨b', items', n', rfl, s2, eb'⟩ := at_ y hy
    rw [keyLt'_oneType]
    exact one_lt s1 s2 (tmpH_old (old b _ eb).1 (old b _ eb).2) (tmpH_old (old b' _ eb').1 (old b' _ eb').2) (by show X.A.units + 1 + 1 < cLine; omega) q'
  refine wpAny_pure ⟨_, rfl, ?_⟩
  obtain ⟨e, he⟩ := sortedHeap_at (out := out.toArray) hoL
  have hz : s.heap.objs.size ≤ s.heap.objs.size + 1 := Nat.le_succ _
  obtain ⟨cs, pc, rfl⟩ : ∃ cs : List Addr, cs.Perm bs ∧ out = cs.map Value.ref := by
    rw [← hits] at p1
    obtain ⟨cs, pc, e⟩ := perm_liftA p1
    exact ⟨cs, pc, e⟩
  have ha : H (s.heap.objs.size + 1) = none := I.hok.fresh hz
  have := q (s.heap.objs.size + 1) (cs.map fun b => (b, txH H (.ref b))) ha (by rw [← hzip]; exact pc.map _) (by rw [List.pairwise_map]; rw [List.pairwise_map] at p2; exact p2)
  rw [List.map_map] at this
  refine ⟨.ref (s.heap.objs.size + 1), _, I.laid (t' := s.toks) (fun b u hb => ?_) hz (show ObjOk X.prog X.w _ _ _ (.lst (cs.map V.ref)) from ⟨?_, cs.map Value.ref, e, vals_refs cs, he⟩), rfl, this⟩
  · obtain ⟨o1, o2⟩ := old b u hb
    rw [sortedHeap_old o2 (Heap.lt_size o1)]
    exact o1
  · rw [List.length_map, pc.length_eq, sizeLine_eq]; omega
end L2
set_option Elab.async false
set_option linter.all false
set_option maxRecDepth 100000
set_option maxHeartbeats 4000000
namespace L2
open PySem PySem.Spec PyProof.Rows
def evI (n : Nat) : List Nat := (List.range ((n + 1) / 2)).map fun k => 2 * k
def odI (n : Nat) : List Nat := (List.range (n / 2)).map fun k => 2 * k + 1
def pickI {α : Type} (idx : List Nat) (xs : List α) : List α := idx.filterMap fun i => xs[i]?
theorem two_perm (n : Nat) : (evI n ++ odI n).Perm (List.range n) := by
  refine (List.perm_ext_iff_of_nodup ?_ List.nodup_range).mpr fun i => ?_
  · refine List.nodup_append.mpr ⟨List.pairwise_map.mpr ((List.nodup_range).imp fun h e => h (by omega)), List.pairwise_map.mpr ((List.nodup_range).imp fun h e => h (by omega)), fun x hx y hy e => ?_⟩
    obtain ⟨a, _, rfl⟩ := List.mem_map.mp hx
    obtain ⟨b, _, rfl⟩ := List.mem_map.mp hy
    omega
  · rw [List.mem_append, List.mem_range]
    unfold evI odI
    rw [List.mem_map, List.mem_map]
    constructor
    · rintro (⟨a, ha, rfl⟩ | ⟨a, ha, rfl⟩) <;> (have := List.mem_range.mp ha; omega)
    · intro h
      by_cases z : i % 2 = 0
      · exact .inl ⟨i / 2, List.mem_range.mpr (by omega), by omega⟩
      · exact .inr ⟨i / 2, List.mem_range.mpr (by omega), by omega⟩
theorem pick_range {α : Type} (xs : List α) : pickI (List.range xs.length) xs = xs := by
  unfold pickI
  have := PySem.W.krv_all xs.toArray
  simpa using this
theorem two_pick {α : Type} (xs : List α) : (pickI (evI xs.length) xs ++ pickI (odI xs.length) xs).Perm xs := by
  have := (two_perm xs.length).filterMap fun i => xs[i]?
  rw [List.filterMap_append] at this
  have e := pick_range xs
  unfold pickI at e ⊢
  rw [e] at this
  exact this
theorem pick_vals {xs : List V} {us : List Value} (v : Vals xs us) : ∀ (l : List Nat), (∀ i ∈ l, i < xs.length) → Vals (pickI l xs) (pickI l us)
  | [], _ => .nil
  | i :: l, h => by
    have hi := h i (List.mem_cons_self ..)
    have hl := v.length
    unfold pickI
    rw [List.filterMap_cons, List.filterMap_cons, List.getElem?_eq_getElem hi, List.getElem?_eq_getElem (by omega : i < us.length)]
    refine .cons ?_ (pick_vals v l fun j hj => h j (List.mem_cons_of_mem _ hj))
    have := vals_getD i v hi
    rw [List.getD_eq_getElem?_getD, List.getD_eq_getElem?_getD, List.getElem?_eq_getElem hi, List.getElem?_eq_getElem (by omega : i < us.length)] at this
    exact this
theorem pick_map {α β : Type} (f : α → β) (l : List Nat) (xs : List α) : pickI l (xs.map f) = (pickI l xs).map f := by
  unfold pickI
  rw [List.map_filterMap]
  congr 1
  funext i
  rw [List.getElem?_map]
theorem pick_len {α : Type} (l : List Nat) (xs : List α) : (pickI l xs).length ≤ l.length := List.length_filterMap_le _ _
def idx2 (b : Bool) (n : Nat) : List Nat := if b = true then odI n else evI n
theorem idx2_lt {b : Bool} {n i : Nat} (h : i ∈ idx2 b n) : i < n := by
  unfold idx2 evI odI at h
  cases b with
  | true =>
    rw [if_pos rfl] at h
    obtain ⟨a, ha, rfl⟩ := List.mem_map.mp h
    have := List.mem_range.mp ha
    omega
  | false =>
    rw [if_neg (by decide)] at h
    obtain ⟨a, ha, rfl⟩ := List.mem_map.mp h
    have := List.mem_range.mp ha
    omega
theorem idx2_len {b : Bool} {n : Nat} : (idx2 b n).length ≤ n := by
  unfold idx2 evI odI
  cases b with
  | true => rw [if_pos rfl, List.length_map, List.length_range]; omega
  | false => rw [if_neg (by decide), List.length_map, List.length_range]; omega
theorem pick_two (b : Bool) (its : List Value) : slicePick its.toArray (if b = true then some 1 else none) none (some 2) = (pickI (idx2 b its.length) its).toArray := by
  unfold slicePick
  have hs : its.toArray.size = its.length := by simp
  have hg : (fun i : Nat => its.toArray[i]?) = fun i => its[i]? := by funext i; simp
  rw [hg, hs]
  unfold pickI
  congr 2
  unfold idx2 evI odI
  cases b with
  | true =>
    rw [if_pos rfl, if_pos rfl]
    show sliceRange (max 0 (min (if (1 : Int) < 0 then 1 + (its.length : Int) else 1) (its.length : Int))) (its.length : Int) 2 = _
    rw [if_neg (by decide)]
    unfold sliceRange
    simp only [show (2 : Int) > 0 from by decide, if_true]
    by_cases h : 1 < its.length
    · have e1 : max 0 (min (1 : Int) (its.length : Int)) = 1 := by omega
      rw [e1, if_pos (by omega)]
      have e2 : (((its.length : Int) - 1 + 2 - 1) / 2).toNat = its.length / 2 := by omega
      rw [e2]
      exact List.map_congr_left fun k _ => by omega
    · have e1 : ¬ (max 0 (min (1 : Int) (its.length : Int)) < (its.length : Int)) := by omega
      rw [if_neg e1]
      have e2 : its.length / 2 = 0 := by omega
      rw [e2]
      rfl
  | false =>
    rw [if_neg (by decide), if_neg (by decide)]
    show sliceRange 0 (its.length : Int) 2 = _
    unfold sliceRange
    simp only [show (2 : Int) > 0 from by decide, if_true]
    by_cases h : 0 < its.length
    · rw [if_pos (by omega)]
      have e2 : (((its.length : Int) - 0 + 2 - 1) / 2).toNat = (its.length + 1) / 2 := by omega
      rw [e2]
      exact List.map_congr_left fun k _ => by omega
    · rw [if_neg (by omega)]
      have e2 : (its.length + 1) / 2 = 0 := by omega
      rw [e2]
      rfl
inductive tTwo_I (K : PySem.W.Frag) (Q : VK) (x : V) (lo k : Option Int) (H2 : Hp) : Prop
  | mk : ∀ (b : Bool) (a : Addr) (xs : List V), lo = (if b = true then some 1 else none) → k = some 2 → x = .ref a → SqL K H2 a xs → (∀ p G, H2 p = none → Same H2 G → G p = some (.lst (pickI (idx2 b xs.length) xs)) → Q (.ref p) G) → tTwo_I K Q x lo k H2
def tTwo (K : PySem.W.Frag) (te : TE) (tl tk : TO) : TE := fun σ H Q => te σ H fun x H1 => tl σ H1 fun lo H2 => tk σ H2 fun k H3 => tTwo_I K Q x lo k H3
theorem pe_two {X : Cx} {e : Expr} {lo st : Option Expr} {p2 pos : Pos} {te : TE} {tl tk : TO} {ops : Addr → Addr → List Value} (he : PE X e te) (hl : PO X lo tl) (hk : PO X st tk) (hs : ∀ a b, subscripted (.Slice lo none st p2) false (.ref a) (.ref b) = operate (ops a b) (getItem (.ref a) (.ref b)) := by intros; with_unfolding_all rfl) : PE X (.Subscript e (.Slice lo none st p2) pos) (tTwo X.K te tl tk) := by
  intro pins s σ H Q I h
  refine Subscript_ (thn (he pins s σ H _ I h) fun v s1 ⟨x, H1, I1, r1, q1⟩ => wpAny_Slice (thn (hl pins s1 σ H1 _ I1 q1) fun vl s2 ⟨l, H2, I2, pl, q2⟩ => ?_))
  rw [evalPart_none]
  refine wpAny_pure (thn (hk pins s2 σ H2 _ I2 q2) fun vk s3 ⟨k, H3, I3, pk, b, a, xs, el, ek, ex, hx, q⟩ => ?_)
  subst ek ex el
  cases r1
  have I4 : Inv X pins σ H3 { s3 with heap := s3.heap.push { cls := .type "slice", data := .fields #[vl, .none, vk] } } := I3.kept (t' := s3.toks) fun b ob q => Heap.get?_push_of_some _ q
  obtain ⟨its, r, ht, hz⟩ := I4.list hx
  have hlen := r.length
  show wpAny (model X.prog X.w) X.A (subscriptTail e (.Slice lo none st p2) (.ref a) (.ref s3.heap.objs.size)) (EP X pins σ Q) X.xe { s3 with heap := s3.heap.push { cls := .type "slice", data := .fields #[vl, .none, vk] } }
  refine tail_any (ops := ops a s3.heap.objs.size) ht.isList.typeIs slot_list_getitem.lookup ?_ (hs _ _)
  refine wpAny_getItem_list_slice ht.isList (Heap.IsSliceOf.new ..) pl .none pk (by decide) ?_ (by rw [List.size_toArray]; omega)
  rw [pick_two]
  have pl' := pick_len (idx2 b xs.length) xs
  have il := idx2_len (b := b) (n := xs.length)
  rw [← hlen]
  exact ⟨.ref _, _, I4.laid (t' := s3.toks) (o := .lst (pickI (idx2 b xs.length) xs)) (fun b ob q => Heap.get?_push_of_some _ q) (Nat.le_refl _) ⟨by omega, _, 0, pick_vals r _ fun i hi => idx2_lt hi, Heap.get?_push_size _ rfl⟩, rfl, q _ _ (I4.hok.fresh (Nat.le_refl _)) (Same.upd_new (I4.hok.fresh (Nat.le_refl _))) upd_same⟩
end L2
set_option maxHeartbeats 4000000
namespace K23
open PySem L2
def top (i : Nat) : Stmt := PySem.Challenge.pw_mailroom_k23_great_threads.main.body.getD i (.Pass ⟨0, 0, 0, 0⟩)
abbrev swall : Stmt := top 0
abbrev scheck_there : Stmt := top 5
abbrev scheck_new : Stmt := top 6
abbrev sl_draws : Stmt := top 10
abbrev sl_name_by : Stmt := top 11
abbrev sl_is_list : Stmt := top 12
abbrev sl_rows : Stmt := top 13
abbrev sl_order : Stmt := top 14
abbrev sl_joined : Stmt := top 15
abbrev sl_deep : Stmt := top 16
abbrev sl_stands : Stmt := top 17
abbrev slaw : Stmt := top 18
abbrev sThreads_init : Stmt := inClass (top 8) 0
abbrev sThreads_add : Stmt := inClass (top 8) 1
abbrev sThreads_take_out : Stmt := inClass (top 8) 2
abbrev sThreads_names : Stmt := inClass (top 8) 3
abbrev sThreads_answers_to : Stmt := inClass (top 8) 4
abbrev sThreads_beside : Stmt := inClass (top 8) 5
abbrev sThreads_thread : Stmt := inClass (top 8) 6
abbrev sThreads_threads : Stmt := inClass (top 8) 7
abbrev sThreads_depth : Stmt := inClass (top 8) 8
abbrev n_check_there : List Str := ["name", "there"]
theorem sc_check_there : FnScope n_check_there ["name", "there"] (defScope scheck_there) := ⟨rfl, rfl, rfl, by decide +kernel, rfl, by decide +kernel, by decide +kernel⟩
abbrev n_check_new : List Str := ["name", "there"]
theorem sc_check_new : FnScope n_check_new ["name", "there"] (defScope scheck_new) := ⟨rfl, rfl, rfl, by decide +kernel, rfl, by decide +kernel, by decide +kernel⟩
abbrev n_l_draws : List Str := ["_law_script", "_law_many", "_law_found", "_law_more", "_law_k", "_law_cell"]
theorem sc_l_draws : FnScope n_l_draws ["_law_script", "_law_many"] (defScope sl_draws) := ⟨rfl, rfl, rfl, by decide +kernel, rfl, by decide +kernel, by decide +kernel⟩
abbrev n_l_name_by : List Str := ["_law_shape", "_law_k", "_law_signs", "_law_place", "_law_name", "_law_turn"]
theorem sc_l_name_by : FnScope n_l_name_by ["_law_shape", "_law_k"] (defScope sl_name_by) := ⟨rfl, rfl, rfl, by decide +kernel, rfl, by decide +kernel, by decide +kernel⟩
abbrev n_l_is_list : List Str := ["_law_found", "_law_due"]
theorem sc_l_is_list : FnScope n_l_is_list ["_law_found", "_law_due"] (defScope sl_is_list) := ⟨rfl, rfl, rfl, by decide +kernel, rfl, by decide +kernel, by decide +kernel⟩
abbrev n_l_rows : List Str := ["_law_draws_here", "_law_many", "_law_names", "_law_step", "_law_rows_here", "_law_k", "_law_pair", "_law_ways"]
theorem sc_l_rows : FnScope n_l_rows ["_law_draws_here", "_law_many"] (defScope sl_rows) := ⟨rfl, rfl, rfl, by decide +kernel, rfl, by decide +kernel, by decide +kernel⟩
abbrev n_l_order : List Str := ["_law_rows_here", "_law_draw"]
theorem sc_l_order : FnScope n_l_order ["_law_rows_here", "_law_draw"] (defScope sl_order) := ⟨rfl, rfl, rfl, by decide +kernel, rfl, by decide +kernel, by decide +kernel⟩
abbrev n_l_joined : List Str := ["_law_rows_here", "_law_groups", "_law_name", "_law_answers", "_law_keys", "_law_near", "_law_one", "_law_group"]
theorem sc_l_joined : FnScope n_l_joined ["_law_rows_here"] (defScope sl_joined) := ⟨rfl, rfl, rfl, by decide +kernel, rfl, by decide +kernel, by decide +kernel⟩
abbrev n_l_deep : List Str := ["_law_rows_here", "_law_name", "_law_goes", "_law_met"]
theorem sc_l_deep : FnScope n_l_deep ["_law_rows_here", "_law_name"] (defScope sl_deep) := ⟨rfl, rfl, rfl, by decide +kernel, rfl, by decide +kernel, by decide +kernel⟩
abbrev n_l_stands : List Str := ["_law_threads", "_law_rows_here", "_law_draw", "_law_due", "_law_name", "_law_thread", "_law_answers"]
theorem sc_l_stands : FnScope n_l_stands ["_law_threads", "_law_rows_here", "_law_draw"] (defScope sl_stands) := ⟨rfl, rfl, rfl, by decide +kernel, rfl, by decide +kernel, by decide +kernel⟩
abbrev n_law : List Str := ["_law_script", "_law_draws_here", "_law_many", "_law_rows_here", "_law_threads", "_law_name", "_law_answers", "_law_gone", "_law_k", "_law_other"]
theorem sc_law : FnScope n_law ["_law_script"] (defScope slaw) := ⟨rfl, rfl, rfl, by decide +kernel, rfl, by decide +kernel, by decide +kernel⟩
abbrev n_Threads_init : List Str := ["self"]
theorem sc_Threads_init : FnScope n_Threads_init ["self"] (defScope sThreads_init) := ⟨rfl, rfl, rfl, by decide +kernel, rfl, by decide +kernel, by decide +kernel⟩
abbrev n_Threads_add : List Str := ["self", "name", "answers"]
theorem sc_Threads_add : FnScope n_Threads_add ["self", "name", "answers"] (defScope sThreads_add) := ⟨rfl, rfl, rfl, by decide +kernel, rfl, by decide +kernel, by decide +kernel⟩
abbrev n_Threads_take_out : List Str := ["self", "name", "answers"]
theorem sc_Threads_take_out : FnScope n_Threads_take_out ["self", "name"] (defScope sThreads_take_out) := ⟨rfl, rfl, rfl, by decide +kernel, rfl, by decide +kernel, by decide +kernel⟩
abbrev n_Threads_names : List Str := ["self"]
theorem sc_Threads_names : FnScope n_Threads_names ["self"] (defScope sThreads_names) := ⟨rfl, rfl, rfl, by decide +kernel, rfl, by decide +kernel, by decide +kernel⟩
abbrev n_Threads_answers_to : List Str := ["self", "name"]
theorem sc_Threads_answers_to : FnScope n_Threads_answers_to ["self", "name"] (defScope sThreads_answers_to) := ⟨rfl, rfl, rfl, by decide +kernel, rfl, by decide +kernel, by decide +kernel⟩
abbrev n_Threads_beside : List Str := ["self", "name", "near", "answers"]
theorem sc_Threads_beside : FnScope n_Threads_beside ["self", "name"] (defScope sThreads_beside) := ⟨rfl, rfl, rfl, by decide +kernel, rfl, by decide +kernel, by decide +kernel⟩
abbrev n_Threads_thread : List Str := ["self", "name", "reached", "waiting", "here", "near"]
theorem sc_Threads_thread : FnScope n_Threads_thread ["self", "name"] (defScope sThreads_thread) := ⟨rfl, rfl, rfl, by decide +kernel, rfl, by decide +kernel, by decide +kernel⟩
abbrev n_Threads_threads : List Str := ["self", "told", "met", "name", "whole", "near"]
theorem sc_Threads_threads : FnScope n_Threads_threads ["self"] (defScope sThreads_threads) := ⟨rfl, rfl, rfl, by decide +kernel, rfl, by decide +kernel, by decide +kernel⟩
abbrev n_Threads_depth : List Str := ["self", "name", "met", "above"]
theorem sc_Threads_depth : FnScope n_Threads_depth ["self", "name"] (defScope sThreads_depth) := ⟨rfl, rfl, rfl, by decide +kernel, rfl, by decide +kernel, by decide +kernel⟩
set_option genInjectivity false in
/-- where the top's things stand -/
structure Adr where
  f_wall : Addr
  f_check_there : Addr
  f_check_new : Addr
  f_l_draws : Addr
  f_l_name_by : Addr
  f_l_is_list : Addr
  f_l_rows : Addr
  f_l_order : Addr
  f_l_joined : Addr
  f_l_deep : Addr
  f_l_stands : Addr
  f_law : Addr
  f_Threads_init : Addr
  f_Threads_add : Addr
  f_Threads_take_out : Addr
  f_Threads_names : Addr
  f_Threads_answers_to : Addr
  f_Threads_beside : Addr
  f_Threads_thread : Addr
  f_Threads_threads : Addr
  f_Threads_depth : Addr
  C_Threads : Addr
  dummy : Nat := 0
structure Txt (K : PySem.W.Frag) (mg : Str → Option Value) (a : Adr) : Prop where
  m_wall : mg "_wall" = some (.ref a.f_wall)
  m_check_there : mg "check_there" = some (.ref a.f_check_there)
  m_check_new : mg "check_new" = some (.ref a.f_check_new)
  m_l_draws : mg "_law_draws" = some (.ref a.f_l_draws)
  m_l_name_by : mg "_law_name_by" = some (.ref a.f_l_name_by)
  m_l_is_list : mg "_law_is_list" = some (.ref a.f_l_is_list)
  m_l_rows : mg "_law_rows" = some (.ref a.f_l_rows)
  m_l_order : mg "_law_order" = some (.ref a.f_l_order)
  m_l_joined : mg "_law_joined" = some (.ref a.f_l_joined)
  m_l_deep : mg "_law_deep" = some (.ref a.f_l_deep)
  m_l_stands : mg "_law_stands" = some (.ref a.f_l_stands)
  m_law : mg "law" = some (.ref a.f_law)
  b_len : mg "len" = none
  b_range : mg "range" = none
  b_isinstance : mg "isinstance" = none
  b_str : mg "str" = none
  b_int : mg "int" = none
  b_list : mg "list" = none
  b_dict : mg "dict" = none
  b_min : mg "min" = none
  b_max : mg "max" = none
  b_all : mg "all" = none
  b_sorted : mg "sorted" = none
  mc_Threads : mg "Threads" = some (.ref a.C_Threads)
  c_Threads : Cls K a.C_Threads
  k_Threads : Mk K a.C_Threads a.f_Threads_init
  M_Threads_add : Meth K a.C_Threads "add" a.f_Threads_add
  M_Threads_take_out : Meth K a.C_Threads "take_out" a.f_Threads_take_out
  M_Threads_names : Meth K a.C_Threads "names" a.f_Threads_names
  M_Threads_answers_to : Meth K a.C_Threads "answers_to" a.f_Threads_answers_to
  M_Threads_beside : Meth K a.C_Threads "beside" a.f_Threads_beside
  M_Threads_thread : Meth K a.C_Threads "thread" a.f_Threads_thread
  M_Threads_threads : Meth K a.C_Threads "threads" a.f_Threads_threads
  M_Threads_depth : Meth K a.C_Threads "depth" a.f_Threads_depth
  n_Threads_links : NoAttr K a.C_Threads "links"
  n_Threads_replies : NoAttr K a.C_Threads "replies"
  top_ : True
structure Funs (K : PySem.W.Frag) (a : Adr) : Prop where
  F_wall : ∃ fd, Fun K "_wall" "_wall" swall a.f_wall fd ∧ Binds K fd ["k"] []
  F_check_there : ∃ fd, Fun K "check_there" "check_there" scheck_there a.f_check_there fd ∧ Binds K fd ["name", "there"] []
  F_check_new : ∃ fd, Fun K "check_new" "check_new" scheck_new a.f_check_new fd ∧ Binds K fd ["name", "there"] []
  F_l_draws : ∃ fd, Fun K "_law_draws" "_law_draws" sl_draws a.f_l_draws fd ∧ Binds K fd ["_law_script", "_law_many"] []
  F_l_name_by : ∃ fd, Fun K "_law_name_by" "_law_name_by" sl_name_by a.f_l_name_by fd ∧ Binds K fd ["_law_shape", "_law_k"] []
  F_l_is_list : ∃ fd, Fun K "_law_is_list" "_law_is_list" sl_is_list a.f_l_is_list fd ∧ Binds K fd ["_law_found", "_law_due"] []
  F_l_rows : ∃ fd, Fun K "_law_rows" "_law_rows" sl_rows a.f_l_rows fd ∧ Binds K fd ["_law_draws_here", "_law_many"] []
  F_l_order : ∃ fd, Fun K "_law_order" "_law_order" sl_order a.f_l_order fd ∧ Binds K fd ["_law_rows_here", "_law_draw"] []
  F_l_joined : ∃ fd, Fun K "_law_joined" "_law_joined" sl_joined a.f_l_joined fd ∧ Binds K fd ["_law_rows_here"] []
  F_l_deep : ∃ fd, Fun K "_law_deep" "_law_deep" sl_deep a.f_l_deep fd ∧ Binds K fd ["_law_rows_here", "_law_name"] []
  F_l_stands : ∃ fd, Fun K "_law_stands" "_law_stands" sl_stands a.f_l_stands fd ∧ Binds K fd ["_law_threads", "_law_rows_here", "_law_draw"] []
  F_law : ∃ fd, Fun K "law" "law" slaw a.f_law fd ∧ Binds K fd ["_law_script"] []
  F_Threads_init : ∃ fd, Fun K "__init__" "Threads.__init__" sThreads_init a.f_Threads_init fd ∧ Binds K fd ["self"] []
  F_Threads_add : ∃ fd, FunD K "add" "Threads.add" sThreads_add a.f_Threads_add fd ∧ Binds K fd ["self", "name", "answers"] [] ∧ (∃ ds, Vals [.str ""] ds ∧ Binds K fd ["self", "name", "answers"] ds)
  F_Threads_take_out : ∃ fd, Fun K "take_out" "Threads.take_out" sThreads_take_out a.f_Threads_take_out fd ∧ Binds K fd ["self", "name"] []
  F_Threads_names : ∃ fd, Fun K "names" "Threads.names" sThreads_names a.f_Threads_names fd ∧ Binds K fd ["self"] []
  F_Threads_answers_to : ∃ fd, Fun K "answers_to" "Threads.answers_to" sThreads_answers_to a.f_Threads_answers_to fd ∧ Binds K fd ["self", "name"] []
  F_Threads_beside : ∃ fd, Fun K "beside" "Threads.beside" sThreads_beside a.f_Threads_beside fd ∧ Binds K fd ["self", "name"] []
  F_Threads_thread : ∃ fd, Fun K "thread" "Threads.thread" sThreads_thread a.f_Threads_thread fd ∧ Binds K fd ["self", "name"] []
  F_Threads_threads : ∃ fd, Fun K "threads" "Threads.threads" sThreads_threads a.f_Threads_threads fd ∧ Binds K fd ["self"] []
  F_Threads_depth : ∃ fd, Fun K "depth" "Threads.depth" sThreads_depth a.f_Threads_depth fd ∧ Binds K fd ["self", "name"] []
inductive spThereD_I (vs : List V) (H : Hp) (Q : VK) : Prop
  | mk : ∀ (nm : Str) (L : Addr) (kvs : List (Key × V)) (v : V), vs = [.str nm, .ref L] → H L = some (.dK kvs) → valV kvs (Sum.inr nm) = some v → Q .non H → spThereD_I vs H Q
def spThereD : Sp := fun vs H Q _ => spThereD_I vs H Q
inductive spNewD_I (vs : List V) (H : Hp) (Q : VK) : Prop
  | mk : ∀ (nm : Str) (L : Addr) (kvs : List (Key × V)), vs = [.str nm, .ref L] → H L = some (.dK kvs) → valV kvs (Sum.inr nm) = none → Q .non H → spNewD_I vs H Q
def spNewD : Sp := fun vs H Q _ => spNewD_I vs H Q
theorem kitSS {K : PySem.W.Frag} : PySem.W.kitOne K (.type "str") (.type "str") = some true := by unfold PySem.W.kitOne; rw [if_pos (beq_self_eq_true _)]
section
variable {P : Program} {w : World} {K : PySem.W.Frag} {mg : Str → Option Value} {base : Heap} {a : Adr}
theorem ok_there {fd : FuncData} (F : Fun K "check_there" "check_there" scheck_there a.f_check_there fd) (T : Txt K mg a) : FnOk P w K mg base CX0 1 a.f_check_there fd ["name", "there"] spThereD := by
  refine F.ok sc_check_there (fun vs H Q E h => ?_) (fun cdv A outer st H vs Q E hr h => ?_)
  · obtain ⟨nm, L, kvs, v, rfl, _⟩ := h; rfl
  · obtain ⟨nm, L, kvs, v, rfl, hL, hv, k⟩ := h
    have hu := hu_of hr
    refine ⟨_, (pss_one (ps_if (pt_cmp (pc_dnotin hu (pv 0) (pv 1))) (pss_one ps_never) pss_nil)), ?_⟩
    refine ⟨_, rfl, _, rfl, L, _, rfl, DGet.k (k := Sum.inr nm) hL, _, rfl, ?_⟩
    rw [hv]
    exact iteF k
theorem ok_new {fd : FuncData} (F : Fun K "check_new" "check_new" scheck_new a.f_check_new fd) (T : Txt K mg a) : FnOk P w K mg base CX0 1 a.f_check_new fd ["name", "there"] spNewD := by
  refine F.ok sc_check_new (fun vs H Q E h => ?_) (fun cdv A outer st H vs Q E hr h => ?_)
  · obtain ⟨nm, L, kvs, rfl, _⟩ := h; rfl
  · obtain ⟨nm, L, kvs, rfl, hL, hv, k⟩ := h
    have hu := hu_of hr
    refine ⟨_, (pss_one (ps_if (PW.pt (pw_or (pt_not (pt_val (pe_callB call_isinst rfl T.b_isinstance PyProof.Rows.boot_isinstance (pac (pv 0) (pac (pe_bltn (v := .ty "str") rfl T.b_str PyProof.Rows.boot_str rfl) pa_nil))))) (pw_or1 (pt_cmp (pc_din hu (pv 0) (pv 1)))))) (pss_one ps_never) pss_nil)), ?_⟩
    refine ⟨_, rfl, _, _, _, _, _, rfl, rfl, TyOf.str nm, kitSS, _, rfl, iteF ?_⟩
    refine ⟨_, rfl, _, rfl, L, _, rfl, DGet.k (k := Sum.inr nm) hL, _, rfl, ?_⟩
    rw [hv]
    exact iteF k
end
structure TH (a : Adr) (H : Hp) (x dx L R : Addr) (rows : Rows) (kr : List (Key × V)) : Prop where
  obj : H x = some (.ins a.C_Threads dx [("links", .ref L), ("replies", .ref R)])
  lk : H L = some (.dK (rowsK rows))
  rp : H R = some (.dK kr)
  lr : L ≠ R
  nd : (rows.map (·.1)).Nodup
  few : rows.length ≤ 100
  fewR : kr.length ≤ 100
  ref_ : ∀ t v, valV kr (Sum.inr t) = some v → ∃ d, v = .ref d ∧ H d = some (.dK (keysT (reps rows t))) ∧ d ≠ L ∧ d ≠ R
  no_ : ∀ t : Str, t ≠ "" → valV kr (Sum.inr t) = none → reps rows t = []
  e_ : valV kr (Sum.inr ("" : Str)) = none
  inj : ∀ t t' d, valV kr (Sum.inr t) = some (.ref d) → valV kr (Sum.inr t') = some (.ref d) → t = t'
theorem TH.kp2 {a : Adr} {H H' : Hp} {x dx L R : Addr} {rows : Rows} {kr : List (Key × V)} (h : TH a H x dx L R rows kr) (k : Kp2 H H') : TH a H' x dx L R rows kr :=
  ⟨k _ _ h.obj (fun _ z => nomatch z), k _ _ h.lk (fun _ z => nomatch z), k _ _ h.rp (fun _ z => nomatch z), h.lr, h.nd, h.few, h.fewR, fun t v e => let ⟨d, e1, e2, e3⟩ := h.ref_ t v e; ⟨d, e1, k _ _ e2 (fun _ z => nomatch z), e3⟩, h.no_, h.e_, h.inj⟩
inductive THs (a : Adr) (H : Hp) (x : Addr) (rows : Rows) (n : Nat) : Prop
  | mk : ∀ dx L R kr, TH a H x dx L R rows kr → rows.length ≤ n → kr.length ≤ n → THs a H x rows n
theorem THs.kp2 {a : Adr} {H H' : Hp} {x : Addr} {rows : Rows} {n : Nat} (h : THs a H x rows n) (k : Kp2 H H') : THs a H' x rows n := let ⟨dx, L, R, kr, t, e1, e2⟩ := h; ⟨dx, L, R, kr, t.kp2 k, e1, e2⟩
inductive spTInit_I (a : Adr) (vs : List V) (H : Hp) (Q : VK) : Prop
  | mk : ∀ x dx, vs = [.ref x] → H x = some (.ins a.C_Threads dx []) → (∀ H', (∀ c o, c ≠ x → H c = some o → H' c = some o) → THs a H' x [] 0 → Q .non H') → spTInit_I a vs H Q
def spTInit (a : Adr) : Sp := fun vs H Q _ => spTInit_I a vs H Q
inductive spAdd_I (a : Adr) (vs : List V) (H : Hp) (Q : VK) : Prop
  | mk : ∀ x rows n nm an, vs = [.ref x, .str nm, .str an] → THs a H x rows n → n < 100 → up rows nm = none → (∀ H', THs a H' x (rows ++ [(nm, an)]) (n + 1) → Kp1 H H' → Q .non H') → spAdd_I a vs H Q
def spAdd (a : Adr) : Sp := fun vs H Q _ => spAdd_I a vs H Q
inductive spTake_I (a : Adr) (vs : List V) (H : Hp) (Q : VK) : Prop
  | mk : ∀ x rows n nm, vs = [.ref x, .str nm] → THs a H x rows n → nm ∈ rows.map (·.1) → (∀ H', THs a H' x (without rows nm) n → Kp1 H H' → Q .non H') → spTake_I a vs H Q
def spTake (a : Adr) : Sp := fun vs H Q _ => spTake_I a vs H Q
inductive spAnsTo_I (a : Adr) (vs : List V) (H : Hp) (Q : VK) : Prop
  | mk : ∀ x rows n t, vs = [.ref x, .str t] → THs a H x rows n → t ≠ "" → (∀ l H', H l = none → Same H H' → H' l = some (.lst ((sortS (reps rows t)).map V.str)) → Q (.ref l) H') → spAnsTo_I a vs H Q
def spAnsTo (a : Adr) : Sp := fun vs H Q _ => spAnsTo_I a vs H Q
inductive spDepth_I (a : Adr) (vs : List V) (H : Hp) (Q : VK) : Prop
  | mk : ∀ x rows n nm, vs = [.ref x, .str nm] → THs a H x rows n → nm ∈ rows.map (·.1) → (∀ H', Same H H' → Q (.int (depthOf rows nm)) H') → spDepth_I a vs H Q
def spDepth (a : Adr) : Sp := fun vs H Q _ => spDepth_I a vs H Q
theorem flds_links (L R : Addr) : ([("links", V.ref L), ("replies", V.ref R)] : List (Str × V)).lookup ("links" : Str) = some (V.ref L) := by simp [List.lookup]
theorem flds_replies (L R : Addr) : ([("links", V.ref L), ("replies", V.ref R)] : List (Str × V)).lookup ("replies" : Str) = some (V.ref R) := by
  have e : (("replies" : Str) == ("links" : Str)) = false := by decide +kernel
  simp [List.lookup, e]
theorem TH.add {a : Adr} {H H' : Hp} {x dx L R : Addr} {rows : Rows} {kr kr' : List (Key × V)} {nm an : Str} (th : TH a H x dx L R rows kr) (hn : up rows nm = none) (few : rows.length < 100)
    (obj' : H' x = some (.ins a.C_Threads dx [("links", .ref L), ("replies", .ref R)])) (lk' : H' L = some (.dK (rowsK (rows ++ [(nm, an)])))) (rp' : H' R = some (.dK kr')) (few' : kr'.length ≤ 100)
    (old : ∀ t d, t ≠ an → valV kr (Sum.inr t) = some (.ref d) → H' d = some (.dK (keysT (reps rows t)))) (hkr : ∀ t, t ≠ an → valV kr' (Sum.inr t) = valV kr (Sum.inr t))
    (new : an ≠ "" → ∃ d, valV kr' (Sum.inr an) = some (.ref d) ∧ H' d = some (.dK (keysT (reps rows an ++ [nm]))) ∧ d ≠ L ∧ d ≠ R ∧ ∀ t, t ≠ an → valV kr (Sum.inr t) ≠ some (.ref d)) (emp : an = "" → kr' = kr) : TH a H' x dx L R (rows ++ [(nm, an)]) kr' := by
  have ex : ∀ t, t ≠ an → reps (rows ++ [(nm, an)]) t = reps rows t := fun t h => by rw [reps_snoc, if_neg (Ne.symm h), List.append_nil]
  have ey : reps (rows ++ [(nm, an)]) an = reps rows an ++ [nm] := by rw [reps_snoc, if_pos rfl]
  have e0 : valV kr' (Sum.inr ("" : Str)) = none := by
    by_cases h : an = ""
    · rw [emp h]; exact th.e_
    · rw [hkr "" (Ne.symm h)]; exact th.e_
  refine ⟨obj', lk', rp', th.lr, snoc_nd th.nd hn, by rw [List.length_append, List.length_singleton]; omega, few', fun t v e => ?_, fun t ht e => ?_, e0, fun t t' d e1 e2 => ?_⟩
  · by_cases h : t = an
    · subst h
      have h0 : t ≠ "" := fun z => by rw [z, e0] at e; cases e
      obtain ⟨d, q1, q2, q3, q4, _⟩ := new h0
      rw [q1] at e
      cases e
      rw [ey]
      exact ⟨d, rfl, q2, q3, q4⟩
    · rw [hkr t h] at e
      obtain ⟨d, rfl, q2, q3⟩ := th.ref_ t v e
      rw [ex t h]
      exact ⟨d, rfl, old t d h e, q3⟩
  · by_cases h : t = an
    · subst h
      obtain ⟨d, q1, _⟩ := new ht
      rw [q1] at e
      cases e
    · rw [ex t h]
      rw [hkr t h] at e
      exact th.no_ t ht e
  · by_cases h : t = an
    · by_cases h' : t' = an
      · rw [h, h']
      · subst h
        have h0 : t ≠ "" := fun z => by rw [z, e0] at e1; cases e1
        obtain ⟨d0, q1, _, _, _, q5⟩ := new h0
        rw [q1] at e1
        cases e1
        rw [hkr t' h'] at e2
        exact absurd e2 (q5 t' h')
    · by_cases h' : t' = an
      · subst h'
        have h0 : t' ≠ "" := fun z => by rw [z, e0] at e2; cases e2
        obtain ⟨d0, q1, _, _, _, q5⟩ := new h0
        rw [q1] at e2
        cases e2
        rw [hkr t h] at e1
        exact absurd e1 (q5 t h)
      · rw [hkr t h] at e1
        rw [hkr t' h'] at e2
        exact th.inj t t' d e1 e2
section
variable {P : Program} {w : World} {K : PySem.W.Frag} {mg : Str → Option Value} {base : Heap} {a : Adr}
theorem ok_tinit {fd : FuncData} (F : Fun K "__init__" "Threads.__init__" sThreads_init a.f_Threads_init fd) (T : Txt K mg a) : FnOk P w K mg base CX0 1 a.f_Threads_init fd ["self"] (spTInit a) := by
  refine F.ok sc_Threads_init (fun vs H Q E h => ?_) (fun cdv A outer st H vs Q E hr h => ?_)
  · obtain ⟨x, dx, rfl, _⟩ := h; rfl
  · obtain ⟨x, dx, rfl, hx, k⟩ := h
    refine ⟨_, (pss_cons (ps_fld (pv 0) pe_dnewK rfl)
        (pss_one (ps_fld (pv 0) pe_dnewK rfl))), ?_⟩
    intro L hL
    have ne1 : x ≠ L := ne_of_none hx hL
    refine ⟨_, rfl, x, _, dx, _, rfl, (by rw [upd_ne ne1]; exact hx), T.c_Threads, T.n_Threads_links, by decide, ?_⟩
    intro R hR
    have hx1 : (upd (upd H L (.dK [])) x (.ins a.C_Threads dx (putF "links" (.ref L) []))) x = some (.ins a.C_Threads dx (putF "links" (.ref L) [])) := upd_same
    have hL1 : (upd (upd H L (.dK [])) x (.ins a.C_Threads dx (putF "links" (.ref L) []))) L = some (.dK []) := by rw [upd_ne ne1.symm]; exact upd_same
    have ne2 : x ≠ R := ne_of_none hx1 hR
    have ne3 : L ≠ R := ne_of_none hL1 hR
    refine ⟨_, rfl, x, _, dx, _, rfl, (by rw [upd_ne ne2]; exact hx1), T.c_Threads, T.n_Threads_replies, (by show 1 < 1000; decide), ?_⟩
    refine k _ (fun c o ne e => ?_) ⟨dx, L, R, [], ⟨upd_same, ?_, ?_, ne3, by simp, by decide, by decide, fun t v z => (by cases z), fun _ _ _ => rfl, rfl, fun _ _ _ z => (by cases z)⟩, Nat.le_refl _, Nat.le_refl _⟩
    · rw [upd_ne ne, upd_ne (ne_of_none (by rw [upd_ne ne, upd_ne (ne_of_none e hL)]; exact e) hR), upd_ne ne, upd_ne (ne_of_none e hL)]
      exact e
    · rw [upd_ne ne1.symm, upd_ne ne3, upd_ne ne1.symm]; exact upd_same
    · rw [upd_ne ne2.symm]; exact upd_same
theorem ok_ansto {fd : FuncData} (F : Fun K "answers_to" "Threads.answers_to" sThreads_answers_to a.f_Threads_answers_to fd) (T : Txt K mg a) : FnOk P w K mg base CX0 1 a.f_Threads_answers_to fd ["self", "name"] (spAnsTo a) := by
  refine F.ok sc_Threads_answers_to (fun vs H Q E h => ?_) (fun cdv A outer st H vs Q E hr h => ?_)
  · obtain ⟨x, rows, n, nm, rfl, _⟩ := h; rfl
  · obtain ⟨x, rows, n, t, rfl, ⟨dx, L, R, kr, th, _, _⟩, ht, k⟩ := h
    have hu := hu_of hr
    refine ⟨_, (pss_one (ps_ret (pe_callB (call_sorted_dictB rfl) rfl T.b_sorted PyProof.Rows.boot_sorted (pac (pe_dget2 hu (pe_fld (pv 0) rfl) (pv 1) pe_dnewK ⟨rfl, rfl, rfl, rfl⟩) pa_nil)))), ?_⟩
    refine ⟨_, rfl, x, _, dx, _, _, rfl, th.obj, T.c_Threads, T.n_Threads_replies, flds_replies L R, R, rfl, .inl ⟨kr, .inl th.rp⟩, _, rfl, fun p hp => ?_⟩
    have s1 : Same H (upd H p (.dK [])) := Same.upd_new hp
    have hfew := th.few
    have hrl := reps_len rows t
    refine ⟨_, DGet.k (k := Sum.inr t) (s1 _ _ th.rp), ?_⟩
    cases hv : valV kr (Sum.inr t) with
    | none =>
      have e := th.no_ t ht hv
      refine ⟨p, [], [], rfl, upd_same, rfl, by decide, fun l hl => ?_⟩
      refine k l _ (s1.free hl) (s1.upd_of (s1.free hl)) ?_
      rw [upd_same, e]
    | some v =>
      obtain ⟨d, rfl, hd, _⟩ := th.ref_ t v hv
      refine ⟨d, keysT (reps rows t), reps rows t, rfl, s1 _ _ hd, ?_, by omega, fun l hl => k l _ (s1.free hl) (s1.upd_of (s1.free hl)) upd_same⟩
      unfold keysT
      rw [List.map_map]
      rfl
theorem ok_add {fd : FuncData} (F : FunD K "add" "Threads.add" sThreads_add a.f_Threads_add fd) (T : Txt K mg a) (FF : Funs K a) : FnOk P w K mg base CX0 2 a.f_Threads_add fd ["self", "name", "answers"] (spAdd a) := by
  obtain ⟨fdC, F_check_new, b_check_new⟩ := FF.F_check_new
  have G_check_new : FnOk P w K mg base CX0 1 a.f_check_new fdC ["name", "there"] spNewD := ok_new F_check_new T
  refine F.ok sc_Threads_add (fun vs H Q E h => ?_) (fun cdv A outer st H vs Q E hr h => ?_)
  · obtain ⟨x, rows, n, nm, an, rfl, _⟩ := h; rfl
  · obtain ⟨x, rows, n, nm, an, rfl, ⟨dx, L, R, kr, th, hl1, hl2⟩, hn40, hn, k⟩ := h
    have hu := hu_of hr
    have hr_check_new : Room 1 _ := hr
    refine ⟨_, (pss_cons (ps_expr (pe_call G_check_new hr_check_new rfl T.m_check_new F_check_new.kp b_check_new .nil pass0 (pac (pv 1) (pac (pe_fld (pv 0) rfl) pa_nil))))
        (pss_cons (ps_dput hu (pe_fld (pv 0) rfl) (pv 1) (pv 2) rfl)
        (pss_one (ps_if (pt_cmpR op_ne (pv 2) pe_str (nomark _)) (pss_cons (ps_if (pt_cmp (pc_dnotin hu (pv 2) (pe_fld (pv 0) rfl))) (pss_one (ps_dput hu (pe_fld (pv 0) rfl) (pv 2) pe_dnewK rfl)) pss_nil)
        (pss_one (ps_dput hu (pe_dget hu (pe_fld (pv 0) rfl) (pv 2) (fun _ _ => rfl)) (pv 1) pe_bl rfl))) pss_nil)))), ?_⟩
    have xL : x ≠ L := fun z => by have h1 := th.obj; rw [z, th.lk] at h1; cases h1
    have xR : x ≠ R := fun z => by have h1 := th.obj; rw [z, th.rp] at h1; cases h1
    refine ⟨_, rfl, _, rfl, x, _, dx, _, _, rfl, th.obj, T.c_Threads, T.n_Threads_links, flds_links L R, nm, L, _, rfl, th.lk, (by rw [val_rows, hn]; rfl), ?_⟩
    refine ⟨_, rfl, _, rfl, x, _, dx, _, _, rfl, th.obj, T.c_Threads, T.n_Threads_links, flds_links L R, _, rfl, L, _, rfl, DPut.k (k := Sum.inr nm) th.lk (by rw [rowsK, List.length_map]; exact small1000 (by omega)), ?_⟩
    rw [put_rows hn]
    have kp : Kp1 H (upd H L (.dK (rowsK (rows ++ [(nm, an)])))) := Kp1.upd th.lk
    have obj1 : (upd H L (.dK (rowsK (rows ++ [(nm, an)])))) x = some (.ins a.C_Threads dx [("links", .ref L), ("replies", .ref R)]) := by rw [upd_ne xL]; exact th.obj
    have rp1 : (upd H L (.dK (rowsK (rows ++ [(nm, an)])))) R = some (.dK kr) := by rw [upd_ne th.lr.symm]; exact th.rp
    have lk1 : (upd H L (.dK (rowsK (rows ++ [(nm, an)])))) L = some (.dK (rowsK (rows ++ [(nm, an)]))) := upd_same
    have old1 : ∀ t d, valV kr (Sum.inr t) = some (.ref d) → (upd H L (.dK (rowsK (rows ++ [(nm, an)])))) d = some (.dK (keysT (reps rows t))) ∧ d ≠ L ∧ d ≠ R := fun t d e => by
      obtain ⟨d', e1, e2, e3, e4⟩ := th.ref_ t _ e
      cases e1
      exact ⟨by rw [upd_ne e3]; exact e2, e3, e4⟩
    have up1 : ∀ c o, H c = some o → c ≠ L → (upd H L (.dK (rowsK (rows ++ [(nm, an)])))) c = some o := fun c o e ne => by rw [upd_ne ne]; exact e
    generalize upd H L (.dK (rowsK (rows ++ [(nm, an)]))) = H1 at kp obj1 rp1 lk1 old1 up1
    have lens : (rows ++ [(nm, an)]).length ≤ n + 1 := by rw [List.length_append, List.length_singleton]; omega
    refine ⟨_, rfl, rfl, _, rfl, ?_⟩
    by_cases han : an = ""
    · have e : decide (V.str an = V.str "") = true := by rw [han]; simp
      rw [e]
      exact iteF (k H1 ⟨dx, L, R, kr, th.add hn (by omega) obj1 lk1 rp1 th.fewR (fun t d _ e => (old1 t d e).1) (fun _ _ => rfl) (fun z => absurd han z) (fun _ => rfl), lens, by omega⟩ kp)
    · have e : decide (V.str an = V.str "") = false := by simp [han]
      rw [e]
      have nrep : ¬ nm ∈ reps rows an := fun z => up_none.mp hn (reps_sub z)
      refine iteT ⟨_, rfl, _, rfl, x, _, dx, _, _, rfl, obj1, T.c_Threads, T.n_Threads_replies, flds_replies L R, R, _, rfl, DGet.k (k := Sum.inr an) rp1, _, rfl, ?_⟩
      cases hv : valV kr (Sum.inr an) with
      | none =>
        refine iteT ?_
        intro p hp
        have xp : x ≠ p := ne_of_none obj1 hp
        have Lp : L ≠ p := ne_of_none lk1 hp
        have Rp : R ≠ p := ne_of_none rp1 hp
        refine ⟨_, rfl, x, _, dx, _, _, rfl, (by rw [upd_ne xp]; exact obj1), T.c_Threads, T.n_Threads_replies, flds_replies L R, _, rfl, R, _, rfl, DPut.k (k := Sum.inr an) (by rw [upd_ne Rp]; exact rp1) (small1000 (by omega)), ?_⟩
        rw [putK_new _ hv]
        have vk : ∀ t, valV (kr ++ [(Sum.inr an, V.ref p)]) (Sum.inr t) = if (Sum.inr t : Key) = Sum.inr an then some (V.ref p) else valV kr (Sum.inr t) := fun t => valV_snoc _ _ _ _ hv
        have van : valV (kr ++ [(Sum.inr an, V.ref p)]) (Sum.inr an) = some (V.ref p) := by rw [vk, if_pos rfl]
        have vot : ∀ t, t ≠ an → valV (kr ++ [(Sum.inr an, V.ref p)]) (Sum.inr t) = valV kr (Sum.inr t) := fun t h => by rw [vk, if_neg (fun z => h (Sum.inr.inj z))]
        have rp2 : (upd (upd H1 p (.dK [])) R (.dK (kr ++ [(Sum.inr an, V.ref p)]))) R = some (.dK (kr ++ [(Sum.inr an, V.ref p)])) := upd_same
        have dp2 : (upd (upd H1 p (.dK [])) R (.dK (kr ++ [(Sum.inr an, V.ref p)]))) p = some (.dK []) := by rw [upd_ne Rp.symm]; exact upd_same
        refine ⟨_, rfl, x, _, dx, _, _, rfl, (by rw [upd_ne xR, upd_ne xp]; exact obj1), T.c_Threads, T.n_Threads_replies, flds_replies L R, _, rfl, R, _, rfl, (by rw [← van]; exact DGet.k (k := Sum.inr an) rp2), _, rfl, p, _, rfl, DPut.k (k := Sum.inr nm) dp2 (by decide), ?_⟩
        have ek : putK ([] : List (Key × V)) (Sum.inr nm) (.bl true) = keysT [nm] := rfl
        rw [ek]
        refine k _ ⟨dx, L, R, _, th.add hn (by omega) ?_ ?_ ?_ ?_ ?_ vot ?_ ?_, lens, ?_⟩ ?_
        · rw [upd_ne xp, upd_ne xR, upd_ne xp]; exact obj1
        · rw [upd_ne Lp, upd_ne th.lr, upd_ne Lp]; exact lk1
        · rw [upd_ne Rp]; exact upd_same
        · rw [List.length_append, List.length_singleton]; omega
        · intro t d h e
          obtain ⟨q1, q2, q3⟩ := old1 t d e
          rw [upd_ne (ne_of_none q1 hp), upd_ne q3, upd_ne (ne_of_none q1 hp)]
          exact q1
        · intro _
          have er : reps rows an = [] := th.no_ an han hv
          refine ⟨p, van, ?_, Lp.symm, Rp.symm, fun t h e => ?_⟩
          · rw [upd_same, er]; rfl
          · obtain ⟨q1, _, _⟩ := old1 t p e
            rw [hp] at q1
            cases q1
        · exact fun z => absurd z han
        · rw [List.length_append, List.length_singleton]; omega
        · refine kp.trans fun c o e nd => ?_
          have cp : c ≠ p := ne_of_none e hp
          have cR : c ≠ R := fun z => by rw [z, rp1] at e; cases e; exact nd _ rfl
          rw [upd_ne cp, upd_ne cR, upd_ne cp]
          exact e
      | some v =>
        obtain ⟨d, rfl, _, _, _⟩ := th.ref_ an v hv
        obtain ⟨q1, q2, q3⟩ := old1 an d hv
        refine iteF ?_
        have hrl := reps_len rows an
        refine ⟨_, rfl, x, _, dx, _, _, rfl, obj1, T.c_Threads, T.n_Threads_replies, flds_replies L R, _, rfl, R, _, rfl, (by rw [← hv]; exact DGet.k (k := Sum.inr an) rp1), _, rfl, d, _, rfl, DPut.k (k := Sum.inr nm) q1 (by rw [keysT, List.length_map]; exact small1000 (by omega)), ?_⟩
        rw [put_keys nrep]
        have xd : x ≠ d := fun z => by rw [← z, obj1] at q1; cases q1
        refine k _ ⟨dx, L, R, kr, th.add hn (by omega) ?_ ?_ ?_ th.fewR ?_ (fun _ _ => rfl) ?_ (fun _ => rfl), lens, by omega⟩ (kp.trans (Kp1.upd q1))
        · rw [upd_ne xd]; exact obj1
        · rw [upd_ne q2.symm]; exact lk1
        · rw [upd_ne q3.symm]; exact rp1
        · intro t d' h e
          obtain ⟨z1, _, _⟩ := old1 t d' e
          have : d' ≠ d := fun z => h (th.inj t an d (by rw [← z]; exact e) hv)
          rw [upd_ne this]
          exact z1
        · intro _
          refine ⟨d, hv, upd_same, q2, q3, fun t h e => h (th.inj t an d e hv)⟩
end
inductive spLaw_I (K : PySem.W.Frag) (vs : List V) (H : Hp) (Q : VK) : Prop
  | mk : ∀ (a : Addr) (ns : List Int), vs = [.ref a] → SqL K H a (ns.map V.int) → ns.length ≤ 63 → (∀ H', Q (.bl true) H') → spLaw_I K vs H Q
def spLaw (K : PySem.W.Frag) : Sp := fun vs H Q _ => spLaw_I K vs H Q
theorem kitLL {K : PySem.W.Frag} : PySem.W.kitOne K (.type "list") (.type "list") = some true := by unfold PySem.W.kitOne; rw [if_pos (beq_self_eq_true _)]
theorem dec_str {a b : Str} : decide (V.str a = V.str b) = decide (a = b) := by
  by_cases h : a = b
  · rw [h, decide_eq_true rfl, decide_eq_true rfl]
  · rw [decide_eq_false h, decide_eq_false fun z => h (V.str.inj z)]
theorem dec_int {a b : Int} : decide (V.int a = V.int b) = decide (a = b) := by
  by_cases h : a = b
  · rw [h, decide_eq_true rfl, decide_eq_true rfl]
  · rw [decide_eq_false h, decide_eq_false fun z => h (V.int.inj z)]
theorem TH.take {a : Adr} {H H' : Hp} {x dx L R : Addr} {rows : Rows} {kr : List (Key × V)} {nm an : Str} (th : TH a H x dx L R rows kr) (hu : up rows nm = some an)
    (obj' : H' x = some (.ins a.C_Threads dx [("links", .ref L), ("replies", .ref R)])) (lk' : H' L = some (.dK (rowsK (without rows nm)))) (rp' : H' R = some (.dK kr))
    (old : ∀ t d, t ≠ an → valV kr (Sum.inr t) = some (.ref d) → H' d = some (.dK (keysT (reps rows t))))
    (new : ∀ d, valV kr (Sum.inr an) = some (.ref d) → H' d = some (.dK (keysT ((reps rows an).filter fun m => decide (m ≠ nm))))) : TH a H' x dx L R (without rows nm) kr := by
  have hl : (without rows nm).length ≤ rows.length := List.length_filter_le _ _
  have hf := th.few
  have ex : ∀ t, t ≠ an → reps (without rows nm) t = reps rows t := fun t h => by rw [reps_without]; exact filter_not (not_reps th.nd hu h)
  refine ⟨obj', lk', rp', th.lr, without_nd th.nd, by omega, th.fewR, fun t v e => ?_, fun t ht e => ?_, th.e_, th.inj⟩
  · obtain ⟨d, rfl, q2, q3⟩ := th.ref_ t v e
    by_cases h : t = an
    · subst h
      rw [reps_without]
      exact ⟨d, rfl, new d e, q3⟩
    · rw [ex t h]
      exact ⟨d, rfl, old t d h e, q3⟩
  · have e1 := th.no_ t ht e
    rw [reps_without, e1]
    rfl
section
variable {P : Program} {w : World} {K : PySem.W.Frag} {mg : Str → Option Value} {base : Heap} {a : Adr}
theorem ok_take {fd : FuncData} (F : Fun K "take_out" "Threads.take_out" sThreads_take_out a.f_Threads_take_out fd) (T : Txt K mg a) (FF : Funs K a) : FnOk P w K mg base CX0 2 a.f_Threads_take_out fd ["self", "name"] (spTake a) := by
  obtain ⟨fdC, F_check_there, b_check_there⟩ := FF.F_check_there
  have G_check_there : FnOk P w K mg base CX0 1 a.f_check_there fdC ["name", "there"] spThereD := ok_there F_check_there T
  refine F.ok sc_Threads_take_out (fun vs H Q E h => ?_) (fun cdv A outer st H vs Q E hr h => ?_)
  · obtain ⟨x, rows, n, nm, rfl, _⟩ := h; rfl
  · obtain ⟨x, rows, n, nm, rfl, hth, hm, k⟩ := h
    obtain ⟨dx, L, R, kr, th, hl1, hl2⟩ := id hth
    have hu := hu_of hr
    have hr_check_there : Room 1 _ := hr
    refine ⟨_, (pss_cons (ps_expr (pe_call G_check_there hr_check_there rfl T.m_check_there F_check_there.kp b_check_there .nil pass0 (pac (pv 1) (pac (pe_fld (pv 0) rfl) pa_nil))))
        (pss_cons (ps_set (i := 2) sc_Threads_take_out.nd rfl (Or.inl rfl) (pe_dpop1 (pe_fld (pv 0) rfl) (pv 1) ⟨rfl, rfl, rfl, rfl⟩))
        (pss_one (ps_if (pt_cmpR op_ne (pv 2) pe_str (nomark _)) (pss_one (ps_expr (pe_dpop1 (pe_dget hu (pe_fld (pv 0) rfl) (pv 2) (fun _ _ => rfl)) (pv 1) ⟨rfl, rfl, rfl, rfl⟩))) pss_nil)))), ?_⟩
    have xL : x ≠ L := fun z => by have h1 := th.obj; rw [z, th.lk] at h1; cases h1
    obtain ⟨an, eu⟩ := up_some hm
    have hwl : (without rows nm).length ≤ rows.length := List.length_filter_le _ _
    refine ⟨_, rfl, _, rfl, x, _, dx, _, _, rfl, th.obj, T.c_Threads, T.n_Threads_links, flds_links L R, nm, L, _, _, rfl, th.lk, (by rw [val_rows, eu]; rfl), ?_⟩
    refine ⟨_, rfl, x, _, dx, _, _, rfl, th.obj, T.c_Threads, T.n_Threads_links, flds_links L R, L, rfl, .inl ⟨_, .inl th.lk⟩, _, rfl, _, Sum.inr nm, .str an, th.lk, rfl, (by rw [val_rows, eu]; rfl), ?_⟩
    rw [drop_rows]
    have kp : Kp1 H (upd H L (.dK (rowsK (without rows nm)))) := Kp1.upd th.lk
    have obj1 : (upd H L (.dK (rowsK (without rows nm)))) x = some (.ins a.C_Threads dx [("links", .ref L), ("replies", .ref R)]) := by rw [upd_ne xL]; exact th.obj
    have rp1 : (upd H L (.dK (rowsK (without rows nm)))) R = some (.dK kr) := by rw [upd_ne th.lr.symm]; exact th.rp
    have lk1 : (upd H L (.dK (rowsK (without rows nm)))) L = some (.dK (rowsK (without rows nm))) := upd_same
    have old1 : ∀ t d, valV kr (Sum.inr t) = some (.ref d) → (upd H L (.dK (rowsK (without rows nm)))) d = some (.dK (keysT (reps rows t))) ∧ d ≠ L ∧ d ≠ R := fun t d e => by
      obtain ⟨d', e1, e2, e3, e4⟩ := th.ref_ t _ e
      cases e1
      exact ⟨by rw [upd_ne e3]; exact e2, e3, e4⟩
    generalize upd H L (.dK (rowsK (without rows nm))) = H1 at kp obj1 rp1 lk1 old1
    refine ⟨_, rfl, rfl, _, rfl, ?_⟩
    by_cases han : an = ""
    · have e : decide (V.str an = V.str "") = true := by rw [han]; simp
      rw [e]
      refine iteF (k H1 ⟨dx, L, R, kr, th.take eu obj1 lk1 rp1 (fun t d _ e => (old1 t d e).1) (fun d e => ?_), by omega, hl2⟩ kp)
      rw [han, th.e_] at e
      cases e
    · have e : decide (V.str an = V.str "") = false := by simp [han]
      rw [e]
      have inr := in_reps eu
      obtain ⟨v, hv⟩ : ∃ v, valV kr (Sum.inr an) = some v := by
        cases hv : valV kr (Sum.inr an) with
        | none =>
          have := th.no_ an han hv
          rw [this] at inr
          cases inr
        | some v => exact ⟨v, rfl⟩
      obtain ⟨d, rfl, _, _, _⟩ := th.ref_ an v hv
      obtain ⟨q1, q2, q3⟩ := old1 an d hv
      have xd : x ≠ d := fun z => by rw [← z, obj1] at q1; cases q1
      refine iteT ⟨_, rfl, x, _, dx, _, _, rfl, obj1, T.c_Threads, T.n_Threads_replies, flds_replies L R, _, rfl, R, _, rfl, (by rw [← hv]; exact DGet.k (k := Sum.inr an) rp1), d, rfl, .inl ⟨_, .inl q1⟩, _, rfl, _, Sum.inr nm, .bl true, q1, rfl, (by rw [val_keys, if_pos inr]), ?_⟩
      rw [drop_keys]
      refine k _ ⟨dx, L, R, kr, th.take eu ?_ ?_ ?_ ?_ ?_, by omega, hl2⟩ (kp.trans (Kp1.upd q1))
      · rw [upd_ne xd]; exact obj1
      · rw [upd_ne q2.symm]; exact lk1
      · rw [upd_ne q3.symm]; exact rp1
      · intro t d' h e
        obtain ⟨z1, _, _⟩ := old1 t d' e
        have : d' ≠ d := fun z => h (th.inj t an d (by rw [← z]; exact e) hv)
        rw [upd_ne this]
        exact z1
      · intro d' e
        rw [hv] at e
        cases e
        exact upd_same
theorem ok_depth {fd : FuncData} (F : Fun K "depth" "Threads.depth" sThreads_depth a.f_Threads_depth fd) (T : Txt K mg a) (FF : Funs K a) : FnOk P w K mg base CX0 2 a.f_Threads_depth fd ["self", "name"] (spDepth a) := by
  obtain ⟨fdC, F_check_there, b_check_there⟩ := FF.F_check_there
  have G_check_there : FnOk P w K mg base CX0 1 a.f_check_there fdC ["name", "there"] spThereD := ok_there F_check_there T
  refine F.ok sc_Threads_depth (fun vs H Q E h => ?_) (fun cdv A outer st H vs Q E hr h => ?_)
  · obtain ⟨x, rows, n, nm, rfl, _⟩ := h; rfl
  · obtain ⟨x, rows, n, nm, rfl, hth, hm, k⟩ := h
    obtain ⟨dx, L, R, kr, th, hl1, hl2⟩ := id hth
    have hu := hu_of hr
    have hr_check_there : Room 1 _ := hr
    refine ⟨_, (pss_cons (ps_expr (pe_call G_check_there hr_check_there rfl T.m_check_there F_check_there.kp b_check_there .nil pass0 (pac (pv 1) (pac (pe_fld (pv 0) rfl) pa_nil))))
        (pss_cons (ps_set (i := 2) sc_Threads_depth.nd rfl (Or.inl rfl) (pe_disp (pps_cons (pv 1) pe_bl pps_nil) rfl rfl (by simp) (by decide)))
        (pss_cons (ps_set (i := 3) sc_Threads_depth.nd rfl (Or.inl rfl) (pe_dget hu (pe_fld (pv 0) rfl) (pv 1) (fun _ _ => rfl)))
        (pss_cons (ps_while PassesOwn.never (PW.pt (pw_and (pt_cmp (pc_din hu (pv 3) (pe_fld (pv 0) rfl))) (pw_and1 (pt_cmp (pc_dnotin hu (pv 3) (pv 2)))))) (pss_cons (ps_dput hu (pv 2) (pv 3) pe_bl rfl)
        (pss_one (ps_set (i := 3) sc_Threads_depth.nd rfl (Or.inl rfl) (pe_dget hu (pe_fld (pv 0) rfl) (pv 3) (fun _ _ => rfl))))))
        (pss_one (ps_ret (pe_op op_sub (pe_callB call_lenD rfl T.b_len PySem.boot_len (pac (pv 2) pa_nil)) pe_int))))))), ?_⟩
    obtain ⟨an, eu⟩ := up_some hm
    refine ⟨_, rfl, _, rfl, x, _, dx, _, _, rfl, th.obj, T.c_Threads, T.n_Threads_links, flds_links L R, nm, L, _, _, rfl, th.lk, (by rw [val_rows, eu]; rfl), ?_⟩
    intro p hp
    refine ⟨_, rfl, upd_same, [(Sum.inr nm, .bl true)], rfl, (by show 1 ≤ 15; decide), ?_⟩
    have ek : mergeK [] [(Sum.inr nm, V.bl true)] = keysT [nm] := rfl
    rw [ek, upd_upd]
    have s1 : Same H (upd H p (.dK (keysT [nm]))) := Same.upd_new hp
    refine ⟨_, rfl, x, _, dx, _, _, rfl, s1 _ _ th.obj, T.c_Threads, T.n_Threads_links, flds_links L R, _, rfl, L, .str an, rfl, (by have := DGet.k (k := Sum.inr nm) (s1 _ _ th.lk); rw [val_rows, eu] at this; exact this), ?_⟩
    have hfew := th.few
    refine ⟨fun m σ H2 => ∃ (met : List Str) (ab : Str), m = rows.length - met.length ∧ σ = [some (.ref x), some (.str nm), some (.ref p), some (.str ab)] ∧ Same H H2 ∧ H2 p = some (.dK (keysT met)) ∧ OnWay rows nm met ab, ⟨_, [nm], an, rfl, rfl, s1, upd_same, OnWay.start eu⟩, ?_⟩
    rintro m σ H2 ⟨met, ab, rfl, rfl, s2, hp2, ow⟩
    have hlen := ow.len
    refine ⟨_, rfl, _, rfl, x, _, dx, _, _, rfl, s2 _ _ th.obj, T.c_Threads, T.n_Threads_links, flds_links L R, L, _, rfl, DGet.k (k := Sum.inr ab) (s2 _ _ th.lk), _, rfl, ?_⟩
    rw [val_rows]
    have fin : ¬ (ab ∈ rows.map (·.1) ∧ ¬ ab ∈ met) → Q (.int ((((keysT met).length : Nat) : Int) - 1)) H2 := fun h => by
      have e := ow.stop h
      rw [keysT, List.length_map, e]
      exact k H2 s2
    cases eb : up rows ab with
    | none =>
      refine iteF ?_
      exact ⟨_, rfl, p, _, rfl, hp2, _, _, rfl, rfl, fin fun z => up_none.mp eb z.1⟩
    | some b =>
      have hab : ab ∈ rows.map (·.1) := List.mem_map.mpr ⟨_, up_mem eb, rfl⟩
      refine iteT ⟨_, rfl, _, rfl, p, _, rfl, DGet.k (k := Sum.inr ab) hp2, _, rfl, ?_⟩
      rw [val_keys]
      by_cases hmet : ab ∈ met
      · rw [if_pos hmet]
        exact ⟨_, rfl, p, _, rfl, hp2, _, _, rfl, rfl, fin fun z => z.2 hmet⟩
      · rw [if_neg hmet]
        have ow2 := ow.step eb hmet
        have hl2' := ow2.len
        rw [List.length_append, List.length_singleton] at hl2'
        refine ⟨_, fun σ' H' q => q, _, rfl, _, rfl, p, _, rfl, DPut.k (k := Sum.inr ab) hp2 (by rw [keysT, List.length_map]; exact small1000 (by omega)), ?_⟩
        rw [put_keys hmet]
        have s3 : Same H (upd H2 p (.dK (keysT (met ++ [ab])))) := s2.upd_of hp
        refine ⟨_, rfl, x, _, dx, _, _, rfl, s3 _ _ th.obj, T.c_Threads, T.n_Threads_links, flds_links L R, _, rfl, L, .str b, rfl, (by have := DGet.k (k := Sum.inr ab) (s3 _ _ th.lk); rw [val_rows, eb] at this; exact this), ?_⟩
        exact ⟨rows.length - (met ++ [ab]).length, by rw [List.length_append, List.length_singleton]; omega, met ++ [ab], b, rfl, rfl, s3, upd_same, ow2⟩
end
inductive spNames_I (a : Adr) (vs : List V) (H : Hp) (Q : VK) : Prop
  | mk : ∀ x rows n, vs = [.ref x] → THs a H x rows n → (∀ l H', H l = none → Same H H' → H' l = some (.lst ((sortS (rows.map (·.1))).map V.str)) → Q (.ref l) H') → spNames_I a vs H Q
def spNames (a : Adr) : Sp := fun vs H Q _ => spNames_I a vs H Q
inductive spBeside_I (a : Adr) (vs : List V) (H : Hp) (Q : VK) : Prop
  | mk : ∀ x rows n nm, vs = [.ref x, .str nm] → THs a H x rows n → nm ≠ "" → (∀ l H', H l = none → Same H H' → H' l = some (.lst ((nbr rows nm).map V.str)) → Q (.ref l) H') → spBeside_I a vs H Q
def spBeside (a : Adr) : Sp := fun vs H Q _ => spBeside_I a vs H Q
inductive spThread_I (a : Adr) (vs : List V) (H : Hp) (Q : VK) : Prop
  | mk : ∀ x rows n nm, vs = [.ref x, .str nm] → THs a H x rows n → NoE rows → nm ∈ rows.map (·.1) → (∀ l H', H l = none → Same H H' → H' l = some (.lst ((thrOf rows nm).map V.str)) → Q (.ref l) H') → spThread_I a vs H Q
def spThread (a : Adr) : Sp := fun vs H Q _ => spThread_I a vs H Q
section
variable {P : Program} {w : World} {K : PySem.W.Frag} {mg : Str → Option Value} {base : Heap} {a : Adr}
theorem ok_names {fd : FuncData} (F : Fun K "names" "Threads.names" sThreads_names a.f_Threads_names fd) (T : Txt K mg a) : FnOk P w K mg base CX0 1 a.f_Threads_names fd ["self"] (spNames a) := by
  refine F.ok sc_Threads_names (fun vs H Q E h => ?_) (fun cdv A outer st H vs Q E hr h => ?_)
  · obtain ⟨x, rows, n, rfl, _⟩ := h; rfl
  · obtain ⟨x, rows, n, rfl, ⟨dx, L, R, kr, th, _, _⟩, k⟩ := h
    have hfew := th.few
    refine ⟨_, (pss_one (ps_ret (pe_callB (call_sorted_dictB rfl) rfl T.b_sorted PyProof.Rows.boot_sorted (pac (pe_fld (pv 0) rfl) pa_nil)))), ?_⟩
    refine ⟨_, rfl, x, _, dx, _, _, rfl, th.obj, T.c_Threads, T.n_Threads_links, flds_links L R, L, rowsK rows, rows.map (·.1), rfl, th.lk, ?_, by rw [List.length_map]; omega, fun l hl => k l _ hl (Same.upd_new hl) upd_same⟩
    unfold rowsK
    rw [List.map_map, List.map_map]
    rfl
theorem ok_beside {fd : FuncData} (F : Fun K "beside" "Threads.beside" sThreads_beside a.f_Threads_beside fd) (T : Txt K mg a) : FnOk P w K mg base CX0 1 a.f_Threads_beside fd ["self", "name"] (spBeside a) := by
  refine F.ok sc_Threads_beside (fun vs H Q E h => ?_) (fun cdv A outer st H vs Q E hr h => ?_)
  · obtain ⟨x, rows, n, nm, rfl, _⟩ := h; rfl
  · obtain ⟨x, rows, n, nm, rfl, ⟨dx, L, R, kr, th, _, _⟩, hne, k⟩ := h
    have hu := hu_of hr
    have hfew := th.few
    have hrl := reps_len rows nm
    refine ⟨_, (pss_cons (ps_set (i := 2) sc_Threads_beside.nd rfl (Or.inl rfl) (pe_callTy (call_list_dict rfl) rfl T.b_list PyProof.Rows.boot_list (pac (pe_dget2 hu (pe_fld (pv 0) rfl) (pv 1) pe_dnewK ⟨rfl, rfl, rfl, rfl⟩) pa_nil)))
        (pss_cons (ps_set (i := 3) sc_Threads_beside.nd rfl (Or.inl rfl) (pe_dget2 hu (pe_fld (pv 0) rfl) (pv 1) pe_str ⟨rfl, rfl, rfl, rfl⟩))
        (pss_cons (ps_if (pt_cmpR op_ne (pv 3) pe_str (nomark _)) (pss_one (ps_expr (pe_bm PySem.F.plainAttrs_list PySem.F.slot_list_append PySem.F.type_list_append mt_append (pv 2) (pac (pv 3) pa_nil)))) pss_nil)
        (pss_one (ps_ret (pv 2)))))), ?_⟩
    refine ⟨_, rfl, x, _, dx, _, _, rfl, th.obj, T.c_Threads, T.n_Threads_replies, flds_replies L R, R, rfl, .inl ⟨kr, .inl th.rp⟩, _, rfl, fun p hp => ?_⟩
    have s1 : Same H (upd H p (.dK [])) := Same.upd_new hp
    refine ⟨_, DGet.k (k := Sum.inr nm) (s1 _ _ th.rp), ?_⟩
    have fin : ∀ (l : Addr) (H2 : Hp), H l = none → Same H H2 → H2 l = some (.lst ((reps rows nm).map V.str)) →
        ∃ v, valV (rowsK rows) (Sum.inr nm) = v := fun _ _ _ _ _ => ⟨_, rfl⟩
    have hd : ∃ (d : Addr), (match valV kr (Sum.inr nm) with | some v => v | none => V.ref p) = V.ref d ∧ (upd H p (.dK [])) d = some (.dK (keysT (reps rows nm))) := by
      cases hv : valV kr (Sum.inr nm) with
      | none => exact ⟨p, rfl, by rw [upd_same, th.no_ nm hne hv]; rfl⟩
      | some v =>
        obtain ⟨d, rfl, hd, _⟩ := th.ref_ nm v hv
        exact ⟨d, rfl, s1 _ _ hd⟩
    obtain ⟨d, ed, hdd⟩ := hd
    refine ⟨d, keysT (reps rows nm), by first | (rw [← ed]; cases valV kr (Sum.inr nm) <;> rfl) | (rw [← ed]), hdd, fun l hl => ?_⟩
    have ek : (keysT (reps rows nm)).map (fun kv => kV kv.1) = (reps rows nm).map V.str := by unfold keysT; rw [List.map_map]; rfl
    rw [ek]
    have nl : H l = none := s1.free hl
    have s2 : Same H (upd (upd H p (.dK [])) l (.lst ((reps rows nm).map V.str))) := s1.upd_of nl
    have e2 : (upd (upd H p (.dK [])) l (.lst ((reps rows nm).map V.str))) l = some (.lst ((reps rows nm).map V.str)) := upd_same
    generalize upd (upd H p (.dK [])) l (.lst ((reps rows nm).map V.str)) = H2 at s2 e2
    refine ⟨_, rfl, x, _, dx, _, _, rfl, s2 _ _ th.obj, T.c_Threads, T.n_Threads_links, flds_links L R, L, rfl, .inl ⟨_, .inl (s2 _ _ th.lk)⟩, _, rfl, _, DGet.k (k := Sum.inr nm) (s2 _ _ th.lk), ?_⟩
    rw [val_rows]
    cases hu2 : up rows nm with
    | none =>
      refine ⟨_, rfl, rfl, _, rfl, iteF ⟨_, rfl, k l H2 nl s2 ?_⟩⟩
      rw [e2, nbr, upL, hu2]; simp
    | some an =>
      refine ⟨_, rfl, rfl, _, rfl, ?_⟩
      by_cases han : an = ""
      · have e : decide (V.str an = V.str "") = true := by rw [han]; simp
        show (if (!decide (V.str an = V.str "")) = true then _ else _)
        rw [e]
        refine iteF ⟨_, rfl, k l H2 nl s2 ?_⟩
        rw [e2, nbr, upL, hu2]; simp [han]
      · have e : decide (V.str an = V.str "") = false := by simp [han]
        show (if (!decide (V.str an = V.str "")) = true then _ else _)
        rw [e]
        refine iteT ⟨_, rfl, .inl ⟨rfl, _, SqL.of e2⟩, _, rfl, l, _, _, rfl, rfl, e2, (by rw [List.length_map]; exact small1000 (by omega)), ?_⟩
        refine ⟨_, rfl, k l _ nl (s2.upd_of nl) ?_⟩
        rw [upd_same, nbr, upL, hu2]; simp [han]
end
theorem dfsin_len {rows : Rows} {n here : Str} {seen rc wt : List Str} (d : DFSin rows n here seen rc wt) (hn : n ∈ rows.map (·.1)) : rc.length ≤ 2 * rows.length := by
  have := nodup_le d.nd fun m hm => rch_univ hn (d.sound m hm)
  unfold univ at this
  rw [List.length_append, List.length_map, List.length_map] at this
  omega
section
variable {P : Program} {w : World} {K : PySem.W.Frag} {mg : Str → Option Value} {base : Heap} {a : Adr}
theorem ok_thread {fd : FuncData} (F : Fun K "thread" "Threads.thread" sThreads_thread a.f_Threads_thread fd) (T : Txt K mg a) (FF : Funs K a) : FnOk P w K mg base CX0 2 a.f_Threads_thread fd ["self", "name"] (spThread a) := by
  obtain ⟨fdC, F_check_there, b_check_there⟩ := FF.F_check_there
  obtain ⟨fdB, F_b, b_Threads_beside⟩ := FF.F_Threads_beside
  have G_check_there : FnOk P w K mg base CX0 1 a.f_check_there fdC ["name", "there"] spThereD := ok_there F_check_there T
  have G_Threads_beside : FnOk P w K mg base CX0 1 a.f_Threads_beside fdB ["self", "name"] (spBeside a) := ok_beside F_b T
  refine F.ok sc_Threads_thread (fun vs H Q E h => ?_) (fun cdv A outer st H vs Q E hr h => ?_)
  · obtain ⟨x, rows, n, nm, rfl, _⟩ := h; rfl
  · obtain ⟨x, rows, n, nm, rfl, hth, hne, hm, k⟩ := h
    obtain ⟨dx, L, R, kr, th, hl1, hl2⟩ := id hth
    have hfew := th.few
    have hu := hu_of hr
    have hr_check_there : Room 1 _ := hr
    have hr_Threads_beside : Room 1 _ := hr
    have nm0 : nm ≠ "" := hne nm hm
    refine ⟨_, (pss_cons (ps_expr (pe_call G_check_there hr_check_there rfl T.m_check_there F_check_there.kp b_check_there .nil pass0 (pac (pv 1) (pac (pe_fld (pv 0) rfl) pa_nil))))
        (pss_cons (ps_set (i := 2) sc_Threads_thread.nd rfl (Or.inl rfl) (pe_disp (pps_cons (pv 1) pe_bl pps_nil) rfl rfl (by simp) (by decide)))
        (pss_cons (ps_set (i := 3) sc_Threads_thread.nd rfl (Or.inl rfl) (pe_lstS (pas_cons (pv 1) pas_nil)))
        (pss_cons (ps_while PassesOwn.never (pt_truth (pv 3) (fun _ => rfl)) (pss_cons (ps_set (i := 4) sc_Threads_thread.nd rfl (Or.inl rfl) (pe_bm0 PySem.F.plainAttrs_list PySem.F.slot_list_pop PySem.F.type_list_pop mt_pop (pv 3)))
          (pss_one (ps_for PassesOwn.never rfl (pi_list (pe_meth (pv 0) T.c_Threads T.M_Threads_beside G_Threads_beside hr_Threads_beside b_Threads_beside .nil pass0 (pac (pv 4) pa_nil))) (pg_name (i := 5) sc_Threads_thread.nd rfl (Or.inl rfl)) (pss_one (ps_if (pt_cmp (pc_dnotin hu (pv 5) (pv 2))) (pss_cons (ps_dput hu (pv 2) (pv 5) pe_bl rfl) (pss_one (ps_expr (pe_bm PySem.F.plainAttrs_list PySem.F.slot_list_append PySem.F.type_list_append mt_append (pv 3) (pac (pv 5) pa_nil))))) pss_nil))))))
        (pss_one (ps_fast (ps_ret (pe_callB call_sortedB rfl T.b_sorted PyProof.Rows.boot_sorted (pac (pe_comp (sc := defScope sThreads_thread) (N := n_Threads_thread) (fr := [(0, "self")]) ⟨rfl, rfl, by decide +kernel, by decide +kernel, by decide +kernel, by decide +kernel, by decide +kernel⟩ rfl rfl rfl (pi_dict (pv 2)) (fun _ _ _ _ => pts_one (pt_cmp (pc_din hu (pv 0) (pe_fldK K (pv 1) rfl)))) (fun _ _ _ _ => (pv 0))) pa_nil))))))))), ?_⟩
    obtain ⟨an, eu⟩ := up_some hm
    refine ⟨_, rfl, _, rfl, x, _, dx, _, _, rfl, th.obj, T.c_Threads, T.n_Threads_links, flds_links L R, nm, L, _, _, rfl, th.lk, (by rw [val_rows, eu]; rfl), ?_⟩
    intro p hp
    refine ⟨_, rfl, upd_same, [(Sum.inr nm, .bl true)], rfl, (by show 1 ≤ 15; decide), ?_⟩
    have ek : mergeK [] [(Sum.inr nm, V.bl true)] = keysT [nm] := rfl
    rw [ek, upd_upd]
    have s1 : Same H (upd H p (.dK (keysT [nm]))) := Same.upd_new hp
    have p1 : (upd H p (.dK (keysT [nm]))) p = some (.dK (keysT [nm])) := upd_same
    show tSeq _ _ _ _ (upd H p (.dK (keysT [nm])))
    generalize upd H p (.dK (keysT [nm])) = H1 at s1 p1
    refine ⟨_, rfl, (by show 1 ≤ sizeLine; decide), fun q hq => ?_⟩
    have qn : H q = none := s1.free hq
    have pq : p ≠ q := ne_of_none p1 hq
    have s2 : Same H (upd H1 q (.lst [.str nm])) := s1.upd_of qn
    have p2 : (upd H1 q (.lst [.str nm])) p = some (.dK (keysT [nm])) := by rw [upd_ne pq]; exact p1
    have q2 : (upd H1 q (.lst [.str nm])) q = some (.lst ([nm].map V.str)) := upd_same
    show tSeq _ _ _ _ (upd H1 q (.lst [.str nm]))
    generalize upd H1 q (.lst [.str nm]) = H2 at s2 p2 q2
    refine ⟨fun m σ H3 => ∃ (rc wt : List Str) (o4 o5 : Option V), m = 2 * (2 * rows.length - rc.length) + wt.length ∧ m ≤ 500 ∧ σ = [some (.ref x), some (.str nm), some (.ref p), some (.ref q), o4, o5] ∧ Same H H3 ∧ H3 p = some (.dK (keysT rc)) ∧ H3 q = some (.lst (wt.map V.str)) ∧ DFS rows nm rc wt,
      ⟨_, [nm], [nm], none, none, rfl, by show 2 * (2 * rows.length - 1) + 1 ≤ 500; omega, rfl, s2, p2, q2, DFS.init⟩, ?_⟩
    rintro m σ H3 ⟨rc, wt, o4, o5, rfl, hm200, rfl, s3, p3, q3, d⟩
    have dl := d.len hm
    refine ⟨_, rfl, !(wt.map V.str).isEmpty, .inl ⟨_, SqL.of q3, rfl⟩, ?_⟩
    by_cases hw : wt = []
    · subst hw
      refine iteF ?_
      refine ⟨p, keysT rc, p3, fun oa => ?_⟩
      have xp : x ≠ p := ne_of_none th.obj hp
      have Lp : L ≠ p := ne_of_none th.lk hp
      have obj4 : (upd H3 p (.frz oa (.dK (keysT rc)))) x = some (.ins a.C_Threads dx [("links", .ref L), ("replies", .ref R)]) := by rw [upd_ne xp]; exact s3 _ _ th.obj
      have lk4 : (upd H3 p (.frz oa (.dK (keysT rc)))) L = some (.dK (rowsK rows)) := by rw [upd_ne Lp]; exact s3 _ _ th.lk
      have s4 : Same H (upd H3 p (.frz oa (.dK (keysT rc)))) := s3.upd_of hp
      have p4 : (upd H3 p (.frz oa (.dK (keysT rc)))) p = some (.frz oa (.dK (keysT rc))) := upd_same
      generalize upd H3 p (.frz oa (.dK (keysT rc))) = H4 at obj4 lk4 s4 p4
      refine ⟨_, rfl, p, oa, keysT rc, rfl, p4, comp_dictFM (xs := rc) V.str (fun y => decide (y ∈ rows.map (·.1))) V.str (Nat.le_of_lt (small1000 (by omega))) p4 (by unfold keysT; rw [List.map_map]; rfl) ?_ ?_ ?_⟩
      · intro y H5 Q' hy s5 q'
        refine ⟨_, rfl, _, rfl, x, _, dx, _, _, rfl, s5 _ _ obj4, T.c_Threads, T.n_Threads_links, flds_links L R, L, _, rfl, DGet.k (k := Sum.inr y) (s5 _ _ lk4), _, rfl, ?_⟩
        rw [val_rows]
        cases e : up rows y with
        | none =>
          rw [decide_eq_false (up_none.mp e)] at q'
          exact q'
        | some z =>
          rw [decide_eq_true (List.mem_map.mpr ⟨_, up_mem e, rfl⟩)] at q'
          exact q'
      · intro y H5 Q' hy s5 _ q'
        exact ⟨_, rfl, q'⟩
      · intro D hD
        have hfl := nodup_le (d.nd.filter (fun y => decide (y ∈ rows.map (·.1)))) (l := rows.map (·.1)) fun m hm => of_decide_eq_true (List.mem_filter.mp hm).2
        rw [List.length_map] at hfl
        refine ⟨D, _, rfl, SqL.of upd_same, by omega, fun l hl => ?_⟩
        have pD : p ≠ D := ne_of_none p4 hD
        have p5 : (upd H4 D (.lst ((rc.filter fun y => decide (y ∈ rows.map (·.1))).map V.str))) p = some (.frz oa (.dK (keysT rc))) := by rw [upd_ne pD]; exact p4
        have s5 : Same H (upd H4 D (.lst ((rc.filter fun y => decide (y ∈ rows.map (·.1))).map V.str))) := s4.upd_of (s4.free hD)
        generalize upd H4 D (.lst ((rc.filter fun y => decide (y ∈ rows.map (·.1))).map V.str)) = H5 at hl p5 s5
        have pl : p ≠ l := ne_of_none p5 hl
        have nl : H l = none := s5.free hl
        refine ⟨by rw [upd_ne pl]; exact p5, ?_⟩
        refine k l _ nl ((s5.upd_of nl).upd_of hp) ?_
        rw [upd_ne pl.symm, upd_same, d.done th.nd]
    · obtain ⟨wt', here, rfl⟩ : ∃ wt' here, wt = wt' ++ [here] := ⟨wt.dropLast, wt.getLast hw, (List.dropLast_concat_getLast hw).symm⟩
      have hk : (!((wt' ++ [here]).map V.str).isEmpty) = true := by simp
      rw [hk]
      rw [List.length_append, List.length_singleton] at hm200
      refine iteT ⟨_, fun σ' H' z => z, ?_⟩
      refine ⟨_, rfl, .inl ⟨rfl, _, SqL.of q3⟩, q, _, .str here, rfl, rfl, q3, by simp, ?_⟩
      have edl : ((wt' ++ [here]).map V.str).dropLast = wt'.map V.str := by simp
      rw [edl]
      have s4 : Same H (upd H3 q (.lst (wt'.map V.str))) := s3.upd_of qn
      have p4 : (upd H3 q (.lst (wt'.map V.str))) p = some (.dK (keysT rc)) := by rw [upd_ne pq]; exact p3
      have q4 : (upd H3 q (.lst (wt'.map V.str))) q = some (.lst (wt'.map V.str)) := upd_same
      generalize upd H3 q (.lst (wt'.map V.str)) = H4 at s4 p4 q4 ⊢
      have hth4 := hth.kp2 s4.kp2
      have hh : here ∈ rc := d.sub here (by simp)
      have h0 : here ≠ "" := (d.sound here hh).ne hne nm0
      refine ⟨_, rfl, x, dx, _, rfl, s4 _ _ th.obj, rfl, _, rfl, x, rows, n, here, rfl, hth4, h0, fun l H5 nl s5 el => ?_⟩
      have lp : l ≠ p := (ne_of_none p4 nl).symm
      have lq : l ≠ q := (ne_of_none q4 nl).symm
      refine ⟨l, rfl, ⟨_, SqL.of el⟩, for_list (K := K) (a := l) (xs := (nbr rows here).map V.str) (fun i σ H6 => Ex3 fun (rc6 wt6 : List Str) (o : Option V) => And7 (σ = [some (.ref x), some (.str nm), some (.ref p), some (.ref q), some (.str here), o]) (Same H H6) (H6 p = some (.dK (keysT rc6))) (H6 q = some (.lst (wt6.map V.str))) (H6 l = some (.lst ((nbr rows here).map V.str))) (DFSin rows nm here ((nbr rows here).take i) rc6 wt6) (2 * (2 * rows.length - rc6.length) + wt6.length ≤ 2 * (2 * rows.length - rc.length) + wt'.length))
        ⟨rc, wt', o5, rfl, s4.trans s5, s5 _ _ p4, s5 _ _ q4, el, by simpa using d.pop, Nat.le_refl _⟩ ?_ ?_ ?_⟩
      · rintro i σ H6 _ ⟨rc6, wt6, o, rfl, s6, p6, q6, l6, d6, m6⟩
        exact SqL.of l6
      · rintro i v σ H6 hv ⟨rc6, wt6, o, rfl, s6, p6, q6, l6, d6, m6⟩
        obtain ⟨y, hy, rfl⟩ : ∃ y, (nbr rows here)[i]? = some y ∧ V.str y = v := by
          rw [List.getElem?_map] at hv
          cases e : (nbr rows here)[i]? with
          | none => rw [e] at hv; cases hv
          | some t => rw [e] at hv; exact ⟨t, rfl, Option.some.inj hv⟩
        have et : (nbr rows here).take (i + 1) = (nbr rows here).take i ++ [y] := by rw [List.take_add_one, hy]; rfl
        have ym : y ∈ nbr rows here := List.mem_of_getElem? hy
        have l6' := dfsin_len d6 hm
        refine ⟨_, rfl, _, rfl, p, _, rfl, DGet.k (k := Sum.inr y) p6, _, rfl, ?_⟩
        rw [val_keys]
        by_cases hin : y ∈ rc6
        · rw [if_pos hin]
          refine iteF ⟨rc6, wt6, _, rfl, s6, p6, q6, l6, ?_, m6⟩
          rw [et]
          exact d6.old hin
        · rw [if_neg hin]
          refine iteT ⟨_, rfl, _, rfl, p, _, rfl, DPut.k (k := Sum.inr y) p6 (by rw [keysT, List.length_map]; exact small1000 (by omega)), ?_⟩
          rw [put_keys hin]
          have d7 := d6.new hin ym
          have l7 := dfsin_len d7 hm
          rw [List.length_append, List.length_singleton] at l7
          have s7 : Same H (upd H6 p (.dK (keysT (rc6 ++ [y])))) := s6.upd_of hp
          have q7 : (upd H6 p (.dK (keysT (rc6 ++ [y])))) q = some (.lst (wt6.map V.str)) := by rw [upd_ne pq.symm]; exact q6
          have p7 : (upd H6 p (.dK (keysT (rc6 ++ [y])))) p = some (.dK (keysT (rc6 ++ [y]))) := upd_same
          have l7' : (upd H6 p (.dK (keysT (rc6 ++ [y])))) l = some (.lst ((nbr rows here).map V.str)) := by rw [upd_ne lp]; exact l6
          generalize upd H6 p (.dK (keysT (rc6 ++ [y]))) = H7 at s7 q7 p7 l7'
          refine ⟨_, rfl, .inl ⟨rfl, _, SqL.of q7⟩, _, rfl, q, _, _, rfl, rfl, q7, (by rw [List.length_map]; exact small1000 (by omega)), ?_⟩
          refine ⟨rc6 ++ [y], wt6 ++ [y], _, rfl, s7.upd_of qn, by rw [upd_ne pq]; exact p7, by rw [upd_same, List.map_append]; rfl, by rw [upd_ne lq]; exact l7', ?_, ?_⟩
          · rw [et]; exact d7
          · rw [List.length_append, List.length_append, List.length_singleton]; omega
      · rintro σ H6 ⟨rc6, wt6, o, rfl, s6, p6, q6, l6, d6, m6⟩
        rw [List.length_map, List.take_length] at d6
        refine ⟨_, ?_, rc6, wt6, _, _, rfl, by omega, rfl, s6, p6, q6, d6.out⟩
        rw [List.length_append, List.length_singleton]
        omega
end
/-- the lists at ls are the threads ts -/
def ThrAt (H : Hp) (l : Addr) (ls : List (Addr × List Str)) : Prop := H l = some (.lst (ls.map fun p => V.ref p.1)) ∧ ∀ p ∈ ls, H p.1 = some (.lst (p.2.map V.str))
inductive spThreads_I (a : Adr) (vs : List V) (H : Hp) (Q : VK) : Prop
  | mk : ∀ x rows n, vs = [.ref x] → THs a H x rows n → NoE rows → (∀ l H' ls, H l = none → Same H H' → (∀ p ∈ ls, H p.1 = none ∧ p.1 ≠ l) → ls.map (·.2) = thrAll rows (sortS (rows.map (·.1))) → ThrAt H' l ls → Q (.ref l) H') → spThreads_I a vs H Q
def spThreads (a : Adr) : Sp := fun vs H Q _ => spThreads_I a vs H Q
section
variable {P : Program} {w : World} {K : PySem.W.Frag} {mg : Str → Option Value} {base : Heap} {a : Adr}
theorem ok_threads {fd : FuncData} (F : Fun K "threads" "Threads.threads" sThreads_threads a.f_Threads_threads fd) (T : Txt K mg a) (FF : Funs K a) : FnOk P w K mg base CX0 3 a.f_Threads_threads fd ["self"] (spThreads a) := by
  obtain ⟨fdN, F_n, b_Threads_names⟩ := FF.F_Threads_names
  obtain ⟨fdT, F_t, b_Threads_thread⟩ := FF.F_Threads_thread
  have G_Threads_names : FnOk P w K mg base CX0 1 a.f_Threads_names fdN ["self"] (spNames a) := ok_names F_n T
  have G_Threads_thread : FnOk P w K mg base CX0 2 a.f_Threads_thread fdT ["self", "name"] (spThread a) := ok_thread F_t T FF
  refine F.ok sc_Threads_threads (fun vs H Q E h => ?_) (fun cdv A outer st H vs Q E hr h => ?_)
  · obtain ⟨x, rows, n, rfl, _⟩ := h; rfl
  · obtain ⟨x, rows, n, rfl, hth, hne, k⟩ := h
    obtain ⟨dx, L, R, kr, th, hl1, hl2⟩ := id hth
    have hfew := th.few
    have hu := hu_of hr
    have hr_Threads_names : Room 1 _ := hr.mono (by decide)
    have hr_Threads_thread : Room 2 _ := hr
    refine ⟨_, (pss_cons (ps_set (i := 1) sc_Threads_threads.nd rfl (Or.inl rfl) (pe_lstS pas_nil))
        (pss_cons (ps_set (i := 2) sc_Threads_threads.nd rfl (Or.inl rfl) pe_dnewK)
        (pss_cons (ps_for PassesOwn.never rfl (pi_list (pe_meth0 (pv 0) T.c_Threads T.M_Threads_names G_Threads_names hr_Threads_names b_Threads_names .nil pass0)) (pg_name (i := 3) sc_Threads_threads.nd rfl (Or.inl rfl)) (pss_one (ps_if (pt_cmp (pc_dnotin hu (pv 3) (pv 2))) (pss_cons (ps_set (i := 4) sc_Threads_threads.nd rfl (Or.inl rfl) (pe_meth (pv 0) T.c_Threads T.M_Threads_thread G_Threads_thread hr_Threads_thread b_Threads_thread .nil pass0 (pac (pv 3) pa_nil)))
        (pss_cons (ps_expr (pe_bm PySem.F.plainAttrs_list PySem.F.slot_list_append PySem.F.type_list_append mt_append (pv 1) (pac (pv 4) pa_nil)))
        (pss_one (ps_for PassesOwn.never rfl (pi_list (pv 4)) (pg_name (i := 5) sc_Threads_threads.nd rfl (Or.inl rfl)) (pss_one (ps_dput hu (pv 2) (pv 5) pe_bl rfl)))))) pss_nil)))
        (pss_one (ps_ret (pv 1)))))), ?_⟩
    refine ⟨(by show 0 ≤ sizeLine; decide), fun q hq => ?_⟩
    have s1 : Same H (upd H q (.lst [])) := Same.upd_new hq
    have q1 : (upd H q (.lst [])) q = some (.lst []) := upd_same
    show tSeq _ _ _ _ (upd H q (.lst []))
    generalize upd H q (.lst []) = H1 at s1 q1
    intro p hp
    have pn : H p = none := s1.free hp
    have qp : q ≠ p := ne_of_none q1 hp
    have s2 : Same H (upd H1 p (.dK [])) := s1.upd_of pn
    have q2 : (upd H1 p (.dK [])) q = some (.lst []) := by rw [upd_ne qp]; exact q1
    have p2 : (upd H1 p (.dK [])) p = some (.dK (keysT [])) := upd_same
    show tSeq _ _ _ _ (upd H1 p (.dK []))
    generalize upd H1 p (.dK []) = H2 at s2 q2 p2
    have hth2 := hth.kp2 s2.kp2
    refine ⟨_, rfl, x, dx, _, rfl, s2 _ _ th.obj, rfl, x, rows, n, rfl, hth2, fun l H3 nl s3 el => ?_⟩
    generalize hns : sortS (rows.map (·.1)) = ns at el
    have nsm : ∀ m ∈ ns, m ∈ rows.map (·.1) := fun m hm => by rw [← hns] at hm; exact sortS_mem.mp hm
    have nsl : ns.length ≤ 100 := by rw [← hns, sortS_len, List.length_map]; exact hfew
    have lq : l ≠ q := (ne_of_none q2 nl).symm
    have lp : l ≠ p := (ne_of_none p2 nl).symm
    refine ⟨l, rfl, ⟨_, SqL.of el⟩, for_list (K := K) (a := l) (xs := ns.map V.str) (fun i σ H4 => Ex5 fun (ls : List (Addr × List Str)) (mt : List Str) (o3 o4 o5 : Option V) => And9 (σ = [some (.ref x), some (.ref q), some (.ref p), o3, o4, o5]) (Same H H4) (ThrAt H4 q ls) ((∀ z ∈ ls, H z.1 = none ∧ z.1 ≠ q ∧ z.1 ≠ p)) (ls.map (·.2) = thrAll rows (ns.take i)) (H4 p = some (.dK (keysT mt))) (mt.Nodup) ((∀ m, m ∈ mt ↔ ∃ t ∈ thrAll rows (ns.take i), m ∈ t)) (H4 l = some (.lst (ns.map V.str))))
      ⟨[], [], none, none, none, rfl, s2.trans s3, ⟨s3 _ _ q2, (fun _ z => nomatch z)⟩, (fun _ z => nomatch z), rfl, s3 _ _ p2, List.Pairwise.nil, fun m => ⟨(fun z => nomatch z), fun ⟨t, z, _⟩ => nomatch z⟩, el⟩ ?_ ?_ ?_⟩
    · rintro i σ H4 _ ⟨ls, mt, o3, o4, o5, rfl, s4, hT, hz, e4, p4, nd4, m4, l4⟩
      exact SqL.of l4
    · rintro i v σ H4 hv ⟨ls, mt, o3, o4, o5, rfl, s4, hT, hz, e4, p4, nd4, m4, l4⟩
      obtain ⟨nm, hy, rfl⟩ : ∃ y, ns[i]? = some y ∧ V.str y = v := by
        rw [List.getElem?_map] at hv
        cases e : ns[i]? with
        | none => rw [e] at hv; cases hv
        | some t => rw [e] at hv; exact ⟨t, rfl, Option.some.inj hv⟩
      have et : ns.take (i + 1) = ns.take i ++ [nm] := by rw [List.take_add_one, hy]; rfl
      have hnm : nm ∈ rows.map (·.1) := nsm nm (List.mem_of_getElem? hy)
      have hpre : ∀ m ∈ ns.take i, m ∈ rows.map (·.1) := fun m hm => nsm m (List.mem_of_mem_take hm)
      have hmet := thr_met th.nd hne hpre hnm
      have hll : ls.length ≤ 100 := by
        have := congrArg List.length e4
        rw [List.length_map] at this
        have h2 := thrAll_len (rows := rows) (ns.take i)
        rw [List.length_take] at h2
        omega
      have hmt : ∀ m ∈ mt, m ∈ rows.map (·.1) := fun m hm => by
        obtain ⟨t, ht, hmt⟩ := (m4 m).mp hm
        obtain ⟨y, _, rfl⟩ := thrAll_mem _ ht
        exact (mem_thr.mp hmt).1
      rw [et, thrAll_snoc]
      refine ⟨_, rfl, _, rfl, p, _, rfl, DGet.k (k := Sum.inr nm) p4, _, rfl, ?_⟩
      rw [val_keys]
      by_cases hin : nm ∈ mt
      · rw [if_pos hin]
        refine iteF ⟨ls, mt, _, _, _, rfl, s4, hT, hz, ?_, p4, nd4, ?_, l4⟩
        · unfold thrGo
          rw [if_pos (hmet.mp ((m4 nm).mp hin))]
          exact e4
        · unfold thrGo
          rw [if_pos (hmet.mp ((m4 nm).mp hin))]
          exact m4
      · rw [if_neg hin]
        have hnot : ¬ thrOf rows nm ∈ thrAll rows (ns.take i) := fun z => hin ((m4 nm).mpr (hmet.mpr z))
        have hth4 := hth.kp2 s4.kp2
        refine iteT ⟨_, rfl, x, dx, _, rfl, s4 _ _ th.obj, rfl, _, rfl, x, rows, n, nm, rfl, hth4, hne, hnm, fun l5 H5 n5 s5 e5 => ?_⟩
        have l5q : l5 ≠ q := (ne_of_none hT.1 n5).symm
        have l5p : l5 ≠ p := (ne_of_none p4 n5).symm
        have l5l : l5 ≠ l := (ne_of_none l4 n5).symm
        have q5 := s5 _ _ hT.1
        refine ⟨_, rfl, .inl ⟨rfl, _, SqL.of q5⟩, _, rfl, q, _, _, rfl, rfl, q5, (by rw [List.length_map]; exact small1000 (by omega)), ?_⟩
        have eL : (ls.map fun p => V.ref p.1) ++ [V.ref l5] = (ls ++ [((l5, thrOf rows nm) : Addr × List Str)]).map fun p => V.ref p.1 := by rw [List.map_append]; rfl
        rw [eL]
        have qn : H q = none := hq
        have s6 : Same H (upd H5 q (.lst ((ls ++ [((l5, thrOf rows nm) : Addr × List Str)]).map fun p => V.ref p.1))) := (s4.trans s5).upd_of qn
        have hT6 : ThrAt (upd H5 q (.lst ((ls ++ [((l5, thrOf rows nm) : Addr × List Str)]).map fun p => V.ref p.1))) q (ls ++ [((l5, thrOf rows nm) : Addr × List Str)]) := ⟨upd_same, fun z hz' => by
          rcases List.mem_append.mp hz' with y | y
          · rw [upd_ne (hz z y).2.1]; exact s5 _ _ (hT.2 z y)
          · rw [List.mem_singleton.mp y, upd_ne l5q]; exact e5⟩
        have p6 : (upd H5 q (.lst ((ls ++ [((l5, thrOf rows nm) : Addr × List Str)]).map fun p => V.ref p.1))) p = some (.dK (keysT mt)) := by rw [upd_ne qp.symm]; exact s5 _ _ p4
        have l6 : (upd H5 q (.lst ((ls ++ [((l5, thrOf rows nm) : Addr × List Str)]).map fun p => V.ref p.1))) l = some (.lst (ns.map V.str)) := by rw [upd_ne lq]; exact s5 _ _ l4
        generalize upd H5 q (.lst ((ls ++ [((l5, thrOf rows nm) : Addr × List Str)]).map fun p => V.ref p.1)) = H6 at s6 hT6 p6 l6
        have e6 : H6 l5 = some (.lst ((thrOf rows nm).map V.str)) := hT6.2 (l5, thrOf rows nm) (List.mem_append_right _ List.mem_cons_self)
        have hz6 : ∀ z ∈ ls ++ [((l5, thrOf rows nm) : Addr × List Str)], H z.1 = none ∧ z.1 ≠ q ∧ z.1 ≠ p := fun z hz' => by
          rcases List.mem_append.mp hz' with y | y
          · exact hz z y
          · rw [List.mem_singleton.mp y]; exact ⟨s4.free n5, l5q, l5p⟩
        refine ⟨_, rfl, l5, rfl, ⟨_, SqL.of e6⟩, for_list (K := K) (a := l5) (xs := (thrOf rows nm).map V.str) (fun j σ H7 => Ex2 fun (mt7 : List Str) (o : Option V) => And7 (σ = [some (.ref x), some (.ref q), some (.ref p), some (.str nm), some (.ref l5), o]) (Same H H7) (ThrAt H7 q (ls ++ [((l5, thrOf rows nm) : Addr × List Str)])) (H7 p = some (.dK (keysT mt7))) (mt7.Nodup) ((∀ m, m ∈ mt7 ↔ m ∈ mt ∨ m ∈ (thrOf rows nm).take j)) (H7 l = some (.lst (ns.map V.str))))
          ⟨mt, _, rfl, s6, hT6, p6, nd4, fun m => by rw [List.take_zero]; exact ⟨.inl, fun z => z.elim id (fun z => nomatch z)⟩, l6⟩ ?_ ?_ ?_⟩
        · rintro j σ H7 _ ⟨mt7, o, rfl, s7, hT7, p7, nd7, m7, l7⟩
          exact SqL.of (hT7.2 (l5, thrOf rows nm) (List.mem_append_right _ List.mem_cons_self))
        · rintro j v σ H7 hv ⟨mt7, o, rfl, s7, hT7, p7, nd7, m7, l7⟩
          obtain ⟨y, hy, rfl⟩ : ∃ y, (thrOf rows nm)[j]? = some y ∧ V.str y = v := by
            rw [List.getElem?_map] at hv
            cases e : (thrOf rows nm)[j]? with
            | none => rw [e] at hv; cases hv
            | some t => rw [e] at hv; exact ⟨t, rfl, Option.some.inj hv⟩
          have ej : (thrOf rows nm).take (j + 1) = (thrOf rows nm).take j ++ [y] := by rw [List.take_add_one, hy]; rfl
          have hl7 : mt7.length ≤ 100 := by
            have := nodup_le nd7 (l := rows.map (·.1)) fun m hm => by
              rcases (m7 m).mp hm with z | z
              · exact hmt m z
              · exact (mem_thr.mp (List.mem_of_mem_take z)).1
            rw [List.length_map] at this
            omega
          refine ⟨_, rfl, _, rfl, p, _, rfl, DPut.k (k := Sum.inr y) p7 (by rw [keysT, List.length_map]; exact small1000 (by omega)), ?_⟩
          rw [put_add]
          refine ⟨addN mt7 y, _, rfl, s7.upd_of pn, ⟨by rw [upd_ne qp]; exact hT7.1, fun z hz' => by rw [upd_ne (hz6 z hz').2.2]; exact hT7.2 z hz'⟩, upd_same, add_nd nd7, fun m => ?_, by rw [upd_ne lp]; exact l7⟩
          rw [mem_add, m7, ej, List.mem_append, List.mem_singleton, or_assoc]
        · rintro σ H7 ⟨mt7, o, rfl, s7, hT7, p7, nd7, m7, l7⟩
          rw [List.length_map, List.take_length] at m7
          refine ⟨_, mt7, _, _, _, rfl, s7, hT7, hz6, ?_, p7, nd7, fun m => ?_, l7⟩
          · unfold thrGo
            rw [if_neg hnot, List.map_append, e4]
            rfl
          · unfold thrGo
            rw [if_neg hnot, m7, m4]
            constructor
            · rintro (⟨t, h1, h2⟩ | h)
              · exact ⟨t, List.mem_append_left _ h1, h2⟩
              · exact ⟨_, List.mem_append_right _ List.mem_cons_self, h⟩
            · rintro ⟨t, h1, h2⟩
              rcases List.mem_append.mp h1 with z | z
              · exact .inl ⟨t, z, h2⟩
              · rw [List.mem_singleton.mp z] at h2; exact .inr h2
    · rintro σ H4 ⟨ls, mt, o3, o4, o5, rfl, s4, hT, hz, e4, p4, nd4, m4, l4⟩
      rw [List.length_map, List.take_length] at e4
      exact ⟨_, rfl, k q H4 ls hq s4 (fun z hz' => ⟨(hz z hz').1, (hz z hz').2.1⟩) (by rw [hns]; exact e4) hT⟩
end
inductive spDraws_I (K : PySem.W.Frag) (vs : List V) (H : Hp) (Q : VK) : Prop
  | mk : ∀ (a : Addr) (ns : List Int) (n : Nat), vs = [.ref a, .int n] → SqL K H a (ns.map V.int) → n ≤ 1000 → (∀ (p : Addr) (rs : List Int) (H' : Hp), rs.length = n → (∀ r ∈ rs, 0 ≤ r ∧ r < 2147483629) → Same H H' → H' p = some (.lst (rs.map V.int)) → Q (.ref p) H') → spDraws_I K vs H Q
def spDraws (K : PySem.W.Frag) : Sp := fun vs H Q _ => spDraws_I K vs H Q
theorem ok_draws {P : Program} {w : World} {K : PySem.W.Frag} {mg : Str → Option Value} {base : Heap} {a : Adr} {fd : FuncData} (F : Fun K "_law_draws" "_law_draws" sl_draws a.f_l_draws fd) (T : Txt K mg a) : FnOk P w K mg base CX0 1 a.f_l_draws fd ["_law_script", "_law_many"] (spDraws K) := by
  refine F.ok sc_l_draws (fun vs H Q E h => ?_) (fun cdv A outer s H vs Q E hr h => ?_)
  · obtain ⟨x, ns, n, rfl, _⟩ := h; rfl
  · obtain ⟨q, ns, n, rfl, hS, hn, k⟩ := h
    refine ⟨_, (pss_cons (ps_set (i := 2) sc_l_draws.nd rfl (Or.inl rfl) (pe_lstS pas_nil))
        (pss_cons (ps_set (i := 3) sc_l_draws.nd rfl (Or.inl rfl) pe_int)
        (pss_cons (ps_for PassesOwn.never rfl (pi_range1 rfl T.b_range (pac (pv 1) pa_nil)) (pg_name (i := 4) sc_l_draws.nd rfl (Or.inl rfl)) (pss_cons (ps_set (i := 5) sc_l_draws.nd rfl (Or.inl rfl) pe_int)
        (pss_cons (ps_if (pt_cmpR op_gt (pe_callB call_len_seq rfl T.b_len PySem.boot_len (pac (pv 0) pa_nil)) pe_int (nomark _)) (pss_one (ps_set (i := 5) sc_l_draws.nd rfl (Or.inl rfl) (pe_ix ix_list (pv 0) (pe_op op_mod (pv 4) (pe_callB call_len_seq rfl T.b_len PySem.boot_len (pac (pv 0) pa_nil))) (fun _ _ => rfl)))) pss_nil)
        (pss_cons (ps_set (i := 3) sc_l_draws.nd rfl (Or.inl rfl) (pe_op op_mod (pe_op op_add (pe_op op_add (pe_op op_add (pe_op op_mul (pv 3) pe_int) (pv 5)) (pv 4)) pe_int) pe_int))
        (pss_one (ps_expr (pe_bm PySem.F.plainAttrs_list PySem.F.slot_list_append PySem.F.type_list_append mt_append (pv 2) (pac (pe_op op_mod (pe_op op_mul (pv 3) (pv 3)) pe_int) pa_nil))))))))
        (pss_one (ps_ret (pv 2)))))), ?_⟩
    refine ⟨Nat.zero_le _, fun p hp => ?_⟩
    refine ⟨_, rfl, (n : Int), rfl, by omega, by omega, for_range (n := (n : Int).toNat) (fun i σ H2 => Ex4 fun (rs : List Int) (more : Int) (c1 c2 : Option V) => And7 (σ = [some (.ref q), some (.int n), some (.ref p), some (.int more), c1, c2]) (0 ≤ more) (more < 2147483647) (rs.length = i) ((∀ r ∈ rs, 0 ≤ r ∧ r < 2147483629)) (H2 p = some (.lst (rs.map V.int))) (Same H H2))
      ⟨[], 7, none, none, rfl, by decide, by decide, rfl, (fun _ h => nomatch h), upd_same, Same.upd_new hp⟩ ?_ ?_⟩
    · rintro i σ H2 hi ⟨rs, more, c1, c2, rfl, h0, h1, hl, hb, hp2, hs⟩
      have hS2 := hs.seq hS
      have hin : i < n := by omega
      have rest : ∀ z : Int, ∃ x : V, ([some (.ref q), some (.int n), some (.ref p), some (.int more), some (.int (0 + (i : Int))), some (.int z)] : St)[3]? = some (some x) ∧ True := fun z => ⟨_, rfl, trivial⟩
      refine ⟨_, rfl, q, _, rfl, .inl hS2, _, _, rfl, rfl, _, rfl, ?_⟩
      refine ite2 (fun hpos => ?_) (fun hneg => ?_)
      · have hpos' : 0 < (ns.map V.int).length := by simpa using hpos
        obtain ⟨v, hv, hm, _⟩ := atI_mod (xs := ns.map V.int) (0 + (i : Int)) hpos'
        obtain ⟨z, rfl, _⟩ := mem_map_int hm
        refine ⟨_, rfl, _, rfl, _, rfl, q, _, rfl, .inl hS2, _, _, rfl, rfl, (by omega), q, _, _, _, rfl, rfl, hS2, hv, ?_⟩
        refine ⟨_, rfl, _, _, rfl, rfl, .inl ⟨by omega, by omega⟩, _, rfl, _, _, rfl, rfl, _, rfl, _, _, rfl, rfl, _, _, rfl, rfl, _, _, rfl, rfl, (by show (0 : Int) < 2147483647; decide), ?_⟩
        have b0 : 0 ≤ (more * 48271 + z + (0 + (i : Int)) + 1) % 2147483647 := Int.emod_nonneg _ (by decide)
        have b1 : (more * 48271 + z + (0 + (i : Int)) + 1) % 2147483647 < 2147483647 := Int.emod_lt_of_pos _ (by decide)
        refine ⟨_, rfl, .inl ⟨rfl, _, SqL.of hp2⟩, _, rfl, _, rfl, _, _, rfl, rfl, .inl ⟨by omega, by omega⟩, _, _, rfl, rfl, (by show (0 : Int) < 2147483629; decide), p, _, _, rfl, rfl, hp2, (by rw [List.length_map]; exact small1000 (by omega)), ?_⟩
        refine ⟨rs ++ [_], _, _, _, rfl, b0, b1, by rw [List.length_append, hl]; rfl, fun r hr => ?_, by rw [List.map_append]; exact upd_same, hs.upd_of hp⟩
        rcases List.mem_append.mp hr with hr | hr
        · exact hb r hr
        · rw [List.mem_singleton.mp hr]
          exact ⟨Int.emod_nonneg _ (by decide), Int.emod_lt_of_pos _ (by decide)⟩
      · refine ⟨_, rfl, _, _, rfl, rfl, .inl ⟨by omega, by omega⟩, _, rfl, _, _, rfl, rfl, _, rfl, _, _, rfl, rfl, _, _, rfl, rfl, _, _, rfl, rfl, (by show (0 : Int) < 2147483647; decide), ?_⟩
        have b0 : 0 ≤ (more * 48271 + 0 + (0 + (i : Int)) + 1) % 2147483647 := Int.emod_nonneg _ (by decide)
        have b1 : (more * 48271 + 0 + (0 + (i : Int)) + 1) % 2147483647 < 2147483647 := Int.emod_lt_of_pos _ (by decide)
        refine ⟨_, rfl, .inl ⟨rfl, _, SqL.of hp2⟩, _, rfl, _, rfl, _, _, rfl, rfl, .inl ⟨by omega, by omega⟩, _, _, rfl, rfl, (by show (0 : Int) < 2147483629; decide), p, _, _, rfl, rfl, hp2, (by rw [List.length_map]; exact small1000 (by omega)), ?_⟩
        refine ⟨rs ++ [_], _, _, _, rfl, b0, b1, by rw [List.length_append, hl]; rfl, fun r hr => ?_, by rw [List.map_append]; exact upd_same, hs.upd_of hp⟩
        rcases List.mem_append.mp hr with hr | hr
        · exact hb r hr
        · rw [List.mem_singleton.mp hr]
          exact ⟨Int.emod_nonneg _ (by decide), Int.emod_lt_of_pos _ (by decide)⟩
    · rintro σ H2 ⟨rs, more, c1, c2, rfl, h0, h1, hl, hb, hp2, hs⟩
      refine ⟨_, rfl, k p rs H2 (by omega) hb hs hp2⟩
/-- what tells a name by its number -/
inductive NB (b k : Int) (x : Str) : Prop
  | len (h : b % 4 = 0) {c : Nat} (e : (x.length : Int) = 1 + k % 20) (hc : atI aZ.cps.toList ((b / 4 + k / 20) % 36) = some c) (e0 : x.cps.toList[0]? = some c) : NB b k x
  | sign (h : b % 4 ≠ 0) {c d : Nat} (hc : atI aZ.cps.toList ((b / 49248 + k) % 36) = some c) (e : x.cps.toList[(b / 4 % 18 + 1).toNat]? = some c) (hd : atI aZ.cps.toList ((b / 1368 + k / 36) % 36) = some d) (e2 : x.cps.toList[(b / 4 % 18).toNat]? = some d) : NB b k x
theorem aZ_nd : aZ.cps.toList.Nodup := by decide +kernel
theorem aZ_inj {i j : Int} {c : Nat} (i0 : 0 ≤ i) (i1 : i < 36) (j0 : 0 ≤ j) (j1 : j < 36) (h1 : atI aZ.cps.toList i = some c) (h2 : atI aZ.cps.toList j = some c) : i = j := by
  obtain ⟨m, rfl⟩ := Int.eq_ofNat_of_zero_le i0
  obtain ⟨n, rfl⟩ := Int.eq_ofNat_of_zero_le j0
  have hl : aZ.cps.toList.length = 36 := by decide +kernel
  have hm : m < aZ.cps.toList.length := by rw [hl]; omega
  have hn : n < aZ.cps.toList.length := by rw [hl]; omega
  have a1 : atI aZ.cps.toList (m : Int) = some aZ.cps.toList[m] := atI_nat (List.getElem?_eq_getElem hm)
  have a2 : atI aZ.cps.toList (n : Int) = some aZ.cps.toList[n] := atI_nat (List.getElem?_eq_getElem hn)
  rw [a1] at h1
  rw [a2] at h2
  have e : aZ.cps.toList[m] = aZ.cps.toList[n] := (Option.some.inj h1).trans (Option.some.inj h2).symm
  have := (List.getElem_inj aZ_nd).mp e
  omega
theorem NB.inj {b k l : Int} {x : Str} (k0 : 0 ≤ k) (k1 : k < 100) (l0 : 0 ≤ l) (l1 : l < 100) (h : NB b k x) (g : NB b l x) : k = l := by
  have az : ∀ {u v : Int} {c : Nat}, atI aZ.cps.toList (u % 36) = some c → atI aZ.cps.toList (v % 36) = some c → u % 36 = v % 36 := fun h1 h2 => aZ_inj (Int.emod_nonneg _ (by decide)) (Int.emod_lt_of_pos _ (by decide)) (Int.emod_nonneg _ (by decide)) (Int.emod_lt_of_pos _ (by decide)) h1 h2
  cases h with
  | len h e hc e0 =>
    cases g with
    | len _ e2 hc2 e02 =>
      rw [e0] at e02
      cases e02
      have := az hc hc2
      omega
    | sign h2 => exact absurd h h2
  | sign h hc e hd e0 =>
    cases g with
    | len h2 => exact absurd h2 h
    | sign _ hc2 e2 hd2 e02 =>
      rw [e] at e2
      cases e2
      rw [e0] at e02
      cases e02
      have a1 := az hc hc2
      have a2 := az hd hd2
      omega
def NBs (b : Int) (ws : List Str) : Prop := ∀ (i : Nat) (x : Str), ws[i]? = some x → NB b (i : Int) x
theorem NBs.nd {b : Int} {ws : List Str} (h : NBs b ws) (hl : ws.length ≤ 100) : ws.Nodup := by
  refine List.pairwise_iff_getElem.mpr fun i j hi hj hij e => ?_
  have e1 := List.getElem?_eq_getElem hi
  have e2 := List.getElem?_eq_getElem hj
  rw [← e] at e2
  have := (h i _ e1).inj (by omega) (by omega) (by omega) (by omega) (h j _ e2)
  omega
theorem NBs.snoc {b : Int} {ws : List Str} {x : Str} (h : NBs b ws) (hx : NB b (ws.length : Int) x) : NBs b (ws ++ [x]) := fun i y hy => by
  by_cases hi : i < ws.length
  · rw [List.getElem?_append_left hi] at hy; exact h i y hy
  · rw [List.getElem?_append_right (by omega)] at hy
    have h0 : i - ws.length = 0 := by
      rcases Nat.eq_zero_or_pos (i - ws.length) with z | z
      · exact z
      · rw [List.getElem?_eq_none (by simp; omega)] at hy; cases hy
    rw [h0] at hy
    cases hy
    have : i = ws.length := by omega
    rw [this]; exact hx
inductive spNameBy_I (vs : List V) (H : Hp) (Q : VK) : Prop
  | mk : ∀ (b k : Int), vs = [.int b, .int k] → 0 ≤ b → b < 2147483629 → 0 ≤ k → k ≤ 100 → (∀ x : Str, WordS x → NB b k x → Q (.str x) H) → spNameBy_I vs H Q
def spNameBy : Sp := fun vs H Q _ => spNameBy_I vs H Q
theorem word_ne {x : Str} (h : WordS x) : x ≠ "" := fun e => by have := h.lo; rw [e, empty_len] at this; exact absurd this (by decide)
theorem rep0 {x : Str} {c : Nat} (h : 1 ≤ x.length) (hc : ∀ d ∈ x.cps.toList, d = c) : x.cps.toList[0]? = some c := by
  have hl : x.length = x.cps.toList.length := by simp [Str.length]
  obtain ⟨d, hd⟩ : ∃ d, x.cps.toList[0]? = some d := ⟨_, List.getElem?_eq_getElem (by omega)⟩
  rw [hd, hc d (List.mem_of_getElem? hd)]
section
variable {P : Program} {w : World} {K : PySem.W.Frag} {mg : Str → Option Value} {base : Heap} {a : Adr}
theorem ok_nameby {fd : FuncData} (F : Fun K "_law_name_by" "_law_name_by" sl_name_by a.f_l_name_by fd) (T : Txt K mg a) : FnOk P w K mg base CX0 1 a.f_l_name_by fd ["_law_shape", "_law_k"] spNameBy := by
  refine F.ok sc_l_name_by (fun vs H Q E h => ?_) (fun cdv A outer s H vs Q E hr h => ?_)
  · obtain ⟨b, k, rfl, _⟩ := h; rfl
  · obtain ⟨b, kk, rfl, hb0, hb1, hk0, hk1, k⟩ := h
    have h36 := aZ_len
    have pick : ∀ z : Int, ∃ c, atI aZ.cps.toList (z % 36) = some c ∧ c ∈ aZ.cps.toList := fun z => pick_sign (Int.emod_nonneg _ (by decide)) (by rw [h36]; exact Int.emod_lt_of_pos _ (by decide))
    refine ⟨_, (pss_cons (ps_set (i := 2) sc_l_name_by.nd rfl (Or.inl rfl) pe_str)
        (pss_cons (ps_if (pt_cmpR op_eq (pe_op op_mod (pv 0) pe_int) pe_int (nomark _)) (pss_one (ps_ret (pe_op op_mul_str (pe_ix ix_str (pv 2) (pe_op op_mod (pe_op op_add (pe_op op_fdiv (pv 0) pe_int) (pe_op op_fdiv (pv 1) pe_int)) pe_int) (fun _ _ => rfl)) (pe_op op_add pe_int (pe_op op_mod (pv 1) pe_int))))) pss_nil)
        (pss_cons (ps_set (i := 3) sc_l_name_by.nd rfl (Or.inl rfl) (pe_op op_mod (pe_op op_fdiv (pv 0) pe_int) pe_int))
        (pss_cons (ps_set (i := 4) sc_l_name_by.nd rfl (Or.inl rfl) pe_str)
        (pss_cons (ps_for PassesOwn.never rfl (pi_range1 rfl T.b_range (pac (pe_op op_add (pe_op op_add (pv 3) pe_int) (pe_op op_mod (pe_op op_fdiv (pv 0) pe_int) (pe_op op_sub pe_int (pv 3)))) pa_nil)) (pg_name (i := 5) sc_l_name_by.nd rfl (Or.inl rfl)) (pss_one (ps_if (pt_cmpR op_eq (pv 5) (pv 3) (nomark _)) (pss_one (ps_set (i := 4) sc_l_name_by.nd rfl (Or.inl rfl) (pe_op op_add_str (pv 4) (pe_ix ix_str (pv 2) (pe_op op_mod (pe_op op_add (pe_op op_fdiv (pv 0) pe_int) (pe_op op_fdiv (pv 1) pe_int)) pe_int) (fun _ _ => rfl))))) (pss_one (ps_if (pt_cmpR op_eq (pv 5) (pe_op op_add (pv 3) pe_int) (nomark _)) (pss_one (ps_set (i := 4) sc_l_name_by.nd rfl (Or.inl rfl) (pe_op op_add_str (pv 4) (pe_ix ix_str (pv 2) (pe_op op_mod (pe_op op_add (pe_op op_fdiv (pv 0) pe_int) (pv 1)) pe_int) (fun _ _ => rfl))))) (pss_one (ps_set (i := 4) sc_l_name_by.nd rfl (Or.inl rfl) (pe_op op_add_str (pv 4) (pe_ix ix_str (pv 2) (pe_op op_mod (pe_op op_add (pe_op op_fdiv (pv 0) pe_int) (pe_op op_mul (pv 5) (pe_op op_add pe_int (pe_op op_mod (pv 0) pe_int)))) pe_int) (fun _ _ => rfl))))))))))
        (pss_one (ps_ret (pv 4)))))))), ?_⟩
    refine ⟨_, rfl, _, _, rfl, rfl, (by show (0 : Int) < 4; decide), rfl, _, rfl, ?_⟩
    refine ite2 (fun h4 => ?_) (fun h4 => ?_)
    · have b4 : b % 4 = 0 := V.int.inj (of_decide_eq_true h4)
      obtain ⟨c, hc, hcm⟩ := pick (b / 4 + kk / 20)
      have m0 : 0 ≤ kk % 20 := Int.emod_nonneg _ (by decide)
      have m1 : kk % 20 < 20 := Int.emod_lt_of_pos _ (by decide)
      refine ⟨_, rfl, _, rfl, _, _, rfl, rfl, ⟨by decide, by decide⟩, _, rfl, _, _, rfl, rfl, ⟨by decide, by decide⟩, _, _, rfl, rfl, _, _, rfl, rfl, (by show (0 : Int) < 36; decide), aZ, _, c, rfl, rfl, aZ_small, hc, ?_⟩
      refine ⟨_, rfl, _, _, rfl, rfl, (by show (0 : Int) < 20; decide), _, _, rfl, rfl, _, _, rfl, rfl, (by rw [one_len]; decide), by omega, by omega, ?_⟩
      have hl := mul_len (⟨#[c]⟩ : Str) (1 + kk % 20)
      rw [one_len, Nat.mul_one] at hl
      refine k _ ⟨by omega, by omega, fun d hd => ?_⟩ (.len b4 (by omega) hc (rep0 (by omega) fun d hd => by have := mul_mem hd; simpa using this))
      have := mul_mem hd
      have e : d = c := by simpa using this
      rw [e]; exact hcm
    · have b4 : b % 4 ≠ 0 := fun z => h4 (decide_eq_true (by rw [z]))
      obtain ⟨c0, hc0, hcm0⟩ := pick (b / 49248 + kk)
      obtain ⟨c1, hc1, hcm1⟩ := pick (b / 1368 + kk / 36)
      have p0 : 0 ≤ b / 4 % 18 := Int.emod_nonneg _ (by decide)
      have p1 : b / 4 % 18 < 18 := Int.emod_lt_of_pos _ (by decide)
      have m0 : 0 ≤ b / 72 % (19 - b / 4 % 18) := Int.emod_nonneg _ (by omega)
      have m1 : b / 72 % (19 - b / 4 % 18) < 19 - b / 4 % 18 := Int.emod_lt_of_pos _ (by omega)
      have q7 : 0 ≤ b % 7 := Int.emod_nonneg _ (by decide)
      have q8 : b % 7 < 7 := Int.emod_lt_of_pos _ (by decide)
      refine ⟨_, rfl, _, _, rfl, rfl, ⟨by decide, by decide⟩, _, _, rfl, rfl, (by show (0 : Int) < 18; decide), ?_⟩
      refine ⟨_, rfl, _, _, rfl, rfl, _, rfl, _, _, rfl, rfl, ⟨by decide, by decide⟩, _, rfl, _, _, rfl, rfl, _, _, rfl, rfl, (by show (0 : Int) < 19 - b / 4 % 18; omega), _, _, rfl, rfl, _, rfl, by omega, by omega, for_range (n := (b / 4 % 18 + 2 + b / 72 % (19 - b / 4 % 18)).toNat) (fun i σ H2 => ∃ (y : Str) (o : Option V), σ = [some (.int b), some (.int kk), some (.str aZ), some (.int (b / 4 % 18)), some (.str y), o] ∧ y.length = i ∧ (∀ c ∈ y.cps.toList, c ∈ aZ.cps.toList) ∧ H2 = H ∧ (b / 4 % 18 + 1 < (i : Int) → y.cps.toList[(b / 4 % 18 + 1).toNat]? = some c0) ∧ (b / 4 % 18 < (i : Int) → y.cps.toList[(b / 4 % 18).toNat]? = some c1))
        ⟨"", none, rfl, empty_len, (fun c hc => by rw [show ("" : Str).cps.toList = [] by decide +kernel] at hc; cases hc), rfl, (fun h => absurd h (by omega)), fun h => absurd h (by omega)⟩ ?_ ?_⟩
      · rintro i σ H2 hi ⟨y, o, rfl, hy, hyc, rfl, hy0, hy1⟩
        have fit : ∀ c : Nat, y.length + (⟨#[c]⟩ : Str).length ≤ sizeLine := fun c => Nat.le_of_lt (small1000 (by rw [one_len]; omega))
        have step : ∀ c : Nat, c ∈ aZ.cps.toList → ((i : Int) = b / 4 % 18 + 1 → c = c0) → ((i : Int) = b / 4 % 18 → c = c1) → ∃ (y1 : Str) (o : Option V), ([some (.int b), some (.int kk), some (.str aZ), some (.int (b / 4 % 18)), some (.str (y ++ ⟨#[c]⟩)), some (.int (0 + (i : Int)))] : St) = [some (.int b), some (.int kk), some (.str aZ), some (.int (b / 4 % 18)), some (.str y1), o] ∧ y1.length = i + 1 ∧ (∀ c ∈ y1.cps.toList, c ∈ aZ.cps.toList) ∧ H2 = H2 ∧ (b / 4 % 18 + 1 < ((i + 1 : Nat) : Int) → y1.cps.toList[(b / 4 % 18 + 1).toNat]? = some c0) ∧ (b / 4 % 18 < ((i + 1 : Nat) : Int) → y1.cps.toList[(b / 4 % 18).toNat]? = some c1) := fun c hc hcc hcd =>
          ⟨_, _, rfl, by rw [cat_len, one_len, hy], fun d hd => by
            rw [cat_list] at hd
            rcases List.mem_append.mp hd with z | z
            · exact hyc d z
            · have e : d = c := by simpa using z
              rw [e]; exact hc, rfl, (fun hlt => by
            have yl : y.cps.toList.length = i := by have : y.length = y.cps.toList.length := by simp [Str.length]
                                                    omega
            rw [cat_list]
            by_cases hi2 : b / 4 % 18 + 1 < (i : Int)
            · rw [List.getElem?_append_left (by omega)]; exact hy0 hi2
            · have ei : (b / 4 % 18 + 1).toNat = i := by omega
              rw [ei, List.getElem?_append_right (by omega), yl, Nat.sub_self, hcc (by omega)]
              rfl), fun hlt => by
            have yl : y.cps.toList.length = i := by have : y.length = y.cps.toList.length := by simp [Str.length]
                                                    omega
            rw [cat_list]
            by_cases hi2 : b / 4 % 18 < (i : Int)
            · rw [List.getElem?_append_left (by omega)]; exact hy1 hi2
            · have ei : (b / 4 % 18).toNat = i := by omega
              rw [ei, List.getElem?_append_right (by omega), yl, Nat.sub_self, hcd (by omega)]
              rfl⟩
        refine ⟨_, rfl, _, rfl, rfl, _, rfl, ?_⟩
        refine ite2 (fun hi1 => ?_) (fun hi1 => ?_)
        · have hi1' : 0 + (i : Int) = b / 4 % 18 := V.int.inj (of_decide_eq_true hi1)
          obtain ⟨c, hc, hcm, hcq⟩ : ∃ c, atI aZ.cps.toList ((b / 1368 + kk / 36) % 36) = some c ∧ c ∈ aZ.cps.toList ∧ c = c1 := ⟨c1, hc1, hcm1, rfl⟩
          exact ⟨_, rfl, _, rfl, _, rfl, _, _, rfl, rfl, ⟨by decide, by decide⟩, _, rfl, _, _, rfl, rfl, ⟨by decide, by decide⟩, _, _, rfl, rfl, _, _, rfl, rfl, (by show (0 : Int) < 36; decide), aZ, _, c, rfl, rfl, aZ_small, hc, _, _, rfl, rfl, fit c, step c hcm (fun z => by omega) fun _ => hcq⟩
        · refine ⟨_, rfl, _, rfl, _, _, rfl, rfl, rfl, _, rfl, ?_⟩
          refine ite2 (fun hi2 => ?_) (fun hi2 => ?_)
          · obtain ⟨c, hc, hcm⟩ : ∃ c, atI aZ.cps.toList ((b / 49248 + kk) % 36) = some c ∧ c ∈ aZ.cps.toList ∧ c = c0 := ⟨c0, hc0, hcm0, rfl⟩
            exact ⟨_, rfl, _, rfl, _, rfl, _, _, rfl, rfl, ⟨by decide, by decide⟩, _, rfl, _, _, rfl, rfl, _, _, rfl, rfl, (by show (0 : Int) < 36; decide), aZ, _, c, rfl, rfl, aZ_small, hc, _, _, rfl, rfl, fit c, step c hcm.1 (fun _ => hcm.2) fun z => by have := V.int.inj (of_decide_eq_true hi2); omega⟩
          · have hi3 : ¬ 0 + (i : Int) = b / 4 % 18 + 1 := fun z => hi2 (decide_eq_true (by rw [z]))
            obtain ⟨c, hc, hcm⟩ := pick (b / 3 + (0 + (i : Int)) * (1 + b % 7))
            exact ⟨_, rfl, _, rfl, _, rfl, _, _, rfl, rfl, ⟨by decide, by decide⟩, _, rfl, _, rfl, _, _, rfl, rfl, (by show (0 : Int) < 7; decide), _, _, rfl, rfl, _, _, rfl, rfl, .inl ⟨by omega, by omega⟩, _, _, rfl, rfl, _, _, rfl, rfl, (by show (0 : Int) < 36; decide), aZ, _, c, rfl, rfl, aZ_small, hc, _, _, rfl, rfl, fit c, step c hcm (fun z => absurd (by omega) hi3) fun z => absurd (decide_eq_true (by rw [← z]; simp)) hi1⟩
      · rintro σ H2 ⟨y, o, rfl, hy, hyc, rfl, hy0, hy1⟩
        exact ⟨_, rfl, k y ⟨by omega, by omega, hyc⟩ (.sign b4 hc0 (hy0 (by omega)) hc1 (hy1 (by omega)))⟩
end
inductive spOrder_I (vs : List V) (H : Hp) (Q : VK) : Prop
  | mk : ∀ (r : Addr) (d : Int) (prs : List PRow), vs = [.ref r, .int d] → RowsAt H r prs → prs.length ≤ 100 → (∀ p (prs' : List PRow) H', Same H H' → prs'.Perm prs → RowsAt H' p prs' → Q (.ref p) H') → spOrder_I vs H Q
def spOrder : Sp := fun vs H Q _ => spOrder_I vs H Q
section
variable {P : Program} {w : World} {K : PySem.W.Frag} {mg : Str → Option Value} {base : Heap} {a : Adr}
theorem ok_order {fd : FuncData} (F : Fun K "_law_order" "_law_order" sl_order a.f_l_order fd) (T : Txt K mg a) : FnOk P w K mg base CX0 1 a.f_l_order fd ["_law_rows_here", "_law_draw"] spOrder := by
  refine F.ok sc_l_order (fun vs H Q E h => ?_) (fun cdv A outer s H vs Q E hr h => ?_)
  · obtain ⟨r, d, prs, rfl, _⟩ := h; rfl
  · obtain ⟨r, d, prs, rfl, ra, hl, k⟩ := h
    refine ⟨_, (pss_cons (ps_if (pt_cmpR op_eq (pe_op op_mod (pv 1) pe_int) pe_int (nomark _)) (pss_one (ps_ret (pv 0))) pss_nil)
        (pss_cons (ps_if (pt_cmpR op_eq (pe_op op_mod (pv 1) pe_int) pe_int (nomark _)) (pss_one (ps_ret (pe_rev (pv 0) (po_some (pe_un un_neg pe_int))))) pss_nil)
        (pss_one (ps_ret (pe_op op_catG (pe_two (pv 0) po_none (po_some pe_int)) (pe_two (pv 0) (po_some pe_int) (po_some pe_int))))))), ?_⟩
    refine ⟨_, rfl, _, _, rfl, rfl, (by show (0 : Int) < 3; decide), rfl, _, rfl, ite2 (fun _ => ⟨_, rfl, k r prs H (Same.refl _) (.refl _) ra⟩) (fun _ => ?_)⟩
    refine ⟨_, rfl, _, _, rfl, rfl, (by show (0 : Int) < 3; decide), rfl, _, rfl, ite2 (fun _ => ?_) (fun _ => ?_)⟩
    · refine ⟨_, rfl, _, rfl, _, rfl, rfl, r, _, rfl, SqL.of ra.1, fun p np => ?_⟩
      have t1 : Same H (upd H p (.lst (prs.map fun q => V.ref q.1).reverse)) := Same.upd_new np
      exact k p prs.reverse _ t1 (List.reverse_perm _) ⟨by rw [upd_same, List.map_reverse], fun q hq => t1 _ _ (ra.2 q (List.mem_reverse.mp hq))⟩
    · refine ⟨_, rfl, _, rfl, .mk false r _ rfl rfl rfl (SqL.of ra.1) fun p1 G1 np1 t1 e1 => ?_⟩
      refine ⟨_, rfl, _, rfl, _, rfl, .mk true r _ rfl rfl rfl (SqL.of (t1 _ _ ra.1)) fun p2 G2 np2 t2 e2 => ?_⟩
      rw [List.length_map, pick_map] at e1 e2
      have l1 := pick_len (idx2 false prs.length) prs
      have l2 := pick_len (idx2 true prs.length) prs
      have i1 := idx2_len (b := false) (n := prs.length)
      have i2 := idx2_len (b := true) (n := prs.length)
      refine ⟨p1, p2, _, _, rfl, rfl, t2 _ _ e1, e2, (by rw [List.length_map, List.length_map]; exact Nat.le_of_lt (small1000 (by omega))), fun p3 G3 np3 t3 e3 => ?_⟩
      rw [← List.map_append] at e3
      have pm := two_pick prs
      exact k p3 _ G3 ((t1.trans t2).trans t3) pm ⟨e3, fun q hq => t3 _ _ (t2 _ _ (t1 _ _ (ra.2 q (pm.mem_iff.mp hq))))⟩
end
theorem asc_zz : Asc "zz" := by intro c hc; revert c; decide +kernel
theorem asc_nil : Asc "" := by intro c hc; revert c; decide +kernel
def AnsOk (x : Str) : Prop := Asc x ∧ x.length ≤ 20
theorem ans_of {x : Str} (h : WordS x) : AnsOk x := ⟨h.asc, h.hi⟩
theorem zz_ans {x : Str} (h : WordS x) : AnsOk ("zz" ++ Txt.slice x none (some ((18 : Nat) : Int))) := by
  refine ⟨fun c hc => ?_, ?_⟩
  · rw [cat_list, slice_to] at hc
    rcases List.mem_append.mp hc with z | z
    · exact asc_zz c z
    · exact h.asc c (List.mem_of_mem_take z)
  · rw [cat_len]
    have := cut_to_le x 18
    have : ("zz" : Str).length = 2 := by decide +kernel
    omega
theorem empty_ans : AnsOk "" := ⟨asc_nil, by rw [empty_len]; decide⟩
structure RwOk (prs : List PRow) : Prop where
  nd : (prs.map (·.2.1)).Nodup
  w : ∀ q ∈ prs, WordS q.2.1 ∧ AnsOk q.2.2
inductive spLRows_I (vs : List V) (H : Hp) (Q : VK) : Prop
  | mk : ∀ (d : Addr) (rs : List Int) (m : Nat), vs = [.ref d, .int ((m : Nat) : Int)] → H d = some (.lst (rs.map V.int)) → rs.length = 20 → (∀ r ∈ rs, 0 ≤ r ∧ r < 2147483629) → 10 ≤ m → m ≤ 64 →
      (∀ p (prs : List PRow) H', H p = none → Same H H' → RowsAt H' p prs → prs.length = m → RwOk prs → Q (.ref p) H') → spLRows_I vs H Q
def spLRows : Sp := fun vs H Q _ => spLRows_I vs H Q
section
variable {P : Program} {w : World} {K : PySem.W.Frag} {mg : Str → Option Value} {base : Heap} {a : Adr}
theorem ok_lrows {fd : FuncData} (F : Fun K "_law_rows" "_law_rows" sl_rows a.f_l_rows fd) (T : Txt K mg a) (FF : Funs K a) : FnOk P w K mg base CX0 2 a.f_l_rows fd ["_law_draws_here", "_law_many"] spLRows := by
  obtain ⟨fdN, F_l_name_by, b_l_name_by⟩ := FF.F_l_name_by
  have G_l_name_by : FnOk P w K mg base CX0 1 a.f_l_name_by fdN ["_law_shape", "_law_k"] spNameBy := ok_nameby F_l_name_by T
  refine F.ok sc_l_rows (fun vs H Q E h => ?_) (fun cdv A outer s H vs Q E hr h => ?_)
  · obtain ⟨d, rs, m, rfl, _⟩ := h; rfl
  · obtain ⟨x, rs, m, rfl, hx, hl, hb, hm1, hm2, k⟩ := h
    have hr1 : Room 1 _ := hr
    refine ⟨_, (pss_cons (ps_setComp (sc := defScope sl_rows) (N := n_l_rows) (i := 2) (fr := [(0, "_law_draws_here")]) ⟨rfl, rfl, by decide +kernel, by decide +kernel, by decide +kernel, by decide +kernel, by decide +kernel⟩ rfl rfl rfl sc_l_rows.nd rfl rfl (pi_range1 rfl T.b_range (pac (pv 1) pa_nil)) (fun _ _ _ _ => pts_nil) (fun _ _ _ _ => (pe_call G_l_name_by hr1 rfl T.m_l_name_by F_l_name_by.kp b_l_name_by .nil pass0 (pac (pe_ix (ix_listK K) (pv 1) pe_int (fun _ _ => rfl)) (pac (pv 0) pa_nil)))))
        (pss_cons (ps_set (i := 3) sc_l_rows.nd rfl (Or.inl rfl) (pe_op op_add pe_int (pe_op op_mod (pe_ix ix_list (pv 0) pe_int (fun _ _ => rfl)) pe_int)))
        (pss_cons (ps_set (i := 4) sc_l_rows.nd rfl (Or.inl rfl) (pe_lstG pas_nil))
        (pss_cons (ps_for PassesOwn.never rfl (pi_range1 rfl T.b_range (pac (pv 1) pa_nil)) (pg_name (i := 5) sc_l_rows.nd rfl (Or.inl rfl)) (pss_cons (ps_set (i := 6) sc_l_rows.nd rfl (Or.inl rfl) (pe_ix ix_list (pv 2) (pe_callB (call_min2 rfl) rfl T.b_min PyProof.Rows.boot_min (pac (pe_op op_sub (pv 1) pe_int) (pac (pe_op op_sub (pe_op op_add (pv 5) pe_int) (pe_op op_mul pe_int (pe_op op_mod (pv 5) pe_int))) pa_nil))) (fun _ _ => rfl)))
        (pss_cons (ps_set (i := 7) sc_l_rows.nd rfl (Or.inl rfl) (pe_lstG (pas_cons (pe_ix ix_list (pv 2) (pe_callB (call_max2 rfl) rfl T.b_max PyProof.Rows.boot_max (pac pe_int (pac (pe_op op_sub (pv 5) pe_int) pa_nil))) (fun _ _ => rfl)) (pas_cons (pe_ix ix_list (pv 2) pe_int (fun _ _ => rfl)) (pas_cons (pe_op op_add_str pe_str (pe_slice sl_str (pe_ix ix_list (pv 2) pe_int (fun _ _ => rfl)) po_none (po_some pe_int))) (pas_cons (pe_ix ix_list (pv 2) (pe_op op_mod (pe_op op_add (pv 5) (pv 3)) (pv 1)) (fun _ _ => rfl)) (pas_cons (pv 6) (pas_cons pe_str pas_nil))))))))
        (pss_one (ps_expr (pe_bm PySem.F.plainAttrs_list PySem.F.slot_list_append PySem.F.type_list_append mt_append (pv 4) (pac (pe_tupG (pas_cons (pe_ix ix_list (pv 2) (pv 5) (fun _ _ => rfl)) (pas_cons (pe_ix ix_list (pv 7) (pe_ix ix_list (pe_lstG (pas_cons (pe_op op_mod (pe_ix ix_list (pv 0) pe_int (fun _ _ => rfl)) pe_int) (pas_cons (pe_op op_mod (pe_ix ix_list (pv 0) pe_int (fun _ _ => rfl)) pe_int) pas_nil))) (pe_callTy call_int1 rfl T.b_int PyProof.Rows.boot_int (pac (pe_cmpR op_eq (pe_op op_mod (pv 5) pe_int) pe_int (nomark _)) pa_nil)) (fun _ _ => rfl)) (fun _ _ => rfl)) pas_nil))) pa_nil)))))))
        (pss_one (ps_ret (pv 4))))))), ?_⟩
    obtain ⟨z0, e0, b00, b01⟩ := row_pick hb 0 (by decide) (by omega)
    obtain ⟨z2, e2, b20, b21⟩ := row_pick hb 2 (by decide) (by omega)
    obtain ⟨z3, e3, b30, b31⟩ := row_pick hb 3 (by decide) (by omega)
    obtain ⟨z4, e4, b40, b41⟩ := row_pick hb 4 (by decide) (by omega)
    refine ⟨_, rfl, _, rfl, by omega, by omega, comp_rangeG (n := ((m : Nat) : Int).toNat) (fun i ys => ∃ ws : List Str, ys = ws.map V.str ∧ ws.length = i ∧ (∀ x ∈ ws, WordS x) ∧ NBs z0 ws) (Nat.le_of_lt (small1000 (by omega))) ⟨[], rfl, rfl, (fun _ z => nomatch z), fun i x hx => by simp at hx⟩ (fun i ys ⟨ws, e, el, _⟩ => by rw [e, List.length_map, el]) ?_ ?_⟩
    · rintro i ys H3 Q' hi ⟨ws, rfl, el, hw, hnb⟩ s3 q
      refine ⟨_, rfl, x, _, _, _, rfl, rfl, SqL.of (s3 _ _ hx), e0, _, rfl, z0, 0 + (i : Int), rfl, b00, b01, by omega, by omega, fun y hy hyn => q _ H3 ⟨ws ++ [y], by rw [List.map_append]; rfl, by rw [List.length_append, List.length_singleton, el], fun z hz => ?_, hnb.snoc (by rw [el]; rw [Int.zero_add] at hyn; exact hyn)⟩ (Same.refl H3)⟩
      rcases List.mem_append.mp hz with z' | z'
      · exact hw z z'
      · rw [List.mem_singleton.mp z']; exact hy
    · rintro D ys H2 hD ⟨ws, rfl, el, hw, hnb⟩ s2 hD2
      have el : ws.length = m := by rw [el]; omega
      dsimp only [gName]
      have wnd := hnb.nd (by omega)
      have at_ : ∀ z : Int, 0 ≤ z → z < (m : Int) → ∃ y, atI (ws.map V.str) z = some (V.str y) ∧ WordS y := fun z h0 h1 => by
        obtain ⟨n, rfl⟩ := Int.eq_ofNat_of_zero_le h0
        have hn : n < ws.length := by omega
        exact ⟨ws[n], atI_nat (by rw [List.getElem?_map, List.getElem?_eq_getElem hn]; rfl), hw _ (List.getElem_mem hn)⟩
      refine ⟨_, rfl, x, _, _, _, rfl, rfl, SqL.of (s2 _ _ hx), e2, _, _, rfl, rfl, (by show (0 : Int) < 7; decide), _, _, rfl, rfl, ?_⟩
      have st0 : 0 ≤ z2 % 7 := Int.emod_nonneg _ (by decide)
      have st1 : z2 % 7 < 7 := Int.emod_lt_of_pos _ (by decide)
      dsimp only [gName]
      refine ⟨Nat.zero_le _, fun p H3 np s3 ep => ?_⟩
      dsimp only [gName]
      have np0 : H p = none := s2.free np
      refine ⟨_, rfl, _, rfl, by omega, by omega, for_range (n := ((m : Nat) : Int).toNat) (fun i σ G => ∃ (prs : List PRow) (o5 o6 o7 : Option V), σ = [some (.ref x), some (.int ((m : Nat) : Int)), some (.ref D), some (.int (1 + z2 % 7)), some (.ref p), o5, o6, o7] ∧ Same H2 G ∧ RowsAt G p prs ∧ prs.map (·.2.1) = ws.take i ∧ ∀ q ∈ prs, WordS q.2.1 ∧ AnsOk q.2.2) ⟨[], none, none, none, rfl, s3, ⟨ep, fun q hq => nomatch hq⟩, rfl, fun q hq => nomatch hq⟩ ?_ ?_⟩
      · rintro i σ G hi ⟨prs, o5, o6, o7, rfl, sG, ra, hn, hq⟩
        have hi : i < m := by omega
        rw [Int.zero_add]
        dsimp only [gName]
        have eD := sG _ _ hD2
        have ex := sG _ _ (s2 _ _ hx)
        have i20 : 0 ≤ (i : Int) % 2 := Int.emod_nonneg _ (by decide)
        have i21 : (i : Int) % 2 < 2 := Int.emod_lt_of_pos _ (by decide)
        obtain ⟨w6, h6, k6⟩ := at_ (if (i : Int) + 1 - 2 * ((i : Int) % 2) < (m : Int) - 1 then (i : Int) + 1 - 2 * ((i : Int) % 2) else (m : Int) - 1) (by split <;> omega) (by split <;> omega)
        obtain ⟨w0, h0, k0⟩ := at_ (if (i : Int) - 1 > 0 then (i : Int) - 1 else 0) (by split <;> omega) (by split <;> omega)
        obtain ⟨w1, h1, k1⟩ := at_ 0 (by omega) (by omega)
        have mp : (0 : Int) < (m : Int) := by omega
        obtain ⟨w3, h3, k3⟩ := at_ (((i : Int) + (1 + z2 % 7)) % (m : Int)) (Int.emod_nonneg _ (by omega)) (Int.emod_lt_of_pos _ mp)
        obtain ⟨wi, hi5, ki⟩ : ∃ y, (ws.map V.str)[i]? = some (V.str y) ∧ ws[i]? = some y := ⟨ws[i], by rw [List.getElem?_map, List.getElem?_eq_getElem (by omega)]; rfl, List.getElem?_eq_getElem (by omega)⟩
        refine ⟨_, rfl, _, rfl, _, _, rfl, rfl, _, rfl, _, _, rfl, rfl, _, rfl, _, _, rfl, rfl, (by show (0 : Int) < 2; decide), _, _, rfl, rfl, .inl ⟨by omega, by omega⟩, _, _, rfl, rfl, _, _, rfl, D, _, _, _, rfl, rfl, SqL.of eD, h6, ?_⟩
        dsimp only [gName]
        have wl1 := k1.hi
        have hzz : ("zz" : Str).length + (Txt.slice w1 none (some 18)).length ≤ sizeLine := by
          have a1 := cut_to_le w1 18
          have a2 : ("zz" : Str).length = 2 := by decide +kernel
          exact Nat.le_of_lt (small1000 (by rw [a2]; exact Nat.le_trans (Nat.add_le_add_left a1 2) (by decide)))
        refine ⟨_, rfl, _, rfl, _, _, rfl, rfl, _, _, rfl, D, _, _, _, rfl, rfl, SqL.of eD, h0, _, rfl, D, _, _, _, rfl, rfl, SqL.of eD, h1, _, rfl, D, _, _, _, rfl, rfl, SqL.of eD, h1, _, rfl, w1, rfl, (Nat.le_of_lt (small1000 (by omega))), _, _, rfl, rfl, hzz, _, rfl, _, rfl, _, rfl, _, _, rfl, rfl, _, rfl, _, _, rfl, rfl, mp, D, _, _, _, rfl, rfl, SqL.of eD, h3, _, rfl, (by show 6 ≤ sizeLine; decide), fun wl G2 nwl t2 ewl => ?_⟩
        dsimp only [gName]
        have ra2 := ra.same t2
        refine ⟨_, rfl, .inl ⟨rfl, _, SqL.of ra2.1⟩, _, rfl, _, rfl, D, _, _, _, rfl, rfl, SqL.of (t2 _ _ eD), atI_nat hi5, _, rfl, _, rfl, x, _, _, _, rfl, rfl, SqL.of (t2 _ _ ex), e3, _, _, rfl, rfl, (by show (0 : Int) < 5; decide), _, rfl, x, _, _, _, rfl, rfl, SqL.of (t2 _ _ ex), e4, _, _, rfl, rfl, (by show (0 : Int) < 6; decide), (by show 2 ≤ sizeLine; decide), fun jl G3 njl t3 ejl => ?_⟩
        obtain ⟨jv, hjv, hj0, hj1⟩ : ∃ jv : Int, atI [V.int (z3 % 5), V.int (z4 % 6)] (if decide (V.int ((i : Int) % 5) = V.int 3) = true then 1 else 0) = some (.int jv) ∧ 0 ≤ jv ∧ jv < 6 := by
          have a1 := Int.emod_nonneg z3 (b := 5) (by decide)
          have a2 := Int.emod_lt_of_pos z3 (b := 5) (by decide)
          have a3 := Int.emod_nonneg z4 (b := 6) (by decide)
          have a4 := Int.emod_lt_of_pos z4 (b := 6) (by decide)
          split
          · exact ⟨z4 % 6, rfl, a3, a4⟩
          · exact ⟨z3 % 5, rfl, a1, by omega⟩
        obtain ⟨an, han, oan⟩ : ∃ an : Str, atI [V.str w0, V.str w1, V.str ("zz" ++ Txt.slice w1 none (some ((18 : Nat) : Int))), V.str w3, V.str w6, V.str ""] jv = some (.str an) ∧ AnsOk an := by
          have : jv = 0 ∨ jv = 1 ∨ jv = 2 ∨ jv = 3 ∨ jv = 4 ∨ jv = 5 := by omega
          rcases this with rfl | rfl | rfl | rfl | rfl | rfl
          · exact ⟨w0, rfl, ans_of k0⟩
          · exact ⟨w1, rfl, ans_of k1⟩
          · exact ⟨_, rfl, zz_ans k1⟩
          · exact ⟨w3, rfl, ans_of k3⟩
          · exact ⟨w6, rfl, ans_of k6⟩
          · exact ⟨"", rfl, empty_ans⟩
        refine ⟨_, rfl, _, _, rfl, rfl, (by show (0 : Int) < 5; decide), rfl, .inr ⟨_, rfl, jl, _, _, _, rfl, rfl, SqL.of ejl, hjv, wl, _, _, _, rfl, rfl, SqL.of (t3 _ _ ewl), han, (by show 2 ≤ sizeLine; decide), fun tp G4 ntp t4 etp => ?_⟩⟩
        have ra4 := (ra2.same t3).same t4
        have pl : prs.length ≤ 64 := by have := congrArg List.length hn; rw [List.length_map, List.length_take] at this; omega
        refine ⟨p, _, _, rfl, rfl, ra4.1, (by rw [List.length_map]; exact small1000 (by omega)), ?_⟩
        have npG : H2 p = none := np
        have kw : WordS wi := hw wi (List.mem_of_getElem? ki)
        refine ⟨prs ++ [(tp, wi, an)], _, _, _, rfl, fun c o e => ?_, ⟨?_, fun q' hq' => ?_⟩, ?_, fun q' hq' => ?_⟩
        · rw [upd_ne (ne_of_none e npG)]; exact t4 _ _ (t3 _ _ (t2 _ _ (sG _ _ e)))
        · rw [upd_same, List.map_append]; rfl
        · have pn : ∀ c xs, G4 c = some (.tup xs) → (upd G4 p (.lst ((prs.map fun q => V.ref q.1) ++ [V.ref tp]))) c = some (.tup xs) := fun c xs e => by rw [upd_ne (ne_of e ra4.1 fun z => nomatch z)]; exact e
          rcases List.mem_append.mp hq' with z | z
          · exact pn _ _ (ra4.2 q' z)
          · rw [List.mem_singleton.mp z]; exact pn _ _ etp
        · rw [List.map_append, hn, List.take_add_one, ki]; rfl
        · rcases List.mem_append.mp hq' with z | z
          · exact hq q' z
          · rw [List.mem_singleton.mp z]; exact ⟨kw, oan⟩
      · rintro σ G ⟨prs, o5, o6, o7, rfl, sG, ra, hn, hq⟩
        have hn : prs.map (·.2.1) = ws := by rw [hn, List.take_of_length_le (by omega)]
        exact ⟨_, rfl, k p prs G np0 (s2.trans sG) ra (by rw [← el, ← hn, List.length_map]) ⟨by rw [hn]; exact wnd, hq⟩⟩
end
section
variable {rows rows' : Rows}
theorem names_perm (p : rows'.Perm rows) {n : Str} : n ∈ rows'.map (·.1) ↔ n ∈ rows.map (·.1) := (p.map _).mem_iff
theorem up_perm (p : rows'.Perm rows) (nd : (rows.map (·.1)).Nodup) (n : Str) : up rows' n = up rows n := by
  cases h : up rows n with
  | none => exact up_none.mpr fun z => up_none.mp h ((names_perm p).mp z)
  | some a =>
    obtain ⟨b, hb⟩ := up_some ((names_perm p).mpr (List.mem_map.mpr ⟨(n, a), up_mem h, rfl⟩))
    rw [hb, one_answer nd (p.mem_iff.mp (up_mem hb)) (up_mem h)]
theorem reps_perm (p : rows'.Perm rows) (t : Str) : (reps rows' t).Perm (reps rows t) := (p.filter _).map _
theorem nbr_perm (p : rows'.Perm rows) (nd : (rows.map (·.1)).Nodup) {m k : Str} : k ∈ nbr rows' m ↔ k ∈ nbr rows m := by
  unfold nbr
  rw [List.mem_append, List.mem_append, (reps_perm p m).mem_iff, mem_upL, mem_upL, up_perm p nd]
theorem rch_perm (p : rows'.Perm rows) (nd : (rows.map (·.1)).Nodup) {n m : Str} : Rch rows' n m ↔ Rch rows n m := by
  constructor
  · intro h
    induction h with
    | refl => exact .refl
    | step _ hk ih => exact .step ih ((nbr_perm p nd).mp hk)
  · intro h
    induction h with
    | refl => exact .refl
    | step _ hk ih => exact .step ih ((nbr_perm p nd).mpr hk)
theorem thrOf_perm (p : rows'.Perm rows) (nd : (rows.map (·.1)).Nodup) (n : Str) : thrOf rows' n = thrOf rows n := by
  classical
  unfold thrOf
  refine (sortS_congr ((p.map _).filter _)).trans (congrArg sortS (List.filter_congr fun m _ => ?_))
  by_cases e : Rch rows n m
  · rw [decide_eq_true e, decide_eq_true ((rch_perm p nd).mpr e)]
  · rw [decide_eq_false e, decide_eq_false fun z => e ((rch_perm p nd).mp z)]
theorem thrAll_perm (p : rows'.Perm rows) (nd : (rows.map (·.1)).Nodup) (ns : List Str) : thrAll rows' ns = thrAll rows ns := by
  unfold thrAll
  have e : thrGo rows' = thrGo rows := by
    funext acc n
    unfold thrGo
    rw [thrOf_perm p nd]
  rw [e]
theorem chain_perm (p : rows'.Perm rows) (nd : (rows.map (·.1)).Nodup) : ∀ (k : Nat) (met : List Str), chain rows' k met = chain rows k met
  | 0, _ => rfl
  | k + 1, met => by
    unfold chain
    rw [up_perm p nd]
    cases up rows (met.getLastD "") with
    | none => rfl
    | some a =>
      simp only [names_perm p]
      split
      · exact chain_perm p nd k _
      · rfl
theorem depth_perm (p : rows'.Perm rows) (nd : (rows.map (·.1)).Nodup) (n : Str) : depthOf rows' n = depthOf rows n := by
  unfold depthOf
  rw [p.length_eq, chain_perm p nd]
end
abbrev Gp := List Str × List Str
def keysOf (r : Str × Str) : List Str := r.1 :: (if r.2 = "" then [] else [r.2])
theorem mem_keys {r : Str × Str} {x : Str} : x ∈ keysOf r ↔ x = r.1 ∨ (x = r.2 ∧ r.2 ≠ "") := by
  unfold keysOf
  by_cases e : r.2 = ""
  · rw [if_pos e]; simp [e]
  · rw [if_neg e]; simp [e]
def nearP (ks : List Str) (g : Gp) : Bool := !(ks.filter fun k => decide (k ∈ g.2)).isEmpty
theorem near_iff {ks : List Str} {g : Gp} : nearP ks g = true ↔ ∃ k ∈ ks, k ∈ g.2 := by
  unfold nearP
  rw [Bool.not_eq_true', List.isEmpty_eq_false_iff]
  constructor
  · intro h
    obtain ⟨k, hk⟩ := List.exists_mem_of_ne_nil _ h
    obtain ⟨h1, h2⟩ := List.mem_filter.mp hk
    exact ⟨k, h1, of_decide_eq_true h2⟩
  · rintro ⟨k, h1, h2⟩
    exact List.ne_nil_of_mem (List.mem_filter.mpr ⟨h1, decide_eq_true h2⟩)
def joinG (r : Str × Str) (near : List Gp) : Gp := (r.1 :: near.flatMap (·.1), keysOf r ++ near.flatMap (·.2))
def jstep (gs : List Gp) (r : Str × Str) : List Gp := (gs.filter fun g => !nearP (keysOf r) g) ++ [joinG r (gs.filter (nearP (keysOf r)))]
structure GI (F R : Rows) (gs : List Gp) : Prop where
  pm : (gs.flatMap (·.1)).Perm (R.map (·.1))
  k : ∀ g ∈ gs, ∀ x, x ∈ g.2 ↔ ∃ r ∈ R, r.1 ∈ g.1 ∧ x ∈ keysOf r
  dj : gs.Pairwise fun g g' => ∀ x ∈ g.2, x ∉ g'.2
  c : ∀ g ∈ gs, ∀ n ∈ g.1, ∀ m ∈ g.1, Rch F n m
  ne : ∀ g ∈ gs, g.1 ≠ []
section
variable {F R : Rows} {gs : List Gp} {r : Str × Str}
theorem key_rch (nd : (F.map (·.1)).Nodup) {r r' : Str × Str} (hr : r ∈ F) (hr' : r' ∈ F) {x : Str} (h1 : x ∈ keysOf r) (h2 : x ∈ keysOf r') : Rch F r.1 r'.1 := by
  have u : ∀ q ∈ F, up F q.1 = some q.2 := fun q hq => by
    obtain ⟨a, ea⟩ := up_some (List.mem_map.mpr ⟨q, hq, rfl⟩)
    rw [ea, one_answer nd (up_mem ea) hq]
  have a1 : ∀ q ∈ F, q.2 ≠ "" → q.2 ∈ nbr F q.1 := fun q hq e => List.mem_append_right _ (mem_upL.mpr ⟨u q hq, e⟩)
  have a2 : ∀ q ∈ F, q.1 ∈ nbr F q.2 := fun q hq => List.mem_append_left _ ((mem_reps nd).mpr (u q hq))
  rcases mem_keys.mp h1 with e1 | ⟨e1, n1⟩ <;> rcases mem_keys.mp h2 with e2 | ⟨e2, n2⟩
  · rw [← e1, ← e2]; exact .refl
  · rw [← e1, e2]; exact .step .refl (a2 r' hr')
  · rw [← e2, e1]; exact .step .refl (a1 r hr n1)
  · refine .step (.step .refl (a1 r hr n1)) ?_
    rw [← e1, e2]; exact a2 r' hr'
theorem GI.nil : GI F [] [] := ⟨.nil, (fun g h => nomatch h), .nil, (fun g h => nomatch h), fun g h => nomatch h⟩
theorem fm_filter {p : Gp → Bool} (f : Gp → List Str) : ∀ gs : List Gp, ((gs.filter fun g => !p g).flatMap f ++ (gs.filter p).flatMap f).Perm (gs.flatMap f)
  | [] => .nil
  | g :: gs => by
    have ih := fm_filter (p := p) f gs
    rw [List.flatMap_cons]
    cases h : p g with
    | true =>
      rw [List.filter_cons_of_neg (by rw [h]; decide), List.filter_cons_of_pos h, List.flatMap_cons]
      refine (List.perm_append_comm_assoc ..).trans ?_
      exact ih.append_left _
    | false =>
      rw [List.filter_cons_of_pos (by rw [h]; rfl), List.filter_cons_of_neg (by rw [h]; decide), List.flatMap_cons, List.append_assoc]
      exact ih.append_left _
theorem pw_dj : ∀ {gs : List Gp}, gs.Pairwise (fun g g' => ∀ x ∈ g.2, x ∉ g'.2) → ∀ {a b : Gp}, a ∈ gs → b ∈ gs → a ≠ b → ∀ x ∈ a.2, x ∉ b.2
  | [], _, a, _, h, _, _ => nomatch h
  | g :: gs, p, a, b, ha, hb, n => by
    obtain ⟨p1, p2⟩ := List.pairwise_cons.mp p
    rcases List.mem_cons.mp ha with ea | ea <;> rcases List.mem_cons.mp hb with eb | eb
    · exact absurd (ea.trans eb.symm) n
    · rw [ea]; exact p1 b eb
    · rw [eb]; exact fun x hx hx' => p1 a ea x hx' hx
    · exact pw_dj p2 ea eb n
theorem GI.step (nd : (F.map (·.1)).Nodup) (nE : NoE F) (i : GI F R gs) (sub : ∀ q ∈ R ++ [r], q ∈ F) (hr : r.1 ∉ R.map (·.1)) : GI F (R ++ [r]) (jstep gs r) := by
  have rF : r ∈ F := sub r (by simp)
  have old : ∀ g ∈ gs, ∀ q ∈ R ++ [r], q.1 ∈ g.1 → q ∈ R := fun g hg q hq h => by
    rcases List.mem_append.mp hq with z | z
    · exact z
    · rw [List.mem_singleton.mp z] at h
      exact absurd (i.pm.mem_iff.mp (List.mem_flatMap.mpr ⟨g, hg, h⟩)) hr
  have kold : ∀ g ∈ gs, ∀ x, x ∈ g.2 ↔ ∃ q ∈ R ++ [r], q.1 ∈ g.1 ∧ x ∈ keysOf q := fun g hg x => by
    rw [i.k g hg x]
    exact ⟨fun ⟨q, a, b⟩ => ⟨q, List.mem_append_left _ a, b⟩, fun ⟨q, a, b, c⟩ => ⟨q, old g hg q a b, b, c⟩⟩
  have nr : ∀ g ∈ gs, nearP (keysOf r) g = true → ∀ n ∈ g.1, Rch F r.1 n := fun g hg h n hn => by
    obtain ⟨x, x1, x2⟩ := near_iff.mp h
    obtain ⟨q, q1, q2, q3⟩ := (i.k g hg x).mp x2
    exact (key_rch nd rF (sub q (List.mem_append_left _ q1)) x1 q3).trans (i.c g hg q.1 q2 n hn)
  have rne : r.1 ≠ "" := nE _ (List.mem_map_of_mem rF)
  refine ⟨?_, fun g hg x => ?_, ?_, fun g hg n hn m hm => ?_, fun g hg => ?_⟩
  · unfold jstep
    rw [List.flatMap_append, List.flatMap_singleton, List.map_append]
    show (_ ++ (r.1 :: _)).Perm _
    refine List.perm_middle.trans ?_
    refine ((fm_filter (fun g : Gp => g.1) gs).trans i.pm).cons r.1 |>.trans ?_
    exact (List.perm_append_singleton r.1 _).symm
  · unfold jstep at hg
    rcases List.mem_append.mp hg with hg | hg
    · exact kold g (List.mem_filter.mp hg).1 x
    · rw [List.mem_singleton.mp hg]
      unfold joinG
      show x ∈ keysOf r ++ _ ↔ ∃ q ∈ R ++ [r], q.1 ∈ r.1 :: _ ∧ x ∈ keysOf q
      rw [List.mem_append, List.mem_flatMap]
      constructor
      · rintro (h | ⟨g', hg', h⟩)
        · exact ⟨r, by simp, List.mem_cons_self .., h⟩
        · obtain ⟨q, q1, q2, q3⟩ := (kold g' (List.mem_filter.mp hg').1 x).mp h
          exact ⟨q, q1, List.mem_cons_of_mem _ (List.mem_flatMap.mpr ⟨g', hg', q2⟩), q3⟩
      · rintro ⟨q, q1, q2, q3⟩
        rcases List.mem_cons.mp q2 with z | z
        · have : q = r := by
            rcases List.mem_append.mp q1 with y | y
            · exact absurd (by rw [← z]; exact List.mem_map_of_mem y) hr
            · exact List.mem_singleton.mp y
          rw [this] at q3
          exact .inl q3
        · obtain ⟨g', hg', h⟩ := List.mem_flatMap.mp z
          exact .inr ⟨g', hg', (kold g' (List.mem_filter.mp hg').1 x).mpr ⟨q, q1, h, q3⟩⟩
  · unfold jstep
    refine List.pairwise_append.mpr ⟨i.dj.filter _, List.pairwise_singleton _ _, fun g hg g' hg' x hx hx' => ?_⟩
    rw [List.mem_singleton.mp hg'] at hx'
    obtain ⟨g1, g2⟩ := List.mem_filter.mp hg
    have nn : ¬ nearP (keysOf r) g = true := by intro z; rw [z] at g2; exact absurd g2 (by decide)
    rcases List.mem_append.mp (show x ∈ keysOf r ++ _ from hx') with z | z
    · exact nn (near_iff.mpr ⟨x, z, hx⟩)
    · obtain ⟨g'', hg'', h⟩ := List.mem_flatMap.mp z
      obtain ⟨f1, f2⟩ := List.mem_filter.mp hg''
      have ne : g ≠ g'' := fun e => nn (e ▸ f2)
      exact pw_dj i.dj g1 f1 ne x hx h
  · unfold jstep at hg
    rcases List.mem_append.mp hg with hg | hg
    · exact i.c g (List.mem_filter.mp hg).1 n hn m hm
    · rw [List.mem_singleton.mp hg] at hn hm
      have go : ∀ n, n ∈ (joinG r (gs.filter (nearP (keysOf r)))).1 → Rch F r.1 n := fun n hn => by
        rcases List.mem_cons.mp (show n ∈ r.1 :: _ from hn) with z | z
        · rw [z]; exact .refl
        · obtain ⟨g', hg', h⟩ := List.mem_flatMap.mp z
          obtain ⟨f1, f2⟩ := List.mem_filter.mp hg'
          exact nr g' f1 f2 n h
      exact ((go n hn).symm nd nE rne).trans (go m hm)
  · unfold jstep at hg
    rcases List.mem_append.mp hg with hg | hg
    · exact i.ne g (List.mem_filter.mp hg).1
    · rw [List.mem_singleton.mp hg]; exact fun z => nomatch z
theorem GI.mem (nd : (F.map (·.1)).Nodup) (nE : NoE F) (i : GI F F gs) {g : Gp} (hg : g ∈ gs) {n : Str} (hn : n ∈ g.1) (m : Str) : m ∈ g.1 ↔ m ∈ F.map (·.1) ∧ Rch F n m := by
  have u : ∀ q ∈ F, up F q.1 = some q.2 := fun q hq => by
    obtain ⟨a, ea⟩ := up_some (List.mem_map.mpr ⟨q, hq, rfl⟩)
    rw [ea, one_answer nd (up_mem ea) hq]
  have row : ∀ x, x ∈ F.map (·.1) → ∃ q ∈ F, q.1 = x ∧ ∃ g' ∈ gs, x ∈ g'.1 := fun x hx => by
    obtain ⟨q, hq, e⟩ := List.mem_map.mp hx
    obtain ⟨g', hg', h⟩ := List.mem_flatMap.mp (i.pm.mem_iff.mpr hx)
    exact ⟨q, hq, e, g', hg', h⟩
  have same : ∀ g' ∈ gs, ∀ x, x ∈ g.2 → x ∈ g'.2 → g' = g := fun g' hg' x h1 h2 => Classical.byContradiction fun z => by
    exact pw_dj i.dj hg hg' (fun e => z e.symm) x h1 h2
  have self : ∀ g' ∈ gs, ∀ x ∈ g'.1, x ∈ g'.2 := fun g' hg' x hx => by
    obtain ⟨q, hq, e, _⟩ := row x (i.pm.mem_iff.mp (List.mem_flatMap.mpr ⟨g', hg', hx⟩))
    exact (i.k g' hg' x).mpr ⟨q, hq, by rw [e]; exact hx, mem_keys.mpr (.inl e.symm)⟩
  constructor
  · intro hm
    exact ⟨i.pm.mem_iff.mp (List.mem_flatMap.mpr ⟨g, hg, hm⟩), i.c g hg n hn m hm⟩
  · rintro ⟨hm, h⟩
    have cl : ∀ y, Rch F n y → y ∈ g.2 := fun y h => by
      induction h with
      | refl => exact self g hg n hn
      | @step y z _ hz ih =>
        rcases List.mem_append.mp hz with e | e
        · have uz := (mem_reps nd).mp e
          obtain ⟨q, hq, e1, g', hg', h'⟩ := row z (List.mem_map.mpr ⟨_, up_mem uz, rfl⟩)
          have hq2 : q.2 = y := by have := u q hq; rw [e1, uz] at this; exact (Option.some.inj this).symm
          have yn : y ≠ "" := fun e0 => by
            have : y ∈ g.2 := ih
            obtain ⟨q', a1, a2, a3⟩ := (i.k g hg y).mp this
            rcases mem_keys.mp a3 with w | ⟨w, w'⟩
            · exact nE q'.1 (List.mem_map_of_mem a1) (w ▸ e0)
            · exact w' (w ▸ e0)
          have y2 : y ∈ g'.2 := (i.k g' hg' y).mpr ⟨q, hq, by rw [e1]; exact h', mem_keys.mpr (.inr ⟨hq2.symm, by rw [hq2]; exact yn⟩)⟩
          rw [← same g' hg' y ih y2]
          exact self g' hg' z h'
        · obtain ⟨e1, e2⟩ := mem_upL.mp e
          obtain ⟨q, hq, e3, g', hg', h'⟩ := row y (List.mem_map.mpr ⟨_, up_mem e1, rfl⟩)
          have hq2 : q.2 = z := by have := u q hq; rw [e3, e1] at this; exact (Option.some.inj this).symm
          rw [← same g' hg' y ih (self g' hg' y h')]
          exact (i.k g' hg' z).mpr ⟨q, hq, by rw [e3]; exact h', mem_keys.mpr (.inr ⟨hq2.symm, by rw [hq2]; exact e2⟩)⟩
    obtain ⟨_, _, _, g', hg', h'⟩ := row m hm
    rw [← same g' hg' m (cl m h) (self g' hg' m h')]
    exact h'
end
theorem ltL_anti : ∀ {a b : List Str}, ltL a b = false → ltL b a = false → a = b
  | [], [], _, _ => rfl
  | [], _ :: _, h, _ => by cases h
  | _ :: _, [], _, h => by cases h
  | x :: xs, y :: ys, h1, h2 => by
    unfold ltL at h1 h2
    by_cases e : x = y
    · rw [if_pos e] at h1
      rw [if_pos e.symm] at h2
      rw [e, ltL_anti h1 h2]
    · rw [if_neg e] at h1
      rw [if_neg fun z => e z.symm] at h2
      exact absurd (leS_antisymm ((leS_iff x y).mpr (of_decide_eq_false h2)) ((leS_iff y x).mpr (of_decide_eq_false h1))) e
section
variable {F : Rows} {gs : List Gp}
theorem thrAll_has : ∀ (i : Nat) (ns : List Str) {n : Str}, n ∈ ns.take i → thrOf F n ∈ thrAll F (ns.take i)
  | 0, ns, n, h => by rw [List.take_zero] at h; cases h
  | i + 1, ns, n, h => by
    cases e : ns[i]? with
    | none => rw [List.take_add_one, e] at h ⊢; simp only [Option.toList_none, List.append_nil] at h ⊢; exact thrAll_has i ns h
    | some m =>
      rw [List.take_add_one, e] at h ⊢
      show _ ∈ thrAll F (ns.take i ++ [m])
      rw [thrAll_snoc]
      unfold thrGo
      rcases List.mem_append.mp h with z | z
      · have := thrAll_has i ns z
        split
        · exact this
        · exact List.mem_append_left _ this
      · have : n = m := List.mem_singleton.mp z
        subst this
        split
        · assumption
        · exact List.mem_append_right _ (List.mem_singleton.mpr rfl)
theorem thrAll_nd : ∀ (i : Nat) (ns : List Str), (thrAll F (ns.take i)).Nodup
  | 0, ns => by rw [List.take_zero]; exact List.nodup_nil
  | i + 1, ns => by
    cases e : ns[i]? with
    | none => rw [List.take_add_one, e]; simp only [Option.toList_none, List.append_nil]; exact thrAll_nd i ns
    | some m =>
      rw [List.take_add_one, e]
      show (thrAll F (ns.take i ++ [m])).Nodup
      rw [thrAll_snoc]
      unfold thrGo
      split
      · exact thrAll_nd i ns
      · rename_i h
        exact List.nodup_append.mpr ⟨thrAll_nd i ns, List.nodup_cons.mpr ⟨List.not_mem_nil, List.nodup_nil⟩, fun x hx y hy z => h (by rw [← List.mem_singleton.mp hy, ← z]; exact hx)⟩
theorem head_min {l : List Str} {n : Str} (s : Sor l) (hn : n ∈ l) (h : ∀ m ∈ l, leS n m = true) : ∃ r, l = n :: r := by
  cases l with
  | nil => cases hn
  | cons x r =>
    have e : x = n := by
      refine leS_antisymm ?_ (h x (List.mem_cons_self ..))
      rcases List.mem_cons.mp hn with z | z
      · rw [z]; exact (leS_total x x).elim id id
      · exact (List.pairwise_cons.mp s).1 n z
    exact ⟨r, by rw [e]⟩
theorem thr_rise (nd : (F.map (·.1)).Nodup) (nE : NoE F) : ∀ i : Nat, (thrAll F ((sortS (F.map (·.1))).take i)).Pairwise (fun a b => ltL b a = false) ∧ ∀ t ∈ thrAll F ((sortS (F.map (·.1))).take i), ∃ n ∈ (sortS (F.map (·.1))).take i, ∃ r, t = n :: r
  | 0 => by rw [List.take_zero]; exact ⟨.nil, fun t h => nomatch h⟩
  | i + 1 => by
    obtain ⟨a1, a2⟩ := thr_rise nd nE i
    cases e : (sortS (F.map (·.1)))[i]? with
    | none => rw [List.take_add_one, e]; simp only [Option.toList_none, List.append_nil]; exact ⟨a1, a2⟩
    | some m =>
      rw [List.take_add_one, e]
      show (thrAll F ((sortS (F.map (·.1))).take i ++ [m])).Pairwise _ ∧ ∀ t ∈ thrAll F ((sortS (F.map (·.1))).take i ++ [m]), ∃ n ∈ (sortS (F.map (·.1))).take i ++ [m], ∃ r, t = n :: r
      rw [thrAll_snoc]
      unfold thrGo
      have hm : m ∈ F.map (·.1) := sortS_mem.mp (List.mem_of_getElem? e)
      have hmn := nE m hm
      split
      · exact ⟨a1, fun t ht => let ⟨n, h1, h2⟩ := a2 t ht; ⟨n, List.mem_append_left _ h1, h2⟩⟩
      · rename_i hno
        have so := sortS_sor (F.map (·.1))
        have hi := (List.getElem?_eq_some_iff.mp e).1
        have em := (List.getElem?_eq_some_iff.mp e).2
        have up_ : ∀ x ∈ (sortS (F.map (·.1))).take i, leS x m = true := fun x hx => by
          obtain ⟨j, ej⟩ := List.mem_iff_getElem?.mp hx
          have hj : j < i := by have := (List.getElem?_eq_some_iff.mp ej).1; rw [List.length_take] at this; omega
          rw [List.getElem?_take, if_pos hj] at ej
          have := List.pairwise_iff_getElem.mp so j i (List.getElem?_eq_some_iff.mp ej).1 hi hj
          rw [(List.getElem?_eq_some_iff.mp ej).2, em] at this
          exact this
        have lo : ∀ x ∈ F.map (·.1), x ∉ (sortS (F.map (·.1))).take i → leS m x = true := fun x hx hn => by
          obtain ⟨j, ej⟩ := List.mem_iff_getElem?.mp (sortS_mem.mpr hx)
          have hj : i ≤ j := Nat.le_of_not_lt fun z => hn (List.mem_iff_getElem?.mpr ⟨j, by rw [List.getElem?_take, if_pos z]; exact ej⟩)
          rcases Nat.eq_or_lt_of_le hj with z | z
          · subst z; rw [e] at ej; cases ej; exact (leS_total m m).elim id id
          · have := List.pairwise_iff_getElem.mp so i j hi (List.getElem?_eq_some_iff.mp ej).1 z
            rw [(List.getElem?_eq_some_iff.mp ej).2, em] at this
            exact this
        obtain ⟨r, er⟩ := head_min (l := thrOf F m) (sortS_sor _) (mem_thr.mpr ⟨hm, .refl⟩) fun x hx => by
          obtain ⟨x1, x2⟩ := mem_thr.mp hx
          refine lo x x1 fun z => hno ?_
          rw [← thr_same nd nE hmn x2]
          exact thrAll_has i _ z
        refine ⟨List.pairwise_append.mpr ⟨a1, List.pairwise_singleton _ _, fun t ht t' ht' => ?_⟩, fun t ht => ?_⟩
        · rw [List.mem_singleton.mp ht', er]
          obtain ⟨n, hn, r', er'⟩ := a2 t ht
          have ne : m ≠ n := fun z => hno (by
            obtain ⟨k, _, ek⟩ := thrAll_mem _ ht
            have hk : n ∈ thrOf F k := by rw [← ek, er']; exact List.mem_cons_self ..
            obtain ⟨h1, h2⟩ := mem_thr.mp hk
            rw [z]
            exact thrAll_has i _ hn)
          rw [er']
          unfold ltL
          rw [if_neg ne]
          refine decide_eq_false ((leS_iff n m).mp (up_ n hn))
        · rcases List.mem_append.mp ht with z | z
          · obtain ⟨n, h1, h2⟩ := a2 t z
            exact ⟨n, List.mem_append_left _ h1, h2⟩
          · rw [List.mem_singleton.mp z]
            exact ⟨m, List.mem_append_right _ (List.mem_singleton.mpr rfl), r, er⟩
theorem GI.fnd (nd : (F.map (·.1)).Nodup) (i : GI F F gs) : (gs.flatMap (·.1)).Nodup := i.pm.nodup_iff.mpr nd
theorem joined_all (nd : (F.map (·.1)).Nodup) (nE : NoE F) (i : GI F F gs) {qs : List (List Str)} (pq : qs.Perm (gs.map fun g => sortS g.1)) (so : qs.Pairwise fun a b => ltL b a = false) : qs = thrAll F (sortS (F.map (·.1))) := by
  have fn := i.fnd nd
  obtain ⟨f1, f2⟩ := List.pairwise_flatMap.mp fn
  have th : ∀ g ∈ gs, ∀ n ∈ g.1, sortS g.1 = thrOf F n := fun g hg n hn => thr_of nd (f1 g hg) (i.mem nd nE hg hn)
  have tk : sortS (F.map (·.1)) = (sortS (F.map (·.1))).take (sortS (F.map (·.1))).length := (List.take_length).symm
  have n1 : (gs.map fun g => sortS g.1).Nodup := by
    refine List.pairwise_map.mpr (List.Pairwise.imp_of_mem ?_ f2)
    intro g g' hg hg' h e
    obtain ⟨n, hn⟩ := List.exists_mem_of_ne_nil _ (i.ne g hg)
    have : n ∈ g'.1 := sortS_mem.mp (by rw [← e]; exact sortS_mem.mpr hn)
    exact h n hn n this rfl
  have n2 : (thrAll F (sortS (F.map (·.1)))).Nodup := by rw [tk]; exact thrAll_nd _ _
  have pm : (gs.map fun g => sortS g.1).Perm (thrAll F (sortS (F.map (·.1)))) := (List.perm_ext_iff_of_nodup n1 n2).mpr fun t => by
    constructor
    · intro ht
      obtain ⟨g, hg, rfl⟩ := List.mem_map.mp ht
      obtain ⟨n, hn⟩ := List.exists_mem_of_ne_nil _ (i.ne g hg)
      rw [th g hg n hn, tk]
      refine thrAll_has _ _ ?_
      rw [← tk]
      exact sortS_mem.mpr (i.pm.mem_iff.mp (List.mem_flatMap.mpr ⟨g, hg, hn⟩))
    · intro ht
      obtain ⟨n, hn, e⟩ := thrAll_mem _ ht
      obtain ⟨g, hg, h⟩ := List.mem_flatMap.mp (i.pm.mem_iff.mpr (sortS_mem.mp hn))
      exact List.mem_map.mpr ⟨g, hg, by rw [e]; exact th g hg n h⟩
  refine pw_unique (R := fun a b => ltL b a = false) (pq.trans pm) so ?_ fun x _ y _ h1 h2 => ltL_anti h2 h1
  rw [tk]
  exact (thr_rise nd nE _).1
end
theorem eqv_strs : ∀ {xs ys : List Str}, PyData.eqvAll (xs.map PyData.str) (ys.map PyData.str) = true → xs = ys
  | [], [], _ => rfl
  | [], _ :: _, h => by cases h
  | _ :: _, [], h => by cases h
  | x :: xs, y :: ys, h => by
    have h' : (PyData.eqv (.str x) (.str y) && PyData.eqvAll (xs.map PyData.str) (ys.map PyData.str)) = true := h
    rw [Bool.and_eq_true] at h'
    have e : x = y := by
      have := h'.1
      simpa [PyData.eqv] using this
    rw [e, eqv_strs h'.2]
def gpD (g : Gp) : PyData := .list [.list (g.1.map PyData.str), .list (g.2.map PyData.str)]
theorem eqv_gp {a b : Gp} (h : PyData.eqv (gpD a) (gpD b) = true) : a = b := by
  have h' : (PyData.eqv (.list (a.1.map PyData.str)) (.list (b.1.map PyData.str)) && (PyData.eqv (.list (a.2.map PyData.str)) (.list (b.2.map PyData.str)) && true)) = true := h
  rw [Bool.and_eq_true, Bool.and_true] at h'
  have h1 : PyData.eqvAll (a.1.map PyData.str) (b.1.map PyData.str) = true := h'.1
  have h2 : PyData.eqvAll (a.2.map PyData.str) (b.2.map PyData.str) = true := h'.2
  exact Prod.ext (eqv_strs h1) (eqv_strs h2)
structure GQ where
  g : Addr
  a : Addr
  b : Addr
  p : Gp
abbrev GQ.r (q : GQ) : V := .ref q.g
structure GQAt (G : Hp) (q : GQ) : Prop where
  e : G q.g = some (.lst [.ref q.a, .ref q.b])
  ea : G q.a = some (.lst (q.p.1.map V.str))
  eb : G q.b = some (.lst (q.p.2.map V.str))
theorem GQAt.mono {G G' : Hp} {q : GQ} (h : GQAt G q) (s : Same G G') : GQAt G' q := ⟨s _ _ h.e, s _ _ h.ea, s _ _ h.eb⟩
theorem rd_strsL {K : PySem.W.Frag} {G : Hp} {a : Addr} {xs : List Str} (e : G a = some (.lst (xs.map V.str))) : RD K G (.ref a) (.list (xs.map PyData.str)) := rd_strs (SqL.of e)
theorem GQAt.rd {K : PySem.W.Frag} {G : Hp} {q : GQ} (h : GQAt G q) : RD K G q.r (gpD q.p) := .lst (SqL.of h.e) (.cons (rd_strsL h.ea) (.cons (rd_strsL h.eb) .nil))
theorem rds_gq {K : PySem.W.Frag} {G : Hp} : ∀ {qs : List GQ}, (∀ q ∈ qs, GQAt G q) → RDs K G (qs.map GQ.r) (qs.map fun q => gpD q.p)
  | [], _ => .nil
  | q :: qs, h => .cons (h q (List.mem_cons_self ..)).rd (rds_gq fun z hz => h z (List.mem_cons_of_mem _ hz))
def GpAsc (g : Gp) : Prop := (∀ x ∈ g.1, Asc x) ∧ ∀ x ∈ g.2, Asc x
theorem lay_strs : ∀ {xs : List Str}, (∀ x ∈ xs, Asc x) → PyData.canLayAll0 (xs.map PyData.str) = true ∧ PyData.depthAll (xs.map PyData.str) = 0
  | [], _ => ⟨rfl, rfl⟩
  | x :: xs, h => by
    obtain ⟨a, b⟩ := lay_strs fun y hy => h y (List.mem_cons_of_mem _ hy)
    refine ⟨?_, ?_⟩
    · show (PyData.canLay0 (.str x) && PyData.canLayAll0 (xs.map PyData.str)) = true
      rw [a, show PyData.canLay0 (.str x) = true by simp [PyData.canLay0, (h x (List.mem_cons_self ..)).ok]]
      rfl
    · show max (PyData.depth (.str x)) (PyData.depthAll (xs.map PyData.str)) = 0
      rw [b]; rfl
theorem gp_lay {g : Gp} (h : GpAsc g) : (gpD g).canLay0 = true ∧ (gpD g).depth ≤ 2 := by
  obtain ⟨a1, a2⟩ := lay_strs h.1
  obtain ⟨b1, b2⟩ := lay_strs h.2
  refine ⟨by simp [gpD, PyData.canLay0, PyData.canLayAll0, a1, b1], by simp [gpD, PyData.depth, PyData.depthAll, a2, b2]⟩
theorem gps_lay : ∀ {qs : List GQ}, (∀ q ∈ qs, GpAsc q.p) → PyData.canLayAll0 (qs.map fun q => gpD q.p) = true
  | [], _ => rfl
  | q :: qs, h => by
    show ((gpD q.p).canLay0 && PyData.canLayAll0 (qs.map fun q => gpD q.p)) = true
    rw [(gp_lay (h q (List.mem_cons_self ..))).1, gps_lay fun z hz => h z (List.mem_cons_of_mem _ hz)]
    rfl
theorem not_near {ks : List Str} {qs : List GQ} (asc : ∀ q ∈ qs, GpAsc q.p) {q : GQ} (hq : q ∈ qs) : (!(((qs.filter fun q => nearP ks q.p).map fun q => gpD q.p).any fun e => PyData.eqv e (gpD q.p))) = !nearP ks q.p := by
  congr 1
  cases h : nearP ks q.p with
  | true => exact List.any_eq_true.mpr ⟨gpD q.p, List.mem_map_of_mem (f := fun q : GQ => gpD q.p) (List.mem_filter.mpr ⟨hq, h⟩), SeqAt.eqv_refl _ (gp_lay (asc q hq)).1⟩
  | false =>
    refine List.any_eq_false.mpr fun e he z => ?_
    obtain ⟨q', hq', rfl⟩ := List.mem_map.mp he
    obtain ⟨_, h2⟩ := List.mem_filter.mp hq'
    rw [eqv_gp z, h] at h2
    cases h2
abbrev scJ : Scope := { kind := .function, names := [(".0", .local), ("_law_group", .cell), ("_law_keys", .cell)], isGenerator := false, isCoroutine := false }
theorem call_sortedBK {X : Cx} (K : PySem.W.Frag) (hK : X.K = K := by rfl) : CallR X (.builtin "sorted") (fun xs H Q => ∃ p ss, xs = [.ref p] ∧ SqL K H p (ss.map V.str) ∧ ss.length < 1024 ∧ ∀ l, H l = none → Q (.ref l) (upd H l (.lst ((sortS ss).map V.str)))) := hK ▸ call_sortedB
theorem fm_le {f : GQ → List Str} {l l' : List GQ} (s : l.Sublist l') : (l.flatMap f).length ≤ (l'.flatMap f).length := by
  induction s with
  | slnil => exact Nat.le_refl _
  | cons a _ ih => rw [List.flatMap_cons, List.length_append]; omega
  | cons_cons a _ ih => rw [List.flatMap_cons, List.flatMap_cons, List.length_append, List.length_append]; omega
inductive spJoin_I (vs : List V) (H : Hp) (Q : VK) : Prop
  | mk : ∀ (r : Addr) (prs : List PRow), vs = [.ref r] → RowsAt H r prs → RwOk prs → prs.length ≤ 64 → (∀ l (ls : List (Addr × List Str)) H', Same H H' → ThrAt H' l ls → ls.map (·.2) = thrAll (prs.map (·.2)) (sortS ((prs.map (·.2)).map (·.1))) → Q (.ref l) H') → spJoin_I vs H Q
def spJoin : Sp := fun vs H Q _ => spJoin_I vs H Q
section
variable {P : Program} {w : World} {K : PySem.W.Frag} {mg : Str → Option Value} {base : Heap} {a : Adr}
theorem ok_join {fd : FuncData} (F : Fun K "_law_joined" "_law_joined" sl_joined a.f_l_joined fd) (T : Txt K mg a) (FF : Funs K a) : FnOk P w K mg base CX0 1 a.f_l_joined fd ["_law_rows_here"] spJoin := by
  refine F.ok sc_l_joined (fun vs H Q E h => ?_) (fun cdv A outer s H vs Q E hr h => ?_)
  · obtain ⟨r, prs, rfl, _⟩ := h; rfl
  · obtain ⟨r, prs, rfl, ra, ok, hl, k⟩ := h
    have hu64 := hr.units
    refine ⟨_, (pss_cons (ps_set (i := 1) sc_l_joined.nd rfl (Or.inl rfl) (pe_lstG pas_nil))
        (pss_cons (ps_for PassesOwn.never rfl (pi_list (pv 0)) (pg_tup rfl (pgs_cons (pg_name (i := 2) sc_l_joined.nd rfl (Or.inl rfl)) (pgs_cons (pg_name (i := 3) sc_l_joined.nd rfl (Or.inl rfl)) pgs_nil))) (pss_cons (ps_set (i := 4) sc_l_joined.nd rfl (Or.inr rfl) (pe_op op_catG (pe_lstG (pas_cons (pv 2) pas_nil)) (pe_op op_repG (pe_lstG (pas_cons (pv 3) pas_nil)) (pe_callTy call_int1 rfl T.b_int PyProof.Rows.boot_int (pac (pe_cmpR op_ne (pv 3) pe_str (nomark _)) pa_nil)))))
        (pss_cons (ps_set (i := 5) sc_l_joined.nd rfl (Or.inr rfl) (pe_compC (sc := defScope sl_joined) (N := n_l_joined) (fr := [(4, "_law_keys")]) ⟨rfl, rfl, by decide +kernel, .next (by decide) (.here (by decide +kernel)), by decide +kernel, by decide +kernel, by decide +kernel⟩ rfl rfl rfl (pi_list (pv 1)) (fun _ _ _ _ => pts_one (pt_cmpR (op_neDK K hu64) (pe_comp (sc := scJ) (N := ["_law_group", "_law_keys"]) (fr := [(0, "_law_group")]) ⟨rfl, rfl, by decide +kernel, by decide +kernel, by decide +kernel, by decide +kernel, by decide +kernel⟩ rfl rfl rfl (pi_listK K (pv 1)) (fun _ _ _ _ => pts_one (pt_cmpR (op_in_seqK K) (pv 0) (pe_ix (ix_listK K) (pv 1) pe_int (fun _ _ => rfl)) (by with_unfolding_all rfl))) (fun _ _ _ _ => (pv 0))) (pe_lstG pas_nil) (nomark _))) (fun _ _ _ _ => (pv 0))))
        (pss_cons (ps_set (i := 6) sc_l_joined.nd rfl (Or.inl rfl) (pe_lstG (pas_cons (pe_lstG (pas_cons (pv 2) pas_nil)) (pas_cons (pe_callTy call_list_of rfl T.b_list PyProof.Rows.boot_list (pac (pv 4) pa_nil)) pas_nil))))
        (pss_cons (ps_for PassesOwn.never rfl (pi_list (pv 5)) (pg_name (i := 7) sc_l_joined.nd rfl (Or.inl rfl)) (pss_one (ps_set (i := 6) sc_l_joined.nd rfl (Or.inl rfl) (pe_lstG (pas_cons (pe_op op_catG (pe_ix ix_list (pv 6) pe_int (fun _ _ => rfl)) (pe_ix ix_list (pv 7) pe_int (fun _ _ => rfl))) (pas_cons (pe_op op_catG (pe_ix ix_list (pv 6) pe_int (fun _ _ => rfl)) (pe_ix ix_list (pv 7) pe_int (fun _ _ => rfl))) pas_nil))))))
        (pss_one (ps_set (i := 1) sc_l_joined.nd rfl (Or.inl rfl) (pe_op op_catG (pe_comp (sc := defScope sl_joined) (N := n_l_joined) (fr := [(5, "_law_near")]) ⟨rfl, rfl, by decide +kernel, by decide +kernel, by decide +kernel, by decide +kernel, by decide +kernel⟩ rfl rfl rfl (pi_list (pv 1)) (fun _ _ _ _ => pts_one (pt_cmpR (op_notInDK K hu64) (pv 0) (pv 1) (by with_unfolding_all rfl))) (fun _ _ _ _ => (pv 0))) (pe_lstG (pas_cons (pv 6) pas_nil))))))))))
        (pss_one (ps_ret (pe_callB (call_sortedL hu64) rfl T.b_sorted PyProof.Rows.boot_sorted (pac (pe_comp (sc := defScope sl_joined) (N := n_l_joined) (fr := []) ⟨rfl, rfl, by decide +kernel, by decide +kernel, by decide +kernel, by decide +kernel, by decide +kernel⟩ rfl rfl rfl (pi_list (pv 1)) (fun _ _ _ _ => pts_nil) (fun _ _ _ _ => (pe_callB (call_sortedBK K) rfl T.b_sorted PyProof.Rows.boot_sorted (pac (pe_ix (ix_listK K) (pv 0) pe_int (fun _ _ => rfl)) pa_nil)))) pa_nil)))))), ?_⟩
    have eF : prs.map (·.2.1) = (prs.map (·.2)).map (·.1) := by rw [List.map_map]; rfl
    have nd : ((prs.map (·.2)).map (·.1)).Nodup := by rw [← eF]; exact ok.nd
    have nE : NoE (prs.map (·.2)) := fun n hn => by
      obtain ⟨x, hx, rfl⟩ := List.mem_map.mp hn
      obtain ⟨q, hq, rfl⟩ := List.mem_map.mp hx
      exact word_ne (ok.w q hq).1
    refine ⟨Nat.zero_le _, fun g0 G0 ng0 t0 eg0 => ?_⟩
    dsimp only [gName]
    refine ⟨_, rfl, r, rfl, ⟨_, SqL.of (t0 _ _ ra.1)⟩, for_list (K := K) (xs := prs.map fun q => V.ref q.1) (fun i σ G => ∃ (gl : Addr) (qs : List GQ) (o2 o3 o4 o5 o6 o7 : Option V), σ = [some (.ref r), some (.ref gl), o2, o3, o4, o5, o6, o7] ∧ Same H G ∧ G gl = some (.lst (qs.map GQ.r)) ∧ (∀ q ∈ qs, GQAt G q) ∧ GI (prs.map (·.2)) ((prs.map (·.2)).take i) (qs.map GQ.p) ∧ (∀ q ∈ qs, GpAsc q.p) ∧ ((qs.map GQ.p).flatMap (·.2)).length ≤ 2 * i ∧ qs.length ≤ i) ⟨g0, [], none, none, none, none, none, none, rfl, t0, eg0, (fun q hq => nomatch hq), GI.nil, (fun q hq => nomatch hq), Nat.zero_le _, Nat.zero_le _⟩ ?_ ?_ ?_⟩
    · rintro i σ G _ ⟨gl, qs, o2, o3, o4, o5, o6, o7, rfl, sG, _⟩
      exact SqL.of (sG _ _ ra.1)
    · rintro i v σ G hv ⟨gl, qs, o2, o3, o4, o5, o6, o7, rfl, sG, egl, gqs, gi, asc, kl, ql⟩
      obtain ⟨rw, hrw, rfl⟩ : ∃ q, prs[i]? = some q ∧ v = .ref q.1 := by
        rw [List.getElem?_map] at hv
        cases e : prs[i]? with
        | none => rw [e] at hv; cases hv
        | some w => rw [e] at hv; cases hv; exact ⟨w, rfl, rfl⟩
      obtain ⟨tr, n, an⟩ := rw
      have hrm : (tr, n, an) ∈ prs := List.mem_of_getElem? hrw
      obtain ⟨hwn, hwa⟩ := ok.w _ hrm
      have il : i < prs.length := (List.getElem?_eq_some_iff.mp hrw).1
      have et := sG _ _ (ra.2 _ hrm)
      refine ⟨tr, _, rfl, SqT.of et, rfl, _, _, rfl, ?_⟩
      dsimp only [gName]
      refine ⟨_, _, rfl, ?_⟩
      dsimp only [gName]
      refine ⟨rfl, ?_⟩
      refine ⟨_, rfl, (by show 1 ≤ sizeLine; decide), fun l1 G1 nl1 t1 e1 => ⟨_, rfl, (by show 1 ≤ sizeLine; decide), fun l2 G2 nl2 t2 e2 => ⟨_, rfl, rfl, .inr ⟨_, rfl, l2, _, _, rfl, rfl, e2, ?_, ?_, ?_, fun l3 G3 nl3 t3 e3 => ⟨l1, l3, _, _, rfl, rfl, t3 _ _ (t2 _ _ e1), e3, ?_, fun ks G4 nks t4 eks => ?_⟩⟩⟩⟩⟩
      · split <;> decide
      · split <;> decide
      · split <;> (show 1 * _ ≤ sizeLine; decide)
      · split
        · show 1 + 1 ≤ sizeLine; decide
        · show 1 + 0 ≤ sizeLine; decide
      have eks : G4 ks = some (.lst ((keysOf (n, an)).map V.str)) := by
        rw [eks]
        unfold keysOf
        by_cases e : an = ""
        · rw [if_pos e, show decide (V.str an = V.str "") = true from decide_eq_true (by rw [e])]; rfl
        · rw [if_neg e, show decide (V.str an = V.str "") = false from decide_eq_false fun z => e (V.str.inj z)]; rfl
      dsimp only [gName]
      have s4 : Same G G4 := ((t1.trans t2).trans t3).trans t4
      have kasc : ∀ x ∈ keysOf (n, an), Asc x := fun x hx => by
        rcases mem_keys.mp hx with z | ⟨z, _⟩
        · rw [z]; exact hwn.asc
        · rw [z]; exact hwa.1
      have kln : (keysOf (n, an)).length ≤ 2 := by unfold keysOf; split <;> simp
      refine ⟨_, rfl, gl, rfl, ⟨_, SqL.of (s4 _ _ egl)⟩, comp_listFG (K := K) (xs := qs) GQ.r (fun q => nearP (keysOf (n, an)) q.p) GQ.r (Nat.le_of_lt (small1000 (by omega))) (SqL.of (s4 _ _ egl)) (fun q H3 Q' hq s3 kk => ?_) (fun q H3 Q' hq s3 _ kk => ⟨_, rfl, kk H3 (Same.refl _)⟩) fun NL G5 nNL t5 eNL => ?_⟩
      · have gq := (gqs q hq).mono (s4.trans s3)
        refine ⟨_, rfl, ks, rfl, ⟨_, SqL.of (s3 _ _ eks)⟩, comp_listFG (K := K) (xs := keysOf (n, an)) V.str (fun k => decide (k ∈ q.p.2)) V.str (Nat.le_of_lt (small1000 (by omega))) (SqL.of (s3 _ _ eks)) (fun k H4 Q'' hk s5 kk' => ?_) (fun k H4 Q'' hk s5 _ kk' => ⟨_, rfl, kk' H4 (Same.refl _)⟩) fun D1 H4 nD1 s5 eD1 => ?_⟩
        · refine ⟨_, rfl, _, rfl, q.g, _, _, _, rfl, rfl, SqL.of (s5 _ _ gq.e), rfl, q.b, _, rfl, .inl (SqL.of (s5 _ _ gq.eb)), rfl, flat_strs _, _, rfl, ?_⟩
          rw [show (if false = true then !inV (V.str k) (q.p.2.map V.str) else inV (V.str k) (q.p.2.map V.str)) = decide (k ∈ q.p.2) by rw [inV_strs]; rfl]
          exact kk' H4 (Same.refl _)
        · refine ⟨Nat.zero_le _, fun D2 H5 nD2 s6 eD2 => ?_⟩
          have fas : ∀ x ∈ (keysOf (n, an)).filter fun k => decide (k ∈ q.p.2), Asc x := fun x hx => kasc x (List.mem_filter.mp hx).1
          obtain ⟨a1, a2⟩ := lay_strs fas
          refine ⟨.list (((keysOf (n, an)).filter fun k => decide (k ∈ q.p.2)).map PyData.str), .list [], rd_strsL (s6 _ _ eD1), .lst (SqL.of eD2) .nil, ?_, by decide +kernel, ?_⟩
          · unfold SeqAt.shaped
            rw [Bool.and_eq_true]
            exact ⟨by simp [PyData.canLay0, a1], decide_eq_true (by simp only [PyData.depth, a2]; omega)⟩
          · have e : (!PyData.eqv (.list (((keysOf (n, an)).filter fun k => decide (k ∈ q.p.2)).map PyData.str)) (.list [])) = nearP (keysOf (n, an)) q.p := by
              unfold nearP
              congr 1
              cases (keysOf (n, an)).filter fun k => decide (k ∈ q.p.2) <;> rfl
            rw [e]
            exact ⟨_, rfl, kk H5 (s5.trans s6)⟩
      dsimp only [gName]
      have s5 : Same G G5 := s4.trans t5
      refine ⟨_, rfl, (by show 1 ≤ sizeLine; decide), fun a1 G6 na1 t6 ea1 => ⟨_, rfl, ks, _, rfl, .inl (SqL.of (t6 _ _ (t5 _ _ eks))), fun b1 nb1 => ?_⟩⟩
      have t7 : Same G6 (upd G6 b1 (.lst ((keysOf (n, an)).map V.str))) := Same.upd_new nb1
      have eb1 : (upd G6 b1 (.lst ((keysOf (n, an)).map V.str))) b1 = some (.lst ((keysOf (n, an)).map V.str)) := upd_same
      generalize upd G6 b1 (.lst ((keysOf (n, an)).map V.str)) = G7 at t7 eb1 ⊢
      refine ⟨(by show 2 ≤ sizeLine; decide), fun o1 G8 no1 t8 eo1 => ?_⟩
      dsimp only [gName]
      have s58 := (t6.trans t7).trans t8
      have s8 := s5.trans s58
      generalize hnear : (qs.filter fun q => nearP (keysOf (n, an)) q.p) = near at eNL
      have nsub : near.Sublist qs := by rw [← hnear]; exact List.filter_sublist
      have nql : near.length ≤ qs.length := nsub.length_le
      have nmL : ((qs.map GQ.p).flatMap (·.1)).length = i := by rw [gi.pm.length_eq, List.length_map, List.length_take, List.length_map]; omega
      have fmP : ∀ (f : Gp → List Str) (l : List GQ), l.flatMap (fun q => f q.p) = (l.map GQ.p).flatMap f := fun f l => by rw [List.flatMap_map]
      have ln1 : ∀ j, ((near.take j).flatMap fun q => q.p.1).length ≤ 64 := fun j => by
        have := fm_le (f := fun q => q.p.1) ((List.take_sublist j near).trans nsub)
        rw [fmP (fun p => p.1) qs, nmL] at this
        omega
      have ln2 : ∀ j, ((near.take j).flatMap fun q => q.p.2).length ≤ 128 := fun j => by
        have := fm_le (f := fun q => q.p.2) ((List.take_sublist j near).trans nsub)
        rw [fmP (fun p => p.2) qs] at this
        omega
      refine ⟨_, rfl, NL, rfl, ⟨_, SqL.of (s58 _ _ eNL)⟩, for_list (K := K) (xs := near.map GQ.r) (fun j σ G' => ∃ (o1 a1 b1 : Addr) (o7 : Option V), σ = [some (.ref r), some (.ref gl), some (.str n), some (.str an), some (.ref ks), some (.ref NL), some (.ref o1), o7] ∧ Same G8 G' ∧ GQAt G' ⟨o1, a1, b1, (n :: (near.take j).flatMap (fun q => q.p.1), keysOf (n, an) ++ (near.take j).flatMap fun q => q.p.2)⟩) ⟨o1, a1, b1, _, rfl, Same.refl _, eo1, t8 _ _ (t7 _ _ ea1), by rw [t8 _ _ eb1, List.take_zero]; show _ = some (HO.lst ((keysOf (n, an) ++ []).map V.str)); rw [List.append_nil]⟩ ?_ ?_ ?_⟩
      · rintro j σ G' _ ⟨o1, a1, b1, o7, rfl, sN, _⟩
        exact SqL.of (sN _ _ (s58 _ _ eNL))
      · rintro j y σ G' hy ⟨o1, a1, b1, o7, rfl, sN, gq⟩
        obtain ⟨q, hqj, rfl⟩ : ∃ q, near[j]? = some q ∧ y = q.r := by
          rw [List.getElem?_map] at hy
          cases e : near[j]? with
          | none => rw [e] at hy; cases hy
          | some w => rw [e] at hy; cases hy; exact ⟨w, rfl, rfl⟩
        have hqm : q ∈ qs := nsub.subset (List.mem_of_getElem? hqj)
        have gq2 := (gqs q hqm).mono (s8.trans sN)
        have l1 := ln1 (j + 1)
        have l2 := ln2 (j + 1)
        have etk : near.take (j + 1) = near.take j ++ [q] := by rw [List.take_add_one, hqj]; rfl
        rw [etk, List.flatMap_append, List.flatMap_singleton, List.length_append] at l1 l2
        dsimp only [gName]
        refine ⟨_, rfl, o1, _, _, _, rfl, rfl, SqL.of gq.e, rfl, _, rfl, q.g, _, _, _, rfl, rfl, SqL.of gq2.e, rfl, a1, q.a, _, _, rfl, rfl, gq.ea, gq2.ea, ?_, fun a2 H1 na2 u1 ea2 => ?_⟩
        · rw [List.length_map, List.length_map, List.length_cons]; exact Nat.le_of_lt (small1000 (by omega))
        refine ⟨_, rfl, o1, _, _, _, rfl, rfl, SqL.of (u1 _ _ gq.e), rfl, _, rfl, q.g, _, _, _, rfl, rfl, SqL.of (u1 _ _ gq2.e), rfl, b1, q.b, _, _, rfl, rfl, u1 _ _ gq.eb, u1 _ _ gq2.eb, ?_, fun b2 H2 nb2 u2 eb2 => ⟨(by show 2 ≤ sizeLine; decide), fun o2 H3 no2 u3 eo2 => ?_⟩⟩
        · rw [List.length_map, List.length_map, List.length_append]; exact Nat.le_of_lt (small1000 (by omega))
        refine ⟨o2, a2, b2, _, rfl, sN.trans ((u1.trans u2).trans u3), eo2, ?_, ?_⟩
        · rw [u3 _ _ (u2 _ _ ea2), etk, List.flatMap_append, List.flatMap_singleton, ← List.map_append]; rfl
        · rw [u3 _ _ eb2]
          show _ = some (HO.lst ((keysOf (n, an) ++ (near.take (j + 1)).flatMap fun q => q.p.2).map V.str))
          rw [etk, List.flatMap_append, List.flatMap_singleton, ← List.map_append, List.append_assoc]
      · rintro σ G' ⟨o1, a1, b1, o7, rfl, sN, gq⟩
        rw [List.length_map, List.take_length] at gq
        have s9 := s8.trans sN
        have gqs9 : ∀ q ∈ qs, GQAt G' q := fun q hq => (gqs q hq).mono s9
        refine ⟨_, rfl, gl, rfl, ⟨_, SqL.of (s9 _ _ egl)⟩, comp_listFM (K := K) (xs := qs) GQ.r (fun q => !nearP (keysOf (n, an)) q.p) GQ.r (Nat.le_of_lt (small1000 (by omega))) (SqL.of (s9 _ _ egl)) (fun q H3 Q' hq s3 kk => ?_) (fun q H3 Q' hq s3 _ kk => ⟨_, rfl, kk⟩) fun D nD => ?_⟩
        · refine ⟨_, rfl, _, rfl, gpD q.p, near.map fun q => gpD q.p, ((gqs9 q hq).mono s3).rd, .lst (SqL.of (s3 _ _ (sN _ _ (s58 _ _ eNL)))) (rds_gq fun q' hq' => (gqs9 q' (nsub.subset hq')).mono s3), gps_lay fun q' hq' => asc q' (nsub.subset hq'), (gp_lay (asc q hq)).1, Nat.le_trans (gp_lay (asc q hq)).2 (by decide), _, rfl, ?_⟩
          rw [← hnear, if_pos rfl, not_near asc hq]
          exact kk
        have u1 : Same G' (upd G' D (.lst ((qs.filter fun q => !nearP (keysOf (n, an)) q.p).map GQ.r))) := Same.upd_new nD
        have eD : (upd G' D (.lst ((qs.filter fun q => !nearP (keysOf (n, an)) q.p).map GQ.r))) D = some (.lst ((qs.filter fun q => !nearP (keysOf (n, an)) q.p).map GQ.r)) := upd_same
        generalize upd G' D (.lst ((qs.filter fun q => !nearP (keysOf (n, an)) q.p).map GQ.r)) = G10 at u1 eD ⊢
        have fl := (List.filter_sublist (l := qs) (p := fun q => !nearP (keysOf (n, an)) q.p)).length_le
        refine ⟨_, rfl, (by show 1 ≤ sizeLine; decide), fun l4 G11 nl4 u2 el4 => ⟨D, l4, _, _, rfl, rfl, u2 _ _ eD, el4, ?_, fun g2 G12 ng2 u3 eg2 => ?_⟩⟩
        · rw [List.length_map]; exact Nat.le_of_lt (small1000 (by show _ + 1 ≤ 1000; omega))
        have s12 : Same G' G12 := (u1.trans u2).trans u3
        have ef : near.map GQ.p = (qs.map GQ.p).filter (nearP (keysOf (n, an))) := by rw [← hnear, List.filter_map]; rfl
        have ej : joinG (n, an) ((qs.map GQ.p).filter (nearP (keysOf (n, an)))) = (n :: near.flatMap (fun q => q.p.1), keysOf (n, an) ++ near.flatMap fun q => q.p.2) := by
          unfold joinG
          rw [← ef, fmP (fun p => p.1) near, fmP (fun p => p.2) near]
        have em : List.map GQ.p ((qs.filter fun q : GQ => !nearP (keysOf (n, an)) q.p) ++ [(⟨o1, a1, b1, (n :: near.flatMap (fun q => q.p.1), keysOf (n, an) ++ near.flatMap fun q => q.p.2)⟩ : GQ)]) = jstep (qs.map GQ.p) (n, an) := by
          unfold jstep
          rw [List.map_append, ej, List.filter_map]
          rfl
        have ptk : (prs.map (·.2)).take (i + 1) = (prs.map (·.2)).take i ++ [(n, an)] := by rw [List.take_add_one, List.getElem?_map, hrw]; rfl
        have pmem : ∀ x ∈ (prs.map (·.2)).take i ++ [(n, an)], x ∈ prs.map (·.2) := fun x hx => by rw [← ptk] at hx; exact List.mem_of_mem_take hx
        have hnn : (n, an).1 ∉ ((prs.map (·.2)).take i).map (·.1) := by
          have := nd
          rw [← List.take_append_drop (i + 1) (prs.map (·.2)), ptk, List.map_append, List.map_append, List.append_assoc] at this
          have := (List.nodup_append.mp this).2.2
          exact fun z => this _ z n (by simp) rfl
        refine ⟨g2, (qs.filter fun q => !nearP (keysOf (n, an)) q.p) ++ [⟨o1, a1, b1, (n :: near.flatMap (fun q => q.p.1), keysOf (n, an) ++ near.flatMap fun q => q.p.2)⟩], _, _, _, _, _, _, rfl, sG.trans (s9.trans s12), ?_, fun q hq => ?_, ?_, fun q hq => ?_, ?_, ?_⟩
        · rw [eg2, List.map_append]; rfl
        · rcases List.mem_append.mp hq with z | z
          · exact (gqs9 q (List.mem_filter.mp z).1).mono s12
          · rw [List.mem_singleton.mp z]; exact gq.mono s12
        · rw [em, ptk]
          exact gi.step nd nE pmem hnn
        · rcases List.mem_append.mp hq with z | z
          · exact asc q (List.mem_filter.mp z).1
          · rw [List.mem_singleton.mp z]
            refine ⟨fun x hx => ?_, fun x hx => ?_⟩
            · rcases List.mem_cons.mp hx with y | y
              · rw [y]; exact hwn.asc
              · obtain ⟨q', hq', h'⟩ := List.mem_flatMap.mp y
                exact (asc q' (nsub.subset hq')).1 x h'
            · rcases List.mem_append.mp hx with y | y
              · exact kasc x y
              · obtain ⟨q', hq', h'⟩ := List.mem_flatMap.mp y
                exact (asc q' (nsub.subset hq')).2 x h'
        · have pl := (fm_filter (p := nearP (keysOf (n, an))) (fun g : Gp => g.2) (qs.map GQ.p)).length_eq
          rw [List.length_append, ← ef] at pl
          rw [List.map_append, List.flatMap_append, List.length_append]
          show _ + ([(n :: near.flatMap (fun q => q.p.1), keysOf (n, an) ++ near.flatMap fun q => q.p.2)].flatMap fun g : Gp => g.2).length ≤ _
          rw [List.flatMap_singleton, List.length_append, fmP (fun p => p.2) near]
          have ee : (qs.filter fun q => !nearP (keysOf (n, an)) q.p).map GQ.p = (qs.map GQ.p).filter fun g => !nearP (keysOf (n, an)) g := by rw [List.filter_map]; rfl
          rw [ee]
          omega
        · rw [List.length_append, List.length_singleton]; omega
    · rintro σ G ⟨gl, qs, o2, o3, o4, o5, o6, o7, rfl, sG, egl, gqs, gi, asc, kl, ql⟩
      rw [List.length_map, List.take_of_length_le (by rw [List.length_map]; exact Nat.le_refl _)] at gi
      have nmL : ((qs.map GQ.p).flatMap (·.1)).length ≤ 64 := by rw [gi.pm.length_eq, List.length_map, List.length_map]; exact hl
      have one : ∀ q ∈ qs, q.p.1.length ≤ 64 := fun q hq => by
        have := fm_le (f := fun q => q.p.1) (List.singleton_sublist.mpr hq)
        rw [List.flatMap_singleton, List.flatMap_map] at *
        omega
      have ql : qs.length ≤ 64 := by rw [List.length_map] at ql; omega
      refine ⟨_, rfl, gl, rfl, ⟨_, SqL.of egl⟩, comp_listH (K := K) (xs := qs.map GQ.r) (fun D j ys G' => ∃ ls : List (Addr × List Str), ys = ls.map (fun p => V.ref p.1) ∧ ls.map (·.2) = (qs.take j).map (fun q => sortS q.p.1) ∧ ls.length = j ∧ ∀ p ∈ ls, G' p.1 = some (.lst (p.2.map V.str)) ∧ p.1 ≠ D) (Nat.le_of_lt (small1000 (by rw [List.length_map]; omega))) (SqL.of egl) (fun D nD => ⟨[], rfl, by rw [List.take_zero]; rfl, rfl, fun p hp => nomatch hp⟩) (fun D j ys G' ⟨ls, e, _, el, _⟩ => by rw [e, List.length_map, el]) (fun D j x ys H3 Q' hx nD ⟨ls, e1, e2, el, e3⟩ eD s3 kont => ?_) fun D ys H2 nD ⟨ls, e1, e2, el, e3⟩ s2 eD => ?_⟩
      · obtain ⟨q, hqj, rfl⟩ : ∃ q, qs[j]? = some q ∧ x = q.r := by
          rw [List.getElem?_map] at hx
          cases e : qs[j]? with
          | none => rw [e] at hx; cases hx
          | some w => rw [e] at hx; cases hx; exact ⟨w, rfl, rfl⟩
        have hqm := List.mem_of_getElem? hqj
        have gq := (gqs q hqm).mono s3
        refine ⟨_, rfl, q.g, _, _, _, rfl, rfl, SqL.of gq.e, rfl, q.a, q.p.1, rfl, SqL.of gq.ea, (by have := one q hqm; omega), fun l nl => kont _ _ (Same.upd_new nl) ⟨ls ++ [(l, sortS q.p.1)], by rw [e1, List.map_append]; rfl, by rw [List.map_append, e2, List.take_add_one, hqj, List.map_append]; rfl, by rw [List.length_append, el]; rfl, fun p hp => ?_⟩⟩
        have lD : l ≠ D := (ne_of_none eD nl).symm
        rcases List.mem_append.mp hp with z | z
        · obtain ⟨a1, a2⟩ := e3 p z
          exact ⟨by rw [upd_ne a2]; exact Same.upd_new nl _ _ a1, a2⟩
        · rw [List.mem_singleton.mp z]
          exact ⟨by rw [upd_ne lD, upd_same], lD⟩
      · rw [List.length_map, List.take_length] at e2
        rw [List.length_map] at el
        subst e1
        have lsH : ∀ ls : List (Addr × List Str), (∀ p ∈ ls, H2 p.1 = some (.lst (p.2.map V.str))) → LsH K H2 (ls.map Prod.fst) (ls.map Prod.snd) := fun ls => by
          induction ls with
          | nil => exact fun _ => .nil
          | cons p ls ih => exact fun h => .cons (h p (List.mem_cons_self ..)) (ih fun q hq => h q (List.mem_cons_of_mem _ hq))
        have zz : ∀ ls : List (Addr × List Str), (ls.map Prod.fst).zip (ls.map Prod.snd) = ls := fun ls => by
          induction ls with
          | nil => rfl
          | cons p ls ih => rw [List.map_cons, List.map_cons, List.zip_cons_cons, ih]
        have e3' : ∀ p ∈ ls, H2 p.1 = some (.lst (p.2.map V.str)) := fun p hp => (e3 p hp).1
        refine rSortL_I.mk D (ls.map Prod.fst) (ls.map Prod.snd) rfl (SqL.of (by rw [eD, List.map_map]; rfl)) (lsH ls e3') (by rw [List.length_map, el]; omega) fun l qs' nl pm so => ?_
        rw [zz] at pm
        have u1 : Same H2 (upd H2 l (.lst (qs'.map fun q => V.ref q.1))) := Same.upd_new nl
        refine k l qs' _ ((sG.trans s2).trans u1) ⟨upd_same, fun p hp => u1 _ _ (e3' p (pm.mem_iff.mp hp))⟩ ?_
        refine joined_all nd nE gi ?_ (List.pairwise_map.mpr so)
        refine (pm.map (·.2)).trans ?_
        rw [e2, List.map_map]
        exact .refl _
end
inductive spDeepN_I (vs : List V) (H : Hp) (Q : VK) : Prop
  | mk : ∀ (r : Addr) (prs : List PRow) (nm : Str), vs = [.ref r, .str nm] → RowsAt H r prs → prs.length ≤ 100 → (prs.map (·.2.1)).Nodup → nm ∈ (prs.map (·.2)).map (·.1) → (∀ H', Same H H' → Q (.int (depthOf (prs.map (·.2)) nm)) H') → spDeepN_I vs H Q
def spDeepN : Sp := fun vs H Q _ => spDeepN_I vs H Q
section
variable {P : Program} {w : World} {K : PySem.W.Frag} {mg : Str → Option Value} {base : Heap} {a : Adr}
theorem ok_deepN {fd : FuncData} (F : Fun K "_law_deep" "_law_deep" sl_deep a.f_l_deep fd) (T : Txt K mg a) : FnOk P w K mg base CX0 1 a.f_l_deep fd ["_law_rows_here", "_law_name"] spDeepN := by
  refine F.ok sc_l_deep (fun vs H Q E h => ?_) (fun cdv A outer s H vs Q E hr h => ?_)
  · obtain ⟨r, prs, nm, rfl, _⟩ := h; rfl
  · obtain ⟨r, prs, nm, rfl, hR, hl, nd, hm, k⟩ := h
    have hu := hu_of hr
    refine ⟨_, (pss_cons (ps_set (i := 2) sc_l_deep.nd rfl (Or.inl rfl) (pe_callTy (call_dict_rows rfl) rfl T.b_dict PyProof.Rows.boot_dict (pac (pv 0) pa_nil)))
        (pss_cons (ps_set (i := 3) sc_l_deep.nd rfl (Or.inl rfl) (pe_lstS (pas_cons (pv 1) pas_nil)))
        (pss_cons (ps_while PassesOwn.never (PW.pt (pw_and (pt_cmp (pc_din hu (pe_dget hu (pv 2) (pe_ix ix_list (pv 3) (pe_un un_neg pe_int) (fun _ _ => rfl)) (fun _ _ => rfl)) (pv 2))) (pw_and1 (pt_cmpR op_notIn_seq (pe_dget hu (pv 2) (pe_ix ix_list (pv 3) (pe_un un_neg pe_int) (fun _ _ => rfl)) (fun _ _ => rfl)) (pv 3) (by with_unfolding_all rfl))))) (pss_one (ps_expr (pe_bm PySem.F.plainAttrs_list PySem.F.slot_list_append PySem.F.type_list_append mt_append (pv 3) (pac (pe_dget hu (pv 2) (pe_ix ix_list (pv 3) (pe_un un_neg pe_int) (fun _ _ => rfl)) (fun _ _ => rfl)) pa_nil)))))
        (pss_one (ps_ret (pe_op op_sub (pe_callB call_len_seq rfl T.b_len PySem.boot_len (pac (pv 3) pa_nil)) pe_int)))))), ?_⟩
    obtain ⟨an, eu⟩ := up_some hm
    have hrl : (prs.map (·.2)).length = prs.length := List.length_map _
    refine ⟨_, rfl, r, prs, rfl, hR, nd, by omega, fun d hd => ?_⟩
    have s1 : Same H (upd H d (.dK (rowsK (prs.map (·.2))))) := Same.upd_new hd
    have e1 : (upd H d (.dK (rowsK (prs.map (·.2))))) d = some (.dK (rowsK (prs.map (·.2)))) := upd_same
    generalize upd H d (.dK (rowsK (prs.map (·.2)))) = H1 at s1 e1 ⊢
    refine ⟨_, rfl, (by show 1 ≤ sizeLine; decide), fun m hmn => ?_⟩
    refine ⟨fun mm σ H2 => ∃ (met : List Str) (ab : Str), mm = (prs.map (·.2)).length - met.length ∧ σ = [some (.ref r), some (.str nm), some (.ref d), some (.ref m)] ∧ Same H1 H2 ∧ H2 m = some (.lst (met.map V.str)) ∧ OnWay (prs.map (·.2)) nm met ab,
      ⟨_, [nm], an, rfl, rfl, Same.upd_new hmn, upd_same, OnWay.start eu⟩, ?_⟩
    rintro mm σ H2 ⟨met, ab, rfl, rfl, s2, hm2, ow⟩
    have hlen := ow.len
    have e2 := s2 _ _ e1
    have al := atI_lastD V.str met "" ow.ne
    have dg : DGet H2 d (.str (met.getLastD "")) (some (.str ab)) := by
      have := DGet.k (k := Sum.inr (met.getLastD "")) e2
      rw [val_rows, ow.last] at this
      exact this
    have fin : ¬ (ab ∈ (prs.map (·.2)).map (·.1) ∧ ¬ ab ∈ met) → Q (.int ((((met.map V.str).length : Nat) : Int) - 1)) H2 := fun h => by
      have e := ow.stop h
      rw [List.length_map, e]
      exact k H2 (s1.trans s2)
    refine ⟨_, rfl, _, rfl, _, rfl, m, _, _, _, rfl, rfl, SqL.of hm2, al, d, .str ab, rfl, dg, _, rfl, d, _, rfl, DGet.k (k := Sum.inr ab) e2, _, rfl, ?_⟩
    rw [val_rows]
    cases eb : up (prs.map (·.2)) ab with
    | none =>
      refine iteF ?_
      exact ⟨_, rfl, m, _, rfl, .inl (SqL.of hm2), _, _, rfl, rfl, fin fun z => up_none.mp eb z.1⟩
    | some b =>
      have hab : ab ∈ (prs.map (·.2)).map (·.1) := List.mem_map.mpr ⟨_, up_mem eb, rfl⟩
      refine iteT ⟨_, rfl, _, rfl, _, rfl, m, _, _, _, rfl, rfl, SqL.of hm2, al, d, .str ab, rfl, dg, _, rfl, m, _, rfl, .inl (SqL.of hm2), rfl, flat_strs _, _, rfl, ?_⟩
      rw [if_pos rfl, inV_strs]
      by_cases hmet : ab ∈ met
      · rw [decide_eq_true hmet]
        exact iteF ⟨_, rfl, m, _, rfl, .inl (SqL.of hm2), _, _, rfl, rfl, fin fun z => z.2 hmet⟩
      · rw [decide_eq_false hmet]
        have ow2 := ow.step eb hmet
        have hl2' := ow2.len
        rw [List.length_append, List.length_singleton] at hl2'
        refine iteT ⟨_, fun σ' H' q => q, _, rfl, .inl ⟨rfl, _, SqL.of hm2⟩, _, rfl, _, rfl, _, rfl, m, _, _, _, rfl, rfl, SqL.of hm2, al, d, .str ab, rfl, dg, m, _, _, rfl, rfl, hm2, (by rw [List.length_map]; exact small1000 (by omega)), ?_⟩
        refine ⟨(prs.map (·.2)).length - (met ++ [ab]).length, by rw [List.length_append, List.length_singleton]; omega, met ++ [ab], b, rfl, rfl, fun c o e => ?_, ?_, ow2⟩
        · rw [upd_ne (ne_of_none e hmn)]; exact s2 _ _ e
        · rw [upd_same, List.map_append]; rfl
end
theorem kitL2 {K : PySem.W.Frag} : PySem.W.kitAny K (.type "list") [.type "str", .type "list"] = some true := by
  have h1 : PySem.W.kitOne K (.type "list") (.type "str") = some false := by kernel_rfl
  have h2 : PySem.W.kitOne K (.type "list") (.type "list") = some true := kitLL
  unfold PySem.W.kitAny
  rw [h1]
  unfold PySem.W.kitAny
  rw [h2]
def spIsListG (K : PySem.W.Frag) : Sp := fun vs H Q _ => ∃ (f d : Addr) (xs : List V) (D : PyData), vs = [.ref f, .ref d] ∧ H f = some (.lst xs) ∧ RD K H (.ref f) D ∧ RD K H (.ref d) D ∧ SeqAt.shaped D = true ∧ (∀ x ∈ xs, (∃ y, x = .str y) ∨ ∃ b ys, x = .ref b ∧ H b = some (.lst ys)) ∧ xs.length ≤ 900 ∧ ∀ H', Same H H' → Q (.bl true) H'
section
variable {P : Program} {w : World} {K : PySem.W.Frag} {mg : Str → Option Value} {base : Heap} {a : Adr}
theorem ok_islistG {fd : FuncData} (F : Fun K "_law_is_list" "_law_is_list" sl_is_list a.f_l_is_list fd) (T : Txt K mg a) : FnOk P w K mg base CX0 1 a.f_l_is_list fd ["_law_found", "_law_due"] (spIsListG K) := by
  refine F.ok sc_l_is_list (fun vs H Q E h => ?_) (fun cdv A outer s H vs Q E hr h => ?_)
  · obtain ⟨x, d, xs, D, rfl, _⟩ := h; rfl
  · obtain ⟨f, d, xs, D, rfl, hf, rf, rd, hS, hx, hl, k⟩ := h
    have hu64 := hr.units
    refine ⟨_, (pss_cons (ps_if (PW.pt (pw_or (pt_not (pt_val (pe_callB call_isinst rfl T.b_isinstance PyProof.Rows.boot_isinstance (pac (pv 0) (pac (pe_bltn (v := .ty "list") rfl T.b_list PyProof.Rows.boot_list rfl) pa_nil))))) (pw_or1 (pt_cmpR (op_neD hu64) (pv 0) (pv 1) (nomark _))))) (pss_one (ps_ret pe_bl)) pss_nil)
        (pss_one (ps_ret (pe_callB (call_all rfl) rfl T.b_all PyProof.Rows.boot_all (pac (pe_comp (sc := defScope sl_is_list) (N := n_l_is_list) (fr := []) ⟨rfl, rfl, by decide +kernel, by decide +kernel, by decide +kernel, by decide +kernel, by decide +kernel⟩ rfl rfl rfl (pi_list (pv 0)) (fun _ _ _ _ => pts_nil) (fun _ _ _ _ => (pe_callB (call_isinstsK K) rfl T.b_isinstance PyProof.Rows.boot_isinstance (pac (pv 0) (pac (pe_tupS (pas_cons (pe_bltn (v := .ty "str") rfl T.b_str PyProof.Rows.boot_str rfl) (pas_cons (pe_bltn (v := .ty "list") rfl T.b_list PyProof.Rows.boot_list rfl) pas_nil))) pa_nil))))) pa_nil))))), ?_⟩
    refine ⟨_, rfl, _, _, _, _, _, rfl, rfl, TyOf.lst hf, kitLL, _, rfl, iteF ?_⟩
    refine ⟨_, rfl, _, rfl, ne_refl rf rd hS ⟨_, rfl, iteF ?_⟩⟩
    refine ⟨_, rfl, f, rfl, ⟨_, SqL.of hf⟩, comp_listG (K := K) (xs := xs) (fun i ys => ys = List.replicate i (V.bl true)) (Nat.le_of_lt (small1000 (by omega))) (SqL.of hf) rfl (fun i ys e => by rw [e, List.length_replicate]) ?_ ?_⟩
    · rintro i v ys H3 Q' hv rfl s3 q
      refine ⟨_, rfl, (by show 2 ≤ sizeLine; decide), fun p hp => ?_⟩
      rcases hx v (List.mem_of_getElem? hv) with ⟨y, rfl⟩ | ⟨b, zs, rfl, hb⟩
      · refine ⟨_, .type "str", p, ["str", "list"], true, rfl, upd_same, .inl ⟨rfl, y, rfl⟩, kitS2, ?_⟩
        exact q _ _ (by rw [List.replicate_succ']) (Same.upd_new hp)
      · refine ⟨_, .type "list", p, ["str", "list"], true, rfl, upd_same, .inr ⟨rfl, b, zs, rfl, ?_⟩, kitL2, ?_⟩
        · exact Same.upd_new hp _ _ (s3 _ _ hb)
        · exact q _ _ (by rw [List.replicate_succ']) (Same.upd_new hp)
    · rintro D0 ys H2 hD rfl s2 hD2
      refine ⟨D0, List.replicate xs.length true, rfl, SqL.of (by rw [List.map_replicate]; exact hD2), ?_⟩
      rw [show (List.replicate xs.length true).all id = true by simp]
      exact k H2 s2
end
theorem lay_lists : ∀ {ts : List (List Str)}, (∀ t ∈ ts, ∀ x ∈ t, Asc x) → PyData.canLayAll0 (ts.map fun t => PyData.list (t.map PyData.str)) = true ∧ PyData.depthAll (ts.map fun t => PyData.list (t.map PyData.str)) ≤ 1
  | [], _ => ⟨rfl, Nat.zero_le _⟩
  | t :: ts, h => by
    obtain ⟨a1, a2⟩ := lay_lists (ts := ts) fun z hz => h z (List.mem_cons_of_mem _ hz)
    obtain ⟨b1, b2⟩ := lay_strs (xs := t) (h t List.mem_cons_self)
    rw [List.map_cons]
    refine ⟨?_, ?_⟩
    · show (PyData.canLayAll0 (t.map PyData.str) && PyData.canLayAll0 (ts.map fun t => PyData.list (t.map PyData.str))) = true
      rw [b1, a1]; rfl
    · show max (PyData.depthAll (t.map PyData.str) + 1) (PyData.depthAll (ts.map fun t => PyData.list (t.map PyData.str))) ≤ 1
      omega
theorem rds_lists {K : PySem.W.Frag} {H : Hp} : ∀ {ls : List (Addr × List Str)}, (∀ p ∈ ls, H p.1 = some (.lst (p.2.map V.str))) → RDs K H (ls.map fun p => V.ref p.1) ((ls.map (·.2)).map fun t => PyData.list (t.map PyData.str))
  | [], _ => .nil
  | p :: ls, h => .cons (rd_strs (SqL.of (h p List.mem_cons_self))) (rds_lists fun q hq => h q (List.mem_cons_of_mem _ hq))
inductive spStand_I (a : Adr) (vs : List V) (H : Hp) (Q : VK) : Prop
  | mk : ∀ (x r : Addr) (d : Int) (rows : Rows) (n : Nat) (prs : List PRow), vs = [.ref x, .ref r, .int d] → THs a H x rows n → RowsAt H r prs → RwOk prs → rows.Perm (prs.map (·.2)) → 1 ≤ prs.length → prs.length ≤ 64 → (∀ H', Same H H' → Q (.bl true) H') → spStand_I a vs H Q
def spStand (a : Adr) : Sp := fun vs H Q _ => spStand_I a vs H Q
theorem thr_lay {ts : List (List Str)} (h : ∀ t ∈ ts, ∀ x ∈ t, Asc x) : SeqAt.shaped (.list (ts.map fun t => PyData.list (t.map PyData.str))) = true := by
  obtain ⟨a1, a2⟩ := lay_lists h
  unfold SeqAt.shaped
  rw [Bool.and_eq_true]
  exact ⟨by simp [PyData.canLay0, a1], decide_eq_true (by simp only [PyData.depth]; omega)⟩
theorem strs_lay {xs : List Str} (h : ∀ x ∈ xs, Asc x) : SeqAt.shaped (.list (xs.map PyData.str)) = true := by
  obtain ⟨a1, a2⟩ := lay_strs h
  unfold SeqAt.shaped
  rw [Bool.and_eq_true]
  exact ⟨by simp [PyData.canLay0, a1], decide_eq_true (by simp only [PyData.depth]; omega)⟩
section
variable {P : Program} {w : World} {K : PySem.W.Frag} {mg : Str → Option Value} {base : Heap} {a : Adr}
theorem ok_stand {fd : FuncData} (F : Fun K "_law_stands" "_law_stands" sl_stands a.f_l_stands fd) (T : Txt K mg a) (FF : Funs K a) : FnOk P w K mg base CX0 4 a.f_l_stands fd ["_law_threads", "_law_rows_here", "_law_draw"] (spStand a) := by
  obtain ⟨fd1, F_l_joined, b_l_joined⟩ := FF.F_l_joined
  have G_l_joined : FnOk P w K mg base CX0 1 a.f_l_joined fd1 ["_law_rows_here"] spJoin := ok_join F_l_joined T FF
  obtain ⟨fd2, F_l_is_list, b_l_is_list⟩ := FF.F_l_is_list
  have G_l_is_list : FnOk P w K mg base CX0 1 a.f_l_is_list fd2 ["_law_found", "_law_due"] (spIsListG K) := ok_islistG F_l_is_list T
  obtain ⟨fd3, F_l_deep, b_l_deep⟩ := FF.F_l_deep
  have G_l_deep : FnOk P w K mg base CX0 1 a.f_l_deep fd3 ["_law_rows_here", "_law_name"] spDeepN := ok_deepN F_l_deep T
  obtain ⟨fd4, F4, b_Threads_threads⟩ := FF.F_Threads_threads
  have G_Threads_threads : FnOk P w K mg base CX0 3 a.f_Threads_threads fd4 ["self"] (spThreads a) := ok_threads F4 T FF
  obtain ⟨fd5, F5, b_Threads_thread⟩ := FF.F_Threads_thread
  have G_Threads_thread : FnOk P w K mg base CX0 2 a.f_Threads_thread fd5 ["self", "name"] (spThread a) := ok_thread F5 T FF
  obtain ⟨fd6, F6, b_Threads_depth⟩ := FF.F_Threads_depth
  have G_Threads_depth : FnOk P w K mg base CX0 2 a.f_Threads_depth fd6 ["self", "name"] (spDepth a) := ok_depth F6 T FF
  obtain ⟨fd7, F7, b_Threads_answers_to⟩ := FF.F_Threads_answers_to
  have G_Threads_answers_to : FnOk P w K mg base CX0 1 a.f_Threads_answers_to fd7 ["self", "name"] (spAnsTo a) := ok_ansto F7 T
  refine F.ok sc_l_stands (fun vs H Q E h => ?_) (fun cdv A outer s H vs Q E hr h => ?_)
  · obtain ⟨x, r, d, rows, n, prs, rfl, _⟩ := h; rfl
  · obtain ⟨x, r, d, rows, n, prs, rfl, th, ra, ok, pm, hp1, hp2, k⟩ := h
    have hr1 : Room 1 _ := hr.mono (by decide)
    have hr2 : Room 2 _ := hr.mono (by decide)
    have hr3 : Room 3 _ := hr
    have hu64 := hr.units
    refine ⟨_, (pss_cons (ps_set (i := 3) sc_l_stands.nd rfl (Or.inl rfl) (pe_call G_l_joined hr1 rfl T.m_l_joined F_l_joined.kp b_l_joined .nil pass0 (pac (pv 1) pa_nil)))
        (pss_cons (ps_set (i := 4) sc_l_stands.nd rfl (Or.inr rfl) (pe_ix ix_tup (pe_ix ix_list (pv 1) (pe_op op_mod (pv 2) (pe_callB call_len_seq rfl T.b_len PySem.boot_len (pac (pv 1) pa_nil))) (fun _ _ => rfl)) pe_int (fun _ _ => rfl)))
        (pss_cons (ps_set (i := 5) sc_l_stands.nd rfl (Or.inl rfl) (pe_ix ix_list (pe_comp (sc := defScope sl_stands) (N := n_l_stands) (fr := [(4, "_law_name")]) ⟨rfl, rfl, by decide +kernel, by decide +kernel, by decide +kernel, by decide +kernel, by decide +kernel⟩ rfl rfl rfl (pi_list (pv 3)) (fun _ _ _ _ => pts_one (pt_cmpR (op_in_seqK K) (pv 1) (pv 0) (by with_unfolding_all rfl))) (fun _ _ _ _ => (pv 0))) pe_int (fun _ _ => rfl)))
        (pss_cons (ps_if (PW.pt (pw_and (pt_cmpR op_eq (pe_op op_mod (pe_op op_fdiv (pv 2) pe_int) pe_int) pe_int (nomark _)) (pw_and1 (pt_not (pt_val (pe_call G_l_is_list hr1 rfl T.m_l_is_list F_l_is_list.kp b_l_is_list .nil pass0 (pac (pe_meth0 (pv 0) T.c_Threads T.M_Threads_threads G_Threads_threads hr3 b_Threads_threads .nil pass0) (pac (pv 3) pa_nil)))))))) (pss_one (ps_ret pe_bl)) pss_nil)
        (pss_cons (ps_if (PW.pt (pw_or (pt_not (pt_val (pe_call G_l_is_list hr1 rfl T.m_l_is_list F_l_is_list.kp b_l_is_list .nil pass0 (pac (pe_meth (pv 0) T.c_Threads T.M_Threads_thread G_Threads_thread hr2 b_Threads_thread .nil pass0 (pac (pv 4) pa_nil)) (pac (pv 5) pa_nil))))) (pw_or1 (pt_cmpR op_ne (pe_meth (pv 0) T.c_Threads T.M_Threads_depth G_Threads_depth hr2 b_Threads_depth .nil pass0 (pac (pv 4) pa_nil)) (pe_call G_l_deep hr1 rfl T.m_l_deep F_l_deep.kp b_l_deep .nil pass0 (pac (pv 1) (pac (pv 4) pa_nil))) (nomark _))))) (pss_one (ps_ret pe_bl)) pss_nil)
        (pss_cons (ps_set (i := 6) sc_l_stands.nd rfl (Or.inl rfl) (pe_callB call_sortedB rfl T.b_sorted PyProof.Rows.boot_sorted (pac (pe_comp (sc := defScope sl_stands) (N := n_l_stands) (fr := [(4, "_law_name")]) ⟨rfl, rfl, by decide +kernel, by decide +kernel, by decide +kernel, by decide +kernel, by decide +kernel⟩ rfl rfl rfl (pi_list (pv 1)) (fun _ _ _ _ => pts_one (pt_cmpR op_eq (pe_ix (ix_tupK K) (pv 0) pe_int (fun _ _ => rfl)) (pv 1) (nomark _))) (fun _ _ _ _ => (pe_ix (ix_tupK K) (pv 0) pe_int (fun _ _ => rfl)))) pa_nil)))
        (pss_one (ps_ret (pe_and (pe_call G_l_is_list hr1 rfl T.m_l_is_list F_l_is_list.kp b_l_is_list .nil pass0 (pac (pe_meth (pv 0) T.c_Threads T.M_Threads_answers_to G_Threads_answers_to hr1 b_Threads_answers_to .nil pass0 (pac (pv 4) pa_nil)) (pac (pv 6) pa_nil))) (pe_one (pe_call G_l_is_list hr1 rfl T.m_l_is_list F_l_is_list.kp b_l_is_list .nil pass0 (pac (pe_meth0 (pv 0) T.c_Threads T.M_Threads_threads G_Threads_threads hr3 b_Threads_threads .nil pass0) (pac (pv 3) pa_nil))))))))))))), ?_⟩
    have eF : prs.map (·.2.1) = (prs.map (·.2)).map (·.1) := by rw [List.map_map]; rfl
    have nd : ((prs.map (·.2)).map (·.1)).Nodup := by rw [← eF]; exact ok.nd
    have nE : NoE (prs.map (·.2)) := fun n hn => by
      obtain ⟨x, hx, rfl⟩ := List.mem_map.mp hn
      obtain ⟨q, hq, rfl⟩ := List.mem_map.mp hx
      exact word_ne (ok.w q hq).1
    have nER : NoE rows := fun n hn => nE n ((pm.map (·.1)).mem_iff.mp hn)
    have nasc : ∀ y ∈ (prs.map (·.2)).map (·.1), Asc y := fun y hy => by
      rw [← eF] at hy
      obtain ⟨q, hq, rfl⟩ := List.mem_map.mp hy
      exact (ok.w q hq).1.asc
    have sn : sortS (rows.map (·.1)) = sortS ((prs.map (·.2)).map (·.1)) := sortS_congr (pm.map (·.1))
    have tasc : ∀ t ∈ thrAll (prs.map (·.2)) (sortS ((prs.map (·.2)).map (·.1))), ∀ y ∈ t, Asc y := fun t ht y hy => by
      obtain ⟨m, _, e⟩ := thrAll_mem _ ht
      rw [e] at hy
      exact nasc y (mem_thr.mp hy).1
    refine ⟨_, rfl, r, prs, rfl, ra, ok, hp2, fun dl ls H1 s1 tl el => ?_⟩
    dsimp only [gName]
    have ra1 := ra.same s1
    have lp : (0 : Int) < (((prs.map fun q => V.ref q.1).length : Nat) : Int) := by rw [List.length_map]; omega
    refine ⟨_, rfl, _, rfl, _, rfl, r, _, rfl, .inl (SqL.of ra1.1), _, _, rfl, rfl, lp, ?_⟩
    have y0 := Int.emod_nonneg d (b := (((prs.map fun q => V.ref q.1).length : Nat) : Int)) (by omega)
    have y1 := Int.emod_lt_of_pos d lp
    generalize d % (((prs.map fun q => V.ref q.1).length : Nat) : Int) = yy at y0 y1 ⊢
    obtain ⟨j, rfl⟩ := Int.eq_ofNat_of_zero_le y0
    rw [List.length_map] at y1
    obtain ⟨⟨tr, nm, an⟩, hrw⟩ : ∃ q, prs[j]? = some q := ⟨_, List.getElem?_eq_getElem (by omega)⟩
    have hrm : (tr, nm, an) ∈ prs := List.mem_of_getElem? hrw
    have hnm : nm ∈ (prs.map (·.2)).map (·.1) := by rw [← eF]; exact List.mem_map.mpr ⟨_, hrm, rfl⟩
    have hnR : nm ∈ rows.map (·.1) := (pm.map (·.1)).mem_iff.mpr hnm
    have nmne : nm ≠ "" := nE nm hnm
    refine ⟨r, _, _, _, rfl, rfl, SqL.of ra1.1, atI_nat (by rw [List.getElem?_map, hrw]; rfl), tr, _, _, _, rfl, rfl, SqT.of (ra1.2 _ hrm), rfl, ?_⟩
    dsimp only [gName]
    have lsl : ls.length ≤ 64 := by
      have := congrArg List.length el
      rw [List.length_map] at this
      have h2 := thrAll_len (rows := prs.map (·.2)) (sortS ((prs.map (·.2)).map (·.1)))
      rw [sortS_len, List.length_map, List.length_map] at h2
      omega
    have tk : sortS ((prs.map (·.2)).map (·.1)) = (sortS ((prs.map (·.2)).map (·.1))).take (sortS ((prs.map (·.2)).map (·.1))).length := (List.take_length).symm
    have hin : thrOf (prs.map (·.2)) nm ∈ ls.map (·.2) := by
      rw [el, tk]
      refine thrAll_has _ _ ?_
      rw [← tk]
      exact sortS_mem.mpr hnm
    have fone : ∀ p ∈ ls, nm ∈ p.2 → p.2 = thrOf (prs.map (·.2)) nm := fun p hp h => by
      have : p.2 ∈ thrAll (prs.map (·.2)) (sortS ((prs.map (·.2)).map (·.1))) := by rw [← el]; exact List.mem_map_of_mem hp
      obtain ⟨m, hm, e⟩ := thrAll_mem _ this
      rw [e] at h ⊢
      exact (thr_same nd nE (nE m (sortS_mem.mp hm)) (mem_thr.mp h).2).symm
    refine ⟨_, rfl, dl, rfl, ⟨_, SqL.of tl.1⟩, comp_listFM (K := K) (xs := ls) (fun p => V.ref p.1) (fun p => decide (nm ∈ p.2)) (fun p => V.ref p.1) (Nat.le_of_lt (small1000 (by omega))) (SqL.of tl.1) (fun p H3 Q' hp s3 kk => ?_) (fun p H3 Q' hp s3 _ kk => ⟨_, rfl, kk⟩) fun D nD => ?_⟩
    · refine ⟨_, rfl, _, rfl, p.1, _, rfl, .inl (SqL.of (s3 _ _ (tl.2 p hp))), rfl, flat_strs _, _, rfl, ?_⟩
      rw [show (if false = true then !inV (V.str nm) (p.2.map V.str) else inV (V.str nm) (p.2.map V.str)) = decide (nm ∈ p.2) by rw [inV_strs]; rfl]
      exact kk
    obtain ⟨p0, rest, hf⟩ : ∃ p0 rest, (ls.filter fun p => decide (nm ∈ p.2)) = p0 :: rest := by
      cases e : ls.filter fun p => decide (nm ∈ p.2) with
      | cons p r => exact ⟨p, r, rfl⟩
      | nil =>
        obtain ⟨p, hp, e2⟩ := List.mem_map.mp hin
        have : p ∈ ls.filter fun p => decide (nm ∈ p.2) := List.mem_filter.mpr ⟨hp, decide_eq_true (by rw [e2]; exact mem_thr.mpr ⟨hnm, .refl⟩)⟩
        rw [e] at this; cases this
    have hp0 := List.mem_filter.mp (show p0 ∈ ls.filter fun p => decide (nm ∈ p.2) by rw [hf]; exact List.mem_cons_self ..)
    have e0 : p0.2 = thrOf (prs.map (·.2)) nm := fone p0 hp0.1 (of_decide_eq_true hp0.2)
    have u1 : Same H1 (upd H1 D (.lst ((ls.filter fun p => decide (nm ∈ p.2)).map fun p => V.ref p.1))) := Same.upd_new nD
    have eD : (upd H1 D (.lst ((ls.filter fun p => decide (nm ∈ p.2)).map fun p => V.ref p.1))) D = some (.lst (V.ref p0.1 :: rest.map fun p => V.ref p.1)) := by rw [upd_same, hf]; rfl
    generalize upd H1 D (.lst ((ls.filter fun p => decide (nm ∈ p.2)).map fun p => V.ref p.1)) = H2 at u1 eD ⊢
    refine ⟨D, _, _, _, rfl, rfl, SqL.of eD, atI_nat (j := 0) rfl, ?_⟩
    dsimp only [gName]
    have s2 := s1.trans u1
    have tl2 : ThrAt H2 dl ls := ⟨u1 _ _ tl.1, fun p hp => u1 _ _ (tl.2 p hp)⟩
    have ep0 : H2 p0.1 = some (.lst ((thrOf (prs.map (·.2)) nm).map V.str)) := by rw [u1 _ _ (tl.2 p0 hp0.1), e0]
    have tlen : (thrOf (prs.map (·.2)) nm).length ≤ 64 := by have := thr_len (rows := prs.map (·.2)) (n := nm); rw [List.length_map] at this; omega
    have thS : ∀ {G}, Same H G → THs a G x rows n := fun s => th.kp2 s.kp2
    have askT : ∀ {G : Hp}, Same H2 G → ∀ {R : VK}, (∀ G', Same G G' → R (.bl true) G') → ∀ (l : Addr) (ls' : List (Addr × List Str)), ls'.map (·.2) = thrAll rows (sortS (rows.map (·.1))) → ThrAt G l ls' → spIsListG K [.ref l, .ref dl] G R E0 := fun {G} sg R kR l ls' e1 t1 => by
      have e2 : ls'.map (·.2) = ls.map (·.2) := by rw [e1, el, sn, thrAll_perm pm nd]
      refine ⟨l, dl, _, .list ((ls.map (·.2)).map fun t => PyData.list (t.map PyData.str)), rfl, t1.1, .lst (SqL.of t1.1) (by rw [← e2]; exact rds_lists t1.2), .lst (SqL.of (sg _ _ tl2.1)) (rds_lists fun p hp => sg _ _ (tl2.2 p hp)), thr_lay (by rw [el]; exact tasc), fun y hy => ?_, ?_, kR⟩
      · obtain ⟨p, hp, rfl⟩ := List.mem_map.mp hy
        exact .inr ⟨p.1, _, rfl, t1.2 p hp⟩
      · have := congrArg List.length e2
        rw [List.length_map, List.length_map] at this
        rw [List.length_map]; omega
    refine seq_open (t := tIfS _ _ _) fun N hN => ?_
    have fin : ∀ G, Same H2 G → N [some (.ref x), some (.ref r), some (.int d), some (.ref dl), some (.str nm), some (.ref p0.1), none] G := fun G sg => by
      subst hN
      obtain ⟨dx, L, R, kr, tO, _, _⟩ := thS (s2.trans sg)
      have rnd : (rows.map (·.1)).Nodup := (pm.map (·.1)).nodup_iff.mpr nd
      refine ⟨_, rfl, x, dx, _, rfl, tO.obj, rfl, _, rfl, .mk x rows n nm rfl (thS (s2.trans sg)) nER hnR fun l1 G1 nl1 g1 el1 => ⟨_, rfl, ?_⟩⟩
      rw [thrOf_perm pm nd] at el1
      have tas : ∀ y ∈ thrOf (prs.map (·.2)) nm, Asc y := fun y hy => nasc y (mem_thr.mp hy).1
      refine ⟨l1, p0.1, _, .list ((thrOf (prs.map (·.2)) nm).map PyData.str), rfl, el1, rd_strsL el1, rd_strsL (g1 _ _ (sg _ _ ep0)), strs_lay tas, (fun y hy => by obtain ⟨z, _, rfl⟩ := List.mem_map.mp hy; exact .inl ⟨z, rfl⟩), (by rw [List.length_map]; omega), fun G2 g2 => ⟨_, rfl, iteF ?_⟩⟩
      have sg2 := (sg.trans g1).trans g2
      obtain ⟨dx2, L2', R2, kr2, tO2, _, _⟩ := thS (s2.trans sg2)
      refine ⟨_, rfl, x, dx2, _, rfl, tO2.obj, rfl, _, rfl, .mk x rows n nm rfl (thS (s2.trans sg2)) hnR fun G3 g3 => ⟨_, rfl, _, rfl, .mk r prs nm rfl (ra.same (s2.trans (sg2.trans g3))) (by omega) ok.nd hnm fun G4 g4 => ?_⟩⟩
      rw [depth_perm pm nd]
      refine ⟨rfl, _, rfl, ?_⟩
      rw [decide_eq_true (rfl : V.int (depthOf (prs.map (·.2)) nm) = V.int (depthOf (prs.map (·.2)) nm))]
      refine iteF ?_
      dsimp only [tNext]
      have sg4 := (sg2.trans g3).trans g4
      have ra4 := ra.same (s2.trans sg4)
      refine ⟨_, rfl, r, rfl, ⟨_, SqL.of ra4.1⟩, comp_listFM (K := K) (xs := prs) (fun q => V.ref q.1) (fun q => decide (q.2.2 = nm)) (fun q => V.str q.2.1) (Nat.le_of_lt (small1000 (by omega))) (SqL.of ra4.1) (fun q H3 Q' hq s3 kk => ?_) (fun q H3 Q' hq s3 _ kk => ⟨_, rfl, q.1, _, _, _, rfl, rfl, SqT.of (s3 _ _ (ra4.2 q hq)), rfl, kk⟩) fun D2 nD2 => ?_⟩
      · refine ⟨_, rfl, q.1, _, _, _, rfl, rfl, SqT.of (s3 _ _ (ra4.2 q hq)), rfl, _, rfl, rfl, _, rfl, ?_⟩
        rw [dec_str]
        exact kk
      have u2 : Same G4 (upd G4 D2 (.lst ((prs.filter fun q => decide (q.2.2 = nm)).map fun q => V.str q.2.1))) := Same.upd_new nD2
      have eD2 : (upd G4 D2 (.lst ((prs.filter fun q => decide (q.2.2 = nm)).map fun q => V.str q.2.1))) D2 = some (.lst ((reps (prs.map (·.2)) nm).map V.str)) := by rw [upd_same, reps_prs]
      generalize upd G4 D2 (.lst ((prs.filter fun q => decide (q.2.2 = nm)).map fun q => V.str q.2.1)) = G5 at u2 eD2 ⊢
      have rl : (reps (prs.map (·.2)) nm).length ≤ 64 := by
        unfold reps
        rw [List.length_map]
        refine Nat.le_trans (List.length_filter_le _ _) ?_
        rw [List.length_map]; exact hp2
      refine ⟨D2, _, rfl, SqL.of eD2, by omega, fun l5 nl5 => ?_⟩
      have u3 : Same G5 (upd G5 l5 (.lst ((sortS (reps (prs.map (·.2)) nm)).map V.str))) := Same.upd_new nl5
      have el5 : (upd G5 l5 (.lst ((sortS (reps (prs.map (·.2)) nm)).map V.str))) l5 = some (.lst ((sortS (reps (prs.map (·.2)) nm)).map V.str)) := upd_same
      generalize upd G5 l5 (.lst ((sortS (reps (prs.map (·.2)) nm)).map V.str)) = G6 at u3 el5 ⊢
      dsimp only [gName]
      have sg6 := (sg4.trans u2).trans u3
      obtain ⟨dx6, L6, R6, kr6, tO6, _, _⟩ := thS (s2.trans sg6)
      refine ⟨_, rfl, x, dx6, _, rfl, tO6.obj, rfl, _, rfl, .mk x rows n nm rfl (thS (s2.trans sg6)) nmne fun l7 G7 nl7 g7 el7 => ⟨_, rfl, ?_⟩⟩
      rw [show sortS (reps rows nm) = sortS (reps (prs.map (·.2)) nm) from sortS_congr (reps_perm pm nm)] at el7
      have ras : ∀ y ∈ sortS (reps (prs.map (·.2)) nm), Asc y := fun y hy => nasc y (reps_sub (sortS_mem.mp hy))
      refine ⟨l7, l5, _, .list ((sortS (reps (prs.map (·.2)) nm)).map PyData.str), rfl, el7, rd_strsL el7, rd_strsL (g7 _ _ el5), strs_lay ras, (fun y hy => by obtain ⟨z, _, rfl⟩ := List.mem_map.mp hy; exact .inl ⟨z, rfl⟩), (by rw [List.length_map, sortS_len]; omega), fun G8 g8 => ⟨_, rfl, iteT ?_⟩⟩
      have sg8 := (sg6.trans g7).trans g8
      obtain ⟨dx8, L8, R8, kr8, tO8, _, _⟩ := thS (s2.trans sg8)
      refine ⟨_, rfl, x, dx8, _, rfl, tO8.obj, rfl, .mk x rows n rfl (thS (s2.trans sg8)) nER fun l9 G9 ls9 nl9 g9 _ e9 t9 => ⟨_, rfl, ?_⟩⟩
      exact askT (sg8.trans g9) (fun G10 g10 => k G10 (s2.trans ((sg8.trans g9).trans g10))) l9 ls9 e9 t9
    refine ⟨_, rfl, _, _, rfl, rfl, ⟨by decide, by decide⟩, _, _, rfl, rfl, (by show (0 : Int) < 2; decide), rfl, _, rfl, ite2 (fun _ => ?_) (fun _ => fin H2 (Same.refl _))⟩
    obtain ⟨dx, L, R, kr, tO, _, _⟩ := thS s2
    refine ⟨_, rfl, x, dx, _, rfl, tO.obj, rfl, .mk x rows n rfl (thS s2) nER fun l9 G9 ls9 nl9 g9 _ e9 t9 => ⟨_, rfl, ?_⟩⟩
    exact askT g9 (fun G10 g10 => ⟨_, rfl, iteF (fin G10 (g9.trans g10))⟩) l9 ls9 e9 t9
end
section
variable {P : Program} {w : World} {K : PySem.W.Frag} {mg : Str → Option Value} {base : Heap} {a : Adr}
theorem ok_law {fd : FuncData} (F : Fun K "law" "law" slaw a.f_law fd) (T : Txt K mg a) (FF : Funs K a) : FnOk P w K mg base CX0 60 a.f_law fd ["_law_script"] (spLaw K) := by
  obtain ⟨fd1, F_l_draws, b_l_draws⟩ := FF.F_l_draws
  have G_l_draws : FnOk P w K mg base CX0 1 a.f_l_draws fd1 ["_law_script", "_law_many"] (spDraws K) := ok_draws F_l_draws T
  obtain ⟨fd2, F_l_rows, b_l_rows⟩ := FF.F_l_rows
  have G_l_rows : FnOk P w K mg base CX0 2 a.f_l_rows fd2 ["_law_draws_here", "_law_many"] spLRows := ok_lrows F_l_rows T FF
  obtain ⟨fd3, F_l_order, b_l_order⟩ := FF.F_l_order
  have G_l_order : FnOk P w K mg base CX0 1 a.f_l_order fd3 ["_law_rows_here", "_law_draw"] spOrder := ok_order F_l_order T
  obtain ⟨fd4, F_l_stands, b_l_stands⟩ := FF.F_l_stands
  have G_l_stands : FnOk P w K mg base CX0 4 a.f_l_stands fd4 ["_law_threads", "_law_rows_here", "_law_draw"] (spStand a) := ok_stand F_l_stands T FF
  obtain ⟨fdI, F_init, b_Threads_init⟩ := FF.F_Threads_init
  have G_Threads_init : FnOk P w K mg base CX0 1 a.f_Threads_init fdI ["self"] (spTInit a) := ok_tinit F_init T
  obtain ⟨fdA, F_add, b_Threads_add, _⟩ := FF.F_Threads_add
  have G_Threads_add : FnOk P w K mg base CX0 2 a.f_Threads_add fdA ["self", "name", "answers"] (spAdd a) := ok_add F_add T FF
  obtain ⟨fdO, F_out, b_Threads_take_out⟩ := FF.F_Threads_take_out
  have G_Threads_take_out : FnOk P w K mg base CX0 2 a.f_Threads_take_out fdO ["self", "name"] (spTake a) := ok_take F_out T FF
  refine F.ok sc_law (fun vs H Q E h => ?_) (fun cdv A outer s H vs Q E hr h => ?_)
  · obtain ⟨q, ns, rfl, _⟩ := h; rfl
  · obtain ⟨q, ns, rfl, hS, hlen, kq⟩ := h
    have hr1 : Room 1 _ := hr.mono (by decide)
    have hr2 : Room 2 _ := hr.mono (by decide)
    have hr4 : Room 4 _ := hr.mono (by decide)
    have hu70 : (A.deeper (PyProof.Rows.envOfC "law" (defScope slaw) s.heap.objs.size a.f_law cdv)).units + 70 < cLine := by have := hr.un; omega
    refine ⟨_, (pss_cons (ps_set (i := 1) sc_law.nd rfl (Or.inl rfl) (pe_call G_l_draws hr1 rfl T.m_l_draws F_l_draws.kp b_l_draws .nil pass0 (pac (pv 0) (pac pe_int pa_nil))))
        (pss_cons (ps_set (i := 2) sc_law.nd rfl (Or.inl rfl) (pe_op op_add pe_int (pe_op op_mod (pe_ix ix_list (pv 1) pe_int (fun _ _ => rfl)) pe_int)))
        (pss_cons (ps_if (pt_cmpR op_eq (pe_op op_mod (pe_ix ix_list (pv 1) pe_int (fun _ _ => rfl)) pe_int) pe_int (nomark _)) (pss_one (ps_set (i := 2) sc_law.nd rfl (Or.inl rfl) (pe_op op_add pe_int (pe_op op_mod (pe_ix ix_list (pv 1) pe_int (fun _ _ => rfl)) pe_int)))) pss_nil)
        (pss_cons (ps_set (i := 3) sc_law.nd rfl (Or.inl rfl) (pe_call G_l_rows hr2 rfl T.m_l_rows F_l_rows.kp b_l_rows .nil pass0 (pac (pv 1) (pac (pv 2) pa_nil))))
        (pss_cons (ps_set (i := 4) sc_law.nd rfl (Or.inl rfl) (pe_make0 T.k_Threads G_Threads_init hr2 rfl T.mc_Threads b_Threads_init .nil pass0))
        (pss_cons (ps_for PassesOwn.never rfl (pi_list (pe_call G_l_order hr1 rfl T.m_l_order F_l_order.kp b_l_order .nil pass0 (pac (pv 3) (pac (pe_ix ix_list (pv 1) pe_int (fun _ _ => rfl)) pa_nil)))) (pg_tup rfl (pgs_cons (pg_name (i := 5) sc_law.nd rfl (Or.inl rfl)) (pgs_cons (pg_name (i := 6) sc_law.nd rfl (Or.inl rfl)) pgs_nil))) (pss_one (ps_expr (pe_meth (pv 4) T.c_Threads T.M_Threads_add G_Threads_add hr2 b_Threads_add .nil pass0 (pac (pv 5) (pac (pv 6) pa_nil))))))
        (pss_cons (ps_if (pt_not (pt_val (pe_call G_l_stands hr4 rfl T.m_l_stands F_l_stands.kp b_l_stands .nil pass0 (pac (pv 4) (pac (pv 3) (pac (pe_ix ix_list (pv 1) pe_int (fun _ _ => rfl)) pa_nil)))))) (pss_one (ps_ret pe_bl)) pss_nil)
        (pss_cons (ps_set (i := 7) sc_law.nd rfl (Or.inl rfl) (pe_ix ix_list (pv 3) pe_int (fun _ _ => rfl)))
        (pss_cons (ps_for PassesOwn.never rfl (pi_range1 rfl T.b_range (pac (pe_op op_add pe_int (pe_op op_mod (pe_ix ix_list (pv 1) pe_int (fun _ _ => rfl)) pe_int)) pa_nil)) (pg_name (i := 8) sc_law.nd rfl (Or.inl rfl)) (pss_cons (ps_set (i := 7) sc_law.nd rfl (Or.inl rfl) (pe_ix ix_list (pv 3) (pe_op op_mod (pe_ix ix_list (pv 1) (pe_op op_add pe_int (pv 8)) (fun _ _ => rfl)) (pe_callB call_len_seq rfl T.b_len PySem.boot_len (pac (pv 3) pa_nil))) (fun _ _ => rfl)))
        (pss_cons (ps_expr (pe_bm PySem.F.plainAttrs_list PySem.F.slot_list_remove PySem.F.type_list_remove (mt_remove hu70) (pv 3) (pac (pv 7) pa_nil)))
        (pss_cons (ps_expr (pe_meth (pv 4) T.c_Threads T.M_Threads_take_out G_Threads_take_out hr2 b_Threads_take_out .nil pass0 (pac (pe_ix ix_tup (pv 7) pe_int (fun _ _ => rfl)) pa_nil)))
        (pss_one (ps_if (pt_not (pt_val (pe_call G_l_stands hr4 rfl T.m_l_stands F_l_stands.kp b_l_stands .nil pass0 (pac (pv 4) (pac (pv 3) (pac (pe_ix ix_list (pv 1) (pe_op op_add pe_int (pv 8)) (fun _ _ => rfl)) pa_nil)))))) (pss_one (ps_ret pe_bl)) pss_nil))))))
        (pss_cons (ps_set (i := 9) sc_law.nd rfl (Or.inl rfl) (pe_ix ix_tup (pe_ix ix_list (pv 3) (pe_op op_mod (pe_ix ix_list (pv 1) pe_int (fun _ _ => rfl)) (pe_callB call_len_seq rfl T.b_len PySem.boot_len (pac (pv 3) pa_nil))) (fun _ _ => rfl)) pe_int (fun _ _ => rfl)))
        (pss_cons (ps_expr (pe_bm PySem.F.plainAttrs_list PySem.F.slot_list_append PySem.F.type_list_append mt_append (pv 3) (pac (pe_tupG (pas_cons (pe_ix ix_tup (pv 7) pe_int (fun _ _ => rfl)) (pas_cons (pv 9) pas_nil))) pa_nil)))
        (pss_cons (ps_expr (pe_meth (pv 4) T.c_Threads T.M_Threads_add G_Threads_add hr2 b_Threads_add .nil pass0 (pac (pe_ix ix_tup (pv 7) pe_int (fun _ _ => rfl)) (pac (pv 9) pa_nil))))
        (pss_one (ps_ret (pe_call G_l_stands hr4 rfl T.m_l_stands F_l_stands.kp b_l_stands .nil pass0 (pac (pv 4) (pac (pv 3) (pac (pe_ix ix_list (pv 1) pe_int (fun _ _ => rfl)) pa_nil)))))))))))))))))), ?_⟩
    refine ⟨_, rfl, q, ns, 20, rfl, hS, by decide, fun D rs H1 hrl hrb s1 hD => ?_⟩
    dsimp only [gName]
    have pick : ∀ j : Nat, j < 20 → ∃ z : Int, atI (rs.map V.int) ((j : Nat) : Int) = some (.int z) ∧ 0 ≤ z := fun j hj => by
      have hl : j < rs.length := by omega
      exact ⟨rs[j], atI_nat (by rw [List.getElem?_map, List.getElem?_eq_getElem hl]; rfl), (hrb _ (List.getElem_mem hl)).1⟩
    obtain ⟨z1, e1, _⟩ := pick 1 (by decide)
    obtain ⟨z5, e5, _⟩ := pick 5 (by decide)
    obtain ⟨z6, e6, _⟩ := pick 6 (by decide)
    obtain ⟨z7, e7, _⟩ := pick 7 (by decide)
    obtain ⟨z16, e16, _⟩ := pick 16 (by decide)
    obtain ⟨z17, e17, _⟩ := pick 17 (by decide)
    obtain ⟨z18, e18, _⟩ := pick 18 (by decide)
    refine ⟨_, rfl, D, _, _, _, rfl, rfl, SqL.of hD, e1, _, _, rfl, rfl, (by show (0 : Int) < 15; decide), _, _, rfl, rfl, ?_⟩
    dsimp only [gName]
    refine seq_open (t := tIfS _ _ _) fun N hN => ?_
    have fin : ∀ m : Nat, 10 ≤ m → m ≤ 64 → N [some (.ref q), some (.ref D), some (.int ((m : Nat) : Int)), none, none, none, none, none, none, none] H1 := fun m hm1 hm2 => by
      subst hN
      refine ⟨_, rfl, _, rfl, D, rs, m, rfl, hD, hrl, hrb, hm1, hm2, fun r prs H2 nr s2 ra hpl ok => ?_⟩
      dsimp only [gName]
      intro x dx nx nd ne
      refine ⟨x, dx, rfl, upd_same, fun H3 hs3 hth3 => ⟨rfl, ?_⟩⟩
      dsimp only [gName]
      have s3 : Same H2 H3 := fun c o e => hs3 c o (ne_of_none e nx) (by rw [upd_ne (ne_of_none e nx), upd_ne (ne_of_none e nd)]; exact e)
      have hD3 := s3 _ _ (s2 _ _ hD)
      have Dr : D ≠ r := ne_of_none hD nr
      refine ⟨_, rfl, _, rfl, D, _, _, _, rfl, rfl, SqL.of hD3, e5, r, z5, prs, rfl, ra.same s3, by omega, fun p prs' H4 s4 pm ra' => ?_⟩
      have hth4 : THs a H4 x [] 0 := hth3.kp2 s4.kp2
      have pl' : prs'.length = m := by rw [pm.length_eq, hpl]
      have nd' : ((prs'.map (·.2)).map (·.1)).Nodup := by
        rw [show (prs'.map (·.2)).map (·.1) = prs'.map (·.2.1) by rw [List.map_map]; rfl]
        exact (pm.map (·.2.1)).nodup_iff.mpr ok.nd
      refine ⟨p, rfl, ⟨_, SqL.of ra'.1⟩, for_list (K := K) (xs := prs'.map fun q => V.ref q.1) (fun i σ G => ∃ o5 o6 : Option V, σ = [some (.ref q), some (.ref D), some (.int ((m : Nat) : Int)), some (.ref r), some (.ref x), o5, o6, none, none, none] ∧ THs a G x ((prs'.map (·.2)).take i) i ∧ Kp1 H4 G) ⟨none, none, rfl, by rw [List.take_zero]; exact hth4, fun c o e _ => e⟩ ?_ ?_ ?_⟩
      · rintro i σ G _ ⟨o5, o6, rfl, _, kp⟩
        exact SqL.of (kp _ _ ra'.1 fun _ z => nomatch z)
      · rintro i v σ G hv ⟨o5, o6, rfl, th, kp⟩
        obtain ⟨⟨tr, nm, an⟩, hrw, rfl⟩ : ∃ q, prs'[i]? = some q ∧ v = .ref q.1 := by
          rw [List.getElem?_map] at hv
          cases e : prs'[i]? with
          | none => rw [e] at hv; cases hv
          | some w => rw [e] at hv; cases hv; exact ⟨w, rfl, rfl⟩
        have il : i < prs'.length := (List.getElem?_eq_some_iff.mp hrw).1
        have et := kp _ _ (ra'.2 _ (List.mem_of_getElem? hrw)) fun _ z => nomatch z
        refine ⟨tr, _, rfl, SqT.of et, rfl, _, _, rfl, ?_⟩
        dsimp only [gName]
        refine ⟨_, _, rfl, ?_⟩
        dsimp only [gName]
        refine ⟨rfl, ?_⟩
        obtain ⟨dy, L, R, kr, tO, _, _⟩ := id th
        have ptk : (prs'.map (·.2)).take (i + 1) = (prs'.map (·.2)).take i ++ [(nm, an)] := by rw [List.take_add_one, List.getElem?_map, hrw]; rfl
        have hno : up ((prs'.map (·.2)).take i) nm = none := up_none.mpr (by
          have := nd'
          rw [← List.take_append_drop (i + 1) (prs'.map (·.2)), ptk, List.map_append, List.map_append, List.append_assoc] at this
          have := (List.nodup_append.mp this).2.2
          exact fun z => this _ z nm (by simp) rfl)
        refine ⟨_, rfl, x, dy, _, rfl, tO.obj, rfl, _, rfl, _, rfl, .mk x _ i nm an rfl th (by omega) hno fun G' th' kp' => ⟨_, _, rfl, ?_, fun c o e n => kp' _ _ (kp _ _ e n) n⟩⟩
        rw [ptk]; exact th'
      · rintro σ G ⟨o5, o6, rfl, th, kp⟩
        rw [List.length_map, List.take_of_length_le (by rw [List.length_map]; exact Nat.le_refl _)] at th
        have raG : RowsAt G r prs := ((ra.same s3).same s4).kp1 kp
        have hDG := kp _ _ (s4 _ _ hD3) fun _ z => nomatch z
        refine ⟨_, rfl, _, rfl, _, rfl, D, _, _, _, rfl, rfl, SqL.of hDG, e6, .mk x r z6 _ _ prs rfl th raG ok (pm.map (·.2)) (by omega) (by omega) fun G1 g1 => ⟨_, rfl, iteF ?_⟩⟩
        dsimp only [tNext]
        have raG1 := raG.same g1
        have th1 := th.kp2 g1.kp2
        have hD1 := g1 _ _ hDG
        obtain ⟨q0, hq0⟩ : ∃ q0, prs[0]? = some q0 := ⟨_, List.getElem?_eq_getElem (by omega)⟩
        have hq0m := List.mem_of_getElem? hq0
        refine ⟨_, rfl, r, _, _, _, rfl, rfl, SqL.of raG1.1, atI_nat (j := 0) (by rw [List.getElem?_map, hq0]; rfl), ?_⟩
        dsimp only [gName]
        have z70 : 0 ≤ z7 % 3 := Int.emod_nonneg _ (by decide)
        have z71 : z7 % 3 < 3 := Int.emod_lt_of_pos _ (by decide)
        refine ⟨_, rfl, D, _, _, _, rfl, rfl, SqL.of hD1, e7, _, _, rfl, rfl, (by show (0 : Int) < 3; decide), _, _, rfl, rfl, _, rfl, by omega, by omega, for_range (n := (1 + z7 % 3).toNat) (fun i σ G => ∃ (prs : List PRow) (rows : Rows) (nn : Nat) (gq : PRow) (o5 o6 o8 : Option V), σ = [some (.ref q), some (.ref D), some (.int ((m : Nat) : Int)), some (.ref r), some (.ref x), o5, o6, some (.ref gq.1), o8, none] ∧ THs a G x rows nn ∧ nn ≤ 64 ∧ RowsAt G r prs ∧ RwOk prs ∧ rows.Perm (prs.map (·.2)) ∧ prs.length + i = m ∧ G gq.1 = some (.tup [.str gq.2.1, .str gq.2.2]) ∧ (0 < i → gq.2.1 ∉ prs.map (·.2.1)) ∧ WordS gq.2.1 ∧ G D = some (.lst (rs.map V.int))) ⟨prs, _, _, q0, _, _, none, rfl, th1, by omega, raG1, ok, pm.map (·.2), by omega, raG1.2 q0 hq0m, (fun z => absurd z (Nat.lt_irrefl _)), (ok.w q0 hq0m).1, hD1⟩ ?_ ?_⟩
        · rintro i σ G hi ⟨prs, rows, nn, gq, o5, o6, o8, rfl, th, hnn, ra, ok, pm, hpl, eg, hgn, hgw, hDG⟩
          rw [Int.zero_add]
          dsimp only [gName]
          have hi3 : i < 3 := by omega
          obtain ⟨z8, e8, _⟩ := pick (8 + i) (by omega)
          obtain ⟨z12, e12, _⟩ := pick (12 + i) (by omega)
          rw [show (((8 + i : Nat) : Nat) : Int) = 8 + (i : Int) by omega] at e8
          rw [show (((12 + i : Nat) : Nat) : Int) = 12 + (i : Int) by omega] at e12
          have lp : (0 : Int) < (((prs.map fun q => V.ref q.1).length : Nat) : Int) := by rw [List.length_map]; omega
          refine ⟨_, rfl, _, rfl, _, rfl, _, _, rfl, rfl, D, _, _, _, rfl, rfl, SqL.of hDG, e8, _, rfl, r, _, rfl, .inl (SqL.of ra.1), _, _, rfl, rfl, lp, ?_⟩
          have y0 := Int.emod_nonneg z8 (b := (((prs.map fun q => V.ref q.1).length : Nat) : Int)) (by omega)
          have y1 := Int.emod_lt_of_pos z8 lp
          generalize z8 % (((prs.map fun q => V.ref q.1).length : Nat) : Int) = yy at y0 y1 ⊢
          obtain ⟨j, rfl⟩ := Int.eq_ofNat_of_zero_le y0
          rw [List.length_map] at y1
          have hj : j < prs.length := by omega
          obtain ⟨pre, qq, post, e, hpre⟩ : ∃ pre qq post, prs = pre ++ qq :: post ∧ pre.length = j := ⟨prs.take j, prs[j], prs.drop (j + 1), by rw [← List.drop_eq_getElem_cons hj, List.take_append_drop], by rw [List.length_take]; omega⟩
          have hjq : prs[j]? = some qq := by rw [e, List.getElem?_append_right (by omega), hpre, Nat.sub_self]; rfl
          refine ⟨r, _, _, _, rfl, rfl, SqL.of ra.1, atI_nat (by rw [List.getElem?_map, hjq]; rfl), ?_⟩
          dsimp only [gName]
          have ndp := ok.nd
          rw [e, List.map_append, List.map_cons] at ndp
          obtain ⟨n1, n2, n3⟩ := List.nodup_append.mp ndp
          have hpn : ∀ p ∈ pre, p.2.1 ≠ qq.2.1 := fun p hp => n3 _ (List.mem_map_of_mem (f := fun p : PRow => p.2.1) hp) _ (List.mem_cons_self ..)
          have hqn : ∀ p ∈ post, p.2.1 ≠ qq.2.1 := fun p hp z => (List.nodup_cons.mp n2).1 (by rw [← z]; exact List.mem_map_of_mem (f := fun p : PRow => p.2.1) hp)
          have hqq : qq ∈ prs := List.mem_of_getElem? hjq
          have hascR : AscR prs := fun q hq => ⟨(ok.w q hq).1.asc, (ok.w q hq).2.1, by have := (ok.w q hq).1.hi; omega⟩
          have eqq := ra.2 qq hqq
          have raE := ra
          rw [e] at raE hascR
          refine ⟨_, rfl, .inl ⟨rfl, _, SqL.of ra.1⟩, _, rfl, remove_row (n := qq.2.1) raE hascR rfl hpn ?_⟩
          have x5 : ∀ c o, c ≠ r → G c = some o → (upd G r (.lst ((pre ++ post).map fun q => V.ref q.1))) c = some o := fun c o n e => by rw [upd_ne n]; exact e
          have k5 : Kp2 G (upd G r (.lst ((pre ++ post).map fun q => V.ref q.1))) := fun c o e n => x5 c o (fun z => by rw [z, ra.1] at e; cases e; exact n _ rfl) e
          have er5 : (upd G r (.lst ((pre ++ post).map fun q => V.ref q.1))) r = some (.lst ((pre ++ post).map fun q => V.ref q.1)) := upd_same
          generalize upd G r (.lst ((pre ++ post).map fun q => V.ref q.1)) = G5 at x5 k5 er5 ⊢
          have th5 := th.kp2 k5
          have eqq5 := k5 _ _ eqq fun _ z => nomatch z
          have sub : ∀ p ∈ pre ++ post, p ∈ prs := fun p hp => by
            rw [e]
            rcases List.mem_append.mp hp with z | z
            · exact List.mem_append_left _ z
            · exact List.mem_append_right _ (List.mem_cons_of_mem _ z)
          have ra5 : RowsAt G5 r (pre ++ post) := ⟨er5, fun p hp => k5 _ _ (ra.2 p (sub p hp)) fun _ z => nomatch z⟩
          have hD5 := x5 _ _ Dr hDG
          obtain ⟨dy, L, R, kr, tO, _, _⟩ := id th5
          have hqR : qq.2.1 ∈ rows.map (·.1) := (pm.map (·.1)).mem_iff.mpr (by rw [List.map_map]; exact List.mem_map.mpr ⟨qq, hqq, rfl⟩)
          refine ⟨_, rfl, x, dy, _, rfl, tO.obj, rfl, _, rfl, qq.1, _, _, _, rfl, rfl, SqT.of eqq5, rfl, .mk x rows nn qq.2.1 rfl th5 hqR fun G6 th6 kp6 => ?_⟩
          have ra6 := ra5.kp1 kp6
          have hD6 := kp6 _ _ hD5 fun _ z => nomatch z
          have ok6 : RwOk (pre ++ post) := ⟨by
            rw [List.map_append]
            exact List.nodup_append.mpr ⟨n1, (List.nodup_cons.mp n2).2, fun a ha b hb => n3 a ha b (List.mem_cons_of_mem _ hb)⟩, fun p hp => ok.w p (sub p hp)⟩
          have pm6 : (without rows qq.2.1).Perm ((pre ++ post).map (·.2)) := by
            rw [← without_one (pre := pre) (post := post) (q := qq) rfl hpn hqn, ← e]
            exact pm.filter _
          have pl6 : (pre ++ post).length + 1 = prs.length := by rw [e, List.length_append, List.length_append, List.length_cons]; omega
          refine ⟨_, rfl, _, rfl, _, rfl, _, rfl, _, _, rfl, rfl, D, _, _, _, rfl, rfl, SqL.of hD6, e12, .mk x r z12 _ _ (pre ++ post) rfl th6 ra6 ok6 pm6 (by omega) (by omega) fun G7 g7 => ⟨_, rfl, iteF ?_⟩⟩
          refine ⟨pre ++ post, _, nn, qq, _, _, _, rfl, th6.kp2 g7.kp2, hnn, ra6.same g7, ok6, pm6, by omega, g7 _ _ (kp6 _ _ eqq5 fun _ z => nomatch z), fun _ z => ?_, (ok.w qq hqq).1, g7 _ _ hD6⟩
          obtain ⟨p, hp, e'⟩ := List.mem_map.mp z
          rcases List.mem_append.mp hp with z | z
          · exact hpn p z e'
          · exact hqn p z e'
        · rintro σ G ⟨prs, rows, nn, gq, o5, o6, o8, rfl, th, hnn, ra, ok, pm, hpl, eg, hgn, hgw, hDG⟩
          have hgn := hgn (by omega)
          have lp : (0 : Int) < (((prs.map fun q => V.ref q.1).length : Nat) : Int) := by rw [List.length_map]; omega
          refine ⟨_, rfl, _, rfl, D, _, _, _, rfl, rfl, SqL.of hDG, e16, _, rfl, r, _, rfl, .inl (SqL.of ra.1), _, _, rfl, rfl, lp, ?_⟩
          have y0 := Int.emod_nonneg z16 (b := (((prs.map fun q => V.ref q.1).length : Nat) : Int)) (by omega)
          have y1 := Int.emod_lt_of_pos z16 lp
          generalize z16 % (((prs.map fun q => V.ref q.1).length : Nat) : Int) = yy at y0 y1 ⊢
          obtain ⟨j, rfl⟩ := Int.eq_ofNat_of_zero_le y0
          rw [List.length_map] at y1
          obtain ⟨qo, hqo⟩ : ∃ q, prs[j]? = some q := ⟨_, List.getElem?_eq_getElem (by omega)⟩
          have hqm := List.mem_of_getElem? hqo
          refine ⟨r, _, _, _, rfl, rfl, SqL.of ra.1, atI_nat (by rw [List.getElem?_map, hqo]; rfl), qo.1, _, _, _, rfl, rfl, SqT.of (ra.2 qo hqm), rfl, ?_⟩
          dsimp only [gName]
          refine ⟨_, rfl, .inl ⟨rfl, _, SqL.of ra.1⟩, _, rfl, gq.1, _, _, _, rfl, rfl, SqT.of eg, rfl, _, rfl, (by show 2 ≤ sizeLine; decide), fun tp G2 ntp t2 etp => ⟨r, _, _, rfl, rfl, t2 _ _ ra.1, (by rw [List.length_map]; exact small1000 (by omega)), ?_⟩⟩
          have ra2 := ra.same t2
          have x5 : ∀ c o, c ≠ r → G2 c = some o → (upd G2 r (.lst ((prs.map fun q => V.ref q.1) ++ [V.ref tp]))) c = some o := fun c o n e => by rw [upd_ne n]; exact e
          have k5 : Kp2 G2 (upd G2 r (.lst ((prs.map fun q => V.ref q.1) ++ [V.ref tp]))) := fun c o e n => x5 c o (fun z => by rw [z, ra2.1] at e; cases e; exact n _ rfl) e
          have er5 : (upd G2 r (.lst ((prs.map fun q => V.ref q.1) ++ [V.ref tp]))) r = some (.lst ((prs ++ [(tp, gq.2.1, qo.2.1)]).map fun q => V.ref q.1)) := by rw [upd_same, List.map_append]; rfl
          generalize upd G2 r (.lst ((prs.map fun q => V.ref q.1) ++ [V.ref tp])) = G5 at x5 k5 er5 ⊢
          have th5 := (th.kp2 t2.kp2).kp2 k5
          have ra5 : RowsAt G5 r (prs ++ [(tp, gq.2.1, qo.2.1)]) := ⟨er5, fun p hp => by
            rcases List.mem_append.mp hp with z | z
            · exact k5 _ _ (ra2.2 p z) fun _ z => nomatch z
            · rw [List.mem_singleton.mp z]; exact k5 _ _ etp fun _ z => nomatch z⟩
          have hD5 := x5 _ _ Dr (t2 _ _ hDG)
          have eg5 := k5 _ _ (t2 _ _ eg) fun _ z => nomatch z
          have hno : up rows gq.2.1 = none := up_none.mpr fun z => hgn (by
            have := (pm.map (·.1)).mem_iff.mp z
            rw [List.map_map] at this
            exact this)
          obtain ⟨dy, L, R, kr, tO, _, _⟩ := id th5
          refine ⟨_, rfl, x, dy, _, rfl, tO.obj, rfl, _, rfl, gq.1, _, _, _, rfl, rfl, SqT.of eg5, rfl, _, rfl, .mk x rows nn gq.2.1 qo.2.1 rfl th5 (by omega) hno fun G6 th6 kp6 => ?_⟩
          have ra6 := ra5.kp1 kp6
          have hD6 := kp6 _ _ hD5 fun _ z => nomatch z
          refine ⟨_, rfl, _, rfl, _, rfl, D, _, _, _, rfl, rfl, SqL.of hD6, e17, .mk x r z17 _ _ (prs ++ [(tp, gq.2.1, qo.2.1)]) rfl th6 ra6 ⟨?_, fun p hp => ?_⟩ (by rw [List.map_append]; exact pm.append_right _) (by rw [List.length_append]; show 1 ≤ _ + 1; omega) (by rw [List.length_append]; show _ + 1 ≤ 64; omega) fun G7 g7 => kq _⟩
          · rw [List.map_append]
            exact List.nodup_append.mpr ⟨ok.nd, List.nodup_cons.mpr ⟨List.not_mem_nil, List.nodup_nil⟩, fun a ha b hb z => hgn (by rw [show gq.2.1 = b from (List.mem_singleton.mp hb).symm, ← z]; exact ha)⟩
          · rcases List.mem_append.mp hp with z | z
            · exact ok.w p z
            · rw [List.mem_singleton.mp z]; exact ⟨hgw, ans_of (ok.w qo hqm).1⟩
    have a0 : 0 ≤ z1 % 15 := Int.emod_nonneg _ (by decide)
    have a1 : z1 % 15 < 15 := Int.emod_lt_of_pos _ (by decide)
    have b0 : 0 ≤ z1 % 25 := Int.emod_nonneg _ (by decide)
    have b1 : z1 % 25 < 25 := Int.emod_lt_of_pos _ (by decide)
    refine ⟨_, rfl, D, _, _, _, rfl, rfl, SqL.of hD, e18, _, _, rfl, rfl, (by show (0 : Int) < 8; decide), rfl, _, rfl, ite2 (fun _ => ?_) (fun _ => ?_)⟩
    · refine ⟨_, rfl, D, _, _, _, rfl, rfl, SqL.of hD, e1, _, _, rfl, rfl, (by show (0 : Int) < 25; decide), _, _, rfl, rfl, ?_⟩
      dsimp only [gName]
      have := fin (40 + z1 % 25).toNat (by omega) (by omega)
      rw [Int.toNat_of_nonneg (by omega)] at this
      exact this
    · have := fin (10 + z1 % 15).toNat (by omega) (by omega)
      rw [Int.toNat_of_nonneg (by omega)] at this
      exact this
end
/-- what the walk asks of the things behind the top -/
def obs (K : PySem.W.Frag) : List (Option (FuncData × Option (List Value)) × Bool) × Bool :=
  ([Hd.see K (Hd.gl K "_wall") "_wall",
    Hd.see K (Hd.gl K "check_there") "check_there",
    Hd.see K (Hd.gl K "check_new") "check_new",
    Hd.see K (Hd.gl K "_law_draws") "_law_draws",
    Hd.see K (Hd.gl K "_law_name_by") "_law_name_by",
    Hd.see K (Hd.gl K "_law_is_list") "_law_is_list",
    Hd.see K (Hd.gl K "_law_rows") "_law_rows",
    Hd.see K (Hd.gl K "_law_order") "_law_order",
    Hd.see K (Hd.gl K "_law_joined") "_law_joined",
    Hd.see K (Hd.gl K "_law_deep") "_law_deep",
    Hd.see K (Hd.gl K "_law_stands") "_law_stands",
    Hd.see K (Hd.gl K "law") "law",
    Hd.see K (PySem.W.findIn K (.ref (Hd.cl K "Threads")) "__init__") "Threads.__init__",
    Hd.see K (PySem.W.findIn K (.ref (Hd.cl K "Threads")) "add") "Threads.add",
    Hd.see K (PySem.W.findIn K (.ref (Hd.cl K "Threads")) "take_out") "Threads.take_out",
    Hd.see K (PySem.W.findIn K (.ref (Hd.cl K "Threads")) "names") "Threads.names",
    Hd.see K (PySem.W.findIn K (.ref (Hd.cl K "Threads")) "answers_to") "Threads.answers_to",
    Hd.see K (PySem.W.findIn K (.ref (Hd.cl K "Threads")) "beside") "Threads.beside",
    Hd.see K (PySem.W.findIn K (.ref (Hd.cl K "Threads")) "thread") "Threads.thread",
    Hd.see K (PySem.W.findIn K (.ref (Hd.cl K "Threads")) "threads") "Threads.threads",
    Hd.see K (PySem.W.findIn K (.ref (Hd.cl K "Threads")) "depth") "Threads.depth"],
   [decide (Hd.gl K "Threads" = some (some (.ref (Hd.cl K "Threads")))),
    PySem.W.plainGet K (Hd.cl K "Threads") Str.empty,
    PySem.W.hasDictIn K (Hd.cl K "Threads"),
    PySem.W.plainOver K (Hd.cl K "Threads"),
    decide (PySem.W.findIn K (.ref (Hd.cl K "Threads")) "__setattr__" = some (some (.builtin "object.__setattr__"))),
    PySem.W.keepIn K (.ref (Hd.cl K "Threads")),
    PySem.W.makesIn K (Hd.cl K "Threads"),
    decide (PySem.W.findIn K (.ref (Hd.cl K "Threads")) "links" = some none),
    decide (PySem.W.findIn K (.ref (Hd.cl K "Threads")) "replies" = some none),
    decide (Hd.gl K "len" = some none),
    decide (Hd.gl K "range" = some none),
    decide (Hd.gl K "isinstance" = some none),
    decide (Hd.gl K "str" = some none),
    decide (Hd.gl K "int" = some none),
    decide (Hd.gl K "list" = some none),
    decide (Hd.gl K "dict" = some none),
    decide (Hd.gl K "min" = some none),
    decide (Hd.gl K "max" = some none),
    decide (Hd.gl K "all" = some none),
    decide (Hd.gl K "sorted" = some none)].all id)
def good : List (Option (FuncData × Option (List Value)) × Bool) × Bool :=
  ([(some (Hd.bareFn "_wall" "_wall" swall, none), true),
    (some (Hd.bareFn "check_there" "check_there" scheck_there, none), true),
    (some (Hd.bareFn "check_new" "check_new" scheck_new, none), true),
    (some (Hd.bareFn "_law_draws" "_law_draws" sl_draws, none), true),
    (some (Hd.bareFn "_law_name_by" "_law_name_by" sl_name_by, none), true),
    (some (Hd.bareFn "_law_is_list" "_law_is_list" sl_is_list, none), true),
    (some (Hd.bareFn "_law_rows" "_law_rows" sl_rows, none), true),
    (some (Hd.bareFn "_law_order" "_law_order" sl_order, none), true),
    (some (Hd.bareFn "_law_joined" "_law_joined" sl_joined, none), true),
    (some (Hd.bareFn "_law_deep" "_law_deep" sl_deep, none), true),
    (some (Hd.bareFn "_law_stands" "_law_stands" sl_stands, none), true),
    (some (Hd.bareFn "law" "law" slaw, none), true),
    (some (Hd.bareFn "__init__" "Threads.__init__" sThreads_init, none), true),
    (some (Hd.bareFn "add" "Threads.add" sThreads_add, some [Hd.bv (.str "")]), true),
    (some (Hd.bareFn "take_out" "Threads.take_out" sThreads_take_out, none), true),
    (some (Hd.bareFn "names" "Threads.names" sThreads_names, none), true),
    (some (Hd.bareFn "answers_to" "Threads.answers_to" sThreads_answers_to, none), true),
    (some (Hd.bareFn "beside" "Threads.beside" sThreads_beside, none), true),
    (some (Hd.bareFn "thread" "Threads.thread" sThreads_thread, none), true),
    (some (Hd.bareFn "threads" "Threads.threads" sThreads_threads, none), true),
    (some (Hd.bareFn "depth" "Threads.depth" sThreads_depth, none), true)], true)
theorem all_mk {l : PySem.W.OpenLaw} {w : World} {K : PySem.W.Frag} {h : Heap} {mg : Str → Option Value} {fa : Addr} (X : K.In h) (E : obs K = good) (G : h.Ns mainGlobals mg) (hfa : mg "law" = some (.ref fa)) :
    ∃ fd : FuncData, (∀ (s : Shared) (v : Value), BindsTo s fd ⟨[v], []⟩ [("_law_script", v)]) ∧ ∀ base : Heap, K.In base → base.Ns mainGlobals mg → FnOk l.prog w K mg base CX0 60 fa fd ["_law_script"] (spLaw K) := by
  have e1 := congrArg Prod.fst E
  have e2 := congrArg Prod.snd E
  obtain ⟨a1, k1, i1, _, F1⟩ := Hd.see_fun (st := swall) (Hd.eq_at e1 0 rfl rfl)
  have b1 := F1.binds (ps := ["k"]) fun _ _ _ _ _ _ => by refine us_1 ?_; intros; rfl
  obtain ⟨a2, k2, i2, _, F2⟩ := Hd.see_fun (st := scheck_there) (Hd.eq_at e1 1 rfl rfl)
  have b2 := F2.binds (ps := ["name", "there"]) fun _ _ _ _ _ _ => by refine us_2 ?_; intros; rfl
  obtain ⟨a3, k3, i3, _, F3⟩ := Hd.see_fun (st := scheck_new) (Hd.eq_at e1 2 rfl rfl)
  have b3 := F3.binds (ps := ["name", "there"]) fun _ _ _ _ _ _ => by refine us_2 ?_; intros; rfl
  obtain ⟨a4, k4, i4, _, F4⟩ := Hd.see_fun (st := sl_draws) (Hd.eq_at e1 3 rfl rfl)
  have b4 := F4.binds (ps := ["_law_script", "_law_many"]) fun _ _ _ _ _ _ => by refine us_2 ?_; intros; rfl
  obtain ⟨a5, k5, i5, _, F5⟩ := Hd.see_fun (st := sl_name_by) (Hd.eq_at e1 4 rfl rfl)
  have b5 := F5.binds (ps := ["_law_shape", "_law_k"]) fun _ _ _ _ _ _ => by refine us_2 ?_; intros; rfl
  obtain ⟨a6, k6, i6, _, F6⟩ := Hd.see_fun (st := sl_is_list) (Hd.eq_at e1 5 rfl rfl)
  have b6 := F6.binds (ps := ["_law_found", "_law_due"]) fun _ _ _ _ _ _ => by refine us_2 ?_; intros; rfl
  obtain ⟨a7, k7, i7, _, F7⟩ := Hd.see_fun (st := sl_rows) (Hd.eq_at e1 6 rfl rfl)
  have b7 := F7.binds (ps := ["_law_draws_here", "_law_many"]) fun _ _ _ _ _ _ => by refine us_2 ?_; intros; rfl
  obtain ⟨a8, k8, i8, _, F8⟩ := Hd.see_fun (st := sl_order) (Hd.eq_at e1 7 rfl rfl)
  have b8 := F8.binds (ps := ["_law_rows_here", "_law_draw"]) fun _ _ _ _ _ _ => by refine us_2 ?_; intros; rfl
  obtain ⟨a9, k9, i9, _, F9⟩ := Hd.see_fun (st := sl_joined) (Hd.eq_at e1 8 rfl rfl)
  have b9 := F9.binds (ps := ["_law_rows_here"]) fun _ _ _ _ _ _ => by refine us_1 ?_; intros; rfl
  obtain ⟨a10, k10, i10, _, F10⟩ := Hd.see_fun (st := sl_deep) (Hd.eq_at e1 9 rfl rfl)
  have b10 := F10.binds (ps := ["_law_rows_here", "_law_name"]) fun _ _ _ _ _ _ => by refine us_2 ?_; intros; rfl
  obtain ⟨a11, k11, i11, _, F11⟩ := Hd.see_fun (st := sl_stands) (Hd.eq_at e1 10 rfl rfl)
  have b11 := F11.binds (ps := ["_law_threads", "_law_rows_here", "_law_draw"]) fun _ _ _ _ _ _ => by refine us_3 ?_; intros; rfl
  obtain ⟨a12, k12, i12, _, F12⟩ := Hd.see_fun (st := slaw) (Hd.eq_at e1 11 rfl rfl)
  have b12 := F12.binds (ps := ["_law_script"]) fun _ _ _ _ _ _ => by refine us_1 ?_; intros; rfl
  obtain ⟨a13, k13, i13, _, F13⟩ := Hd.see_fun (st := sThreads_init) (Hd.eq_at e1 12 rfl rfl)
  have b13 := F13.binds (ps := ["self"]) fun _ _ _ _ _ _ => by refine us_1 ?_; intros; rfl
  obtain ⟨a14, k14, i14, D14, kV14, dc14, pm14, an14, cd14, ct14, o14, it14, Dn14, F14, t14, s14, m14⟩ := Hd.see_funD (st := sThreads_add) (Hd.eq_at e1 13 rfl rfl)
  obtain ⟨dv14_0, rfl, rd14_0⟩ := Hd.map1 m14
  have b14_0 : Binds K (PySem.W.fnOf "add" "Threads.add" (defArgs sThreads_add) (defBody sThreads_add) (defScope sThreads_add) (.ref D14) kV14 dc14 pm14 an14 cd14 ct14) ["self", "name", "answers"] [dv14_0] := fun s us X' hl => have hl' : us.length = 2 := (by simpa using hl); (by clear hl; revert hl'; revert us; refine us_2 ?_; intros; exact PySem.W.binds_K (fd := PySem.W.fnOf "add" "Threads.add" (defArgs sThreads_add) (defBody sThreads_add) (defScope sThreads_add) (.ref D14) kV14 dc14 pm14 an14 cd14 ct14) X' rfl t14 s14 rfl rfl)
  have b14_1 : Binds K (PySem.W.fnOf "add" "Threads.add" (defArgs sThreads_add) (defBody sThreads_add) (defScope sThreads_add) (.ref D14) kV14 dc14 pm14 an14 cd14 ct14) ["self", "name", "answers"] [] := fun s us X' hl => have hl' : us.length = 3 := (by simpa using hl); (by clear hl; revert hl'; revert us; refine us_3 ?_; intros; exact PySem.W.binds_K (fd := PySem.W.fnOf "add" "Threads.add" (defArgs sThreads_add) (defBody sThreads_add) (defScope sThreads_add) (.ref D14) kV14 dc14 pm14 an14 cd14 ct14) X' rfl t14 s14 rfl rfl)
  obtain ⟨a15, k15, i15, _, F15⟩ := Hd.see_fun (st := sThreads_take_out) (Hd.eq_at e1 14 rfl rfl)
  have b15 := F15.binds (ps := ["self", "name"]) fun _ _ _ _ _ _ => by refine us_2 ?_; intros; rfl
  obtain ⟨a16, k16, i16, _, F16⟩ := Hd.see_fun (st := sThreads_names) (Hd.eq_at e1 15 rfl rfl)
  have b16 := F16.binds (ps := ["self"]) fun _ _ _ _ _ _ => by refine us_1 ?_; intros; rfl
  obtain ⟨a17, k17, i17, _, F17⟩ := Hd.see_fun (st := sThreads_answers_to) (Hd.eq_at e1 16 rfl rfl)
  have b17 := F17.binds (ps := ["self", "name"]) fun _ _ _ _ _ _ => by refine us_2 ?_; intros; rfl
  obtain ⟨a18, k18, i18, _, F18⟩ := Hd.see_fun (st := sThreads_beside) (Hd.eq_at e1 17 rfl rfl)
  have b18 := F18.binds (ps := ["self", "name"]) fun _ _ _ _ _ _ => by refine us_2 ?_; intros; rfl
  obtain ⟨a19, k19, i19, _, F19⟩ := Hd.see_fun (st := sThreads_thread) (Hd.eq_at e1 18 rfl rfl)
  have b19 := F19.binds (ps := ["self", "name"]) fun _ _ _ _ _ _ => by refine us_2 ?_; intros; rfl
  obtain ⟨a20, k20, i20, _, F20⟩ := Hd.see_fun (st := sThreads_threads) (Hd.eq_at e1 19 rfl rfl)
  have b20 := F20.binds (ps := ["self"]) fun _ _ _ _ _ _ => by refine us_1 ?_; intros; rfl
  obtain ⟨a21, k21, i21, _, F21⟩ := Hd.see_fun (st := sThreads_depth) (Hd.eq_at e1 20 rfl rfl)
  have b21 := F21.binds (ps := ["self", "name"]) fun _ _ _ _ _ _ => by refine us_2 ?_; intros; rfl
  have e : Value.ref fa = .ref (Hd.adOf (Hd.gl K "law")) := Option.some.inj (hfa.symm.trans (PySem.W.mg_of X G a12))
  injection e with e
  subst e
  let A : Adr := { f_wall := Hd.adOf (Hd.gl K "_wall"), f_check_there := Hd.adOf (Hd.gl K "check_there"), f_check_new := Hd.adOf (Hd.gl K "check_new"), f_l_draws := Hd.adOf (Hd.gl K "_law_draws"), f_l_name_by := Hd.adOf (Hd.gl K "_law_name_by"), f_l_is_list := Hd.adOf (Hd.gl K "_law_is_list"), f_l_rows := Hd.adOf (Hd.gl K "_law_rows"), f_l_order := Hd.adOf (Hd.gl K "_law_order"), f_l_joined := Hd.adOf (Hd.gl K "_law_joined"), f_l_deep := Hd.adOf (Hd.gl K "_law_deep"), f_l_stands := Hd.adOf (Hd.gl K "_law_stands"), f_law := Hd.adOf (Hd.gl K "law"), f_Threads_init := Hd.adOf (PySem.W.findIn K (.ref (Hd.cl K "Threads")) "__init__"), f_Threads_add := Hd.adOf (PySem.W.findIn K (.ref (Hd.cl K "Threads")) "add"), f_Threads_take_out := Hd.adOf (PySem.W.findIn K (.ref (Hd.cl K "Threads")) "take_out"), f_Threads_names := Hd.adOf (PySem.W.findIn K (.ref (Hd.cl K "Threads")) "names"), f_Threads_answers_to := Hd.adOf (PySem.W.findIn K (.ref (Hd.cl K "Threads")) "answers_to"), f_Threads_beside := Hd.adOf (PySem.W.findIn K (.ref (Hd.cl K "Threads")) "beside"), f_Threads_thread := Hd.adOf (PySem.W.findIn K (.ref (Hd.cl K "Threads")) "thread"), f_Threads_threads := Hd.adOf (PySem.W.findIn K (.ref (Hd.cl K "Threads")) "threads"), f_Threads_depth := Hd.adOf (PySem.W.findIn K (.ref (Hd.cl K "Threads")) "depth"), C_Threads := Hd.cl K "Threads" }
  have T : Txt K mg A := ⟨PySem.W.mg_of X G a1,
    PySem.W.mg_of X G a2,
    PySem.W.mg_of X G a3,
    PySem.W.mg_of X G a4,
    PySem.W.mg_of X G a5,
    PySem.W.mg_of X G a6,
    PySem.W.mg_of X G a7,
    PySem.W.mg_of X G a8,
    PySem.W.mg_of X G a9,
    PySem.W.mg_of X G a10,
    PySem.W.mg_of X G a11,
    PySem.W.mg_of X G a12,
    PySem.W.mg_none_of X G (of_decide_eq_true (Hd.all_at e2 9 rfl)),
    PySem.W.mg_none_of X G (of_decide_eq_true (Hd.all_at e2 10 rfl)),
    PySem.W.mg_none_of X G (of_decide_eq_true (Hd.all_at e2 11 rfl)),
    PySem.W.mg_none_of X G (of_decide_eq_true (Hd.all_at e2 12 rfl)),
    PySem.W.mg_none_of X G (of_decide_eq_true (Hd.all_at e2 13 rfl)),
    PySem.W.mg_none_of X G (of_decide_eq_true (Hd.all_at e2 14 rfl)),
    PySem.W.mg_none_of X G (of_decide_eq_true (Hd.all_at e2 15 rfl)),
    PySem.W.mg_none_of X G (of_decide_eq_true (Hd.all_at e2 16 rfl)),
    PySem.W.mg_none_of X G (of_decide_eq_true (Hd.all_at e2 17 rfl)),
    PySem.W.mg_none_of X G (of_decide_eq_true (Hd.all_at e2 18 rfl)),
    PySem.W.mg_none_of X G (of_decide_eq_true (Hd.all_at e2 19 rfl)),
    PySem.W.mg_of X G (of_decide_eq_true (Hd.all_at e2 0 rfl)),
    ⟨(Hd.all_at e2 1 rfl), (Hd.all_at e2 2 rfl), (Hd.all_at e2 3 rfl), (of_decide_eq_true (Hd.all_at e2 4 rfl))⟩,
    ⟨(Hd.all_at e2 6 rfl), a13, i13, (Hd.all_at e2 5 rfl)⟩,
    ⟨a14, i14, k14⟩,
    ⟨a15, i15, k15⟩,
    ⟨a16, i16, k16⟩,
    ⟨a17, i17, k17⟩,
    ⟨a18, i18, k18⟩,
    ⟨a19, i19, k19⟩,
    ⟨a20, i20, k20⟩,
    ⟨a21, i21, k21⟩,
    (Hd.no_at (Hd.all_at e2 7 rfl)),
    (Hd.no_at (Hd.all_at e2 8 rfl)),
    trivial⟩
  have FF : Funs K A := ⟨⟨_, F1, b1⟩, ⟨_, F2, b2⟩, ⟨_, F3, b3⟩, ⟨_, F4, b4⟩, ⟨_, F5, b5⟩, ⟨_, F6, b6⟩, ⟨_, F7, b7⟩, ⟨_, F8, b8⟩, ⟨_, F9, b9⟩, ⟨_, F10, b10⟩, ⟨_, F11, b11⟩, ⟨_, F12, b12⟩, ⟨_, F13, b13⟩, ⟨_, F14, b14_1, ⟨_, (.cons (Hd.bare_rel rd14_0) .nil), b14_0⟩⟩, ⟨_, F15, b15⟩, ⟨_, F16, b16⟩, ⟨_, F17, b17⟩, ⟨_, F18, b18⟩, ⟨_, F19, b19⟩, ⟨_, F20, b20⟩, ⟨_, F21, b21⟩⟩
  obtain ⟨_, _, kV, doc, pm, an, cdv, ct, _, rfl, _, _⟩ := F12.ex
  exact ⟨_, fun s v => .of_eq rfl, fun base _ _ => ok_law F12 T FF⟩
abbrev PP : Program := PySem.Challenge.pw_mailroom_k23_great_threads
def loose : List Str := (["_wall", "MailError", "NoName", "check_there", "check_new", "Threads", "_law_draws", "_law_name_by", "_law_is_list", "_law_rows", "_law_order", "_law_joined", "_law_deep", "_law_stands"] : List String).map Str.ofString
theorem seen (w : World) (os : OsState) : (Hd.runT (Hd.stepQ Hd.denQ PP w) (Hd.okQ 11 (some (.ref 6))) 20000 (Hd.S0 w os) (PySem.W.topStub PP)).map (fun s => (Hd.chk PP w.params s.abs, Hd.seenQ (PySem.W.view PP [18]) loose (PySem.importedModules PP.main.body) (fun s => PySem.W.recOk [] s) true s.abs, obs (Hd.fragT s))) = some (true, PySem.W.openGood (PySem.W.view PP [18]) loose, good) := by kernel_rfl
theorem look : PySem.W.Fast.tw9446332074065402090 PySem.Challenge.rw_mailroom_k23_great_threads = true := by kernel_rfl
theorem opens : PySem.W.opening PP = PySem.W.plainProg PP.main.scope.names := by kernel_rfl
theorem fence (s : Shared) : fenceModules? PP s = some s := by kernel_rfl
end K23
open PySem PySem.W PyProof.Rows
set_option maxRecDepth 100000 in
set_option maxHeartbeats 0 in
theorem PySem.Challenge.cw_mailroom_k23_great_threads_holds : PySem.Challenge.rw_mailroom_k23_great_threads.Holds := by
  refine Hd.close (q := view K23.PP [18]) (loose := K23.loose) (N := 20000) (obs := K23.obs) (good := K23.good) K23.look K23.opens rfl K23.fence K23.seen rfl rfl rfl rfl (by decide +kernel) ⟨rfl, rfl, rfl, rfl, rfl, by decide +kernel⟩ ?hw ?hc
  case hw => w_witness2
  case hc => exact Hd.walk (n := 63) (k := 60) (x := "_law_script") (sp := K23.spLaw) rfl (by decide) rfl ⟨rfl, by decide, by decide, rfl⟩ (fun w K mg fa h KX y G hmg => K23.all_mk KX y G hmg) (fun _ _ a ns hl _ hS => ⟨a, ns, rfl, hS, hl, fun _ => rfl⟩)
#print axioms PySem.Challenge.cw_mailroom_k23_great_threads_holds
