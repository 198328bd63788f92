import PyProof.Rows.All
import Wide.All
import OpenK.AllK
import Wide.FinOn
import Lean
import PyProof.EqAt
import PyProof.EqKinds
import PyProof.TupleCall
import PyProof.P3In
import KE.KDictLaws
import PyProof.Rows.SetFrom
import KE.KRevSl
import KE.KIntText
import KE.KLcPair
import KE.KIsAll
import PyProof.ExcArgsOwn
import PyProof.ExcAttrAll.ValueError
import PyProof.NsDelKeeps
import PyProof.Rows.CountFlat
import KE.RegKIsAll
import PySem.Challenge.RW_mailroom_k05_letters_refused
noncomputable section
set_option Elab.async false
set_option linter.all false
set_option maxRecDepth 100000
namespace L2
open PySem PySem.Spec PyProof.Rows
/-- a key: an int or a str -/
abbrev Key := Sum Int Str
def keyIs : Key → Value → Bool
  | .inl k, v => Value.isInt k v
  | .inr x, v => Value.isStrOf x v
def keyH (w : World) : Key → Int
  | .inl k => hashInt k
  | .inr x => hashStr w x
theorem keyIs_shape : ∀ {k : Key} {v : Value}, keyIs k v = true → (∃ i t, k = Sum.inl i ∧ v = Value.int i t) ∨ (∃ x t, k = Sum.inr x ∧ v = Value.str x t)
  | .inl i, v, h => by
    obtain ⟨t, e⟩ := Value.isInt_shape (k := i) (v := v) h
    exact .inl ⟨i, t, rfl, e⟩
  | .inr x, v, h => by
    obtain ⟨t, e⟩ := Value.isStrOf_shape (x := x) (v := v) h
    exact .inr ⟨x, t, rfl, e⟩
theorem key_ll (a b : Int) : decide ((Sum.inl a : Key) = Sum.inl b) = (a == b) := by
  by_cases e : a = b
  · subst e; simp
  · have h : ¬ (Sum.inl a : Key) = Sum.inl b := fun q => e (Sum.inl.inj q)
    rw [decide_eq_false h]
    exact (beq_eq_false_iff_ne.mpr e).symm
theorem key_rr (a b : Str) : decide ((Sum.inr a : Key) = Sum.inr b) = decide (a = b) := by
  by_cases e : a = b
  · subst e; simp
  · have h : ¬ (Sum.inr a : Key) = Sum.inr b := fun q => e (Sum.inr.inj q)
    rw [decide_eq_false h, decide_eq_false e]
theorem key_lr (a : Int) (b : Str) : decide ((Sum.inl a : Key) = Sum.inr b) = false := decide_eq_false (fun q => nomatch q)
theorem key_rl (a : Str) (b : Int) : decide ((Sum.inr a : Key) = Sum.inl b) = false := decide_eq_false (fun q => nomatch q)
def mixKind (prog : Program) (w : World) : PySem.KeyKind prog w Key where
  is := keyIs
  hash := keyH w
  inj := fun v a b ha hb => by
    rcases keyIs_shape ha with ⟨i, t, rfl, rfl⟩ | ⟨x, t, rfl, rfl⟩
    · rcases keyIs_shape hb with ⟨j, u, rfl, e⟩ | ⟨y, u, rfl, e⟩
      · injection e with e1 _; rw [e1]
      · exact nomatch e
    · rcases keyIs_shape hb with ⟨j, u, rfl, e⟩ | ⟨y, u, rfl, e⟩
      · exact nomatch e
      · injection e with e1 _; rw [e1]
  byValue := fun k v h => by
    rcases keyIs_shape h with ⟨i, t, rfl, rfl⟩ | ⟨x, t, rfl, rfl⟩ <;> rfl
  pyHash := fun hv h => by
    rcases keyIs_shape hv with ⟨i, t, rfl, rfl⟩ | ⟨x, t, rfl, rfl⟩
    · exact wpAny_pyHash_int h
    · exact wpAny_pyHash_str h
  eqBool := fun hu hv h => by
    rcases keyIs_shape hu with ⟨i, t, rfl, rfl⟩ | ⟨x, t, rfl, rfl⟩
    · rcases keyIs_shape hv with ⟨j, u, rfl, rfl⟩ | ⟨y, u, rfl, rfl⟩
      · rw [key_ll] at h; exact wpAny_eqBool_int h
      · rw [key_lr] at h; exact SeqAt.EqAt.int_str i t y u _ _ _ _ h
    · rcases keyIs_shape hv with ⟨j, u, rfl, rfl⟩ | ⟨y, u, rfl, rfl⟩
      · rw [key_rl] at h; exact SeqAt.EqAt.str_int x t j u _ _ _ _ h
      · rw [key_rr] at h; exact wpAny_eqBool_str h
  «strs» := fun k x t v h => by
    rcases keyIs_shape h with ⟨i, u, rfl, e⟩ | ⟨y, u, rfl, e⟩
    · exact nomatch e
    · injection e with e1 _
      subst e1
      cases v <;> rfl
end L2
namespace L2
open PySem PySem.Spec PyProof.Rows
/-- a value, without the heap -/
inductive V where
  | non | bl (b : Bool) | int (i : Int) | str (x : Str) | byt (b : Array UInt8) | flt (b : UInt64) | ref (a : Addr) | ty (n : String)
  deriving DecidableEq
def RelV : V → Value → Prop
  | .non, u => u = Value.none
  | .bl b, u => u = Value.bool b
  | .int i, u => ∃ t, u = Value.int i t
  | .str x, u => ∃ t, u = Value.str x t
  | .byt b, u => ∃ t, u = Value.bytes b t
  | .flt b, u => ∃ t, u = Value.float b t
  | .ref a, u => u = Value.ref a
  | .ty n, u => u = Value.type n
abbrev Vals : List V → List Value → Prop := Paired RelV
theorem Vals.length {xs : List V} {us : List Value} (r : Vals xs us) : xs.length = us.length := Paired.length r
theorem Vals.get : ∀ {xs : List V} {us : List Value} {i : Nat} {x : V}, Vals xs us → xs[i]? = some x → ∃ u, us[i]? = some u ∧ RelV x u
  | _, _, _, _, .nil, e => by simp at e
  | _, _, 0, _, .cons r _, e => by simp at e; subst e; exact ⟨_, rfl, r⟩
  | _, _, i + 1, x, .cons _ t, e => by
    obtain ⟨u, h1, h2⟩ := Vals.get (i := i) (x := x) t (by simpa using e)
    exact ⟨u, by simpa using h1, h2⟩
theorem Vals.set {x : V} {u : Value} (r : RelV x u) : ∀ {xs : List V} {us : List Value} (i : Nat), Vals xs us → Vals (xs.set i x) (us.set i u)
  | _, _, _, .nil => .nil
  | _, _, 0, .cons _ t => .cons r t
  | _, _, i + 1, .cons q t => .cons q (Vals.set r i t)
theorem Vals.append : ∀ {xs ys : List V} {us ws : List Value}, Vals xs us → Vals ys ws → Vals (xs ++ ys) (us ++ ws)
  | _, _, _, _, .nil, s => s
  | _, _, _, _, .cons r t, s => .cons r (Vals.append t s)
theorem Vals.take : ∀ {xs : List V} {us : List Value} (n : Nat), Vals xs us → Vals (xs.take n) (us.take n)
  | _, _, 0, _ => .nil
  | _, _, _ + 1, .nil => .nil
  | _, _, n + 1, .cons r t => .cons r (Vals.take n t)
theorem Vals.drop : ∀ {xs : List V} {us : List Value} (n : Nat), Vals xs us → Vals (xs.drop n) (us.drop n)
  | _, _, 0, r => r
  | _, _, _ + 1, .nil => .nil
  | _, _, n + 1, .cons _ t => Vals.drop n t
theorem Vals.none_of : ∀ {xs : List V} {us : List Value} {i : Nat}, Vals xs us → xs[i]? = none → us[i]? = none := fun {xs us i} r e => by
  have h1 := r.length
  have h2 : xs.length ≤ i := List.getElem?_eq_none_iff.mp e
  exact List.getElem?_eq_none_iff.mpr (by omega)
def RelO : Option V → Option Value → Prop
  | some v, some u => RelV v u
  | none, none => True
  | _, _ => False
def KV {κ : Type} : List (κ × V) → List (κ × Value) → Prop := Paired fun (p : κ × V) (q : κ × Value) => p.1 = q.1 ∧ RelV p.2 q.2
/-- a key of a dict (00_mix): an int or a text -/
def kV : Key → V
  | .inl i => .int i
  | .inr x => .str x
/-- what stands at a tracked address -/
inductive HO where
  /-- a list -/
  | lst (xs : List V)
  /-- a tuple (never changes) -/
  | tup (xs : List V)
  /-- a dict whose keys are ints and texts; one whose keys are tuples of ints and texts (the empty one is both) -/
  | dK (kvs : List (Key × V)) | dT (kvs : List (List Key × V))
  /-- a set of ints: its members, its size -/
  | set (S : Int → Bool) (n : Nat)
  /-- an instance of the class at C, its dict at dx, its attributes -/
  | ins (C dx : Addr) (fs : List (Str × V))
  /-- the dict of the instance at x -/
  | own (x : Addr)
  /-- the dict of an exception -/
  | xd (fs : List (Str × V))
  /-- a bound method, f of x -/
  | met (f x : Addr)
  /-- a range object lo, lo + 1, .. below hi -/
  | rng (lo hi : Int)
  /-- a thing that is known to the object (the script; a dict while a loop walks it): read, never written while it is so -/
  | frz (o : Obj) (u : HO)
  /-- a code object's table -/
  | tbl (ps : Array Value)
  /-- any other thing, by what is true of its one object (a def of one's own: SetO a S n := HO.ext fun h => ..) -/
  | ext (φ : Heap → Prop)
abbrev Hp := Addr → Option HO
def upd (H : Hp) (a : Addr) (o : HO) : Hp := fun b => if b = a then some o else H b
theorem upd_same {H : Hp} {a : Addr} {o : HO} : upd H a o a = some o := by unfold upd; rw [if_pos rfl]
theorem upd_ne {H : Hp} {a b : Addr} {o : HO} (h : b ≠ a) : upd H a o b = H b := by unfold upd; rw [if_neg h]
theorem upd_upd {H : Hp} {a : Addr} {o u : HO} : upd (upd H a o) a u = upd H a u := by
  funext b; unfold upd; split <;> rfl
/-- two objects of different content stand apart -/
theorem ne_of {H : Hp} {a b : Addr} {o u : HO} (h : H a = some o) (h' : H b = some u) (d : o ≠ u) : a ≠ b := by
  intro e; subst e; rw [h] at h'; exact d (Option.some.inj h')
theorem ne_of_none {H : Hp} {a b : Addr} {o : HO} (h : H a = some o) (h' : H b = none) : a ≠ b := by
  intro e; subst e; rw [h] at h'; cases h'
section
variable (P : Program) (w : World)
def ObjOk (H : Hp) (h : Heap) (a : Addr) : HO → Prop
  | .lst xs => xs.length ≤ sizeLine ∧ ∃ (its : List Value) (n : Nat), Vals xs its ∧ h.get? a = some { cls := .type "list", data := .seq its.toArray n }
  | .tup xs => xs.length ≤ sizeLine ∧ ∃ its : List Value, Vals xs its ∧ IsTup h a its.toArray
  | .dK kvs => kvs.length ≤ sizeLine ∧ (a == sysModules) = false ∧ ∃ vs, KV kvs vs ∧ h.DictOf (mixKind P w) a vs
  | .dT kvs => kvs.length ≤ sizeLine ∧ (a == sysModules) = false ∧ ∃ xs : List (List Key × Addr × Value),
      Paired (fun (p : List Key × V) (q : List Key × Addr × Value) => p.1 = q.1 ∧ H q.2.1 = some (.tup (p.1.map kV)) ∧ RelV p.2 q.2.2) kvs xs ∧
      ∃ o es ep, h.get? a = some o ∧ o.ExactDict ∧ o.data = .dict es ep ∧ es.toList = xs.map (entryOfKey (tupleKind (mixKind P w))) ∧ (xs.map (·.1)).Nodup
  | .set S n => h.SetOf (intKind P w) a S n
  | .ins C dx fs => H dx = some (.own a) ∧ fs.length ≤ 1000 ∧ dx ≠ a ∧ h.get? a = some (PySem.W.instObj C dx) ∧
      ∃ mA, h.Ns1 dx mA ∧ (∀ f, RelO (fs.lookup f) (mA f)) ∧ PySem.Within mA (fs.map (·.1))
  | .own _ => ∃ o, h.get? a = some o
  | .xd fs => ∃ mA, h.Ns1 a mA ∧ ∀ f, RelO (fs.lookup f) (mA f)
  | .rng lo hi => ∃ t u v, h.get? a = some { cls := .type "range", data := .fields #[.int lo t, .int hi u, .int 1 v] }
  | .frz o u => h.get? a = some o ∧ ObjOk H h a u
  | .tbl ps => h.get? a = some { cls := .none, data := .fields ps }
  | .met f x => h.get? a = some (PySem.W.methodObj (.ref f) (.ref x))
  | .ext φ => φ h ∧ (∃ o, h.get? a = some o) ∧ ∀ h1 h2 : Heap, φ h1 → (∀ o, h1.get? a = some o → h2.get? a = some o) → φ h2
/-- the abstract heap is held -/
def HOk (H : Hp) (h : Heap) : Prop := ∀ a o, H a = some o → ObjOk P w H h a o
end
section
variable {P : Program} {w : World} {H H' : Hp} {h h' : Heap} {a : Addr} {o : HO}
theorem ObjOk.lt (x : ObjOk P w H h a o) : a < h.objs.size := by
  cases o with
  | lst xs => obtain ⟨_, _, _, _, e⟩ := x; exact Heap.lt_size e
  | tup xs => obtain ⟨_, _, _, p⟩ := x; exact p.lt
  | dK kvs => obtain ⟨_, _, _, _, o, _, _, e, _⟩ := x; exact Heap.lt_size e
  | dT kvs => obtain ⟨_, _, _, _, o, _, _, e, _⟩ := x; exact Heap.lt_size e
  | set S n => obtain ⟨o, _, _, _, e, _⟩ := x; exact Heap.lt_size e
  | ins C dx fs => obtain ⟨_, _, _, e, _⟩ := x; exact Heap.lt_size e
  | own y => obtain ⟨_, e⟩ := x; exact Heap.lt_size e
  | xd fs => obtain ⟨_, ⟨_, _, _, e, _⟩, _⟩ := x; exact Heap.lt_size e
  | rng lo hi => obtain ⟨_, _, _, e⟩ := x; exact Heap.lt_size e
  | frz ob u => obtain ⟨e, _⟩ := x; exact Heap.lt_size e
  | tbl ps => exact Heap.lt_size (show h.get? a = some _ from x)
  | met f y => exact Heap.lt_size (show h.get? a = some _ from x)
  | ext φ => obtain ⟨_, ⟨_, e⟩, _⟩ := x; exact Heap.lt_size e
theorem Paired.mapP {α β : Type} {F G : α → β → Prop} : ∀ {l₁ : List α} {l₂ : List β}, Paired F l₁ l₂ → (∀ a b, F a b → G a b) → Paired G l₁ l₂
  | _, _, .nil, _ => .nil
  | _, _, .cons r t, f => .cons (f _ _ r) (Paired.mapP t f)
/-- what an object's description leans on: its own object, its own dict, the tuples -/
theorem ObjOk.stay (x : ObjOk P w H h a o) (k : ∀ b u, (b = a ∨ H b = some (.own a)) → h.get? b = some u → h'.get? b = some u)
    (ho : ∀ b, H b = some (.own a) → H' b = some (.own a)) (ht : ∀ b xs, H b = some (.tup xs) → H' b = some (.tup xs)) : ObjOk P w H' h' a o := by
  induction o with
  | lst xs => obtain ⟨z, its, n, r, e⟩ := x; exact ⟨z, its, n, r, k _ _ (.inl rfl) e⟩
  | tup xs => obtain ⟨z, its, r, ob, e, c⟩ := x; exact ⟨z, its, r, ob, k _ _ (.inl rfl) e, c⟩
  | dK kvs => obtain ⟨z, y, vs, r, ob, es, ep, e, c⟩ := x; exact ⟨z, y, vs, r, ob, es, ep, k _ _ (.inl rfl) e, c⟩
  | dT kvs =>
    obtain ⟨z, y, xs, r, ob, es, ep, e, c⟩ := x
    exact ⟨z, y, xs, Paired.mapP r fun p q z => ⟨z.1, ht _ _ z.2.1, z.2.2⟩, ob, es, ep, k _ _ (.inl rfl) e, c⟩
  | set S n => obtain ⟨ob, es, ep, t, e, c⟩ := x; exact ⟨ob, es, ep, t, k _ _ (.inl rfl) e, c⟩
  | ins C dx fs =>
    obtain ⟨d, z, ne, e, mA, ⟨od, es, ep, e2, c⟩, r⟩ := x
    exact ⟨ho _ d, z, ne, k _ _ (.inl rfl) e, mA, ⟨od, es, ep, k _ _ (.inr d) e2, c⟩, r⟩
  | own y => obtain ⟨ob, e⟩ := x; exact ⟨ob, k _ _ (.inl rfl) e⟩
  | xd fs => obtain ⟨mA, ⟨od, es, ep, e, c⟩, r⟩ := x; exact ⟨mA, ⟨od, es, ep, k _ _ (.inl rfl) e, c⟩, r⟩
  | rng lo hi => obtain ⟨t, u, v, e⟩ := x; exact ⟨t, u, v, k _ _ (.inl rfl) e⟩
  | frz ob u ih => obtain ⟨e, q⟩ := x; exact ⟨k _ _ (.inl rfl) e, ih q⟩
  | tbl ps =>
    have e : h.get? a = some { cls := .none, data := .fields ps } := x
    show h'.get? a = some { cls := .none, data := .fields ps }
    exact k a _ (.inl rfl) e
  | met f y =>
    have e : h.get? a = some (PySem.W.methodObj (.ref f) (.ref y)) := x
    show h'.get? a = some (PySem.W.methodObj (.ref f) (.ref y))
    exact k a _ (.inl rfl) e
  | ext φ => obtain ⟨p, ⟨o, e⟩, st⟩ := x; exact ⟨st _ _ p fun o q => k _ _ (.inl rfl) q, ⟨o, k _ _ (.inl rfl) e⟩, st⟩
theorem HOk.lt (x : HOk P w H h) (e : H a = some o) : a < h.objs.size := (x a o e).lt
theorem HOk.fresh (x : HOk P w H h) (e : h.objs.size ≤ a) : H a = none := by
  cases q : H a with
  | none => rfl
  | some u => exact absurd (Nat.lt_of_lt_of_le (x.lt q) e) (Nat.lt_irrefl _)
/-- every object of the heap is kept -/
theorem HOk.kept (x : HOk P w H h) (k : ∀ b u, h.get? b = some u → h'.get? b = some u) : HOk P w H h' := fun a o e =>
  (x a o e).stay (fun b u _ q => k b u q) (fun _ q => q) fun _ _ q => q
/-- a new object is laid and tracked -/
theorem HOk.laid (x : HOk P w H h) (k : ∀ b u, h.get? b = some u → h'.get? b = some u) (hp : h.objs.size ≤ a) (new : ObjOk P w (upd H a o) h' a o) : HOk P w (upd H a o) h' := fun b u e => by
  have hn := x.fresh hp
  by_cases hb : b = a
  · subst hb; rw [upd_same] at e; cases e; exact new
  · rw [upd_ne hb] at e
    exact (x b u e).stay (fun c v _ q => k c v q) (fun c q => by rw [upd_ne (ne_of_none q hn)]; exact q) fun c xs q => by rw [upd_ne (ne_of_none q hn)]; exact q
end
/-- what may be read as u: it is u, or a known u -/
def Rd (H : Hp) (a : Addr) (u : HO) : Prop := H a = some u ∨ ∃ o, H a = some (.frz o u)
theorem Rd.of {H : Hp} {a : Addr} {u : HO} (h : H a = some u) : Rd H a u := .inl h
theorem Rd.ok {P : Program} {w : World} {H : Hp} {h : Heap} {a : Addr} {u : HO} (r : Rd H a u) (x : HOk P w H h) : ObjOk P w H h a u := by
  rcases r with r | ⟨o, r⟩
  · exact x a u r
  · obtain ⟨_, q⟩ := x a _ r
    exact q
/-- what may be written -/
def Mut : Option HO → Prop
  | some (.lst _) => True
  | some (.dK _) => True
  | some (.dT _) => True
  | some (.set _ _) => True
  | some (.ins _ _ _) => True
  | some (.ext _) => True
  | _ => False
section
variable {P : Program} {w : World} {H : Hp} {h h' : Heap} {x e : Addr} {o' : HO}
/-- the object at e is changed: x itself, or the dict of the instance x -/
theorem HOk.write (ok : HOk P w H h) (mu : Mut (H x)) (he : e = x ∨ H e = some (.own x)) (k : ∀ b u, b ≠ e → h.get? b = some u → h'.get? b = some u) (heo : ∃ u, h'.get? e = some u)
    (new : ObjOk P w (upd H x o') h' x o') : HOk P w (upd H x o') h' := fun b u q => by
  have nown : ∀ c y, H c = some (.own y) → c ≠ x := fun c y r z => by subst z; rw [r] at mu; exact mu
  have ntup : ∀ c xs, H c = some (.tup xs) → c ≠ x := fun c xs r z => by subst z; rw [r] at mu; exact mu
  by_cases hb : b = x
  · subst hb; rw [upd_same] at q; cases q; exact new
  · rw [upd_ne hb] at q
    by_cases hbe : b = e
    · have q' : H b = some (.own x) := by
        rcases he with z | z
        · exact absurd (hbe.trans z) hb
        · rw [hbe]; exact z
      rw [q] at q'; cases q'
      obtain ⟨v, hv⟩ := heo
      exact ⟨v, by rw [hbe]; exact hv⟩
    · refine (ok b u q).stay (fun c v hc r => k c v ?_ r) (fun c r => by rw [upd_ne (nown c b r)]; exact r) fun c xs r => by rw [upd_ne (ntup c xs r)]; exact r
      rcases hc with rfl | hc
      · exact hbe
      · rintro rfl
        rcases he with z | z
        · exact nown c b hc z
        · rw [hc] at z; cases z; exact hb rfl
end
structure Un (fs ex : List Addr) (H H' : Hp) (h h' : Heap) : Prop where
  keep : ∀ b o, h.get? b = some o → H b = none → b ∉ fs → b ∉ ex → h'.get? b = some o
  slot : ∀ b o, h.get? b = some o → H b = none → b ∈ fs → b ∉ ex → ∃ sl, h'.get? b = some { o with slots := sl }
  free : ∀ b o, h.get? b = some o → H b = none → b ∉ ex → H' b = none
  there : ∀ b o, h.get? b = some o → b ∉ ex → ∃ o', h'.get? b = some o'
  tups : ∀ b xs, H b = some (.tup xs) → H' b = some (.tup xs)
  frzs : ∀ b o u, H b = some (.frz o u) → H' b = some (.frz o u)
  tbls : ∀ b ps, H b = some (.tbl ps) → ∃ more, H' b = some (.tbl (ps ++ more))
section
variable {fs fs' ex ex' : List Addr} {H H1 H2 : Hp} {h h1 h2 h' : Heap} {a x e : Addr} {o : HO}
theorem Un.any (u : Un fs ex H H1 h h1) {b : Addr} {ob : Obj} (q : h.get? b = some ob) (n : H b = none) (hx : b ∉ ex) : ∃ sl, h1.get? b = some { ob with slots := sl } := by
  by_cases hb : b ∈ fs
  · exact u.slot b ob q n hb hx
  · exact ⟨ob.slots, u.keep b ob q n hb hx⟩
theorem Un.trans (a : Un fs ex H H1 h h1) (b : Un fs ex H1 H2 h1 h2) : Un fs ex H H2 h h2 where
  keep := fun c ob q n hc hx => b.keep c ob (a.keep c ob q n hc hx) (a.free c ob q n hx) hc hx
  slot := fun c ob q n hc hx => by
    obtain ⟨sl, e1⟩ := a.slot c ob q n hc hx
    obtain ⟨sl', e2⟩ := b.slot c _ e1 (a.free c ob q n hx) hc hx
    exact ⟨sl', e2⟩
  free := fun c ob q n hx => by
    obtain ⟨o', e1⟩ := a.there c ob q hx
    exact b.free c o' e1 (a.free c ob q n hx) hx
  there := fun c ob q hx => by
    obtain ⟨o', e1⟩ := a.there c ob q hx
    exact b.there c o' e1 hx
  tups := fun c xs q => b.tups c xs (a.tups c xs q)
  frzs := fun c ob xs q => b.frzs c ob xs (a.frzs c ob xs q)
  tbls := fun c ps q => by
    obtain ⟨m1, e1⟩ := a.tbls c ps q
    obtain ⟨m2, e2⟩ := b.tbls c _ e1
    exact ⟨m1 ++ m2, by rw [e2, Array.append_assoc]⟩
theorem Un.kept (k : ∀ b u, h.get? b = some u → h'.get? b = some u) : Un fs ex H H h h' :=
  ⟨fun b ob q _ _ _ => k b ob q, fun b ob q _ _ _ => ⟨ob.slots, k b ob q⟩, fun _ _ _ n _ => n, fun b ob q _ => ⟨ob, k b ob q⟩, fun _ _ q => q, fun _ _ _ q => q, fun _ ps q => ⟨#[], by rw [q]; simp⟩⟩
theorem Un.refl : Un fs ex H H h h := Un.kept fun _ _ q => q
theorem Un.laid (k : ∀ b u, h.get? b = some u → h'.get? b = some u) (hp : h.objs.size ≤ a) (hn : H a = none) : Un fs ex H (upd H a o) h h' where
  keep := fun b u q _ _ _ => k b u q
  slot := fun b u q _ _ _ => ⟨u.slots, k b u q⟩
  free := fun b u q n _ => by rw [upd_ne (Nat.ne_of_lt (Nat.lt_of_lt_of_le (Heap.lt_size q) hp))]; exact n
  there := fun b u q _ => ⟨u, k b u q⟩
  tups := fun b xs q => by rw [upd_ne (ne_of_none q hn)]; exact q
  frzs := fun b u xs q => by rw [upd_ne (ne_of_none q hn)]; exact q
  tbls := fun b ps q => ⟨#[], by rw [upd_ne (ne_of_none q hn), q]; simp⟩
theorem Un.write (mu : Mut (H x)) (he : e = x ∨ H e = some (.own x)) (k : ∀ b u, b ≠ e → h.get? b = some u → h'.get? b = some u) (heo : ∃ u, h'.get? e = some u) : Un fs ex H (upd H x o) h h' := by
  have hx : ∀ b, H b = none → b ≠ x := fun b n z => by subst z; rw [n] at mu; exact mu
  have hb : ∀ b, H b = none → b ≠ e := fun b n z => by
    subst z
    rcases he with r | r
    · exact hx b n r
    · rw [n] at r; cases r
  have hm : ∀ b u, H b = some u → ¬ Mut (some u) → b ≠ x := fun b u q nm z => by subst z; rw [q] at mu; exact nm mu
  refine ⟨fun b u q n _ _ => k b u (hb b n) q, fun b u q n _ _ => ⟨u.slots, k b u (hb b n) q⟩, fun b u q n _ => by rw [upd_ne (hx b n)]; exact n, fun b u q _ => ?_,
    fun b xs q => by rw [upd_ne (hm b _ q fun z => z)]; exact q, fun b u xs q => by rw [upd_ne (hm b _ q fun z => z)]; exact q, fun b ps q => ⟨#[], by rw [upd_ne (hm b _ q fun z => z), q]; simp⟩⟩
  by_cases hbe : b = e
  · subst hbe; exact heo
  · exact ⟨u, k b u hbe q⟩
theorem Un.mono (u : Un fs ex H H1 h h1) (hs : ∀ b ∈ fs, b ∈ fs') (hx : ∀ b ∈ ex, b ∈ ex') : Un fs' ex' H H1 h h1 :=
  ⟨fun b ob q n hb he => u.keep b ob q n (fun z => hb (hs b z)) fun z => he (hx b z), fun _ _ q n _ he => u.any q n fun z => he (hx _ z), fun b ob q n he => u.free b ob q n fun z => he (hx b z), fun b ob q he => u.there b ob q fun z => he (hx b z), u.tups, u.frzs, u.tbls⟩
end
def trk (h : Heap) (H : Hp) : List Addr := (List.range h.objs.size).filter fun a => (H a).isSome
def hidT (h : Heap) (H : Hp) : Heap := PySem.W.hideAll h (trk h H)
theorem hidT_size (h : Heap) (H : Hp) : (hidT h H).objs.size = h.objs.size := PySem.W.hideAll_size _ _
theorem hidT_get {h : Heap} {H : Hp} {b : Addr} {o : Obj} (e : h.get? b = some o) (n : H b = none) : (hidT h H).get? b = some o :=
  PySem.W.hideAll_get _ e fun hm => by
    have q : (H b).isSome = true := (List.mem_filter.mp hm).2
    rw [n] at q; simp at q
theorem of_hidT {h : Heap} {H : Hp} {b : Addr} {o : Obj} (e : (hidT h H).get? b = some o) : h.get? b = some o ∧ H b = none := by
  have e' : h.get? b = some o := PySem.W.of_hideAll (trk h H) e
  refine ⟨e', ?_⟩
  cases q : H b with
  | none => rfl
  | some x =>
    have hm : b ∈ trk h H := List.mem_filter.mpr ⟨List.mem_range.mpr (Heap.lt_size e'), by simp [q]⟩
    have z : (hidT h H).get? b = none := PySem.W.hideAll_none (trk h H) hm
    rw [z] at e; cases e
def allNews (g h : Heap) (L : Addr) : List (Addr × Obj) := (List.range h.objs.size).filterMap fun a => if a = L ∨ (g.get? a).isSome = true then none else (h.get? a).map fun o => (a, o)
def rest (g h : Heap) (L d : Addr) : List (Addr × Obj) := (allNews g h L).filter fun p => decide (p.1 ≠ d)
end L2
namespace L2
open PySem PySem.Spec PyProof.Rows
/-- the module's facts, over the base: the heap at the law's entry without what is tracked there -/
structure Mod (K : PySem.W.Frag) (mg : Str → Option Value) (base : Heap) : Prop where
  kin : K.In base
  glob : base.Ns mainGlobals mg
  blt : ∃ mb, base.Ns builtinsNs mb ∧ ∀ x : Str, x ≠ "__name__" → mb x = bootBuiltins x
  nolimit : base.NoLimit
/-- the context: a def's body (or a comprehension's block) running. base: fixed through the whole law; s₀, H₀: the entry; outer: the frames whose slots others may change (a def's callers); stack: all frames that run;
   ex: iterators that were made ahead of the entry and are walked here (a comprehension's); fn: the names whose cells were made at the entry (a def: all; a comprehension's block: its own); calm: not within an except suite; pn: pins that every state bears; xe: what is wanted of an exception that leaves the code -/
structure Cx where
  prog : Program
  w : World
  K : PySem.W.Frag
  mg : Str → Option Value
  base : Heap
  A : Around
  N : List Str
  s₀ : Shared
  H₀ : Hp
  env : Env
  outer : List Env
  stack : List Env
  ex : List Addr
  fn : Str → Bool
  calm : Bool
  pn : List (Addr × Obj)
  xe : Value → Shared → Prop
/-- the callers' frames -/
def frs (l : List Env) : List Addr := l.filterMap (·.frame)
abbrev Cx.fs (X : Cx) : List Addr := frs X.outer
def Vis (sc : Scope) (x : Str) : Prop := sc.names.lookup x = some .local ∨ sc.names.lookup x = some .cell ∨ sc.names.lookup x = some .free
def Loc (sc : Scope) (x : Str) : Prop := sc.names.lookup x = some .local ∨ sc.names.lookup x = some .cell
def Look (env : Env) (h : Heap) (m : Str → Option Value) (x : Str) (u : Value) : Prop :=
  (env.kindOf x = some .local ∧ m x = some u) ∨ ((env.kindOf x = some .cell ∨ env.kindOf x = some .free) ∧ ∃ c, env.cells.lookup x = some c ∧ h.IsCell c (some u))
structure Cx.Ok (X : Cx) : Prop where
  mod : Mod X.K X.mg X.base
  kind : X.env.scope.kind = .function
  glob : X.env.globals = mainGlobals
  blt : X.env.builtins = builtinsNs
  above : X.s₀.heap.objs.size ≤ X.env.locals
  inj : ∀ x y c, X.env.cells.lookup x = some c → X.env.cells.lookup y = some c → x = y
  has : ∀ x, (X.env.kindOf x = some .cell ∨ X.env.kindOf x = some .free) → ∃ c, X.env.cells.lookup x = some c
  cab : ∀ x c, X.fn x = true → X.env.cells.lookup x = some c → X.s₀.heap.objs.size ≤ c
  hd : X.calm = true → X.A.handled = none
  frames : X.A.frames = some X.stack
  stk : X.stack = X.outer ∨ (X.stack = X.env :: X.outer ∧ X.env.frame = some X.env.locals)
  exf : ∀ b ∈ X.ex, b ≠ X.env.locals ∧ ∀ x c, X.env.cells.lookup x = some c → c ≠ b
  bs : ∀ b o, X.base.get? b = some o → X.s₀.heap.get? b = some o ∧ X.H₀ b = none
  bsz : X.base.objs.size ≤ X.s₀.heap.objs.size
  noex : ∀ b o, X.base.get? b = some o → b ∉ X.ex
  exfs : ∀ b ∈ X.ex, b ∉ X.fs
  funs : X.s₀.heap.FunFrames X.base X.outer
  frf : ∀ b ∈ X.fs, X.H₀ b = none
structure Inv (X : Cx) (pins : List (Addr × Obj)) (σ : List (Option V)) (H : Hp) (s : Shared) : Prop where
  ok : X.Ok
  os : s.os = X.s₀.os
  bare : AllBare s.gens
  base : Un X.fs X.ex X.H₀ H X.s₀.heap s.heap
  loc : ∃ m, s.heap.Ns X.env.locals m ∧ ∀ (i : Nat) (x : Str) (v : V), X.N[i]? = some x → σ[i]? = some (some v) → Vis X.env.scope x → ∃ u, RelV v u ∧ Look X.env s.heap m x u
  cell : ∀ x c, X.env.cells.lookup x = some c → ∃ v, s.heap.IsCell c v
  free : H X.env.locals = none
  freeC : ∀ x c, X.env.cells.lookup x = some c → H c = none
  pin : ∀ p ∈ X.pn ++ pins, s.heap.get? p.1 = some p.2 ∧ H p.1 = none ∧ p.1 ≠ X.env.locals ∧ p.1 ∉ X.fs ∧ ∀ v, p.2.data ≠ .cell v
  hok : HOk X.prog X.w H s.heap
  len : σ.length = X.N.length
section
variable {X : Cx} {pins : List (Addr × Obj)} {σ : List (Option V)} {H H' : Hp} {s : Shared} {h' : Heap}
theorem Cx.Ok.nofr (ok : X.Ok) {b : Addr} {o : Obj} (e : X.base.get? b = some o) : b ∉ X.fs := fun hb => by
  have := (ok.funs.mem hb).1
  rw [e] at this; cases this
theorem Inv.bs (I : Inv X pins σ H s) : ∀ b o, X.base.get? b = some o → s.heap.get? b = some o ∧ H b = none := fun b o e =>
  ⟨I.base.keep b o (I.ok.bs b o e).1 (I.ok.bs b o e).2 (I.ok.nofr e) (I.ok.noex b o e), I.base.free b o (I.ok.bs b o e).1 (I.ok.bs b o e).2 (I.ok.noex b o e)⟩
theorem Inv.bk (I : Inv X pins σ H s) : ∀ b o, X.base.get? b = some o → s.heap.get? b = some o := fun b o e => (I.bs b o e).1
theorem Inv.mod (I : Inv X pins σ H s) : Mod X.K X.mg X.base := I.ok.mod
theorem Inv.kIn (I : Inv X pins σ H s) : X.K.In s.heap := I.ok.mod.kin.keeps I.bk
theorem Inv.nolimit (I : Inv X pins σ H s) : s.heap.NoLimit := I.ok.mod.nolimit.keeps I.bk
/-- the frame over the base: for OpenK's rules (K.In X.base is I.mod.kin) -/
theorem Inv.fr (I : Inv X pins σ H s) : ∃ m, Fr X.base X.env.locals s.heap m :=
  let ⟨m, hn, _⟩ := I.loc
  ⟨m, hn, I.bk, Nat.le_trans I.ok.bsz I.ok.above⟩
theorem Inv.lt (I : Inv X pins σ H s) : X.env.locals < s.heap.objs.size := let ⟨_, hn, _⟩ := I.loc; hn.lt
theorem Inv.sz (I : Inv X pins σ H s) : X.s₀.heap.objs.size ≤ s.heap.objs.size := Nat.le_trans I.ok.above (Nat.le_of_lt I.lt)
theorem Inv.nofs (I : Inv X pins σ H s) {a : Addr} (h : s.heap.objs.size ≤ a) : a ∉ X.fs := fun hb => by
  obtain ⟨_, o, ho, _⟩ := I.ok.funs.mem hb
  exact absurd (Nat.lt_of_lt_of_le (Heap.lt_size ho) (Nat.le_trans I.sz h)) (Nat.lt_irrefl _)
theorem Inv.cne (I : Inv X pins σ H s) : ∀ x c, X.env.cells.lookup x = some c → c ≠ X.env.locals := fun x c e z => by
  obtain ⟨v, o, ho, hd⟩ := I.cell x c e
  obtain ⟨m, ⟨o', es, ep, ho', hd', _⟩, _⟩ := I.loc
  rw [z, ho'] at ho; cases ho; rw [hd'] at hd; cases hd
theorem Inv.funs (I : Inv X pins σ H s) : s.heap.FunFrames X.base X.outer := by
  have all : ∀ (l : List Env), (∀ b ∈ frs l, b ∈ X.fs) → X.s₀.heap.FunFrames X.base l → s.heap.FunFrames X.base l := by
    intro l
    induction l with
    | nil => intro _ _; trivial
    | cons env r ih =>
      intro hs hl
      obtain ⟨hk, ⟨L, o, hf, hn, ho, hd⟩, hr⟩ := hl
      have hL : L ∈ X.fs := hs L (by unfold frs; rw [List.filterMap_cons, hf]; exact List.mem_cons_self)
      obtain ⟨sl, e⟩ := I.base.slot L o ho (I.ok.frf L hL) hL fun z => I.ok.exfs L z hL
      exact ⟨hk, ⟨L, _, hf, hn, e, hd⟩, ih (fun b hb => hs b (by unfold frs; rw [List.filterMap_cons, hf]; exact List.mem_cons_of_mem _ hb)) hr⟩
  exact all X.outer (fun _ hb => hb) I.ok.funs
/-- the frames that run, for a call -/
theorem Inv.stack (I : Inv X pins σ H s) : s.heap.FunFrames X.base X.stack := by
  rcases I.ok.stk with e | ⟨e, hf⟩
  · rw [e]; exact I.funs
  · rw [e]
    obtain ⟨m, hn, _⟩ := I.loc
    refine .cons (by rw [I.ok.kind]; decide) hf hn ?_ I.funs
    exact Heap.get?_none_of_le (Nat.le_trans I.ok.bsz I.ok.above)
theorem Inv.stkSub (I : Inv X pins σ H s) : ∀ b ∈ frs X.stack, b ∈ X.env.locals :: X.fs := fun b hb => by
  rcases I.ok.stk with e | ⟨e, hf⟩
  · rw [e] at hb; exact List.mem_cons_of_mem _ hb
  · rw [e] at hb
    unfold frs at hb
    rw [List.filterMap_cons, hf] at hb
    exact hb
theorem Inv.stkFree (I : Inv X pins σ H s) : ∀ b ∈ frs X.stack, H b = none := fun b hb => by
  rcases List.mem_cons.mp (I.stkSub b hb) with e | hb
  · rw [e]; exact I.free
  · obtain ⟨_, o, ho, _⟩ := I.ok.funs.mem hb
    exact I.base.free b o ho (I.ok.frf b hb) fun z => I.ok.exfs b z hb
/-- THE STEP: the untracked objects but the frame and the records at ch are kept (the callers' frames up to slots), the frame's map is kept, the new abstract heap is held -/
theorem Inv.step {g' : Array GenState} {t' : Nat} {d' : Drawn} {ch : List Addr} (I : Inv X pins σ H s)
    (hch : ∀ b ∈ ch, (b ∈ X.ex ∨ X.s₀.heap.objs.size ≤ b) ∧ b ≠ X.env.locals ∧ (∀ x c, X.env.cells.lookup x = some c → c ≠ b) ∧ ∀ p ∈ X.pn ++ pins, p.1 ≠ b)
    (keep : ∀ b o, b ≠ X.env.locals → b ∉ X.fs → b ∉ ch → s.heap.get? b = some o → H b = none → h'.get? b = some o)
    (slot : ∀ b o, b ≠ X.env.locals → b ∈ X.fs → b ∉ ch → s.heap.get? b = some o → H b = none → ∃ sl, h'.get? b = some { o with slots := sl }) (free : ∀ b o, b ∉ ch → s.heap.get? b = some o → H b = none → H' b = none)
    (there : ∀ b o, b ∉ ch → s.heap.get? b = some o → ∃ o', h'.get? b = some o')
    (tups : ∀ b xs, H b = some (.tup xs) → H' b = some (.tup xs)) (frzs : ∀ b o u, H b = some (.frz o u) → H' b = some (.frz o u)) (tbls : ∀ b ps, H b = some (.tbl ps) → ∃ more, H' b = some (.tbl (ps ++ more)))
    (ns : ∀ m, s.heap.Ns X.env.locals m → h'.Ns X.env.locals m) (hok : HOk X.prog X.w H' h') (hg : AllBare g') :
    Inv X pins σ H' { s with heap := h', gens := g', drawn := d', toks := t' } := by
  have neL : ∀ b o, X.s₀.heap.get? b = some o → b ≠ X.env.locals := fun b o e => Nat.ne_of_lt (Nat.lt_of_lt_of_le (Heap.lt_size e) I.ok.above)
  have neC : ∀ b o, X.s₀.heap.get? b = some o → b ∉ X.ex → b ∉ ch := fun b o e hx hb => by
    rcases (hch b hb).1 with z | z
    · exact hx z
    · exact absurd (Nat.lt_of_lt_of_le (Heap.lt_size e) z) (Nat.lt_irrefl _)
  have cellK : ∀ x c, X.env.cells.lookup x = some c → ∀ v, s.heap.IsCell c v → h'.IsCell c v := fun x c e v ⟨o, ho, hd⟩ => by
    have nch : c ∉ ch := fun z => (hch c z).2.2.1 x c e rfl
    by_cases hc : c ∈ X.fs
    · obtain ⟨sl, q⟩ := slot c o (I.cne x c e) hc nch ho (I.freeC x c e)
      exact ⟨_, q, hd⟩
    · exact ⟨o, keep c o (I.cne x c e) hc nch ho (I.freeC x c e), hd⟩
  refine ⟨I.ok, I.os, hg, ⟨fun b o e n hb hx => ?_, fun b o e n hb hx => ?_, fun b o e n hx => ?_, fun b o e hx => ?_, fun b xs e => tups b xs (I.base.tups b xs e), fun b o xs e => frzs b o xs (I.base.frzs b o xs e), fun b ps e => ?_⟩, ?_, fun x c e => ?_, ?_, fun x c e => ?_, fun p hp => ?_, hok, I.len⟩
  · exact keep b o (neL b o e) hb (neC b o e hx) (I.base.keep b o e n hb hx) (I.base.free b o e n hx)
  · obtain ⟨sl, e1⟩ := I.base.slot b o e n hb hx
    obtain ⟨sl', e2⟩ := slot b _ (neL b o e) hb (neC b o e hx) e1 (I.base.free b o e n hx)
    exact ⟨sl', e2⟩
  · obtain ⟨o', e1⟩ := I.base.there b o e hx
    exact free b o' (neC b o e hx) e1 (I.base.free b o e n hx)
  · obtain ⟨o', e1⟩ := I.base.there b o e hx
    exact there b o' (neC b o e hx) e1
  · obtain ⟨m1, e1⟩ := I.base.tbls b ps e
    obtain ⟨m2, e2⟩ := tbls b _ e1
    exact ⟨m1 ++ m2, by rw [e2, Array.append_assoc]⟩
  · obtain ⟨m, hn, hl⟩ := I.loc
    refine ⟨m, ns m hn, fun i x v e1 e2 e3 => ?_⟩
    obtain ⟨u, r, l⟩ := hl i x v e1 e2 e3
    refine ⟨u, r, ?_⟩
    rcases l with l | ⟨k, c, e, z⟩
    · exact .inl l
    · exact .inr ⟨k, c, e, cellK x c e _ z⟩
  · obtain ⟨v, z⟩ := I.cell x c e
    exact ⟨v, cellK x c e v z⟩
  · obtain ⟨m, ⟨o, _, _, ho, _⟩, _⟩ := I.loc
    exact free _ o (fun z => (hch _ z).2.1 rfl) ho I.free
  · obtain ⟨v, o, ho, hd⟩ := I.cell x c e
    exact free c o (fun z => (hch c z).2.2.1 x c e rfl) ho (I.freeC x c e)
  · obtain ⟨e, n, ne, nf, d⟩ := I.pin p hp
    have nch : p.1 ∉ ch := fun z => (hch p.1 z).2.2.2 p hp rfl
    exact ⟨keep p.1 p.2 ne nf nch e n, free p.1 p.2 nch e n, ne, nf, d⟩
/-- .. where the frame's own object is kept too -/
theorem Inv.un {t' : Nat} (I : Inv X pins σ H s) (u : Un X.fs [] H H' s.heap h') (hok : HOk X.prog X.w H' h') : Inv X pins σ H' { s with heap := h', toks := t' } := by
  obtain ⟨m, ⟨o, es, ep, ho, r⟩, _⟩ := id I.loc
  obtain ⟨sl, hL⟩ := u.any ho I.free (by simp)
  exact I.step (g' := s.gens) (d' := s.drawn) (ch := []) (fun _ z => nomatch z) (fun b o _ hb _ e n => u.keep b o e n hb (by simp)) (fun b o _ hb _ e n => u.slot b o e n hb (by simp)) (fun b o _ e n => u.free b o e n (by simp)) (fun b o _ e => u.there b o e (by simp)) u.tups u.frzs u.tbls (fun m' hm => by
    obtain ⟨o', es', ep', ho', r'⟩ := hm
    rw [ho] at ho'; cases ho'
    exact ⟨_, es', ep', hL, r'⟩) hok I.bare
/-- behind a call (or a comprehension's block): the slots of this frame may have changed too, the records at ch may have turned -/
theorem Inv.call {g' : Array GenState} {t' : Nat} {d' : Drawn} {ch : List Addr} (I : Inv X pins σ H s) (u : Un (frs X.stack) ch H H' s.heap h') (hok : HOk X.prog X.w H' h') (hg : AllBare g')
    (hch : ∀ b ∈ ch, (b ∈ X.ex ∨ X.s₀.heap.objs.size ≤ b) ∧ b ≠ X.env.locals ∧ (∀ x c, X.env.cells.lookup x = some c → c ≠ b) ∧ ∀ p ∈ X.pn ++ pins, p.1 ≠ b) :
    Inv X pins σ H' { s with heap := h', gens := g', drawn := d', toks := t' } := by
  obtain ⟨m, ⟨o, es, ep, ho, r⟩, _⟩ := id I.loc
  obtain ⟨sl, hL⟩ := u.any ho I.free fun z => (hch _ z).2.1 rfl
  exact I.step (ch := ch) hch (fun b o hL hb hc e n => u.keep b o e n (fun z => (List.mem_cons.mp (I.stkSub b z)).elim hL hb) hc) (fun b o _ _ hc e n => u.any e n hc) (fun b o hc e n => u.free b o e n hc) (fun b o hc e => u.there b o e hc) u.tups u.frzs u.tbls (fun m' hm => by
    obtain ⟨o', es', ep', ho', r'⟩ := hm
    rw [ho] at ho'; cases ho'
    exact ⟨_, es', ep', hL, r'⟩) hok hg
/-- an untracked record of ours (an iterator) has turned -/
theorem Inv.turned {t' : Nat} {it : Addr} (I : Inv X pins σ H s) (k : ∀ b o, b ≠ it → s.heap.get? b = some o → h'.get? b = some o) (hn : H it = none) (hL : it ≠ X.env.locals)
    (h1 : it ∈ X.ex ∨ X.s₀.heap.objs.size ≤ it) (h2 : ∀ x c, X.env.cells.lookup x = some c → c ≠ it) (h3 : ∀ p ∈ X.pn ++ pins, p.1 ≠ it) : Inv X pins σ H { s with heap := h', toks := t' } := by
  have nit : ∀ b u, H b = some u → b ≠ it := fun b u e z => by rw [z, hn] at e; cases e
  refine I.step (g' := s.gens) (d' := s.drawn) (ch := [it]) (fun b hb => ?_) (fun b o _ _ hc e _ => k b o (fun z => hc (by simp [z])) e) (fun b o _ _ hc e _ => ⟨o.slots, k b o (fun z => hc (by simp [z])) e⟩) (fun _ _ _ _ n => n)
    (fun b o hc e => ⟨o, k b o (fun z => hc (by simp [z])) e⟩) (fun _ _ e => e) (fun _ _ _ e => e) (fun b ps e => ⟨#[], by rw [e]; simp⟩) (fun m hm => ?_) (fun b u e => ?_) I.bare
  · have e : b = it := by simpa using hb
    subst e
    exact ⟨h1, hL, h2, h3⟩
  · obtain ⟨o, es, ep, ho, r⟩ := hm
    exact ⟨o, es, ep, k _ o (Ne.symm hL) ho, r⟩
  · refine (I.hok b u e).stay (fun c v hc q => k c v ?_ q) (fun _ q => q) fun _ _ q => q
    rcases hc with z | z
    · rw [z]; exact nit b u e
    · exact nit c _ z
theorem Inv.tok (I : Inv X pins σ H s) (t : Nat) : Inv X pins σ H { s with toks := t } := I.un (h' := s.heap) (t' := t) Un.refl I.hok
/-- all objects kept -/
theorem Inv.kept {t' : Nat} (I : Inv X pins σ H s) (k : ∀ b u, s.heap.get? b = some u → h'.get? b = some u) : Inv X pins σ H { s with heap := h', toks := t' } := I.un (Un.kept k) (I.hok.kept k)
/-- a new object laid and tracked -/
theorem Inv.laid {a : Addr} {o : HO} {t' : Nat} (I : Inv X pins σ H s) (k : ∀ b u, s.heap.get? b = some u → h'.get? b = some u) (hp : s.heap.objs.size ≤ a) (new : ObjOk X.prog X.w (upd H a o) h' a o) :
    Inv X pins σ (upd H a o) { s with heap := h', toks := t' } := I.un (Un.laid k hp (I.hok.fresh hp)) (I.hok.laid k hp new)
/-- an object written -/
theorem Inv.write {x e : Addr} {o : HO} {t' : Nat} (I : Inv X pins σ H s) (mu : Mut (H x)) (he : e = x ∨ H e = some (.own x)) (k : ∀ b u, b ≠ e → s.heap.get? b = some u → h'.get? b = some u) (heo : ∃ u, h'.get? e = some u)
    (new : ObjOk X.prog X.w (upd H x o) h' x o) : Inv X pins σ (upd H x o) { s with heap := h', toks := t' } := I.un (Un.write mu he k heo) (I.hok.write mu he k heo new)
theorem Inv.pins_of {pins' : List (Addr × Obj)} (I : Inv X pins σ H s) (h : ∀ p ∈ pins', s.heap.get? p.1 = some p.2 ∧ H p.1 = none ∧ p.1 ≠ X.env.locals ∧ p.1 ∉ X.fs ∧ ∀ v, p.2.data ≠ .cell v) : Inv X pins' σ H s :=
  ⟨I.ok, I.os, I.bare, I.base, I.loc, I.cell, I.free, I.freeC, fun p hp => (List.mem_append.mp hp).elim (fun z => I.pin p (List.mem_append_left _ z)) (h p), I.hok, I.len⟩
theorem nodup_ix {N : List Str} (hN : N.Nodup) {i j : Nat} {x : Str} (a : N[i]? = some x) (b : N[j]? = some x) : i = j := by
  obtain ⟨h1, e1⟩ := List.getElem?_eq_some_iff.mp a
  obtain ⟨h2, e2⟩ := List.getElem?_eq_some_iff.mp b
  exact (List.getElem_inj hN).mp (e1.trans e2.symm)
/-- a name is stored; what changed -/
theorem store_ok2 {M : Model} {A : Around} {E : Value → Shared → Prop} {i : Nat} {x : Str} {v : V} {u : Value} {Q : Unit → Shared → Prop} (I : Inv X pins σ H s) (hN : X.N.Nodup) (hi : X.N[i]? = some x) (hx : Loc X.env.scope x) (r : RelV v u)
    (h : ∀ s', Inv X pins (σ.set i (some v)) H s' → (∃ a, Heap.SameBut a s.heap s'.heap ∧ (a = X.env.locals ∨ X.env.cells.lookup x = some a)) → Q () s') (hf : X.fn x = true ∨ X.env.scope.names.lookup x = some .local := by first | exact .inl rfl | exact .inr rfl | assumption) : wpAny M A (storeName X.env x u) Q E s := by
  obtain ⟨m, hn, hl⟩ := id I.loc
  have hcls : (X.env.scope.kind == .class || (X.env.scope.kind == .module && X.env.locals != X.env.globals)) = false := by rw [I.ok.kind]; rfl
  have hiσ : i < σ.length := by rw [I.len]; exact (List.getElem?_eq_some_iff.mp hi).1
  have cne := I.cne
  have tracked : ∀ {a : Addr} {h' : Heap}, (∃ o, s.heap.get? a = some o ∧ H a = none) → Heap.SameBut a s.heap h' → HOk X.prog X.w H h' := fun {a h'} ha hs b ob e => by
    obtain ⟨_, _, hfree⟩ := ha
    refine (I.hok b ob e).stay (fun c w' hc q => (hs.2 c ?_).trans q) (fun _ q => q) fun _ _ q => q
    rintro rfl
    rcases hc with rfl | hc
    · rw [hfree] at e; cases e
    · rw [hfree] at hc; cases hc
  rcases hx with hk | hk
  · refine wpAny_storeName_local hk hn (fun h' hn' hs => ?_) hcls
    obtain ⟨oL, _, _, hoL, _⟩ := id hn
    refine h _ ⟨I.ok, I.os, I.bare, ⟨fun b o e n hb hx => ?_, fun b o e n hb hx => ?_, I.base.free, fun b o e hx => ?_, I.base.tups, I.base.frzs, I.base.tbls⟩, ⟨_, hn', fun j y v' e1 e2 e3 => ?_⟩, fun y c e => ?_, I.free, I.freeC, fun p hp => ?_, tracked ⟨oL, hoL, I.free⟩ hs, by simpa using I.len⟩ ⟨_, hs, .inl rfl⟩
    · exact (hs.2 b (Nat.ne_of_lt (Nat.lt_of_lt_of_le (Heap.lt_size e) I.ok.above))).trans (I.base.keep b o e n hb hx)
    · obtain ⟨sl, e1⟩ := I.base.slot b o e n hb hx
      exact ⟨sl, (hs.2 b (Nat.ne_of_lt (Nat.lt_of_lt_of_le (Heap.lt_size e) I.ok.above))).trans e1⟩
    · obtain ⟨o', e1⟩ := I.base.there b o e hx
      exact ⟨o', (hs.2 b (Nat.ne_of_lt (Nat.lt_of_lt_of_le (Heap.lt_size e) I.ok.above))).trans e1⟩
    · by_cases hj : j = i
      · subst hj
        rw [hi] at e1; cases e1
        rw [List.getElem?_set_self hiσ] at e2
        cases e2
        exact ⟨u, r, .inl ⟨hk, by simp⟩⟩
      · rw [List.getElem?_set_ne (Ne.symm hj)] at e2
        obtain ⟨u', r', q⟩ := hl j y v' e1 e2 e3
        refine ⟨u', r', ?_⟩
        rcases q with ⟨k, e⟩ | ⟨k, c, e, z⟩
        · refine .inl ⟨k, ?_⟩
          have : y ≠ x := fun e => hj (nodup_ix hN e1 (e ▸ hi))
          simp [this, e]
        · exact .inr ⟨k, c, e, z.sameBut hs (cne y c e)⟩
    · obtain ⟨w', z⟩ := I.cell y c e
      exact ⟨w', z.sameBut hs (cne y c e)⟩
    · obtain ⟨e, n, ne, nf, d⟩ := I.pin p hp
      exact ⟨(hs.2 p.1 ne).trans e, n, ne, nf, d⟩
  · have hfn : X.fn x = true := by
      rcases hf with z | z
      · exact z
      · rw [z] at hk; cases hk
    obtain ⟨c, hc⟩ := I.ok.has x (.inl hk)
    obtain ⟨w', z⟩ := I.cell x c hc
    refine wpAny_storeName_cell I.ok.kind hk hc z (fun h' hc' hs => ?_)
    obtain ⟨oc, hoc, hocd⟩ := id z
    refine h { s with heap := h' } ⟨I.ok, I.os, I.bare, ⟨fun b o e n hb hx => ?_, fun b o e n hb hx => ?_, I.base.free, fun b o e hx => ?_, I.base.tups, I.base.frzs, I.base.tbls⟩, ⟨m, hn.sameBut hs (Ne.symm (cne x c hc)), fun j y v' e1 e2 e3 => ?_⟩, fun y c' e => ?_, I.free, I.freeC, fun p hp => ?_, tracked ⟨oc, hoc, I.freeC x c hc⟩ hs, by simpa using I.len⟩ ⟨c, hs, .inr hc⟩
    · exact (hs.2 b (Nat.ne_of_lt (Nat.lt_of_lt_of_le (Heap.lt_size e) (I.ok.cab x c hfn hc)))).trans (I.base.keep b o e n hb hx)
    · obtain ⟨sl, e1⟩ := I.base.slot b o e n hb hx
      exact ⟨sl, (hs.2 b (Nat.ne_of_lt (Nat.lt_of_lt_of_le (Heap.lt_size e) (I.ok.cab x c hfn hc)))).trans e1⟩
    · obtain ⟨o', e1⟩ := I.base.there b o e hx
      exact ⟨o', (hs.2 b (Nat.ne_of_lt (Nat.lt_of_lt_of_le (Heap.lt_size e) (I.ok.cab x c hfn hc)))).trans e1⟩
    · by_cases hj : j = i
      · subst hj
        rw [hi] at e1; cases e1
        rw [List.getElem?_set_self hiσ] at e2
        cases e2
        exact ⟨u, r, .inr ⟨.inl hk, c, hc, hc'⟩⟩
      · rw [List.getElem?_set_ne (Ne.symm hj)] at e2
        obtain ⟨u', r', q⟩ := hl j y v' e1 e2 e3
        refine ⟨u', r', ?_⟩
        rcases q with q | ⟨k, c', e, z'⟩
        · exact .inl q
        · refine .inr ⟨k, c', e, z'.sameBut hs ?_⟩
          rintro rfl
          exact hj (nodup_ix hN e1 (I.ok.inj _ _ _ e hc ▸ hi))
    · by_cases hcc : c' = c
      · subst hcc; exact ⟨_, hc'⟩
      · obtain ⟨w2, z2⟩ := I.cell y c' e
        exact ⟨w2, z2.sameBut hs hcc⟩
    · obtain ⟨e, n, ne, nf, d⟩ := I.pin p hp
      refine ⟨(hs.2 p.1 ?_).trans e, n, ne, nf, d⟩
      intro q
      rw [q, hoc] at e
      have q' : oc = p.2 := Option.some.inj e
      exact d w' (by rw [← q']; exact hocd)
theorem store_ok {M : Model} {A : Around} {E : Value → Shared → Prop} {i : Nat} {x : Str} {v : V} {u : Value} {Q : Unit → Shared → Prop} (I : Inv X pins σ H s) (hN : X.N.Nodup) (hi : X.N[i]? = some x) (hx : Loc X.env.scope x) (r : RelV v u)
    (h : ∀ s', Inv X pins (σ.set i (some v)) H s' → Q () s') (hf : X.fn x = true ∨ X.env.scope.names.lookup x = some .local := by first | exact .inl rfl | exact .inr rfl | assumption) : wpAny M A (storeName X.env x u) Q E s :=
  store_ok2 I hN hi hx r (fun s' I' _ => h s' I') hf
/-- behind a call or a block, the state as it is -/
theorem Inv.call' {s' : Shared} {ch : List Addr} (I : Inv X pins σ H s) (ho : s'.os = s.os) (u : Un (frs X.stack) ch H H' s.heap s'.heap) (hok : HOk X.prog X.w H' s'.heap) (hg : AllBare s'.gens)
    (hch : ∀ b ∈ ch, (b ∈ X.ex ∨ X.s₀.heap.objs.size ≤ b) ∧ b ≠ X.env.locals ∧ (∀ x c, X.env.cells.lookup x = some c → c ≠ b) ∧ ∀ p ∈ X.pn ++ pins, p.1 ≠ b) : Inv X pins σ H' s' := by
  obtain ⟨h', g', d', t', o'⟩ := s'
  have e : o' = s.os := ho
  subst e
  exact I.call (g' := g') (t' := t') (d' := d') u hok hg hch
end
/-- an exception: its class, its own dict's address (where it has one), the abstract heap behind it -/
abbrev XK := Value → Option Addr → Hp → Prop
abbrev St := List (Option V)
abbrev VK := V → Hp → Prop
/-- an expression's reading; a test's; an argument list's -/
abbrev TE := St → Hp → VK → Prop
abbrev TT := St → Hp → (Bool → Hp → Prop) → Prop
abbrev TA := St → Hp → (List V → Hp → Prop) → Prop
/-- what is wanted behind a statement -/
structure Ends where
  nx : St → Hp → Prop
  rt : VK
  bk : St → Hp → Prop := fun _ _ => False
  ct : St → Hp → Prop := fun _ _ => False
abbrev TS := Ends → St → Hp → Prop
inductive EP (X : Cx) (pins : List (Addr × Obj)) (σ : St) (Q : VK) (u : Value) (s' : Shared) : Prop
  | mk : ∀ v H', Inv X pins σ H' s' → RelV v u → Q v H' → EP X pins σ Q u s'
inductive TP (X : Cx) (pins : List (Addr × Obj)) (σ : St) (Q : Bool → Hp → Prop) (b : Bool) (s' : Shared) : Prop
  | mk : ∀ H', Inv X pins σ H' s' → Q b H' → TP X pins σ Q b s'
inductive AP (X : Cx) (pins : List (Addr × Obj)) (σ : St) (Q : List V → Hp → Prop) (us : List Value) (s' : Shared) : Prop
  | mk : ∀ vs H', Inv X pins σ H' s' → Vals vs us → Q vs H' → AP X pins σ Q us s'
inductive SPn (X : Cx) (pins : List (Addr × Obj)) (N : St → Hp → Prop) (s' : Shared) : Prop
  | mk : ∀ σ' H', Inv X pins σ' H' s' → N σ' H' → SPn X pins N s'
inductive SPr (X : Cx) (pins : List (Addr × Obj)) (N : VK) (u : Value) (s' : Shared) : Prop
  | mk : ∀ v σ' H', Inv X pins σ' H' s' → RelV v u → N v H' → SPr X pins N u s'
def SP (X : Cx) (pins : List (Addr × Obj)) (D : Ends) (f : Flow) (s' : Shared) : Prop :=
  match f with
  | .next => SPn X pins D.nx s'
  | .brk => SPn X pins D.bk s'
  | .cont => SPn X pins D.ct s'
  | .ret u => SPr X pins D.rt u s'
def PE (X : Cx) (e : Expr) (t : TE) : Prop :=
  ∀ (pins : List (Addr × Obj)) (s : Shared) (σ : St) (H : Hp) (Q : VK), Inv X pins σ H s → t σ H Q → wpAny (model X.prog X.w) X.A (eval e X.env) (EP X pins σ Q) X.xe s
def PT (X : Cx) (e : Expr) (t : TT) : Prop :=
  ∀ (pins : List (Addr × Obj)) (s : Shared) (σ : St) (H : Hp) (Q : Bool → Hp → Prop), Inv X pins σ H s → t σ H Q → wpAny (model X.prog X.w) X.A (isTrue e X.env (eval e X.env)) (TP X pins σ Q) X.xe s
/-- a test whatever its 'whole' is (and, or) -/
def PW (X : Cx) (e : Expr) (t : TT) : Prop :=
  ∀ (whole : Sem Value) (pins : List (Addr × Obj)) (s : Shared) (σ : St) (H : Hp) (Q : Bool → Hp → Prop), Inv X pins σ H s → t σ H Q → wpAny (model X.prog X.w) X.A (isTrue e X.env whole) (TP X pins σ Q) X.xe s
theorem PW.pt {X : Cx} {e : Expr} {t : TT} (h : PW X e t) : PT X e t := h _
/-- an argument list (no star), from the left -/
def PA (X : Cx) (es : List Expr) (t : TA) : Prop :=
  ∀ (pos : Pos) (pins : List (Addr × Obj)) (s : Shared) (σ : St) (H : Hp) (Q : List V → Hp → Prop), Inv X pins σ H s → t σ H Q → wpAny (model X.prog X.w) X.A (spliced (backTo pos (starEach es X.env))) (AP X pins σ Q) X.xe s
def PS (X : Cx) (st : Stmt) (t : TS) : Prop :=
  ∀ (pins : List (Addr × Obj)) (s : Shared) (σ : St) (H : Hp) (D : Ends), Inv X pins σ H s → t D σ H → wpAny (model X.prog X.w) X.A (exec st X.env) (SP X pins D) X.xe s
def PSs (X : Cx) (st : List Stmt) (t : TS) : Prop :=
  ∀ (pins : List (Addr × Obj)) (s : Shared) (σ : St) (H : Hp) (D : Ends), Inv X pins σ H s → t D σ H → wpAny (model X.prog X.w) X.A (execs st X.env) (SP X pins D) X.xe s
/-- weaken the end -/
theorem thn {α : Type} {t : Sem α} {Q Q' : α → Shared → Prop} {M : Model} {A : Around} {E : Value → Shared → Prop} {s : Shared} (h : wpAny M A t Q E s) (hQ : ∀ a s, Q a s → Q' a s) : wpAny M A t Q' E s := wpAny_mono h hQ fun _ _ x => x
end L2
namespace L2
open PySem PySem.Spec PyProof.Rows
section
variable {X : Cx}
inductive tVar_I (i : Nat) (σ : St) (H : Hp) (Q : VK) : Prop
  | mk : ∀ v, σ[i]? = some (some v) → Q v H → tVar_I i σ H Q
def tVar (i : Nat) : TE := fun σ H Q => tVar_I i σ H Q
def tC (v : V) : TE := fun _ H Q => Q v H
theorem pe_var {i : Nat} {x : Str} {pos : Pos} (hN : X.N[i]? = some x) (hv : Vis X.env.scope x) (hd : (x == ("__debug__" : Str)) = false := by decide) (hcd : (x == ("__classdict__" : Str)) = false := by decide) : PE X (.Name x pos) (tVar i) := by
  intro pins s σ H Q I h
  obtain ⟨v, e, h⟩ := h
  obtain ⟨m, hn, hl⟩ := I.loc
  obtain ⟨u, r, l⟩ := hl i x v hN e hv
  have fin : EP X pins σ Q u s := ⟨v, H, I, r, h⟩
  rcases l with ⟨hk, hm⟩ | ⟨hk, c, hc, hcell⟩
  · exact wpAny_Name (wpAny_loadName_local I.ok.kind hk hn hm fin) hd
  · rcases hk with hk | hk
    · exact wpAny_Name (wpAny_loadName_cell I.ok.kind hk hc hcell fin) hd
    · exact wpAny_Name (wpAny_loadName_free I.ok.kind hk hc hcell fin hcd) hd
theorem pe_int {i j pos} : PE X (.Constant (.int i) j pos) (tC (.int i)) := fun _ _ _ H _ I h => wpAny_Constant_int ⟨.int i, H, I.tok _, ⟨_, rfl⟩, h⟩
theorem pe_bl {b j pos} : PE X (.Constant (.bool b) j pos) (tC (.bl b)) := fun _ _ _ H _ I h => Constant_bool ⟨.bl b, H, I, rfl, h⟩
theorem pe_non {j pos} : PE X (.Constant .none j pos) (tC .non) := fun _ _ _ H _ I h => Constant_none ⟨.non, H, I, rfl, h⟩
theorem pe_str {x j pos} : PE X (.Constant (.str x) j pos) (tC (.str x)) := fun _ _ _ H _ I h => Calls.Constant_str ⟨.str x, H, I.tok _, ⟨_, rfl⟩, h⟩
/-- a global name of the def -/
def Gl (X : Cx) (x : Str) : Prop := X.env.kindOf x = some .globalImplicit
theorem ld_glob {E : Value → Shared → Prop} {pins : List (Addr × Obj)} {s : Shared} {σ : St} {H : Hp} {x : Str} {u : Value} {pos : Pos} {Q : Value → Shared → Prop} (I : Inv X pins σ H s) (hg : Gl X x) (hm : X.mg x = some u) (h : Q u s)
    (hd : (x == ("__debug__" : Str)) = false := by decide) : wpAny (model X.prog X.w) X.A (eval (.Name x pos) X.env) Q E s :=
  Calls.Name_function_global I.ok.kind hg (Calls.loadGlobal_global (by rw [I.ok.glob]; exact I.mod.glob.keeps I.bk) hm h) hd
theorem ld_blt {E : Value → Shared → Prop} {pins : List (Addr × Obj)} {s : Shared} {σ : St} {H : Hp} {x : Str} {u : Value} {pos : Pos} {Q : Value → Shared → Prop} (I : Inv X pins σ H s) (hg : Gl X x) (hm : X.mg x = none) (hv : bootBuiltins x = some u) (h : Q u s)
    (hn : x ≠ "__name__" := by decide) (hd : (x == ("__debug__" : Str)) = false := by decide) : wpAny (model X.prog X.w) X.A (eval (.Name x pos) X.env) Q E s := by
  obtain ⟨mb, h1, h2⟩ := I.mod.blt
  exact Calls.Name_function_global I.ok.kind hg (Calls.loadGlobal_builtin (by rw [I.ok.glob]; exact I.mod.glob.keeps I.bk) hm (by rw [I.ok.blt]; exact h1.keeps I.bk) ((h2 x hn).trans hv) h) hd
/-- a module's constant, a class, a function, as a value -/
theorem pe_glob {x : Str} {v : V} {u : Value} {pos : Pos} (hg : Gl X x) (hm : X.mg x = some u) (r : RelV v u) (hd : (x == ("__debug__" : Str)) = false := by decide) : PE X (.Name x pos) (tC v) :=
  fun _ _ _ H _ I h => ld_glob I hg hm ⟨v, H, I, r, h⟩ hd
theorem pe_bltn {x : Str} {v : V} {u : Value} {pos : Pos} (hg : Gl X x) (hm : X.mg x = none) (hv : bootBuiltins x = some u) (r : RelV v u) (hn : x ≠ "__name__" := by decide) (hd : (x == ("__debug__" : Str)) = false := by decide) : PE X (.Name x pos) (tC v) :=
  fun _ _ _ H _ I h => ld_blt I hg hm hv ⟨v, H, I, r, h⟩ hn hd
variable {a b : Expr} {ta tb : TE} {pos : Pos}
/-- a comparison as a value, as a test -/
inductive tB_I (Q : (Bool → Hp → Prop)) (x : V) (H1 : Hp) : Prop
  | mk : ∀ c, x = .bl c → Q c H1 → tB_I Q x H1
def tB (t : TE) : TT := fun σ H Q => t σ H fun x H1 => tB_I Q x H1
/-- an expression whose value is a bool, as a test -/
theorem pt_val {e : Expr} {t : TE} (h : PE X e t) (he : ∀ whole, isTrue e X.env whole = (do let v ← whole; standAt e.pos; holding [v] (truthy v)) := by intro _; rfl) : PT X e (tB t) := by
  intro pins s σ H Q I hw
  refine isTrue_plain (thn (h pins s σ H _ I hw) fun v s1 ⟨x, H1, I1, r1, q1⟩ => ?_) (he _)
  obtain ⟨d, rfl, q⟩ := q1
  cases r1
  exact wpAny_truthy_bool ⟨H1, I1, q⟩
variable {tA tB' : TT} {rest : List Expr}
def tAnd (t u : TT) : TT := fun σ H Q => t σ H fun c H1 => if c = true then u σ H1 Q else Q false H1
def tOr (t u : TT) : TT := fun σ H Q => t σ H fun c H1 => if c = true then Q true H1 else u σ H1 Q
def tNot (t : TT) : TT := fun σ H Q => t σ H fun c H1 => Q (!c) H1
theorem pw_and1 (ha : PT X a tA) : PW X (.BoolOp .And [a] pos) tA := by
  intro wh pins s σ H Q I h
  refine isTrue_and (thn (ha pins s σ H Q I h) fun c s1 e => ?_)
  cases c with
  | true => exact isTrue_and_nil e
  | false => exact e
theorem pw_or1 (ha : PT X a tA) : PW X (.BoolOp .Or [a] pos) tA := by
  intro wh pins s σ H Q I h
  refine isTrue_or (thn (ha pins s σ H Q I h) fun c s1 e => ?_)
  cases c with
  | false => exact isTrue_or_nil e
  | true => exact e
theorem pw_and (ha : PT X a tA) (hb : PW X (.BoolOp .And (b :: rest) pos) tB') : PW X (.BoolOp .And (a :: b :: rest) pos) (tAnd tA tB') := by
  intro wh pins s σ H Q I h
  refine isTrue_and (thn (ha pins s σ H _ I h) fun c s1 ⟨H1, I1, q1⟩ => ?_)
  cases c with
  | true => exact hb wh pins s1 σ H1 Q I1 q1
  | false => exact ⟨H1, I1, q1⟩
theorem pw_or (ha : PT X a tA) (hb : PW X (.BoolOp .Or (b :: rest) pos) tB') : PW X (.BoolOp .Or (a :: b :: rest) pos) (tOr tA tB') := by
  intro wh pins s σ H Q I h
  refine isTrue_or (thn (ha pins s σ H _ I h) fun c s1 ⟨H1, I1, q1⟩ => ?_)
  cases c with
  | true => exact ⟨H1, I1, q1⟩
  | false => exact hb wh pins s1 σ H1 Q I1 q1
theorem pt_not (ha : PT X a tA) : PT X (.UnaryOp .Not a pos) (tNot tA) := by
  intro pins s σ H Q I h
  exact isTrue_not (thn (ha pins s σ H (fun c H1 => Q (!c) H1) I h) fun c s1 ⟨H1, I1, q1⟩ => ⟨H1, I1, q1⟩)
/-- .. as values (bools) -/
inductive tAndV_I (tb : TE) (σ : St) (Q : VK) (x : V) (H1 : Hp) : Prop
  | mk : ∀ c, x = .bl c → (if c = true then tb σ H1 Q else Q (.bl false) H1) → tAndV_I tb σ Q x H1
def tAndV (ta tb : TE) : TE := fun σ H Q => ta σ H fun x H1 => tAndV_I tb σ Q x H1
inductive tOrV_I (tb : TE) (σ : St) (Q : VK) (x : V) (H1 : Hp) : Prop
  | mk : ∀ c, x = .bl c → (if c = true then Q (.bl true) H1 else tb σ H1 Q) → tOrV_I tb σ Q x H1
def tOrV (ta tb : TE) : TE := fun σ H Q => ta σ H fun x H1 => tOrV_I tb σ Q x H1
inductive tNotV_I (Q : VK) (x : V) (H1 : Hp) : Prop
  | mk : ∀ c, x = .bl c → Q (.bl (!c)) H1 → tNotV_I Q x H1
def tNotV (ta : TE) : TE := fun σ H Q => ta σ H fun x H1 => tNotV_I Q x H1
theorem pe_one {op} {t : TE} (h : PE X a t) : PE X (.BoolOp op [a] pos) t := fun pins s σ H Q I hw => BoolOp_one (h pins s σ H Q I hw)
theorem pe_and (ha : PE X a ta) (hb : PE X (.BoolOp .And (b :: rest) pos) tb) : PE X (.BoolOp .And (a :: b :: rest) pos) (tAndV ta tb) := by
  intro pins s σ H Q I h
  refine BoolOp_and (thn (ha pins s σ H _ I h) fun v s1 ⟨x, H1, I1, r1, q1⟩ => ?_)
  obtain ⟨c, rfl, q1⟩ := q1
  cases r1
  refine wpAny_truthy_bool ?_
  cases c with
  | true => exact hb pins s1 σ H1 Q I1 q1
  | false => exact ⟨.bl false, H1, I1, rfl, q1⟩
theorem pe_or (ha : PE X a ta) (hb : PE X (.BoolOp .Or (b :: rest) pos) tb) : PE X (.BoolOp .Or (a :: b :: rest) pos) (tOrV ta tb) := by
  intro pins s σ H Q I h
  refine BoolOp_or (thn (ha pins s σ H _ I h) fun v s1 ⟨x, H1, I1, r1, q1⟩ => ?_)
  obtain ⟨c, rfl, q1⟩ := q1
  cases r1
  refine wpAny_truthy_bool ?_
  cases c with
  | false => exact hb pins s1 σ H1 Q I1 q1
  | true => exact ⟨.bl true, H1, I1, rfl, q1⟩
theorem pe_not (ha : PE X a ta) : PE X (.UnaryOp .Not a pos) (tNotV ta) := by
  intro pins s σ H Q I h
  refine UnaryOp_ (thn (ha pins s σ H _ I h) fun v s1 ⟨x, H1, I1, r1, q1⟩ => ?_)
  obtain ⟨c, rfl, q1⟩ := q1
  cases r1
  exact not_of (wpAny_truthy_bool ⟨.bl (!c), H1, I1, rfl, q1⟩)
end
end L2
namespace L2
open PySem PySem.Spec PyProof.Rows
def SqL (K : PySem.W.Frag) (H : Hp) (a : Addr) (xs : List V) : Prop :=
  Rd H a (.lst xs) ∨
    ∃ (o : Obj) (its : Array Value) (n : Nat), K.lookup a = some o ∧ o.cls = .type "list" ∧ o.dict = none ∧ o.data = .seq its n ∧ its.size ≤ sizeLine ∧ Vals xs its.toList
def SqT (K : PySem.W.Frag) (H : Hp) (a : Addr) (xs : List V) : Prop :=
  Rd H a (.tup xs) ∨
    ∃ (o : Obj) (its : Array Value) (n : Nat), K.lookup a = some o ∧ o.cls = .type "tuple" ∧ o.data = .seq its n ∧ its.size ≤ sizeLine ∧ Vals xs its.toList
def absV : Value → Option V
  | .none => some .non
  | .bool b => some (.bl b)
  | .int i _ => some (.int i)
  | .str x _ => some (.str x)
  | .bytes b _ => some (.byt b)
  | .float b _ => some (.flt b)
  | .ref a => some (.ref a)
  | .type n => some (.ty n)
  | _ => none
theorem RelV.abs {x : V} {u : Value} (r : RelV x u) : absV u = some x := by
  cases x with
  | non => cases r; rfl
  | bl _ => cases r; rfl
  | int _ => obtain ⟨t, rfl⟩ := r; rfl
  | str _ => obtain ⟨t, rfl⟩ := r; rfl
  | byt _ => obtain ⟨t, rfl⟩ := r; rfl
  | flt _ => obtain ⟨t, rfl⟩ := r; rfl
  | ref _ => cases r; rfl
  | ty _ => cases r; rfl
theorem RelV.inj {x y : V} {u : Value} (r : RelV x u) (q : RelV y u) : x = y := Option.some.inj (r.abs.symm.trans q.abs)
theorem Vals.inj : ∀ {xs ys : List V} {us : List Value}, Vals xs us → Vals ys us → xs = ys
  | _, _, _, .nil, .nil => rfl
  | _, _, _, .cons r t, .cons r' t' => by rw [r.inj r', Vals.inj t t']
section
variable {X : Cx} {pins : List (Addr × Obj)} {σ : St} {H : Hp} {s : Shared} {a : Addr} {xs ys : List V}
theorem SqL.of {K : PySem.W.Frag} (h : H a = some (.lst xs)) : SqL K H a xs := .inl (.inl h)
theorem SqT.of {K : PySem.W.Frag} (h : H a = some (.tup xs)) : SqT K H a xs := .inl (.inl h)
theorem Inv.list (I : Inv X pins σ H s) (h : SqL X.K H a xs) : ∃ its : List Value, Vals xs its ∧ PlainL s.heap a its.toArray ∧ xs.length ≤ sizeLine := by
  rcases h with h | ⟨o, its, n, hk, hc, hd, hs, hz, r⟩
  · obtain ⟨z, its, n, r, e⟩ := h.ok I.hok
    exact ⟨its, r, ⟨_, n, e, rfl, rfl, rfl⟩, z⟩
  · refine ⟨its.toList, r, ⟨o, n, I.kIn a o hk, hc, hd, by simpa using hs⟩, ?_⟩
    have e := r.length
    simp only [Array.length_toList] at e
    omega
theorem Inv.tuple (I : Inv X pins σ H s) (h : SqT X.K H a xs) : ∃ its : List Value, Vals xs its ∧ IsTup s.heap a its.toArray ∧ xs.length ≤ sizeLine := by
  rcases h with h | ⟨o, its, n, hk, hc, hs, hz, r⟩
  · obtain ⟨z, its, r, p⟩ := h.ok I.hok
    exact ⟨its, r, p, z⟩
  · refine ⟨its.toList, r, ⟨o, I.kIn a o hk, hc, n, by simpa using hs⟩, ?_⟩
    have e := r.length
    simp only [Array.length_toList] at e
    omega
end
abbrev Cx.wish (X : Cx) (E : Value → Shared → Prop) : Cx := { X with xe := E }
/-- no exception leaves -/
abbrev Cx.nox (X : Cx) : Cx := X.wish fun _ _ => False
theorem Cx.Ok.wish {X : Cx} (ok : X.Ok) (E : Value → Shared → Prop) : (X.wish E).Ok :=
  ⟨ok.mod, ok.kind, ok.glob, ok.blt, ok.above, ok.inj, ok.has, ok.cab, ok.hd, ok.frames, ok.stk, ok.exf, ok.bs, ok.bsz, ok.noex, ok.exfs, ok.funs, ok.frf⟩
theorem Cx.Ok.unwish {X : Cx} {E : Value → Shared → Prop} (ok : (X.wish E).Ok) : X.Ok :=
  ⟨ok.mod, ok.kind, ok.glob, ok.blt, ok.above, ok.inj, ok.has, ok.cab, ok.hd, ok.frames, ok.stk, ok.exf, ok.bs, ok.bsz, ok.noex, ok.exfs, ok.funs, ok.frf⟩
section
variable {X : Cx} {pins : List (Addr × Obj)} {σ : St} {H : Hp} {s : Shared} {E : Value → Shared → Prop}
theorem Inv.wish (I : Inv X pins σ H s) (E : Value → Shared → Prop) : Inv (X.wish E) pins σ H s := ⟨I.ok.wish E, I.os, I.bare, I.base, I.loc, I.cell, I.free, I.freeC, I.pin, I.hok, I.len⟩
theorem Inv.unwish (I : Inv (X.wish E) pins σ H s) : Inv X pins σ H s := ⟨I.ok.unwish, I.os, I.bare, I.base, I.loc, I.cell, I.free, I.freeC, I.pin, I.hok, I.len⟩
theorem SP.unwish {D : Ends} {f : Flow} {s' : Shared} (h : SP (X.wish E) pins D f s') : SP X pins D f s' := by
  cases f with
  | next => obtain ⟨σ', H', I, q⟩ := h; exact ⟨σ', H', I.unwish, q⟩
  | brk => obtain ⟨σ', H', I, q⟩ := h; exact ⟨σ', H', I.unwish, q⟩
  | cont => obtain ⟨σ', H', I, q⟩ := h; exact ⟨σ', H', I.unwish, q⟩
  | ret u => obtain ⟨v, σ', H', I, r, q⟩ := h; exact ⟨v, σ', H', I.unwish, r, q⟩
theorem PE.nox {e : Expr} {t : TE} (h : PE X.nox e t) : PE X e t := fun pins s σ H Q I hw =>
  wpAny_mono (h pins s σ H Q (I.wish _) hw) (fun _ _ ⟨v, H', I', r, q⟩ => ⟨v, H', I'.unwish, r, q⟩) fun _ _ z => False.elim z
theorem PT.nox {e : Expr} {t : TT} (h : PT X.nox e t) : PT X e t := fun pins s σ H Q I hw =>
  wpAny_mono (h pins s σ H Q (I.wish _) hw) (fun _ _ ⟨H', I', q⟩ => ⟨H', I'.unwish, q⟩) fun _ _ z => False.elim z
theorem PSs.nox {st : List Stmt} {t : TS} (h : PSs X.nox st t) : PSs X st t := fun pins s σ H D I hw =>
  wpAny_mono (h pins s σ H D (I.wish _) hw) (fun _ _ q => q.unwish) fun _ _ z => False.elim z
end
section
variable {X : Cx} {st : Stmt} {rest : List Stmt} {t u : TS} {e : Expr} {te : TE} {pos : Pos}
def tNext : TS := fun D σ H => D.nx σ H
def tSeq (t u : TS) : TS := fun D σ H => t { D with nx := u D } σ H
theorem pss_nil : PSs X [] tNext := fun _ _ σ H _ I h => wpAny_execs_nil ⟨σ, H, I, h⟩
theorem pss_cons (h1 : PS X st t) (h2 : PSs X rest u) : PSs X (st :: rest) (tSeq t u) := by
  intro pins s σ H D I h
  refine wpAny_execs_cons (thn (h1 pins s σ H { D with nx := u D } I h) fun f s1 q => ?_)
  cases f with
  | next =>
    obtain ⟨σ', H', I', q⟩ := q
    exact h2 pins s1 σ' H' D I' q
  | ret v => exact q
  | brk => exact q
  | cont => exact q
theorem pss_one (h1 : PS X st t) : PSs X [st] t := by
  intro pins s σ H D I h
  refine wpAny_execs_cons (thn (h1 pins s σ H D I h) fun f s1 q => ?_)
  cases f with
  | next => exact wpAny_execs_nil q
  | ret v => exact q
  | brk => exact q
  | cont => exact q
/-- in a def's body nothing is shown -/
theorem Inv.quiet {pins : List (Addr × Obj)} {σ : St} {H : Hp} {s : Shared} (I : Inv X pins σ H s) : interactive X.env = false := by simp [interactive, I.ok.kind]
/-- an expression whose value is dropped -/
def tDrop (te : TE) : TS := fun D σ H => te σ H fun _ H1 => D.nx σ H1
theorem ps_expr (he : PE X e te) (hs : swapsWith e none pos.line X.env = pure false := by rfl) : PS X (.Expr e pos) (tDrop te) := by
  intro pins s σ H D I h
  exact wpAny_Expr_any (thn (he pins s σ H _ I h) fun v s1 ⟨x, H1, I1, r1, q1⟩ => ⟨σ, H1, I1, q1⟩) I.quiet hs
def tRet (te : TE) : TS := fun D σ H => te σ H D.rt
theorem ps_ret (he : PE X e te) : PS X (.Return (some e) pos) (tRet te) := by
  intro pins s σ H D I h
  exact wpAny_Return_some (thn (he pins s σ H _ I h) fun v s1 ⟨x, H1, I1, r1, q1⟩ => ⟨x, σ, H1, I1, r1, q1⟩)
def tIfS (c : TT) (t u : TS) : TS := fun D σ H => c σ H fun b H1 => if b = true then t D σ H1 else u D σ H1
theorem ps_if {c : Expr} {a b : List Stmt} {tc : TT} (hc : PT X c tc) (ha : PSs X a t) (hb : PSs X b u) : PS X (.If c a b pos) (tIfS tc t u) := by
  intro pins s σ H D I h
  refine wpAny_If (thn (hc pins s σ H _ I h) fun d s1 ⟨H1, I1, q1⟩ => ?_)
  cases d with
  | true => exact ha pins s1 σ H1 D I1 q1
  | false => exact hb pins s1 σ H1 D I1 q1
end
abbrev TG := V → St → Hp → (St → Hp → Prop) → Prop
def PG (X : Cx) (target : Expr) (t : TG) : Prop :=
  ∀ (pins : List (Addr × Obj)) (s : Shared) (σ : St) (H : Hp) (v : V) (u : Value) (Q : St → Hp → Prop), Inv X pins σ H s → RelV v u → t v σ H Q →
    wpAny (model X.prog X.w) X.A (assign target X.env u) (fun _ s' => ∃ σ' H', Inv X pins σ' H' s' ∧ Q σ' H') X.xe s
/-- o[i] = v, by values -/
abbrev TSet := V → V → V → Hp → (Hp → Prop) → Prop
def PSet (X : Cx) (t : TSet) : Prop :=
  ∀ (pins : List (Addr × Obj)) (s : Shared) (σ : St) (H : Hp) (o i v : V) (ov iv u : Value) (Q : Hp → Prop), Inv X pins σ H s → RelV o ov → RelV i iv → RelV v u → t o i v H Q →
    wpAny (model X.prog X.w) X.A (setItem ov iv u) (fun _ s' => ∃ H', Inv X pins σ H' s' ∧ Q H') X.xe s
/-- a op= b, by values -/
abbrev TIp := V → V → Hp → VK → Prop
def PIp (X : Cx) (op : Operator) (t : TIp) : Prop :=
  ∀ (pins : List (Addr × Obj)) (s : Shared) (σ : St) (H : Hp) (x y : V) (v u : Value) (Q : VK), Inv X pins σ H s → RelV x v → RelV y u → t x y H Q →
    wpAny (model X.prog X.w) X.A (inplaceOp op v u) (EP X pins σ Q) X.xe s
section
variable {X : Cx} {pos : Pos}
def gName (i : Nat) : TG := fun v σ H Q => Q (σ.set i (some v)) H
theorem pg_name {i : Nat} {x : Str} (hN : X.N.Nodup) (hi : X.N[i]? = some x) (hx : Loc X.env.scope x) (hf : X.fn x = true ∨ X.env.scope.names.lookup x = some .local := by first | exact .inl rfl | exact .inr rfl | assumption) : PG X (.Name x pos) (gName i) := by
  intro pins s σ H v u Q I r h
  exact wpAny_assign_Name (store_ok I hN hi hx r (fun s' I' => ⟨_, H, I', h⟩) hf)
/-- o[i] = .. -/
def gSub (to ti : TE) (t : TSet) : TG := fun v σ H Q => to σ H fun o H1 => ti σ H1 fun i H2 => t o i v H2 fun H3 => Q σ H3
theorem pg_sub {o i : Expr} {to ti : TE} {t : TSet} (ho : PE X o to) (hi : PE X i ti) (hs : PSet X t)
    (ha : ∀ v, assign (.Subscript o i pos) X.env v = (do
      let ov ← holding [v] (eval o X.env)
      let iv ← holding [v, ov] (eval i X.env)
      standAt pos
      holding [v, ov, iv] (setItem ov iv v)
      release [v, ov, iv] []) := by intro _; rfl) : PG X (.Subscript o i pos) (gSub to ti t) := by
  intro pins s σ H v u Q I r h
  rw [ha]
  refine wpAny_bind (wpAny_holding (thn (ho pins s σ H _ I h) fun ov s1 ⟨x, H1, I1, r1, q1⟩ => ?_))
  refine wpAny_bind (wpAny_holding (thn (hi pins s1 σ H1 _ I1 q1) fun iv s2 ⟨y, H2, I2, r2, q2⟩ => ?_))
  refine wpAny_bind (wpAny_standAt (wpAny_bind (wpAny_holding (thn (hs pins s2 σ H2 x y v ov iv u _ I2 r1 r2 r q2) fun _ s3 ⟨H3, I3, q3⟩ => ?_))))
  exact wpAny_release ⟨σ, H3, I3, q3⟩
/-- target = value -/
def tAsg (te : TE) (g : TG) : TS := fun D σ H => te σ H fun x H1 => g x σ H1 D.nx
theorem ps_asg {tg e : Expr} {te : TE} {g : TG} (he : PE X e te) (hg : PG X tg g) (hs : swapsWithSole [tg] e pos.line X.env = pure false := by rfl) (hw : swappedStores [tg] e X.env = pure none := by rfl)
    (h1 : (assignEach [tg] X.env).map (·.2) = [assign tg X.env] := by rfl) : PS X (.Assign [tg] e pos) (tAsg te g) := by
  intro pins s σ H D I h
  refine wpAny_Assign_stores (thn (he pins s σ H _ I h) fun v s1 ⟨x, H1, I1, r1, q1⟩ => ?_) hs hw
  rw [h1]
  exact thn (hg pins s1 σ H1 x v _ I1 r1 q1) fun _ s2 ⟨σ2, H2, I2, q2⟩ => ⟨σ2, H2, I2, q2⟩
/-- name = value -/
theorem ps_set {i : Nat} {x : Str} {e : Expr} {te : TE} {pos' : Pos} (hN : X.N.Nodup) (hi : X.N[i]? = some x) (hx : Loc X.env.scope x) (he : PE X e te) (hs : swapsWith e (some (.Name x pos')) pos.line X.env = pure false := by rfl) (hf : X.fn x = true ∨ X.env.scope.names.lookup x = some .local := by first | exact .inl rfl | exact .inr rfl | assumption) :
    PS X (.Assign [.Name x pos'] e pos) (tAsg te (gName i)) := by
  intro pins s σ H D I h
  refine wpAny_Assign_Name (thn (he pins s σ H _ I h) fun v s1 ⟨y, H1, I1, r1, q1⟩ => ?_) hs
  exact store_ok I1 hN hi hx r1 (fun s2 I2 => ⟨_, H1, I2, q1⟩) hf
/-- name op= e -/
inductive tAug_I (i : Nat) (te : TE) (ti : TIp) (D : Ends) (σ : St) (H : Hp) : Prop
  | mk : ∀ x, σ[i]? = some (some x) → (te σ H fun y H1 => ti x y H1 fun z H2 => D.nx (σ.set i (some z)) H2) → tAug_I i te ti D σ H
def tAug (i : Nat) (te : TE) (ti : TIp) : TS := fun D σ H => tAug_I i te ti D σ H
theorem ps_aug {i : Nat} {x : Str} {e : Expr} {te : TE} {op : Operator} {ti : TIp} {pos' : Pos} (hN : X.N.Nodup) (hi : X.N[i]? = some x) (hx : Loc X.env.scope x) (he : PE X e te) (ho : PIp X op ti) (hf : X.fn x = true ∨ X.env.scope.names.lookup x = some .local := by first | exact .inl rfl | exact .inr rfl | assumption) :
    PS X (.AugAssign (.Name x pos') op e pos) (tAug i te ti) := by
  intro pins s σ H D I h
  obtain ⟨v, e1, h⟩ := h
  obtain ⟨m, hn, hl⟩ := I.loc
  have vis : Vis X.env.scope x := by rcases hx with k | k; exact .inl k; exact .inr (.inl k)
  obtain ⟨u, r, l⟩ := hl i x v hi e1 vis
  refine wpAny_AugAssign_Name ?_
  have go : wpAny (model X.prog X.w) X.A (eval e X.env) (fun w s₂ => wpAny (model X.prog X.w) X.A (inplaceOp op u w) (fun r s₃ => wpAny (model X.prog X.w) X.A (storeName X.env x r) (fun _ => SP X pins D .next) X.xe s₃) X.xe s₂) X.xe s := by
    refine thn (he pins s σ H _ I h) fun w s1 ⟨y, H1, I1, r1, q1⟩ => ?_
    refine thn (ho pins s1 σ H1 v y u w _ I1 r r1 q1) fun z s2 ⟨zv, H2, I2, r2, q2⟩ => ?_
    exact store_ok I2 hN hi hx r2 (fun s3 I3 => ⟨_, H2, I3, q2⟩) hf
  rcases l with ⟨hk, hm⟩ | ⟨hk, c, hc, hcell⟩
  · exact wpAny_loadName_local I.ok.kind hk hn hm go
  · rcases hk with hk | hk
    · exact wpAny_loadName_cell I.ok.kind hk hc hcell go
    · rcases hx with k | k
      · have : X.env.scope.names.lookup x = some .free := hk
        rw [k] at this; cases this
      · have : X.env.scope.names.lookup x = some .free := hk
        rw [k] at this; cases this
end
section
variable {X : Cx} {pos : Pos}
end
/-- at turn i: it yields x (the heap may grow), or it stops -/
structure It where
  go : Nat → Hp → Prop
  yld : Nat → Hp → V → Hp → Prop
  stop : Nat → Hp → Prop
/-- the iterator's own objects may turn: they are not the frame's, not pinned, younger than the entry (or a comprehension's own) -/
def FpOk (X : Cx) (pins : List (Addr × Obj)) (H : Hp) (b : Addr) : Prop :=
  H b = none ∧ b ≠ X.env.locals ∧ b ∉ X.fs ∧ (b ∈ X.ex ∨ X.s₀.heap.objs.size ≤ b) ∧ (∀ x c, X.env.cells.lookup x = some c → c ≠ b) ∧ ∀ p ∈ X.pn ++ pins, p.1 ≠ b
theorem Inv.fpOk {X : Cx} {pins : List (Addr × Obj)} {σ : St} {H H' : Hp} {s : Shared} {b : Addr} (I : Inv X pins σ H s) (hb : s.heap.objs.size ≤ b) (hn : H' b = none) : FpOk X pins H' b := by
  refine ⟨hn, Nat.ne_of_gt (Nat.lt_of_lt_of_le I.lt hb), I.nofs hb, .inr (Nat.le_trans I.sz hb), fun x c e z => ?_, fun p hp z => ?_⟩
  · obtain ⟨v, q⟩ := I.cell x c e
    exact absurd (Nat.lt_of_lt_of_le q.lt (by rw [z]; exact hb)) (Nat.lt_irrefl _)
  · exact absurd (Nat.lt_of_lt_of_le (Heap.lt_size (I.pin p hp).1) (by rw [z]; exact hb)) (Nat.lt_irrefl _)
structure Turn (P : Program) (w : World) (K : PySem.W.Frag) (tg : Expr) (J : It) (fp : List Addr) (it : Addr) (tn : Nat → Heap → Prop) : Prop where
  mem : it ∈ fp
  obj : ∀ i h, tn i h → ∀ b ∈ fp, ∃ o, h.get? b = some o ∧ ∀ v, o.data ≠ .cell v
  keep : ∀ i h h', tn i h → (∀ b ∈ fp, ∀ o, h.get? b = some o → h'.get? b = some o) → tn i h'
  item : ∀ (X : Cx), X.prog = P → X.w = w → X.K = K → X.calm = true → ∀ (i : Nat) (pins : List (Addr × Obj)) (s : Shared) (σ : St) (H : Hp) (E : Value → Shared → Prop), Inv X pins σ H s → (∀ b ∈ fp, FpOk X pins H b) → tn i s.heap → J.go i H →
    wpAny (model P w) X.A (pyNext (.ref it)) (fun r s1 => ∃ u, r = some u ∧
      wpAny (model P w) X.A (letOwnedTupleGo tg (.ref it) u) (fun _ s2 => ∃ x H', Inv X pins σ H' s2 ∧ RelV x u ∧ J.yld i H x H' ∧ tn (i + 1) s2.heap ∧ ∀ b ∈ fp, H' b = none) E s1) E s
  done : ∀ (X : Cx), X.prog = P → X.w = w → X.K = K → X.calm = true → ∀ (i : Nat) (pins : List (Addr × Obj)) (s : Shared) (σ : St) (H : Hp) (E : Value → Shared → Prop), Inv X pins σ H s → (∀ b ∈ fp, FpOk X pins H b) → tn i s.heap → J.stop i H →
    wpAny (model P w) X.A (pyNext (.ref it)) (fun r s1 => r = none ∧ Inv X pins σ H s1) E s
  self : ∀ (A : Around) (i : Nat) (s : Shared) (Q : Value → Shared → Prop) (E : Value → Shared → Prop), tn i s.heap → Q (.ref it) s → wpAny (model P w) A (pyIter (.ref it)) Q E s
abbrev TI := St → Hp → (It → Hp → Prop) → Prop
/-- an iterator has come -/
def PIE (X : Cx) (pins : List (Addr × Obj)) (σ : St) (tg : Expr) (R : It → Hp → Prop) (itv : Value) (s2 : Shared) : Prop :=
  ∃ (it : Addr) (fp : List Addr) (tn : Nat → Heap → Prop) (J : It) (H' : Hp), itv = .ref it ∧ Inv X pins σ H' s2 ∧ Turn X.prog X.w X.K tg J fp it tn ∧ tn 0 s2.heap ∧ (∀ b ∈ fp, FpOk X pins H' b) ∧ R J H'
def PI (X : Cx) (tg iter : Expr) (wi : TI) : Prop :=
  ∀ (pins : List (Addr × Obj)) (s : Shared) (σ : St) (H : Hp) (R : It → Hp → Prop), Inv X pins σ H s → wi σ H R →
    wpAny (model X.prog X.w) X.A (eval iter X.env) (fun v s1 => wpAny (model X.prog X.w) X.A (pyIter v) (PIE X pins σ tg R) X.xe s1) X.xe s
/-- the step ahead of the store is nothing for an iterator that keeps no tuple -/
theorem go_of {M : Model} {A : Around} {E : Value → Shared → Prop} {s : Shared} {tg : Expr} {it : Addr} {u : Value} {o : Obj} {n : String} {vs : Array Value} {Q : Unit → Shared → Prop} (ho : s.heap.get? it = some o) (hc : o.cls = .type n) (hd : o.data = .fields vs)
    (hn : ["enumerate", "zip", "dict_itemiterator", "dict_reverseitemiterator", "odict_iterator", "itertools.zip_longest", "itertools.pairwise"].contains n = false) (hQ : Q () s) : wpAny M A (letOwnedTupleGo tg (.ref it) u) Q E s := by
  unfold letOwnedTupleGo
  cases tg <;> first
    | exact wpAny_pure hQ
    | (cases u <;> first
        | exact wpAny_pure hQ
        | (refine wpAny_bind (wpAny_load ho ?_)
           rw [hc, hd]
           show wpAny M A (if (["enumerate", "zip", "dict_itemiterator", "dict_reverseitemiterator", "odict_iterator", "itertools.zip_longest", "itertools.pairwise"].contains n && vs[0]? == some (rawInt _)) = true then _ else _) Q E s
           rw [if_neg (by intro h; rw [hn, Bool.false_and] at h; cases h)]
           exact wpAny_pure hQ))
/-- lo, lo + 1, .. (n of them) -/
def Itr (lo : Int) (n : Nat) : It := ⟨fun i _ => i < n, fun i H x H' => H' = H ∧ x = .int (lo + i), fun i _ => n ≤ i⟩
theorem turn_range {P : Program} {w : World} {K : PySem.W.Frag} {tg : Expr} (it : Addr) (lo : Int) (n : Nat) : Turn P w K tg (Itr lo n) [it] it (fun i h => IsRangeIter h it (lo + (i : Nat) * 1) ((n : Int) - (i : Nat)) 1) where
  mem := by simp
  obj := fun i h st b hb => by
    have e : b = it := by simpa using hb
    subst e
    exact ⟨_, st, fun v z => by
      have z' : Data.fields _ = Data.cell v := z
      cases z'⟩
  keep := fun i h h' st k => k it (by simp) _ st
  item := by
    intro X hP hw hK hc i pins s σ H E I hf st hg
    subst hP hw hK
    obtain ⟨f0, f1, f2, f3, f4, f5⟩ := hf it (by simp)
    have W := Walks.range (prog := X.prog) (w := X.w) (I.ok.hd hc) it lo 1 n
    refine W.item i s _ _ hg st fun v h' tk hv st' kk => ?_
    obtain ⟨t, rfl⟩ := hv
    have I1 : Inv X pins σ H { s with heap := h', toks := tk } := I.turned (fun b o hb e => kk b o (by simpa using hb) e) f0 f1 f3 f4 f5
    refine ⟨_, rfl, go_of (s := { s with heap := h', toks := tk }) (n := "range_iterator") st' rfl rfl (by decide) ⟨.int (lo + i), H, I1, ⟨t, ?_⟩, ⟨rfl, rfl⟩, st', fun b hb => (hf b hb).1⟩⟩
    rw [Int.mul_one]
  done := by
    intro X hP hw hK hc i pins s σ H E I hf st hg
    subst hP hw hK
    obtain ⟨f0, f1, f2, f3, f4, f5⟩ := hf it (by simp)
    exact wpAny_pyNext_range_end (I.ok.hd hc) st (by have : n ≤ i := hg; omega) fun h' eb => ⟨rfl, I.turned (t' := s.toks) (fun b o hb e => eb b o hb e) f0 f1 f3 f4 f5⟩
  self := fun _ _ _ _ _ st h => wpAny_pyIter_rangeiter st h
end L2
namespace L2
open PySem PySem.Spec PyProof.Rows
section
variable {X : Cx} {tg : Expr}
/-- a range object just made, walked -/
theorem range_it {pins : List (Addr × Obj)} {σ : St} {H : Hp} {s : Shared} {R : It → Hp → Prop} {E : Value → Shared → Prop} {lo hi : Int} {t u v : Tok} {tk : Nat} (I : Inv X pins σ H s) (h1 : -(2 ^ 62) ≤ lo) (h2 : lo < 2 ^ 62) (h3 : -(2 ^ 62) ≤ hi) (h4 : hi < 2 ^ 62)
    (q : R (Itr lo (hi - lo).toNat) H) : wpAny (model X.prog X.w) X.A (pyIter (.ref s.heap.objs.size)) (PIE X pins σ tg R) E { s with heap := s.heap.push { cls := .type "range", data := .fields #[.int lo t, .int hi u, .int 1 v] }, toks := tk } := by
  refine wpAny_pyIter_range (IsRange.new ..) (small_one h1 h2 h3 h4) ?_
  have I1 : Inv X pins σ H { s with heap := s.heap.push { cls := .type "range", data := .fields #[.int lo t, .int hi u, .int 1 v] }, toks := tk } := I.kept fun b o e => Heap.get?_push_of_some _ e
  refine ⟨(s.heap.push { cls := .type "range", data := .fields #[.int lo t, .int hi u, .int 1 v] }).objs.size, [(s.heap.push { cls := .type "range", data := .fields #[.int lo t, .int hi u, .int 1 v] }).objs.size], _, _, H, rfl,
    I1.kept (t' := tk) fun b o e => Heap.get?_push_of_some _ e, turn_range _ lo (hi - lo).toNat, ?_, fun b hb => ?_, q⟩
  · have e1 : lo + ((0 : Nat) : Int) * 1 = lo := by simp
    have e2 : (((hi - lo).toNat : Nat) : Int) - ((0 : Nat) : Int) = Builtin.Range.rangeSize lo hi 1 := by rw [rangeSize_one]; split <;> omega
    show IsRangeIter _ _ (lo + ((0 : Nat) : Int) * 1) ((((hi - lo).toNat : Nat) : Int) - ((0 : Nat) : Int)) 1
    rw [e1, e2]
    exact Heap.get?_push_size _ rfl
  · have e : b = (s.heap.push { cls := .type "range", data := .fields #[.int lo t, .int hi u, .int 1 v] }).objs.size := by simpa using hb
    subst e
    exact I1.fpOk (Nat.le_refl _) (I1.hok.fresh (Nat.le_refl _))
inductive iRng1_I (R : (It → Hp → Prop)) (vs : List V) (H1 : Hp) : Prop
  | mk : ∀ j : Int, vs = [.int j] → -(2 ^ 62) ≤ j → j < 2 ^ 62 → R (Itr 0 j.toNat) H1 → iRng1_I R vs H1
def iRng1 (ta : TA) : TI := fun σ H R => ta σ H fun vs H1 => iRng1_I R vs H1
theorem pi_range1 {a : Expr} {ta : TA} {p pos : Pos} (hg : Gl X "range") (hm : X.mg "range" = none) (ha : PA X [a] ta) (hs : starEach [a] X.env = [(false, eval a X.env)] := by rfl) : PI X tg (.Call (.Name "range" p) [a] [] pos) (iRng1 ta) := by
  intro pins s σ H R I h
  refine Call_ (ld_blt I hg hm boot_range (PyProof.Rows.callWith_type1 (thn (ha pos pins s σ H _ I h) fun us s1 ⟨vs, H1, I1, r1, q1⟩ => ?_) hs rfl))
  obtain ⟨j, e, q1, q2, q⟩ := q1
  subst e
  cases r1 with
  | cons r rr =>
    cases rr
    obtain ⟨t, rfl⟩ := r
    exact call_range_1 (range_it I1 (by omega) (by omega) q1 q2 (by simpa using q))
/-- W: the invariant by the turn and a measure; N: what the body is to reach -/
inductive tFor_I (g : TG) (tb : TS) (D : Ends) (σ : St) (J : It) (H1 : Hp) : Prop
  | mk : ∀ W : Nat → Nat → St → Hp → Prop, (∃ m, W 0 m σ H1) → (∀ i m σ H, W i m σ H → (J.stop i H ∧ D.nx σ H) ∨ (J.go i H ∧ ∃ N : St → Hp → Prop, (∀ σ' H', N σ' H' → ∃ m', m' < m ∧ W (i + 1) m' σ' H') ∧ ∀ x H', J.yld i H x H' → g x σ H' fun σ2 H2 => tb { D with nx := N, ct := N, bk := D.nx } σ2 H2)) → tFor_I g tb D σ J H1
def tFor (wi : TI) (g : TG) (tb : TS) : TS := fun D σ H => wi σ H fun J H1 => tFor_I g tb D σ J H1
/-- the records at fp as they stand -/
def pinsAt (fp : List Addr) (h : Heap) : List (Addr × Obj) := fp.filterMap fun b => (h.get? b).map fun o => (b, o)
theorem mem_pinsAt {fp : List Addr} {h : Heap} {b : Addr} {o : Obj} (hb : b ∈ fp) (e : h.get? b = some o) : (b, o) ∈ pinsAt fp h := List.mem_filterMap.mpr ⟨b, hb, by rw [e]; rfl⟩
theorem of_pinsAt {fp : List Addr} {h : Heap} {p : Addr × Obj} (hp : p ∈ pinsAt fp h) : p.1 ∈ fp ∧ h.get? p.1 = some p.2 := by
  obtain ⟨b, hb, e⟩ := List.mem_filterMap.mp hp
  cases q : h.get? b with
  | none => rw [q] at e; cases e
  | some o =>
    rw [q] at e
    have e' : (b, o) = p := Option.some.inj e
    subst e'
    exact ⟨hb, q⟩
theorem Inv.pinned {pins : List (Addr × Obj)} {σ : St} {H : Hp} {s : Shared} {fp : List Addr} (I : Inv X pins σ H s) (hf : ∀ b ∈ fp, FpOk X pins H b) (ho : ∀ b ∈ fp, ∃ o, s.heap.get? b = some o ∧ ∀ v, o.data ≠ .cell v) : Inv X (pins ++ pinsAt fp s.heap) σ H s :=
  I.pins_of fun p hp => (List.mem_append.mp hp).elim (fun z => I.pin p (List.mem_append_right _ z)) fun z => by
    obtain ⟨hb, e⟩ := of_pinsAt z
    obtain ⟨f0, f1, f2, _⟩ := hf p.1 hb
    obtain ⟨o, e', d⟩ := ho p.1 hb
    rw [e] at e'; cases e'
    exact ⟨e, f0, f1, f2, d⟩
theorem Inv.unpinned {pins pl : List (Addr × Obj)} {σ : St} {H : Hp} {s : Shared} (I : Inv X (pins ++ pl) σ H s) : Inv X pins σ H s := I.pins_of fun p hp => I.pin p (List.mem_append_right _ (List.mem_append_left _ hp))
theorem ps_for {iter : Expr} {body : List Stmt} {wi : TI} {g : TG} {tb : TS} {pos : Pos} (hp : PassesOwn (model X.prog X.w) X.A X.env X.xe) (hc : X.calm = true) (hi : PI X tg iter wi) (hg : PG X tg g) (hb : PSs X body tb)
    (hs : ∀ x, foldedSetIterable iter X.env x = pure x := by intro _; rfl) : PS X (.For tg iter body [] pos) (tFor wi g tb) := by
  intro pins s σ H D I h
  refine wpAny_For (thn (hi pins s σ H _ I h) fun v s1 h1 => thn h1 fun itv s2 h2 => ?_) hs
  obtain ⟨it, fp, tn, J, H2, e, I2, T, st2, f2, W, ⟨m0, w0⟩, turn⟩ := h2
  subst e
  -- what stays true of the iterator's objects through the loop
  have stat : ∀ {H' : Hp}, (∀ b ∈ fp, H' b = none) → ∀ b ∈ fp, FpOk X pins H' b := fun hn b hb => ⟨hn b hb, (f2 b hb).2⟩
  refine codeAny_forLoop_any (fun n s' => ∃ i σ' H', Inv X pins σ' H' s' ∧ tn i s'.heap ∧ (∀ b ∈ fp, H' b = none) ∧ W i n σ' H') ?_ m0 ⟨0, σ, H2, I2, st2, fun b hb => (f2 b hb).1, w0⟩
  rintro n s3 ⟨i, σ3, H3, I3, st3, fr3, w3⟩
  rcases turn i n σ3 H3 w3 with ⟨stop, qn⟩ | ⟨go, N, hN, step⟩
  · refine wpAny_passesOwn hp (thn (T.done X rfl rfl rfl hc i pins s3 σ3 H3 X.xe I3 (stat fr3) st3 stop) fun r s4 ⟨hr, I4⟩ => ?_)
    subst hr
    exact wpAny_execs_nil ⟨σ3, H3, I4, qn⟩
  · refine wpAny_passesOwn hp (thn (T.item X rfl rfl rfl hc i pins s3 σ3 H3 X.xe I3 (stat fr3) st3 go) fun r s4 ⟨u, hr, h4⟩ => ?_)
    subst hr
    refine wpAny_passesOwn hp (thn h4 fun _ s5 ⟨x, H5, I5, r5, y5, st5, fr5⟩ => ?_)
    have I5' := I5.pinned (stat fr5) (T.obj _ _ st5)
    refine wpAny_passesOwn hp (thn (hg _ s5 σ3 H5 x u _ I5' r5 (step x H5 y5)) fun _ s6 ⟨σ6, H6, I6, q6⟩ => ?_)
    refine wpAny_passesOwn hp (thn (hb _ s6 σ6 H6 _ I6 q6) fun f s7 q7 => ?_)
    have again : ∀ {σ7 : St} {H7 : Hp}, Inv X (pins ++ pinsAt fp s5.heap) σ7 H7 s7 → N σ7 H7 → ∃ m, m < n ∧ ∃ i σ' H', Inv X pins σ' H' s7 ∧ tn i s7.heap ∧ (∀ b ∈ fp, H' b = none) ∧ W i m σ' H' := fun {σ7 H7} I7 n7 => by
      obtain ⟨m', hm, w7⟩ := hN σ7 H7 n7
      refine ⟨m', hm, i + 1, σ7, H7, I7.unpinned, T.keep _ _ _ st5 fun b hb o e => (I7.pin (b, o) (List.mem_append_right _ (List.mem_append_right _ (mem_pinsAt hb e)))).1, fun b hb => ?_, w7⟩
      obtain ⟨o, e, d⟩ := T.obj _ _ st5 b hb
      exact (I7.pin (b, o) (List.mem_append_right _ (List.mem_append_right _ (mem_pinsAt hb e)))).2.1
    cases f with
    | next => obtain ⟨σ7, H7, I7, n7⟩ := q7; exact again I7 n7
    | cont => obtain ⟨σ7, H7, I7, n7⟩ := q7; exact again I7 n7
    | brk => obtain ⟨σ7, H7, I7, q7⟩ := q7; exact ⟨σ7, H7, I7.unpinned, q7⟩
    | ret v => obtain ⟨x7, σ7, H7, I7, r7, q7⟩ := q7; exact ⟨x7, σ7, H7, I7.unpinned, r7, q7⟩
end
theorem for_range {lo : Int} {n : Nat} {g : TG} {tb : TS} {D : Ends} {σ : St} {H : Hp} (Pv : Nat → St → Hp → Prop) (h0 : Pv 0 σ H)
    (hs : ∀ i σ H, i < n → Pv i σ H → g (.int (lo + i)) σ H fun σ2 H2 => tb { D with nx := Pv (i + 1), ct := Pv (i + 1), bk := D.nx } σ2 H2) (hd : ∀ σ H, Pv n σ H → D.nx σ H) :
    tFor_I g tb D σ (Itr lo n) H := by
  refine ⟨fun i m σ H => m = n - i ∧ i ≤ n ∧ Pv i σ H, ⟨n, by simp, Nat.zero_le _, h0⟩, ?_⟩
  rintro i m σ H ⟨rfl, hi, p⟩
  by_cases hlt : i < n
  · refine .inr ⟨hlt, Pv (i + 1), fun σ' H' p' => ⟨n - (i + 1), by omega, rfl, hlt, p'⟩, fun x H' y => ?_⟩
    obtain ⟨e, y⟩ := y
    subst e y
    exact hs i σ _ hlt p
  · have e : i = n := by omega
    subst e
    exact .inl ⟨Nat.le_refl _, hd σ H p⟩
end L2
namespace L2
open PySem PySem.Spec PyProof.Rows
abbrev R2 := V → V → Hp → VK → Prop
/-- a two-place operation on values: f is binaryOp op, inplaceOp op or compareOp op -/
def OpR (X : Cx) (f : Value → Value → Sem Value) (r : R2) : Prop :=
  ∀ (pins : List (Addr × Obj)) (s : Shared) (σ : St) (H : Hp) (x y : V) (v u : Value) (Q : VK), Inv X pins σ H s → RelV x v → RelV y u → r x y H Q →
    wpAny (model X.prog X.w) X.A (f v u) (EP X pins σ Q) X.xe s
/-- a one-place operation -/
def UnR (X : Cx) (f : Value → Sem Value) (r : V → Hp → VK → Prop) : Prop :=
  ∀ (pins : List (Addr × Obj)) (s : Shared) (σ : St) (H : Hp) (x : V) (v : Value) (Q : VK), Inv X pins σ H s → RelV x v → r x H Q →
    wpAny (model X.prog X.w) X.A (f v) (EP X pins σ Q) X.xe s
/-- a call of a value that is known (a builtin, a type) with values -/
def CallR (X : Cx) (f : Value) (r : List V → Hp → VK → Prop) : Prop :=
  ∀ (pins : List (Addr × Obj)) (s : Shared) (σ : St) (H : Hp) (xs : List V) (us : List Value) (Q : VK), Inv X pins σ H s → Vals xs us → r xs H Q →
    wpAny (model X.prog X.w) X.A (call f us) (EP X pins σ Q) X.xe s
def tOp (r : R2) (ta tb : TE) : TE := fun σ H Q => ta σ H fun x H1 => tb σ H1 fun y H2 => r x y H2 Q
def tUn (r : V → Hp → VK → Prop) (ta : TE) : TE := fun σ H Q => ta σ H fun x H1 => r x H1 Q
/-- ints in, under C, and a value out -/
inductive rI_I (C : Int → Int → Prop) (g : Int → Int → V) (x : V) (y : V) (H : Hp) (Q : VK) : Prop
  | mk : ∀ i j, x = .int i → y = .int j → C i j → Q (g i j) H → rI_I C g x y H Q
def rI (C : Int → Int → Prop) (g : Int → Int → V) : R2 := fun x y H Q => rI_I C g x y H Q
inductive rI0_I (g : Int → Int → V) (x : V) (y : V) (H : Hp) (Q : VK) : Prop
  | mk : ∀ i j, x = .int i → y = .int j → Q (g i j) H → rI0_I g x y H Q
def rI0 (g : Int → Int → V) : R2 := fun x y H Q => rI0_I g x y H Q
inductive rU_I (g : Int → V) (x : V) (H : Hp) (Q : VK) : Prop
  | mk : ∀ i, x = .int i → Q (g i) H → rU_I g x H Q
def rU (g : Int → V) : V → Hp → VK → Prop := fun x H Q => rU_I g x H Q
section
variable {X : Cx} {a b c : Expr} {ta tb tc : TE} {pos : Pos}
theorem binT (ha : PE X a ta) (hb : PE X b tb) {pins : List (Addr × Obj)} {s : Shared} {σ : St} {H : Hp} {R : V → V → Hp → Prop} (I : Inv X pins σ H s)
    (h : ta σ H fun x H1 => tb σ H1 fun y H2 => R x y H2) {Q : Value → Shared → Prop} {f : Value → Value → Sem Value}
    (hf : ∀ v u s2 x y H2, Inv X pins σ H2 s2 → RelV x v → RelV y u → R x y H2 → wpAny (model X.prog X.w) X.A (f v u) Q X.xe s2) :
    wpAny (model X.prog X.w) X.A (eval a X.env) (fun v s₁ => wpAny (model X.prog X.w) X.A (eval b X.env) (fun u s₂ => wpAny (model X.prog X.w) X.A (f v u) Q X.xe s₂) X.xe s₁) X.xe s := by
  refine thn (ha pins s σ H _ I h) fun v s1 ⟨x, H1, I1, r1, q1⟩ => ?_
  refine thn (hb pins s1 σ H1 _ I1 q1) fun u s2 ⟨y, H2, I2, r2, q2⟩ => ?_
  exact hf v u s2 x y H2 I2 r1 r2 q2
theorem pe_op {op : Operator} {r : R2} (ho : OpR X (binaryOp op) r) (ha : PE X a ta) (hb : PE X b tb) : PE X (.BinOp a op b pos) (tOp r ta tb) := by
  intro pins s σ H Q I h
  exact wpAny_BinOp (binT ha hb I h fun v u s2 x y H2 I2 rx ry q => ho pins s2 σ H2 x y v u Q I2 rx ry q)
theorem pe_un {op : UnaryOp} {r : V → Hp → VK → Prop} (ho : UnR X (unaryOp op) r) (ha : PE X a ta) : PE X (.UnaryOp op a pos) (tUn r ta) := by
  intro pins s σ H Q I h
  exact UnaryOp_ (thn (ha pins s σ H _ I h) fun v s1 ⟨x, H1, I1, r1, q1⟩ => ho pins s1 σ H1 x v Q I1 r1 q1)
theorem opI {f : Value → Value → Sem Value} {C : Int → Int → Prop} {g : Int → Int → Int}
    (rule : ∀ (i j : Int) (t u : Tok) (s : Shared) (Q : Value → Shared → Prop) (E : Value → Shared → Prop), C i j → Q (.int (g i j) s.toks) { s with toks := s.toks + 1 } → wpAny (model X.prog X.w) X.A (f (.int i t) (.int j u)) Q E s) :
    OpR X f (rI C fun i j => .int (g i j)) := by
  intro pins s σ H x y v u Q I rx ry h
  obtain ⟨i, j, rfl, rfl, hc, q⟩ := h
  obtain ⟨t, rfl⟩ := rx
  obtain ⟨t', rfl⟩ := ry
  exact rule i j t t' s _ _ hc ⟨.int (g i j), H, I.tok _, ⟨_, rfl⟩, q⟩
theorem opI0 {f : Value → Value → Sem Value} {g : Int → Int → Int}
    (rule : ∀ (i j : Int) (t u : Tok) (s : Shared) (Q : Value → Shared → Prop) (E : Value → Shared → Prop), Q (.int (g i j) s.toks) { s with toks := s.toks + 1 } → wpAny (model X.prog X.w) X.A (f (.int i t) (.int j u)) Q E s) :
    OpR X f (rI0 fun i j => .int (g i j)) := by
  intro pins s σ H x y v u Q I rx ry h
  obtain ⟨i, j, rfl, rfl, q⟩ := h
  obtain ⟨t, rfl⟩ := rx
  obtain ⟨t', rfl⟩ := ry
  exact rule i j t t' s _ _ ⟨.int (g i j), H, I.tok _, ⟨_, rfl⟩, q⟩
theorem opB0 {f : Value → Value → Sem Value} {g : Int → Int → Bool}
    (rule : ∀ (i j : Int) (t u : Tok) (s : Shared) (Q : Value → Shared → Prop) (E : Value → Shared → Prop), Q (.bool (g i j)) s → wpAny (model X.prog X.w) X.A (f (.int i t) (.int j u)) Q E s) :
    OpR X f (rI0 fun i j => .bl (g i j)) := by
  intro pins s σ H x y v u Q I rx ry h
  obtain ⟨i, j, rfl, rfl, q⟩ := h
  obtain ⟨t, rfl⟩ := rx
  obtain ⟨t', rfl⟩ := ry
  exact rule i j t t' s _ _ ⟨.bl (g i j), H, I, rfl, q⟩
def CDiv (i j : Int) : Prop := 0 < j ∧ j < 1073741824
def CMul (i j : Int) : Prop := (-(2 ^ 64) < i ∧ i < 2 ^ 64) ∨ (-(2 ^ 64) < j ∧ j < 2 ^ 64)
theorem CMul.ok {i j : Int} (h : CMul i j) : IntMulOk i j := by
  rcases h with ⟨h1, h2⟩ | ⟨h1, h2⟩
  · exact .of_left (intBits_le_64 h1 h2)
  · exact .of_right (intBits_le_64 h1 h2)
theorem op_add : OpR X (binaryOp .Add) (rI0 fun i j => .int (i + j)) := opI0 fun _ _ _ _ _ _ _ q => add_int q
theorem op_sub : OpR X (binaryOp .Sub) (rI0 fun i j => .int (i - j)) := opI0 fun _ _ _ _ _ _ _ q => sub_int q
theorem op_mul : OpR X (binaryOp .Mult) (rI CMul fun i j => .int (i * j)) := opI fun _ _ _ _ _ _ _ hc q => mul_int q hc.ok
/-- // by a positive divisor -/
theorem op_fdiv : OpR X (binaryOp .FloorDiv) (rI CDiv fun i j => .int (i / j)) := opI fun i j _ _ _ _ _ hc q => by
  have h1 : (0 : Int) < j := hc.1
  have h2 : j < 1073741824 := hc.2
  exact floordiv_int (by omega) (by rw [Int.fdiv_eq_ediv_of_nonneg i (by omega)]; exact q) (.inl (PyProof.noPylong_small (by omega)))
/-- % by a positive divisor of any size -/
theorem op_mod : OpR X (binaryOp .Mod) (rI (fun _ j => 0 < j) fun i j => .int (i % j)) := opI fun i j _ _ _ _ _ hc q => by
  have h1 : (0 : Int) < j := hc
  exact mod_int' (by omega) (by rw [Int.fmod_eq_emod_of_nonneg i (by omega)]; exact q)
theorem unI {f : Value → Sem Value} {g : Int → Int}
    (rule : ∀ (i : Int) (t : Tok) (s : Shared) (Q : Value → Shared → Prop) (E : Value → Shared → Prop), Q (.int (g i) s.toks) { s with toks := s.toks + 1 } → wpAny (model X.prog X.w) X.A (f (.int i t)) Q E s) :
    UnR X f (rU fun i => .int (g i)) := by
  intro pins s σ H x v Q I rx h
  obtain ⟨i, rfl, q⟩ := h
  obtain ⟨t, rfl⟩ := rx
  exact rule i t s _ _ ⟨.int (g i), H, I.tok _, ⟨_, rfl⟩, q⟩
theorem un_neg : UnR X (unaryOp .USub) (rU fun i => .int (-i)) := unI fun _ _ _ _ _ q => neg_int q
end
/-- the scalars that == tells apart as data does -/
def scal : V → V → Bool
  | .non, .non => true | .non, .int _ => true | .int _, .non => true | .non, .bl _ => true | .bl _, .non => true | .non, .str _ => true | .str _, .non => true
  | .int _, .int _ => true | .bl _, .bl _ => true | .str _, .str _ => true | .byt _, .byt _ => true
  | .int _, .str _ => true | .str _, .int _ => true | .bl _, .str _ => true | .str _, .bl _ => true
  | _, _ => false
def rEq : R2 := fun x y H Q => scal x y = true ∧ Q (.bl (decide (x = y))) H
def rNe : R2 := fun x y H Q => scal x y = true ∧ Q (.bl (!decide (x = y))) H
theorem dec_int {i j : Int} : decide (V.int i = V.int j) = (i == j) := by
  rw [Bool.eq_iff_iff]
  simp
theorem dec_bl {i j : Bool} : decide (V.bl i = V.bl j) = (i == j) := by
  rw [Bool.eq_iff_iff]
  simp
theorem dec_str {i j : Str} : decide (V.str i = V.str j) = (i == j) := by
  rw [Bool.eq_iff_iff]
  simp
theorem dec_byt {i j : Array UInt8} : decide (V.byt i = V.byt j) = (i.toList == j.toList) := by
  rw [Bool.eq_iff_iff]
  cases i
  cases j
  simp
section
variable {X : Cx} {a b c : Expr} {ta tb tc : TE} {pos : Pos}
theorem fin_bl {pins : List (Addr × Obj)} {σ : St} {H : Hp} {s : Shared} {Q : VK} {k k' : Bool} (I : Inv X pins σ H s) (q : Q (.bl k) H) (e : k = k') : EP X pins σ Q (.bool k') s := by
  subst e
  exact ⟨.bl k, H, I, rfl, q⟩
theorem op_eq : OpR X (compareOp .Eq) rEq := by
  intro pins s σ H x y v u Q I rx ry h
  obtain ⟨hs, q⟩ := h
  cases x with
  | non =>
    cases rx
    cases y with
    | non => cases ry; exact PySem.EqNone.eq_none_none (fin_bl I q (by simp))
    | bl j => cases ry; exact PySem.EqNone.eq_none_bool (fin_bl I q (by simp))
    | int j => obtain ⟨t', rfl⟩ := ry; exact PySem.EqNone.eq_none_int (fin_bl I q (by simp))
    | str j => obtain ⟨t', rfl⟩ := ry; exact PySem.EqNone.eq_none_str (fin_bl I q (by simp))
    | _ => exact absurd (show false = true from hs) Bool.false_ne_true
  | bl i =>
    cases rx
    cases y with
    | non => cases ry; exact PySem.EqNone.eq_bool_none (fin_bl I q (by simp))
    | bl j => cases ry; exact eq_bool (fin_bl I q dec_bl)
    | str j => obtain ⟨t', rfl⟩ := ry; exact PySem.EqMixed.eq_bool_str (fin_bl I q (by simp))
    | _ => exact absurd (show false = true from hs) Bool.false_ne_true
  | int i =>
    obtain ⟨t, rfl⟩ := rx
    cases y with
    | non => cases ry; exact PySem.EqNone.eq_int_none (fin_bl I q (by simp))
    | int j => obtain ⟨t', rfl⟩ := ry; exact eq_int (fin_bl I q dec_int)
    | str j => obtain ⟨t', rfl⟩ := ry; exact PySem.EqMixed.eq_int_str (fin_bl I q (by simp))
    | _ => exact absurd (show false = true from hs) Bool.false_ne_true
  | str i =>
    obtain ⟨t, rfl⟩ := rx
    cases y with
    | non => cases ry; exact PySem.EqNone.eq_str_none (fin_bl I q (by simp))
    | bl j => cases ry; exact PySem.EqMixed.eq_str_bool (fin_bl I q (by simp))
    | int j => obtain ⟨t', rfl⟩ := ry; exact PySem.EqMixed.eq_str_int (fin_bl I q (by simp))
    | str j => obtain ⟨t', rfl⟩ := ry; exact eq_str (fin_bl I q dec_str)
    | _ => exact absurd (show false = true from hs) Bool.false_ne_true
  | byt i =>
    obtain ⟨t, rfl⟩ := rx
    cases y with
    | byt j => obtain ⟨t', rfl⟩ := ry; exact PySem.W.eq_bytes (fin_bl I q dec_byt)
    | _ => exact absurd (show false = true from hs) Bool.false_ne_true
  | _ => cases y <;> exact absurd (show false = true from hs) Bool.false_ne_true
theorem op_ne : OpR X (compareOp .NotEq) rNe := by
  intro pins s σ H x y v u Q I rx ry h
  obtain ⟨hs, q⟩ := h
  cases x with
  | non =>
    cases rx
    cases y with
    | non => cases ry; exact PySem.EqNone.ne_none_none (fin_bl I q (by simp))
    | bl j => cases ry; exact PySem.EqNone.ne_none_bool (fin_bl I q (by simp))
    | int j => obtain ⟨t', rfl⟩ := ry; exact PySem.EqNone.ne_none_int (fin_bl I q (by simp))
    | str j => obtain ⟨t', rfl⟩ := ry; exact PySem.EqNone.ne_none_str (fin_bl I q (by simp))
    | _ => exact absurd (show false = true from hs) Bool.false_ne_true
  | bl i =>
    cases rx
    cases y with
    | non => cases ry; exact PySem.EqNone.ne_bool_none (fin_bl I q (by simp))
    | bl j => cases ry; exact ne_bool (fin_bl I q (congrArg not dec_bl))
    | str j => obtain ⟨t', rfl⟩ := ry; exact PySem.EqMixed.ne_bool_str (fin_bl I q (by simp))
    | _ => exact absurd (show false = true from hs) Bool.false_ne_true
  | int i =>
    obtain ⟨t, rfl⟩ := rx
    cases y with
    | non => cases ry; exact PySem.EqNone.ne_int_none (fin_bl I q (by simp))
    | int j => obtain ⟨t', rfl⟩ := ry; exact ne_int (fin_bl I q (congrArg not dec_int))
    | str j => obtain ⟨t', rfl⟩ := ry; exact PySem.EqMixed.ne_int_str (fin_bl I q (by simp))
    | _ => exact absurd (show false = true from hs) Bool.false_ne_true
  | str i =>
    obtain ⟨t, rfl⟩ := rx
    cases y with
    | non => cases ry; exact PySem.EqNone.ne_str_none (fin_bl I q (by simp))
    | bl j => cases ry; exact PySem.EqMixed.ne_str_bool (fin_bl I q (by simp))
    | int j => obtain ⟨t', rfl⟩ := ry; exact PySem.EqMixed.ne_str_int (fin_bl I q (by simp))
    | str j => obtain ⟨t', rfl⟩ := ry; exact ne_str (fin_bl I q (congrArg not dec_str))
    | _ => exact absurd (show false = true from hs) Bool.false_ne_true
  | byt i =>
    obtain ⟨t, rfl⟩ := rx
    cases y with
    | byt j => obtain ⟨t', rfl⟩ := ry; exact PySem.W.ne_bytes (fin_bl I q (congrArg not dec_byt))
    | _ => exact absurd (show false = true from hs) Bool.false_ne_true
  | _ => cases y <;> exact absurd (show false = true from hs) Bool.false_ne_true
theorem op_lt : OpR X (compareOp .Lt) (rI0 fun i j => .bl (decide (i < j))) := opB0 fun _ _ _ _ _ _ _ q => lt_int q
theorem op_le : OpR X (compareOp .LtE) (rI0 fun i j => .bl (decide (i ≤ j))) := opB0 fun _ _ _ _ _ _ _ q => le_int q
theorem op_gt : OpR X (compareOp .Gt) (rI0 fun i j => .bl (decide (j < i))) := opB0 fun _ _ _ _ _ _ _ q => gt_int q
/-- the one string within the other -/
theorem op_in_str : OpR X (compareOp .In) (fun x y H Q => ∃ i j, x = .str i ∧ y = .str j ∧ Q (.bl (!(Builtin.Str.occurrences j i 0 j.length 1).isEmpty)) H) := by
  intro pins s σ H x y v u Q I rx ry h
  obtain ⟨i, j, rfl, rfl, q⟩ := h
  obtain ⟨t, rfl⟩ := rx
  obtain ⟨t', rfl⟩ := ry
  exact in_str (fin_bl I q rfl)
theorem nomark (b : Expr) {op : CmpOp} (h : op ≠ .In := by decide) (h2 : op ≠ .NotIn := by decide) : behindInMarks op b = false := by
  have e1 : (op == CmpOp.In) = false := by cases op <;> first | rfl | exact absurd rfl h
  have e2 : (op == CmpOp.NotIn) = false := by cases op <;> first | rfl | exact absurd rfl h2
  cases b <;> simp [behindInMarks, e1, e2]
/-- a comparison as a value; hm: nomark b, or (for in, not in) by with_unfolding_all rfl -/
theorem pe_cmpR {op : CmpOp} {r : R2} (ho : OpR X (compareOp op) r) (ha : PE X a ta) (hb : PE X b tb) (hm : behindInMarks op b = false) : PE X (.Compare a [op] [b] pos) (tOp r ta tb) := by
  intro pins s σ H Q I h
  exact wpAny_Compare1 (binT ha hb I h fun v u s2 x y H2 I2 rx ry q => ho pins s2 σ H2 x y v u Q I2 rx ry q) hm
/-- a reading of a value as a test -/
inductive tTest_I (Q : (Bool → Hp → Prop)) (x : V) (H' : Hp) : Prop
  | mk : ∀ k, x = .bl k → Q k H' → tTest_I Q x H'
def tTest (t : TE) : TT := fun σ H Q => t σ H fun x H' => tTest_I Q x H'
theorem pt_cmpR {op : CmpOp} {r : R2} (ho : OpR X (compareOp op) r) (ha : PE X a ta) (hb : PE X b tb) (hm : behindInMarks op b = false) : PT X (.Compare a [op] [b] pos) (tTest (tOp r ta tb)) := by
  intro pins s σ H Q I h
  refine wpAny_isTrue_Compare1 (thn (ha pins s σ H _ I h) fun v s1 ⟨x, H1, I1, r1, q1⟩ => thn (hb pins s1 σ H1 _ I1 q1) fun u s2 ⟨y, H2, I2, r2, q2⟩ =>
    thn (ho pins s2 σ H2 x y v u _ I2 r1 r2 q2) fun c s3 ⟨z, H3, I3, r3, k, e, q3⟩ => ?_) hm
  subst e
  cases r3
  exact wpAny_truthy_bool ⟨H3, I3, q3⟩
/-- a op1 b op2 c -/
def tChain (r r' : R2) (ta tb tc : TE) : TE := fun σ H Q => ta σ H fun x H1 => tb σ H1 fun y H2 => r x y H2 fun z H3 => ∃ k, z = .bl k ∧
  (if k = true then tc σ H3 fun w' H4 => r' y w' H4 Q else Q (.bl false) H3)
theorem pe_chain {op op' : CmpOp} {r r' : R2} (ho : OpR X (compareOp op) r) (ho' : OpR X (compareOp op') r') (ha : PE X a ta) (hb : PE X b tb) (hc : PE X c tc)
    (hm : lastMarks [op, op'] [b, c] = false := by with_unfolding_all rfl) : PE X (.Compare a [op, op'] [b, c] pos) (tChain r r' ta tb tc) := by
  intro pins s σ H Q I h
  refine Compare_chain (thn (ha pins s σ H _ I h) fun v s1 ⟨x, H1, I1, r1, q1⟩ => chain_link (thn (hb pins s1 σ H1 _ I1 q1) fun u s2 ⟨y, H2, I2, r2, q2⟩ =>
    thn (ho pins s2 σ H2 x y v u _ I2 r1 r2 q2) fun d s3 ⟨z, H3, I3, r3, k, e, q3⟩ => ?_)) hm
  subst e
  cases r3
  refine wpAny_truthy_bool ?_
  cases k with
  | false => exact ite_ff ⟨.bl false, H3, I3, rfl, q3⟩
  | true => exact ite_tt (chain_last (thn (hc pins s3 σ H3 _ I3 q3) fun w' s4 ⟨z', H4, I4, r4, q4⟩ => ho' pins s4 σ H4 y z' u w' Q I4 r2 r4 q4))
theorem pt_chain {op op' : CmpOp} {r r' : R2} (ho : OpR X (compareOp op) r) (ho' : OpR X (compareOp op') r') (ha : PE X a ta) (hb : PE X b tb) (hc : PE X c tc)
    (hm : lastMarks [op, op'] [b, c] = false := by with_unfolding_all rfl) : PT X (.Compare a [op, op'] [b, c] pos) (tTest (tChain r r' ta tb tc)) := by
  intro pins s σ H Q I h
  refine isTrue_chain (thn (ha pins s σ H _ I h) fun v s1 ⟨x, H1, I1, r1, q1⟩ => test_link (thn (hb pins s1 σ H1 _ I1 q1) fun u s2 ⟨y, H2, I2, r2, q2⟩ =>
    thn (ho pins s2 σ H2 x y v u _ I2 r1 r2 q2) fun d s3 ⟨z, H3, I3, r3, k, e, q3⟩ => ?_)) hm
  subst e
  cases r3
  refine wpAny_truthy_bool ?_
  cases k with
  | false =>
    obtain ⟨k', e', q'⟩ := q3
    cases e'
    exact ite_ff ⟨H3, I3, q'⟩
  | true =>
    refine ite_tt (test_last (thn (hc pins s3 σ H3 _ I3 q3) fun w' s4 ⟨z', H4, I4, r4, q4⟩ => thn (ho' pins s4 σ H4 y z' u w' _ I4 r2 r4 q4) fun d' s5 ⟨z2, H5, I5, r5, k2, e2, q5⟩ => ?_))
    subst e2
    cases r5
    exact wpAny_truthy_bool ⟨H5, I5, q5⟩
theorem line63 : (sizeLine : Nat) < 2 ^ 63 := by rw [sizeLine_eq]; decide
theorem op_add_str : OpR X (binaryOp .Add) (fun x y H Q => ∃ i j, x = .str i ∧ y = .str j ∧ i.length + j.length ≤ sizeLine ∧ Q (.str (i ++ j)) H) := by
  intro pins s σ H x y v u Q I rx ry h
  obtain ⟨i, j, rfl, rfl, hz, q⟩ := h
  obtain ⟨t, rfl⟩ := rx
  obtain ⟨t', rfl⟩ := ry
  exact add_str (fun t' tk => ⟨.str (i ++ j), H, I.tok _, ⟨_, rfl⟩, q⟩) hz
theorem iop_add_str : OpR X (inplaceOp .Add) (fun x y H Q => ∃ i j, x = .str i ∧ y = .str j ∧ i.length + j.length ≤ sizeLine ∧ Q (.str (i ++ j)) H) := by
  intro pins s σ H x y v u Q I rx ry h
  obtain ⟨i, j, rfl, rfl, hz, q⟩ := h
  obtain ⟨t, rfl⟩ := rx
  obtain ⟨t', rfl⟩ := ry
  exact iadd_str (fun t' tk => ⟨.str (i ++ j), H, I.tok _, ⟨_, rfl⟩, q⟩) hz
theorem vals1 {x : V} {us : List Value} (r : Vals [x] us) : ∃ u, us = [u] ∧ RelV x u := by
  cases r with
  | cons r1 r2 => cases r2; exact ⟨_, rfl, r1⟩
theorem vals2 {x y : V} {us : List Value} (r : Vals [x, y] us) : ∃ u w', us = [u, w'] ∧ RelV x u ∧ RelV y w' := by
  cases r with
  | cons r1 r2 =>
    cases r2 with
    | cons r3 r4 => cases r4; exact ⟨_, _, rfl, r1, r3⟩
theorem call_str_int : CallR X (.type "str") (fun xs H Q => ∃ i, xs = [.int i] ∧ i.natAbs.log2 < 1920 ∧ Q (.str (toString i)) H) := by
  intro pins s σ H xs us Q I r h
  obtain ⟨i, rfl, hz, q⟩ := h
  obtain ⟨u, rfl, t, rfl⟩ := vals1 r
  exact PySem.P.str_of_int hz ⟨.str _, H, I.tok _, ⟨_, rfl⟩, q⟩
end
end L2
namespace L2
open PySem PySem.Spec PyProof.Rows
structure ObjM (h : Heap) (x dx C : Addr) (mA : Str → Option Value) : Prop where
  obj : h.get? x = some (PySem.W.instObj C dx)
  ns : h.Ns1 dx mA
  ne : dx ≠ x
theorem lookIn_ns {h : Heap} {dx : Addr} {mA : Str → Option Value} (n : h.Ns1 dx mA) : ∃ od, h.get? dx = some od ∧ ∀ name, PySem.W.lookIn name od = some (mA name) := by
  obtain ⟨o, es, ep, ho, hd, hk, _, hm⟩ := n
  refine ⟨o, ho, fun name => ?_⟩
  have e := hm name
  unfold nsFind findBy at e
  rw [← Array.find?_toList] at e
  unfold PySem.W.lookIn
  rw [hd]
  dsimp only
  split
  · rename_i y q
    rw [q] at e
    exact congrArg some e
  · rename_i q
    rw [q] at e
    have a : es.toList.any (·.refKey) = false := by
      rw [List.any_eq_false]
      intro y hy
      obtain ⟨z, t, hkey⟩ := hk y (Array.mem_toList_iff.mp hy)
      simp [DictEntry.refKey, hkey]
    have a' : ¬ es.toList.any (·.refKey) = true := by rw [a]; exact Bool.false_ne_true
    rw [if_neg a']
    exact congrArg some e
theorem ObjM.look {h : Heap} {x dx C : Addr} {mA : Str → Option Value} (I : ObjM h x dx C mA) : ∃ od, PySem.W.InstAt h x (PySem.W.instObj C dx) C (some od) ∧ ∀ name, PySem.W.lookIn name od = some (mA name) :=
  let ⟨od, ho, hl⟩ := lookIn_ns I.ns
  ⟨od, ⟨I.obj, rfl, rfl, ho⟩, hl⟩
section
variable {prog : Program} {w : World} {A : Around} {E : Value → Shared → Prop} {s : Shared} {K : PySem.W.Frag} {x dx C f : Addr} {mA : Str → Option Value} {name : Str} {v : Value}
theorem get_map {expr : Bool} {Q : Value → Shared → Prop} (X : K.In s.heap) (I : ObjM s.heap x dx C mA) (hg : PySem.W.plainGet K C name = true) (hh : PySem.W.hasDictIn K C = true)
    (ha : PySem.W.findIn K (.ref C) name = some none) (hv : mA name = some v) (hv' : PySem.W.handedIn v = true) (h : Q v { s with toks := s.toks + 1 }) :
    wpAny (model prog w) A (getAttr (.ref x) name expr) Q E s := by
  obtain ⟨od, J, hl⟩ := I.look
  exact PySem.W.get_value X J (PySem.W.plainGet_of hg).1 (PySem.W.findObj_own hh ha rfl (by rw [hl, hv])) hv' h
theorem get_meth {pl : Sem Bool} {Q : Value × List Value → Shared → Prop} (X : K.In s.heap) (I : ObjM s.heap x dx C mA) (hg : PySem.W.plainGet K C name = true)
    (hf : PySem.W.findIn K (.ref C) name = some (some (.ref f))) (ht : PySem.W.isFn K (.ref f) = true) (hv : mA name = none) (h : Q (.ref f, [.ref x]) s) :
    wpAny (model prog w) A (getMethod (.ref x) name pl) Q E s := by
  obtain ⟨od, J, hl⟩ := I.look
  exact PySem.W.method_fn X J (PySem.W.plainGet_of hg).1 (PySem.W.plainGet_of hg).2 hf (beq_iff_eq.mp ht) (by show (PySem.W.lookIn name od).map (·.isSome) = some false; rw [hl, hv]; rfl) h
theorem set_map {ns : List Str} {Q : Unit → Shared → Prop} (X : K.In s.heap) (I : ObjM s.heap x dx C mA)
    (hs : PySem.W.findIn K (.ref C) "__setattr__" = some (some (.builtin "object.__setattr__"))) (hp : PySem.W.plainOver K C = true) (ht : PySem.W.takerIn K C name = some none) (hh : PySem.W.hasDictIn K C = true)
    (hw : PySem.Within mA ns) (hsz : ns.length ≤ sizeLine)
    (h : ∀ h', ObjM h' x dx C (fun y => if y = name then some v else mA y) → Heap.SameBut dx s.heap h' → Q () { s with heap := h', toks := s.toks + 2 }) :
    wpAny (model prog w) A (setAttr (.ref x) name v) Q E s := by
  obtain ⟨od, J, hl⟩ := I.look
  refine PySem.W.set_plain X J hs (PySem.W.osa_open (s := { s with toks := s.toks + 1 }) (r := none) X J hp ht fun b => ?_)
  obtain ⟨cd, hc, hd'⟩ := PySem.W.any_some hh
  have hx : s.heap.get? x = some ⟨.ref C, some dx, .plain, #[]⟩ := I.obj
  refine wpAny_bind (wpAny_pure (wpAny_bind (wpAny_bind (wpAny_loadPart hx (wpAny_bind (PySem.W.Looks.here (s := { s with toks := s.toks + 1 }) (PySem.W.looks_clsIn X hc) ?_))))))
  rw [hd']
  refine wpAny_pure (a := some dx) (wpAny_bind (wpAny_pure (wpAny_bind ?_)))
  refine wpAny_nsSet1 (s := { s with toks := s.toks + 1 }) I.ns fun h' hn2 hs2 => ?_
  obtain ⟨oD, esD, epD, hoD, hdD, hcD⟩ := hn2.count (PySem.Within.cons name v hw)
  refine wpAny_bind (wpAny_lookBehind hoD (by rw [hdD]; exact pastItsLine_dict (Nat.le_trans hcD (by rw [List.length_cons]; omega))) ?_)
  exact wpAny_pure (h _ ⟨(hs2.2 _ (Ne.symm I.ne)).trans I.obj, hn2, I.ne⟩ hs2)
/-- C(..): the dict at the heap's end, the instance behind it; then its __init__ -/
theorem make_map {R : Result → Shared → Prop} {vs : List Value} {kw : List (Str × Value)} (X : K.In s.heap) (hm : PySem.W.makesIn K C = true)
    (hi : PySem.W.findIn K (.ref C) "__init__" = some (some (.ref f))) (hf : PySem.W.typeIn K (.ref f) = some (.type "function"))
    (h : codeAny (model prog w) (A.under (.builtin "type.__call__" ⟨.ref C :: vs, kw⟩)) (.call (.ref f) ⟨.ref (s.heap.objs.size + 1) :: vs, kw⟩) (PySem.W.InitBack (s.heap.objs.size + 1) R)
      { s with heap := (s.heap.push PySem.W.emptyDict).push (PySem.W.instObj C s.heap.objs.size) }) :
    codeAny (model prog w) A (.call (.ref C) ⟨vs, kw⟩) R s := by
  obtain ⟨hh, g, d, t, os⟩ := s
  exact PySem.W.make_core (PySem.W.makes_of X hm) (PySem.W.looks_findIn X hi) (fun self => PySem.W.bind_fn X self hf) (.inl rfl) h
end
def putF (f : Str) (v : V) : List (Str × V) → List (Str × V)
  | [] => [(f, v)]
  | (g, x) :: r => if g = f then (g, v) :: r else (g, x) :: putF f v r
theorem lookup_putF (f g : Str) (v : V) : ∀ fs : List (Str × V), (putF f v fs).lookup g = if g = f then some v else fs.lookup g
  | [] => by
    show List.lookup g [(f, v)] = _
    by_cases h : g = f
    · have hb : (g == f) = true := beq_iff_eq.mpr h
      simp only [List.lookup, hb, if_pos h]
    · have hb : (g == f) = false := beq_eq_false_iff_ne.mpr h
      simp only [List.lookup, hb, if_neg h]
  | (k, x) :: r => by
    have ih := lookup_putF f g v r
    rw [show putF f v ((k, x) :: r) = (if k = f then (k, v) :: r else (k, x) :: putF f v r) from rfl]
    by_cases hk : k = f
    · rw [if_pos hk]
      by_cases h : g = k
      · have hb : (g == k) = true := beq_iff_eq.mpr h
        simp only [List.lookup, hb, if_pos (h.trans hk)]
      · have hb : (g == k) = false := beq_eq_false_iff_ne.mpr h
        simp only [List.lookup, hb, if_neg (fun e : g = f => h (e.trans hk.symm))]
    · rw [if_neg hk]
      by_cases h : g = k
      · have hb : (g == k) = true := beq_iff_eq.mpr h
        simp only [List.lookup, hb, if_neg (fun e : g = f => hk (h.symm.trans e))]
      · have hb : (g == k) = false := beq_eq_false_iff_ne.mpr h
        simp only [List.lookup, hb]
        exact ih
theorem keys_putF (f : Str) (v : V) : ∀ fs : List (Str × V), f ∈ (putF f v fs).map (·.1) ∧ ∀ g, g ∈ fs.map (·.1) → g ∈ (putF f v fs).map (·.1)
  | [] => ⟨by simp [putF], fun g h => by simp at h⟩
  | (k, x) :: r => by
    obtain ⟨i1, i2⟩ := keys_putF f v r
    rw [show putF f v ((k, x) :: r) = (if k = f then (k, v) :: r else (k, x) :: putF f v r) from rfl]
    by_cases hk : k = f
    · rw [if_pos hk]
      subst hk
      exact ⟨by simp, fun g h => by simpa using h⟩
    · rw [if_neg hk]
      refine ⟨?_, fun g h => ?_⟩
      · rw [List.map_cons]
        exact List.mem_cons_of_mem _ i1
      · rw [List.map_cons] at h ⊢
        rcases List.mem_cons.mp h with e | e
        · exact List.mem_cons.mpr (.inl e)
        · exact List.mem_cons_of_mem _ (i2 g e)
theorem length_putF (f : Str) (v : V) : ∀ fs : List (Str × V), (putF f v fs).length ≤ fs.length + 1
  | [] => by simp [putF]
  | (k, x) :: r => by
    have ih := length_putF f v r
    rw [show putF f v ((k, x) :: r) = (if k = f then (k, v) :: r else (k, x) :: putF f v r) from rfl]
    by_cases hk : k = f
    · rw [if_pos hk, List.length_cons, List.length_cons]; omega
    · rw [if_neg hk, List.length_cons, List.length_cons]; omega
theorem RelO.some_of {v : V} {o : Option Value} (r : RelO (some v) o) : ∃ u, o = some u ∧ RelV v u := by
  cases o with
  | none => exact (show False from r).elim
  | some u => exact ⟨u, rfl, r⟩
theorem RelO.none_of {o : Option Value} (r : RelO none o) : o = none := by
  cases o with
  | none => rfl
  | some u => exact (show False from r).elim
theorem handed_of {v : V} {u : Value} (r : RelV v u) : PySem.W.handedIn u = true := by
  cases v with
  | non => cases (show u = Value.none from r); rfl
  | bl b => cases (show u = Value.bool b from r); rfl
  | int i => obtain ⟨t, e⟩ := (show ∃ t, u = Value.int i t from r); cases e; rfl
  | str x => obtain ⟨t, e⟩ := (show ∃ t, u = Value.str x t from r); cases e; rfl
  | byt b => obtain ⟨t, e⟩ := (show ∃ t, u = Value.bytes b t from r); cases e; rfl
  | flt b => obtain ⟨t, e⟩ := (show ∃ t, u = Value.float b t from r); cases e; rfl
  | ref a => cases (show u = Value.ref a from r); rfl
  | ty n => cases (show u = Value.type n from r); rfl
section
variable {P : Program} {w : World} {H H' : Hp} {h h' : Heap} {a C dx : Addr} {fs fs' : List (Str × V)}
theorem ins_get (hok : HOk P w H h) (e : H a = some (.ins C dx fs)) : ∃ mA, ObjM h a dx C mA ∧ (∀ f, RelO (fs.lookup f) (mA f)) ∧ PySem.Within mA (fs.map (·.1)) ∧ fs.length ≤ 1000 ∧ H dx = some (.own a) := by
  obtain ⟨d, z, ne, ob, mA, n, r, q⟩ := (show ObjOk P w H h a (.ins C dx fs) from hok a _ e)
  exact ⟨mA, ⟨ob, n, ne⟩, r, q, z, d⟩
end
structure Cls (K : PySem.W.Frag) (C : Addr) : Prop where
  pg : PySem.W.plainGet K C Str.empty = true
  hd : PySem.W.hasDictIn K C = true
  po : PySem.W.plainOver K C = true
  sa : PySem.W.findIn K (.ref C) "__setattr__" = some (some (.builtin "object.__setattr__"))
theorem Cls.get {K : PySem.W.Frag} {C : Addr} (c : Cls K C) (f : Str) : PySem.W.plainGet K C f = true := c.pg
/-- no class of it has the name -/
def NoAttr (K : PySem.W.Frag) (C : Addr) (f : Str) : Prop := PySem.W.findIn K (.ref C) f = some none
theorem NoAttr.taker {K : PySem.W.Frag} {C : Addr} {f : Str} (n : NoAttr K C f) : PySem.W.takerIn K C f = some none := by
  unfold PySem.W.takerIn
  rw [show PySem.W.findIn K (.ref C) f = some none from n]
  rfl
/-- a method: a plain def of the class or of one above it -/
structure Meth (K : PySem.W.Frag) (C : Addr) (m : Str) (f : Addr) : Prop where
  at_ : PySem.W.findIn K (.ref C) m = some (some (.ref f))
  fn : PySem.W.isFn K (.ref f) = true
  kp : PySem.W.keepIn K (.ref f) = true
section
variable {X : Cx} {pins : List (Addr × Obj)} {σ : St} {H : Hp} {s : Shared} {a C dx : Addr} {fs : List (Str × V)} {f : Str} {v : V} {A : Around} {E : Value → Shared → Prop}
theorem getattr_ok {b : Bool} {Q : Value → Shared → Prop} (I : Inv X pins σ H s) (e : H a = some (.ins C dx fs)) (c : Cls X.K C) (n : NoAttr X.K C f) (l : fs.lookup f = some v)
    (h : ∀ u s', Inv X pins σ H s' → RelV v u → Q u s') : wpAny (model X.prog X.w) A (getAttr (.ref a) f b) Q E s := by
  obtain ⟨mA, O, r, _, _, _⟩ := ins_get I.hok e
  obtain ⟨u, hu, ru⟩ := RelO.some_of (v := v) (o := mA f) (by rw [← l]; exact r f)
  exact get_map I.kIn O (c.get f) c.hd n hu (handed_of ru) (h u _ (I.tok _) ru)
theorem getmeth_ok {m : Str} {g : Addr} {pl : Sem Bool} {Q : Value × List Value → Shared → Prop} (I : Inv X pins σ H s) (e : H a = some (.ins C dx fs)) (c : Cls X.K C) (k : Meth X.K C m g) (l : fs.lookup m = none)
    (h : Q (.ref g, [.ref a]) s) : wpAny (model X.prog X.w) A (getMethod (.ref a) m pl) Q E s := by
  obtain ⟨mA, O, r, _, _, _⟩ := ins_get I.hok e
  have hn : mA m = none := RelO.none_of (by rw [← l]; exact r m)
  exact get_meth I.kIn O (c.get m) k.at_ k.fn hn h
theorem setattr_ok {y : V} {u : Value} {Q : Unit → Shared → Prop} (I : Inv X pins σ H s) (e : H a = some (.ins C dx fs)) (c : Cls X.K C) (n : NoAttr X.K C f) (hl : fs.length < 1000) (ry : RelV y u)
    (h : ∀ s', Inv X pins σ (upd H a (.ins C dx (putF f y fs))) s' → Q () s') : wpAny (model X.prog X.w) A (setAttr (.ref a) f u) Q E s := by
  obtain ⟨mA, O, r, wi, _, ho⟩ := ins_get I.hok e
  have hz : (fs.map (·.1)).length ≤ sizeLine := by rw [List.length_map, sizeLine_eq]; omega
  refine set_map I.kIn O c.sa c.po n.taker c.hd wi hz fun h' O' sb => h _ ?_
  have hd : ∃ o, h'.get? dx = some o := let ⟨o, _, _, e', _⟩ := O'.ns; ⟨o, e'⟩
  refine I.write (x := a) (e := dx) (by rw [e]; exact True.intro) (.inr ho) (fun b q hb z => (sb.2 b hb).trans z) hd ?_
  refine ⟨by rw [upd_ne O.ne]; exact ho, ?_, O.ne, O'.obj, _, O'.ns, fun g => ?_, fun g hg => ?_⟩
  · have := length_putF f y fs; omega
  · show RelO ((putF f y fs).lookup g) (if g = f then some u else mA g)
    rw [lookup_putF]
    by_cases q : g = f
    · rw [if_pos q, if_pos q]; exact ry
    · rw [if_neg q, if_neg q]; exact r g
  · by_cases q : g = f
    · rw [q]; exact (keys_putF f y fs).1
    · refine (keys_putF f y fs).2 g (wi g fun z => hg ?_)
      show (if g = f then some u else mA g) = none
      rw [if_neg q]; exact z
/-- a new instance, tracked, without attributes -/
theorem Inv.made (I : Inv X pins σ H s) : Inv X pins σ (upd (upd H s.heap.objs.size (.own (s.heap.objs.size + 1))) (s.heap.objs.size + 1) (.ins C s.heap.objs.size []))
    { s with heap := (s.heap.push PySem.W.emptyDict).push (PySem.W.instObj C s.heap.objs.size) } := by
  have e1 : (s.heap.push PySem.W.emptyDict).get? s.heap.objs.size = some PySem.W.emptyDict := Heap.get?_push_size s.heap rfl
  have e2 : ((s.heap.push PySem.W.emptyDict).push (PySem.W.instObj C s.heap.objs.size)).get? (s.heap.objs.size + 1) = some (PySem.W.instObj C s.heap.objs.size) := by
    have := Heap.get?_push_size (s.heap.push PySem.W.emptyDict) (o := PySem.W.instObj C s.heap.objs.size) rfl
    rwa [Heap.size_push] at this
  have e3 : (s.heap.push PySem.W.emptyDict).Ns s.heap.objs.size (fun _ => none) := ⟨PySem.W.emptyDict, #[], _, e1, rfl, (fun e he => absurd he (by simp)), fun _ => rfl⟩
  have I1 := I.laid (a := s.heap.objs.size) (o := .own (s.heap.objs.size + 1)) (h' := s.heap.push PySem.W.emptyDict) (t' := s.toks) (fun b u q => Heap.get?_push_of_some _ q) (Nat.le_refl _) ⟨_, e1⟩
  refine I1.laid (a := s.heap.objs.size + 1) (o := .ins C s.heap.objs.size []) (t' := s.toks) (fun b u q => Heap.get?_push_of_some _ q) (Nat.le_of_eq (Heap.size_push _ _)) ?_
  have ne : s.heap.objs.size ≠ s.heap.objs.size + 1 := Nat.ne_of_lt (Nat.lt_succ_self _)
  refine ⟨by rw [upd_ne ne, upd_same], Nat.zero_le _, ne, e2, fun _ => none, (Heap.Ns1.of_empty e3).at fun o q => Heap.get?_push_of_some _ q, fun _ => True.intro, fun y hy => absurd rfl hy⟩
/-- e.f where nothing but the object is asked: through attributeBase (super) and the last hold -/
theorem attr_of {prog : Program} {w : World} {env : Env} {e : Expr} {f : Str} {pos : Pos} {s : Shared} {Q : Value → Shared → Prop} (hb : attributeBase e f env (eval e env) = eval e env)
    (h : wpAny (model prog w) A (eval e env) (fun o s₁ => wpAny (model prog w) A (getAttr o f true) Q E s₁) E s) : wpAny (model prog w) A (eval (.Attribute e f pos) env) Q E s :=
  Attribute_any_ h (by rw [arm_eval_Attribute, hb])
end
/-- e.f, an attribute of the instance -/
inductive tFld_I (K : PySem.W.Frag) (f : Str) (Q : VK) (x : V) (H1 : Hp) : Prop
  | mk : ∀ a C dx fs v, x = .ref a → H1 a = some (.ins C dx fs) → Cls K C → NoAttr K C f → fs.lookup f = some v → Q v H1 → tFld_I K f Q x H1
def tFld (K : PySem.W.Frag) (ta : TE) (f : Str) : TE := fun σ H Q => ta σ H fun x H1 => tFld_I K f Q x H1
/-- e.f = value -/
inductive sFld_I (K : PySem.W.Frag) (f : Str) (D : Ends) (σ : St) (y : V) (x : V) (H2 : Hp) : Prop
  | mk : ∀ a C dx fs, x = .ref a → H2 a = some (.ins C dx fs) → Cls K C → NoAttr K C f → fs.length < 1000 → D.nx σ (upd H2 a (.ins C dx (putF f y fs))) → sFld_I K f D σ y x H2
def sFld (K : PySem.W.Frag) (ta tv : TE) (f : Str) : TS := fun D σ H => tv σ H fun y H1 => ta σ H1 fun x H2 => sFld_I K f D σ y x H2
section
variable {X : Cx} {o e value : Expr} {f : Str} {pos pos' tpos : Pos} {ta tv : TE}
theorem pe_fld (he : PE X e ta) (hb : attributeBase e f X.env (eval e X.env) = eval e X.env) : PE X (.Attribute e f pos) (tFld X.K ta f) := by
  intro pins s σ H Q I h
  refine attr_of hb (thn (he pins s σ H _ I h) fun u s1 ⟨x, H1, I1, rx, a, C, dx, fs, v, ex, ea, c, n, l, q⟩ => ?_)
  subst ex
  obtain rfl : u = Value.ref a := rx
  exact getattr_ok I1 ea c n l fun u' s2 I2 ru => ⟨v, H1, I2, ru, q⟩
theorem ps_fld (ha : PE X o ta) (hv : PE X value tv) (hs : swapsWith value (some (.Attribute o f pos')) pos.line X.env = pure false) : PS X (.Assign [.Attribute o f pos'] value pos) (sFld X.K ta tv f) := by
  intro pins s σ H D I h
  refine plainObj_wpAny_Assign_Attribute (thn (hv pins s σ H _ I h) fun u s1 ⟨y, H1, I1, ry, q⟩ => thn (ha pins s1 σ H1 _ I1 q) fun ov s2 ⟨x, H2, I2, rx, a, C, dx, fs, ex, ea, c, n, l, q2⟩ => ?_) hs
  subst ex
  obtain rfl : ov = Value.ref a := rx
  exact setattr_ok I2 ea c n l ry fun s3 I3 => ⟨σ, _, I3, q2⟩
end
section
variable {X : Cx} {pins : List (Addr × Obj)} {σ : St} {H : Hp} {s : Shared} {A : Around} {E : Value → Shared → Prop} {Q : Value → Shared → Prop} {c : Value} {b : Bool}
/-- the type of a value, as the fragment's deciders take it; for an instance its class -/
inductive TyOf (K : PySem.W.Frag) (H : Hp) : V → Value → Prop where
  | non : TyOf K H .non (.type "NoneType")
  | bl (x : Bool) : TyOf K H (.bl x) (.type "bool")
  | int (i : Int) : TyOf K H (.int i) (.type "int")
  | str (x : Str) : TyOf K H (.str x) (.type "str")
  | flt (x : UInt64) : TyOf K H (.flt x) (.type "float")
  | lst {a : Addr} {xs : List V} (e : H a = some (.lst xs)) : TyOf K H (.ref a) (.type "list")
  | frz {a : Addr} {o : Obj} {xs : List V} (e : H a = some (.frz o (.lst xs))) : TyOf K H (.ref a) (.type "list")
  | tup {a : Addr} {xs : List V} (e : H a = some (.tup xs)) : TyOf K H (.ref a) (.type "tuple")
  | dK {a : Addr} {kvs : List (Key × V)} (e : H a = some (.dK kvs)) : TyOf K H (.ref a) (.type "dict")
  | dT {a : Addr} {kvs : List (List Key × V)} (e : H a = some (.dT kvs)) : TyOf K H (.ref a) (.type "dict")
  | ins {a C dx : Addr} {fs : List (Str × V)} (e : H a = some (.ins C dx fs)) (cl : Cls K C) (ha : PySem.W.findIn K (.ref C) "__class__" = some (some (.builtin "object.__class__")))
      (hn : PySem.W.specialIn K (.builtin "object.__class__") "__get__" = some (some (.builtin "getset_descriptor.__get__"))) (htk : PySem.W.takesIn K (.builtin "object.__class__") = some true)
      (hm : PySem.W.mroIn K C (.type "object") = some true) : TyOf K H (.ref a) (.ref C)
/-- isinstance(x, c) for one class c, a built-in or an own one: kitOne's answer -/
theorem isinst_ok {x : V} {u t : Value} (I : Inv X pins σ H s) (rx : RelV x u) (ty : TyOf X.K H x t) (e : PySem.W.kitOne X.K t c = some b) (h : ∀ tk, Q (.bool b) { s with toks := tk }) :
    wpAny (model X.prog X.w) A (call (.builtin "isinstance") [u, c]) Q E s := by
  cases ty with
  | non => cases (show u = Value.none from rx); exact PySem.W.kia_one PySem.W.kitx_none I.kIn True.intro e (fun z => nomatch z) h
  | bl y => cases (show u = Value.bool y from rx); exact PySem.W.kia_one PySem.W.kitx_bool I.kIn True.intro e (fun z => nomatch z) h
  | int i => obtain ⟨t, q⟩ := (show ∃ t, u = Value.int i t from rx); cases q; exact PySem.W.kia_one PySem.W.kitx_int I.kIn True.intro e (fun z => nomatch z) h
  | str y => obtain ⟨t, q⟩ := (show ∃ t, u = Value.str y t from rx); cases q; exact PySem.W.kia_one PySem.W.kitx_str I.kIn True.intro e (fun z => nomatch z) h
  | flt y => obtain ⟨t, q⟩ := (show ∃ t, u = Value.float y t from rx); cases q; exact PySem.W.kia_one PySem.W.kitx_float I.kIn True.intro e (fun z => nomatch z) h
  | @lst a xs ea =>
    cases (show u = Value.ref a from rx)
    obtain ⟨_, _, n, _, h1⟩ := (show ObjOk X.prog X.w H s.heap a (.lst xs) from I.hok a _ ea)
    exact PySem.W.kia_one PySem.W.kitx_list I.kIn ⟨_, h1, rfl⟩ e (fun z => nomatch z) h
  | @frz a ob xs ea =>
    cases (show u = Value.ref a from rx)
    obtain ⟨_, _, _, n, _, h1⟩ := (show ObjOk X.prog X.w H s.heap a (.frz ob (.lst xs)) from I.hok a _ ea)
    exact PySem.W.kia_one PySem.W.kitx_list I.kIn ⟨_, h1, rfl⟩ e (fun z => nomatch z) h
  | @tup a xs ea =>
    cases (show u = Value.ref a from rx)
    obtain ⟨_, _, _, p⟩ := (show ObjOk X.prog X.w H s.heap a (.tup xs) from I.hok a _ ea)
    obtain ⟨o, h1, h2, _⟩ := p
    exact PySem.W.kia_one PySem.W.kitx_tuple I.kIn ⟨o, h1, h2⟩ e (fun z => nomatch z) h
  | @dK a kvs ea =>
    cases (show u = Value.ref a from rx)
    obtain ⟨_, _, vs, _, p⟩ := (show ObjOk X.prog X.w H s.heap a (.dK kvs) from I.hok a _ ea)
    obtain ⟨o, es, ep, h1, h2, _⟩ := p
    exact PySem.W.kia_one PySem.W.kitx_dict I.kIn ⟨o, h1, h2.1⟩ e (fun z => nomatch z) h
  | @dT a kvs ea =>
    cases (show u = Value.ref a from rx)
    obtain ⟨_, _, xs, _, o, es, ep, h1, h2, _⟩ := (show ObjOk X.prog X.w H s.heap a (.dT kvs) from I.hok a _ ea)
    exact PySem.W.kia_one PySem.W.kitx_dict I.kIn ⟨o, h1, h2.1⟩ e (fun z => nomatch z) h
  | @ins a C dx fs ea cl ha hn htk hm =>
    cases (show u = Value.ref a from rx)
    obtain ⟨mA, O, _⟩ := ins_get I.hok ea
    obtain ⟨od, J, _⟩ := O.look
    exact PySem.W.kia_one (PySem.W.kitx_own (cl.get _) cl.hd ha hn htk hm) I.kIn J e (fun z => nomatch z) h
end
end L2
namespace L2
open PySem PySem.Spec PyProof.Rows
structure Room (k : Nat) (A : Around) : Prop where
  hd : A.handled = none
  dp : A.depth + 3 * k + 5 < recursionLimit
  un : A.units + 16 * k + 200 < cLine
  gd : A.guards = some []
theorem Room.mono {j k : Nat} {A : Around} (r : Room k A) (h : j ≤ k) : Room j A := ⟨r.hd, by have := r.dp; omega, by have := r.un; omega, r.gd⟩
theorem Room.deeper {k : Nat} {A : Around} (r : Room (k + 1) A) (env : Env) : Room k (A.deeper env) :=
  ⟨r.hd, by have := r.dp; show A.depth + 1 + 3 * k + 5 < _; omega, by have := r.un; show A.units + 3 + 16 * k + 200 < _; omega, r.gd⟩
theorem Room.in1 {k : Nat} {A : Around} (r : Room (k + 1) A) : Room k A.in1 :=
  ⟨r.hd, by have := r.dp; show A.depth + 3 * k + 5 < _; omega, by have := r.un; show A.units + 1 + 16 * k + 200 < _; omega, r.gd⟩
theorem make_depth {A : Around} {C : Addr} {us : List Value} {kw : List (Str × Value)} : (A.under (.builtin "type.__call__" ⟨.ref C :: us, kw⟩)).depth = A.depth + 1 := by
  first | rfl | simp [Around.under, Code.weight, Code.isCreation, Code.isGuard, Code.isCaller, Code.frames, Code.isFrame, guardIds]
theorem make_units {A : Around} {C : Addr} {us : List Value} {kw : List (Str × Value)} : (A.under (.builtin "type.__call__" ⟨.ref C :: us, kw⟩)).units = A.units + 1 := by
  first | rfl | simp [Around.under, Code.cUnits, Code.frames, Code.isFrame]
theorem make_guards {A : Around} {C : Addr} {us : List Value} {kw : List (Str × Value)} (h : A.guards = some []) : (A.under (.builtin "type.__call__" ⟨.ref C :: us, kw⟩)).guards = some [] := by
  first | exact h | simp [Around.under, Code.guards, Code.isGuard, pushGuards, guardIds, h]
theorem Room.make {k : Nat} {A : Around} (r : Room (k + 1) A) (C : Addr) (us : List Value) (kw : List (Str × Value)) : Room k (A.under (.builtin "type.__call__" ⟨.ref C :: us, kw⟩)) :=
  ⟨r.hd, by have := r.dp; rw [make_depth]; omega, by have := r.un; rw [make_units]; omega, make_guards r.gd⟩
theorem Room.depth {k : Nat} {A : Around} (r : Room k A) : A.depth < recursionLimit := by have := r.dp; omega
theorem Room.units {k : Nat} {A : Around} (r : Room k A) : A.units + 64 < cLine := by have := r.un; omega
def tNil : TA := fun _ H Q => Q [] H
def tCons (ta : TE) (tr : TA) : TA := fun σ H Q => ta σ H fun x H1 => tr σ H1 fun xs H2 => Q (x :: xs) H2
section
variable {X : Cx} {e : Expr} {es : List Expr} {te : TE} {t : TA} {pos : Pos}
theorem pa_nil : PA X [] tNil := fun _ _ _ _ H Q I h => Calls.spliced_nil ⟨[], H, I, .nil, h⟩
theorem pa_cons (ha : PE X e te) (hr : PA X es t) (hs : starEach (e :: es) X.env = (false, eval e X.env) :: starEach es X.env := by rfl) : PA X (e :: es) (tCons te t) := by
  intro pos pins s σ H Q I h
  rw [hs]
  show wpAny _ _ (spliced ((false, eval e X.env) :: backTo pos (starEach es X.env))) _ _ s
  refine Calls.spliced_cons (thn (ha pins s σ H _ I h) fun u s1 ⟨x, H1, I1, r1, q1⟩ => ?_)
  exact thn (hr pos pins s1 σ H1 _ I1 q1) fun us s2 ⟨xs, H2, I2, r2, q2⟩ => ⟨x :: xs, H2, I2, .cons r1 r2, q2⟩
/-- a tuple, a list of written items -/
def tTup (t : TA) : TE := fun σ H Q => t σ H fun xs H1 => xs.length ≤ sizeLine ∧ ∀ p, H1 p = none → Q (.ref p) (upd H1 p (.tup xs))
def tLst (t : TA) : TE := fun σ H Q => t σ H fun xs H1 => xs.length ≤ sizeLine ∧ ∀ p, H1 p = none → Q (.ref p) (upd H1 p (.lst xs))
theorem pe_tup {x1} (h : PA X es t) : PE X (.Tuple es x1 pos) (tTup t) := by
  intro pins s σ H Q I hq
  refine wpAny_Tuple_spliced (thn (h pos pins s σ H _ I hq) fun us s1 ⟨xs, H1, I1, r, z, q⟩ => ⟨by rw [← r.length]; exact z, ?_⟩)
  have hf : H1 s1.heap.objs.size = none := I1.hok.fresh (Nat.le_refl _)
  refine ⟨.ref s1.heap.objs.size, upd H1 s1.heap.objs.size (.tup xs), I1.laid (t' := s1.toks) (fun b u e => Heap.get?_push_of_some _ e) (Nat.le_refl _) ?_, rfl, q _ hf⟩
  exact ⟨z, us, r, ⟨_, Heap.get?_push_size _ rfl, rfl, _, rfl⟩⟩
theorem pe_lst (h : PA X es t) : PE X (.List es pos) (tLst t) := by
  intro pins s σ H Q I hq
  refine wpAny_List_spliced (thn (h pos pins s σ H _ I hq) fun us s1 ⟨xs, H1, I1, r, z, q⟩ => ⟨by rw [← r.length]; exact z, ?_⟩)
  have hf : H1 s1.heap.objs.size = none := I1.hok.fresh (Nat.le_refl _)
  refine ⟨.ref s1.heap.objs.size, upd H1 s1.heap.objs.size (.lst xs), I1.laid (t' := s1.toks) (fun b u e => Heap.get?_push_of_some _ e) (Nat.le_refl _) ?_, rfl, q _ hf⟩
  exact ⟨z, us, 0, r, Heap.get?_push_size _ rfl⟩
end
/-- a def's promise: the bound arguments in the parameters' order, the heap, the wanted end, the wanted exception -/
abbrev Sp := List V → Hp → VK → XK → Prop
/-- how an exception lies behind a call (file 08 gives it): the callers' frames, abstract heap and state ahead of the call, the wish, the exception, the state -/
abbrev CXT := List Env → Hp → Shared → XK → Value → Shared → Prop
/-- the state at a call -/
structure Env0 (P : Program) (w : World) (K : PySem.W.Frag) (mg : Str → Option Value) (base : Heap) (A : Around) (outer : List Env) (s : Shared) (H : Hp) : Prop where
  frames : A.frames = some outer
  mod : Mod K mg base
  bs : ∀ b o, base.get? b = some o → s.heap.get? b = some o ∧ H b = none
  bsz : base.objs.size ≤ s.heap.objs.size
  funs : s.heap.FunFrames base outer
  frf : ∀ b ∈ frs outer, H b = none
  hok : HOk P w H s.heap
  bare : AllBare s.gens
/-- a call's end -/
def CE (outer : List Env) (P : Program) (w : World) (H : Hp) (s : Shared) (Q : VK) (u : Value) (s' : Shared) : Prop :=
  ∃ v H', s'.os = s.os ∧ AllBare s'.gens ∧ Un (frs outer) [] H H' s.heap s'.heap ∧ HOk P w H' s'.heap ∧ RelV v u ∧ Q v H'
def CR (CX : CXT) (outer : List Env) (P : Program) (w : World) (H : Hp) (s : Shared) (Q : VK) (E : XK) (r : Result) (s' : Shared) : Prop :=
  match r with
  | .ok (.ret u) => CE outer P w H s Q u s'
  | .ok _ => False
  | .error e => CX outer H s E e s'
structure FnOk (P : Program) (w : World) (K : PySem.W.Frag) (mg : Str → Option Value) (base : Heap) (CX : CXT) (k : Nat) (f : Addr) (fd : FuncData) (ps : List Str) (sp : Sp) : Prop where
  len : ∀ vs H Q E, sp vs H Q E → vs.length = ps.length
  run : ∀ (A : Around) (outer : List Env) (s : Shared) (H : Hp) (args : Args) (us : List Value) (vs : List V) (Q : VK) (E : XK), Room k A → Env0 P w K mg base A outer s H → BindsTo s fd args (ps.zip us) → Vals vs us → sp vs H Q E →
    codeAny (model P w) A (.call (.ref f) args) (CR CX outer P w H s Q E) s
theorem FnOk.mono {P : Program} {w : World} {K : PySem.W.Frag} {mg : Str → Option Value} {base : Heap} {CX : CXT} {j k : Nat} {f : Addr} {fd : FuncData} {ps : List Str} {sp : Sp} (F : FnOk P w K mg base CX j f fd ps sp) (h : j ≤ k) :
    FnOk P w K mg base CX k f fd ps sp := ⟨F.len, fun A outer s H args us vs Q E hr => F.run A outer s H args us vs Q E (hr.mono h)⟩
theorem Env0.make {P : Program} {w : World} {K : PySem.W.Frag} {mg : Str → Option Value} {base : Heap} {A : Around} {outer : List Env} {s : Shared} {H : Hp} (e : Env0 P w K mg base A outer s H) (C : Addr) (us : List Value) (kw : List (Str × Value)) :
    Env0 P w K mg base (A.under (.builtin "type.__call__" ⟨.ref C :: us, kw⟩)) outer s H := ⟨by first | exact e.frames | (simpa [Around.under, Code.envs, Code.isFrame, pushEnvs] using e.frames), e.mod, e.bs, e.bsz, e.funs, e.frf, e.hok, e.bare⟩
theorem Env0.in1 {P : Program} {w : World} {K : PySem.W.Frag} {mg : Str → Option Value} {base : Heap} {A : Around} {outer : List Env} {s : Shared} {H : Hp} (e : Env0 P w K mg base A outer s H) :
    Env0 P w K mg base A.in1 outer s H := ⟨e.frames, e.mod, e.bs, e.bsz, e.funs, e.frf, e.hok, e.bare⟩
section
variable {X : Cx} {pins : List (Addr × Obj)} {σ : St} {H : Hp} {s s' : Shared}
/-- from a body: what a callee wants -/
theorem Inv.env0 (I : Inv X pins σ H s) : Env0 X.prog X.w X.K X.mg X.base X.A X.stack s H :=
  ⟨I.ok.frames, I.ok.mod, I.bs, Nat.le_trans I.ok.bsz I.sz, I.stack, I.stkFree, I.hok, I.bare⟩
/-- behind a call -/
theorem Inv.after {Q : VK} {u : Value} (I : Inv X pins σ H s) (h : CE X.stack X.prog X.w H s Q u s') : EP X pins σ Q u s' := by
  obtain ⟨v, H', os, bare, un, hok, r, q⟩ := h
  obtain ⟨hh, g, d, t, os'⟩ := s'
  obtain rfl : os' = s.os := os
  exact ⟨v, H', I.call (h' := hh) (g' := g) (d' := d) (t' := t) (ch := []) un hok bare (fun b z => absurd z (by simp)), r, q⟩
end
/-- f(..): the written arguments, then the defaults dvs; E: what is wanted of an exception -/
def tCall (sp : Sp) (dvs : List V) (E : XK) (t : TA) : TE := fun σ H Q => t σ H fun vs H1 => sp (vs ++ dvs) H1 Q E
/-- o.m(..) of an instance of the class at C -/
inductive tMeth_I (C : Addr) (m : Str) (sp : Sp) (dvs : List V) (E : XK) (t : TA) (σ : St) (Q : VK) (x : V) (H1 : Hp) : Prop
  | mk : ∀ a dx fs, x = .ref a → H1 a = some (.ins C dx fs) → fs.lookup m = none → (t σ H1 fun vs H2 => sp (x :: (vs ++ dvs)) H2 Q E) → tMeth_I C m sp dvs E t σ Q x H1
def tMeth (C : Addr) (m : Str) (sp : Sp) (dvs : List V) (E : XK) (ta : TE) (t : TA) : TE := fun σ H Q => ta σ H fun x H1 => tMeth_I C m sp dvs E t σ Q x H1
/-- how the parameters are bound: us the positional arguments, kw the keywords' values by name, ds the defaults that fill up -/
def Binds (K : PySem.W.Frag) (fd : FuncData) (ps : List Str) (ds : List Value) : Prop :=
  ∀ (s : Shared) (us : List Value), K.In s.heap → (us ++ ds).length = ps.length → BindsTo s fd ⟨us, []⟩ (ps.zip (us ++ ds))
/-- every parameter is given -/
theorem Binds.all {K : PySem.W.Frag} {fd : FuncData} {ps : List Str} (h : ∀ us : List Value, us.length = ps.length → bindArgs fd ⟨us, []⟩ = pure (ps.zip us)) : Binds K fd ps [] := fun s us _ hl => by
  rw [List.append_nil] at hl ⊢
  exact .of_eq (h us hl)
/-- an exception of a callee reaches what this body wants of exceptions -/
def Passes (CX : CXT) (X : Cx) (E : XK) : Prop := ∀ (pins : List (Addr × Obj)) (σ : St) (H : Hp) (s : Shared) (e : Value) (s' : Shared), Inv X pins σ H s → CX X.stack H s E e s' → X.xe e s'
section
variable {X : Cx} {CX : CXT} {k : Nat} {f C : Addr} {fd : FuncData} {ps : List Str} {sp : Sp} {dvs : List V} {ds : List Value} {E : XK} {x m : Str} {p pos apos : Pos} {e o : Expr} {es : List Expr} {ta : TE} {t : TA}
/-- the callee runs -/
theorem run_fn {pins : List (Addr × Obj)} {σ : St} {H : Hp} {s : Shared} {Q : VK} {us : List Value} {vs : List V} (F : FnOk X.prog X.w X.K X.mg X.base CX k f fd ps sp) (hr : Room k X.A) (hb : Binds X.K fd ps ds) (hd : Vals dvs ds) (hx : Passes CX X E)
    (I : Inv X pins σ H s) (r : Vals vs us) (h : sp (vs ++ dvs) H Q E) : wpAny (model X.prog X.w) X.A (call (.ref f) us) (EP X pins σ Q) X.xe s := by
  have r2 : Vals (vs ++ dvs) (us ++ ds) := r.append hd
  have hl : (us ++ ds).length = ps.length := by rw [← r2.length]; exact F.len _ _ _ _ h
  refine wpAny_call (codeAny_mono (F.run X.A X.stack s H ⟨us, []⟩ (us ++ ds) (vs ++ dvs) Q E hr I.env0 (hb s us I.kIn hl) r2 h) fun r s' hq => ?_)
  cases r with
  | error e => exact hx pins σ H s e s' I hq
  | ok fl =>
    cases fl with
    | ret u => exact I.after hq
    | next => exact False.elim hq
    | brk => exact False.elim hq
    | cont => exact False.elim hq
theorem pe_call (F : FnOk X.prog X.w X.K X.mg X.base CX k f fd ps sp) (hr : Room k X.A) (hg : Gl X x) (hm : X.mg x = some (.ref f)) (hk : PySem.W.keepIn X.K (.ref f) = true) (hb : Binds X.K fd ps ds) (hd : Vals dvs ds) (hx : Passes CX X E)
    (ha : PA X (e :: es) t) (hdb : (x == ("__debug__" : Str)) = false := by decide) (he : starEach (e :: es) X.env = (false, eval e X.env) :: starEach es X.env := by rfl) (hpl : (backTo pos (starEach es X.env)).any (·.1) = false := by rfl) :
    PE X (.Call (.Name x p) (e :: es) [] pos) (tCall sp dvs E t) := by
  intro pins s σ H Q I h
  refine wpAny_Call_Name_kw (ld_glob I hg hm ?_ hdb)
  refine PySem.W.callWith_K (h₀ := X.base) I.ok.mod.kin hk (thn (ha pos pins s σ H _ I h) fun us s1 ⟨vs, H1, I1, r, q⟩ => ⟨I1.kIn, ?_⟩) he hpl
  exact run_fn F hr hb hd hx I1 r q
/-- o.m() -/
theorem pe_meth0 {pl : Sem Bool} (he : PE X o ta) (c : Cls X.K C) (hm : Meth X.K C m f) (F : FnOk X.prog X.w X.K X.mg X.base CX k f fd ps sp) (hr : Room k X.A) (hb : Binds X.K fd ps ds) (hd : Vals dvs ds) (hx : Passes CX X E)
    (ht : eval (.Call (.Attribute o m apos) [] [] pos) X.env = (do
      let ov ← eval o X.env
      standAt apos.atName
      let (f, first) ← holding [ov] (getMethod ov m pl)
      callWith pos f first (backTo pos (starEach [] X.env)) (backToKw pos (keywordEach [] X.env))) := by rfl) :
    PE X (.Call (.Attribute o m apos) [] [] pos) (tMeth C m sp dvs E ta tNil) := by
  intro pins s σ H Q I h
  refine PySem.W.methodCall_KW (pl := pl) (thn (he pins s σ H _ I h) fun u s1 ⟨x, H1, I1, rx, a, dx, fs, ex, ea, l, q⟩ => ?_) ht
  subst ex
  obtain rfl : u = Value.ref a := rx
  refine getmeth_ok I1 ea c hm l ?_
  exact PySem.W.callWith_K0 (first := [.ref a]) I1.kIn hm.kp (run_fn (us := [.ref a]) (vs := [.ref a]) F hr hb hd hx I1 (.cons rfl .nil) q)
/-- what a class must have to be made -/
structure Mk (K : PySem.W.Frag) (C f : Addr) : Prop where
  makes : PySem.W.makesIn K C = true
  init : PySem.W.findIn K (.ref C) "__init__" = some (some (.ref f))
  fn : PySem.W.isFn K (.ref f) = true
  kp : PySem.W.keepIn K (.ref C) = true
end
section
variable {X : Cx} {CX : CXT} {k : Nat} {f C : Addr} {fd : FuncData} {ps ks : List Str} {sp : Sp} {E : XK} {x m : Str} {p pos apos kpos : Pos} {e o : Expr} {es : List Expr} {kws : List Keyword} {te ta : TE} {t tk : TA} {nm : Option Str}
variable {g : List Value → List Value → List Value} {gV : List V → List V → List V}
end
/-- names: the parameters first -/
structure FnScope (N P : List Str) (sc : Scope) : Prop where
  kind : sc.kind = .function
  co : sc.isCoroutine = false
  gen : sc.isGenerator = false
  nd : N.Nodup
  pre : N.take P.length = P
  par : ∀ x ∈ P, sc.names.lookup x = some .local ∨ sc.names.lookup x = some .cell
  nofree : ∀ y ∈ sc.names, y.2 ≠ .free
theorem bindL_out {kindOf : Str → Option NameKind} {x : Str} : ∀ {binds : List (Str × Value)} {m : Str → Option Value}, (∀ v, (x, v) ∉ binds) → bindL kindOf binds m x = m x
  | [], _, _ => rfl
  | (n, v) :: r, m, h => by
    unfold bindL
    rw [bindL_out fun w hw => h w (List.mem_cons_of_mem _ hw)]
    split
    · have : x ≠ n := by rintro rfl; exact h v List.mem_cons_self
      simp [this]
    · rfl
theorem bindC_out {kindOf : Str → Option NameKind} {x : Str} : ∀ {binds : List (Str × Value)} {m : Str → Option Value}, (∀ v, (x, v) ∉ binds) → bindC kindOf binds m x = m x
  | [], _, _ => rfl
  | (n, v) :: r, m, h => by
    unfold bindC
    rw [bindC_out fun w hw => h w (List.mem_cons_of_mem _ hw)]
    split
    · rfl
    · have : x ≠ n := by rintro rfl; exact h v List.mem_cons_self
      simp [this]
theorem bindL_get {kindOf : Str → Option NameKind} {x : Str} {v : Value} : ∀ {P : List Str} {vs : List Value} {i : Nat} {m : Str → Option Value}, P.Nodup → P[i]? = some x → vs[i]? = some v → kindOf x = some .local →
    bindL kindOf (P.zip vs) m x = some v
  | [], _, _, _, _, h, _, _ => by simp at h
  | _ :: _, [], _, _, _, _, h, _ => by simp at h
  | p :: P, w :: vs, 0, m, nd, h1, h2, hk => by
    simp at h1 h2; subst h1; subst h2
    show bindL kindOf ((p, w) :: P.zip vs) m p = _
    unfold bindL
    rw [bindL_out fun v hv => (List.nodup_cons.mp nd).1 (List.of_mem_zip hv).1, if_pos hk]
    simp
  | p :: P, w :: vs, i + 1, m, nd, h1, h2, hk => by
    show bindL kindOf ((p, w) :: P.zip vs) m x = _
    unfold bindL
    exact bindL_get (i := i) (List.nodup_cons.mp nd).2 (by simpa using h1) (by simpa using h2) hk
theorem bindC_get {kindOf : Str → Option NameKind} {x : Str} {v : Value} : ∀ {P : List Str} {vs : List Value} {i : Nat} {m : Str → Option Value}, P.Nodup → P[i]? = some x → vs[i]? = some v → kindOf x ≠ some .local →
    bindC kindOf (P.zip vs) m x = some v
  | [], _, _, _, _, h, _, _ => by simp at h
  | _ :: _, [], _, _, _, _, h, _ => by simp at h
  | p :: P, w :: vs, 0, m, nd, h1, h2, hk => by
    simp at h1 h2; subst h1; subst h2
    show bindC kindOf ((p, w) :: P.zip vs) m p = _
    unfold bindC
    rw [bindC_out fun v hv => (List.nodup_cons.mp nd).1 (List.of_mem_zip hv).1, if_neg hk]
    simp
  | p :: P, w :: vs, i + 1, m, nd, h1, h2, hk => by
    show bindC kindOf ((p, w) :: P.zip vs) m x = _
    unfold bindC
    exact bindC_get (i := i) (List.nodup_cons.mp nd).2 (by simpa using h1) (by simpa using h2) hk
/-- the names' values at the entry -/
def start (N : List Str) (vs : List V) : St := vs.map some ++ List.replicate (N.length - vs.length) none
/-- the context of a def's body, at its entry; an exception leaves the frame, then lies as CX says -/
def cxOf (CX : CXT) (P : Program) (w : World) (K : PySem.W.Frag) (mg : Str → Option Value) (base : Heap) (N : List Str) (qual : Str) (scope : Scope) (f : Addr) (cd : Value) (A : Around) (outer : List Env) (s : Shared) (H : Hp) (E : XK) : Cx where
  prog := P
  w := w
  K := K
  mg := mg
  base := base
  A := A.deeper (envOfC qual scope s.heap.objs.size f cd)
  N := N
  s₀ := s
  H₀ := H
  env := envOfC qual scope s.heap.objs.size f cd
  outer := outer
  stack := envOfC qual scope s.heap.objs.size f cd :: outer
  ex := []
  calm := true
  fn := fun _ => true
  pn := []
  xe := fun e s' => wpAny (model P w) (A.deeper (envOfC qual scope s.heap.objs.size f cd)) (leaving (envOfC qual scope s.heap.objs.size f cd) e) (fun _ s'' => CX outer H s E e s'') (fun e' s'' => CX outer H s E e' s'') s'
theorem cell_has {sc : Scope} {n : Nat} {x : Str} (h : sc.names.lookup x = some .cell) : ∃ c, (cellsFrom n sc.names []).lookup x = some c := by
  have q := PySem.W.cellsFrom_some sc.names n [] (.inl h)
  exact Option.isSome_iff_exists.mp q
theorem inv_start {CX : CXT} {P : Program} {w : World} {K : PySem.W.Frag} {mg : Str → Option Value} {base : Heap} {N ps : List Str} {qual : Str} {scope : Scope} {f : Addr} {cd : Value} {A : Around} {outer : List Env} {s s1 : Shared} {H : Hp} {E : XK} {us : List Value} {vs : List V}
    (S : FnScope N ps scope) (hd : A.handled = none) (e0 : Env0 P w K mg base A outer s H) (hl : vs.length = ps.length) (r : Vals vs us)
    (x : InCallC s s.heap.objs.size (bindL (envOfC qual scope s.heap.objs.size f cd).kindOf (ps.zip us) fun _ => none) (cellsFrom (s.heap.objs.size + 1) scope.names []) (bindC (envOfC qual scope s.heap.objs.size f cd).kindOf (ps.zip us) fun _ => none) s1) :
    Inv (cxOf CX P w K mg base N qual scope f cd A outer s H E) [] (start N vs) H s1 := by
  have hpl : ps.length ≤ N.length := by have := congrArg List.length S.pre; rw [List.length_take] at this; omega
  obtain ⟨h1, tk, rfl, hk⟩ := x.done
  have noA : ∀ b : Addr, b ∉ (cxOf CX P w K mg base N qual scope f cd A outer s H E).ex := fun b z => absurd (show b ∈ ([] : List Addr) from z) (by simp)
  refine ⟨⟨e0.mod, S.kind, rfl, rfl, Nat.le_refl _, fun y z c h1 h2 => ?_, fun y hy => ?_, fun y c _ h => ?_, fun _ => hd, Around.frames_deeper e0.frames, .inr ⟨rfl, rfl⟩, fun b z => absurd z (noA b), e0.bs, e0.bsz, fun b _ _ => noA b, fun b z => absurd z (noA b), e0.funs, e0.frf⟩,
    rfl, e0.bare, Un.kept hk, ⟨_, x.toInCall.ns, fun i y v h1 h2 h3 => ?_⟩, fun y c h => ⟨_, x.cell y c h⟩, e0.hok.fresh (Nat.le_refl _), fun y c h => ?_, fun p hp => absurd (show p ∈ ([] : List (Addr × Obj)) from hp) (by simp), e0.hok.kept hk, ?_⟩
  · exact name_of_addr x.apart (PySem.mem_of_lookup h1) (PySem.mem_of_lookup h2)
  · have hy : scope.names.lookup y = some .cell ∨ scope.names.lookup y = some .free := hy
    rcases hy with hy | hy
    · exact cell_has hy
    · exact absurd rfl (S.nofree _ (PySem.mem_of_lookup hy))
  · exact Nat.le_of_lt (x.above y c (PySem.mem_of_lookup h))
  · have hi : i < vs.length := by
      unfold start at h2
      by_cases hi : i < vs.length
      · exact hi
      · rw [List.getElem?_append_right (by simpa using hi)] at h2
        rw [List.getElem?_replicate] at h2
        split at h2 <;> cases h2
    have ha : vs[i]? = some v := by
      unfold start at h2
      rw [List.getElem?_append_left (by simpa using hi), List.getElem?_map] at h2
      cases e : vs[i]? with
      | none => rw [e] at h2; cases h2
      | some a => rw [e] at h2; cases h2; rfl
    obtain ⟨u, hu, rv⟩ := r.get ha
    have hp : ps[i]? = some y := by
      rw [← S.pre, List.getElem?_take_of_lt (by omega)]; exact h1
    have ndP : ps.Nodup := by rw [← S.pre]; exact S.nd.sublist (List.take_sublist _ _)
    refine ⟨u, rv, ?_⟩
    rcases S.par y (List.mem_of_getElem? hp) with k | k
    · exact .inl ⟨k, bindL_get ndP hp hu k⟩
    · obtain ⟨c, e⟩ := cell_has (n := s.heap.objs.size + 1) k
      refine .inr ⟨.inl k, c, e, ?_⟩
      have q := x.cell y c e
      rw [bindC_get ndP hp hu (by show scope.names.lookup y ≠ _; rw [k]; decide)] at q
      exact q
  · exact e0.hok.fresh (Nat.le_of_lt (x.above y c (PySem.mem_of_lookup h)))
  · unfold start
    show _ = N.length
    rw [List.length_append, List.length_map, List.length_replicate]
    omega
/-- THE RULE: a def (or a method) of the text, by its body. The body's reading t is chosen for each entry; it is run at the parameters' values -/
theorem fn_of {CX : CXT} {P : Program} {w : World} {K : PySem.W.Frag} {mg : Str → Option Value} {base : Heap} {k : Nat} {f : Addr} {name qual : Str} {params : Arguments} {body : List Stmt} {scope : Scope} {dV kV doc pm cdv ct oc : Value} {an od : Option Addr}
    {osl : Array (Option Value)} {N ps : List Str} {sp : Sp} (lk : K.lookup f = some ⟨oc, od, .func (PySem.W.fnOf name qual params body scope dV kV doc pm an cdv ct), osl⟩) (hcd : PySem.W.codeIn K cdv qual = true) (S : FnScope N ps scope)
    (len : ∀ vs H Q E, sp vs H Q E → vs.length = ps.length)
    (hbody : ∀ (A : Around) (outer : List Env) (s : Shared) (H : Hp) (vs : List V) (Q : VK) (E : XK), Room k (A.deeper (envOfC qual scope s.heap.objs.size f cdv)) → sp vs H Q E →
      ∃ t, PSs (cxOf CX P w K mg base N qual scope f cdv A outer s H E) body t ∧ t { nx := fun _ H' => Q .non H', rt := Q } (start N vs) H) :
    FnOk P w K mg base CX (k + 1) f (PySem.W.fnOf name qual params body scope dV kV doc pm an cdv ct) ps sp := by
  refine ⟨len, fun A outer s H args us vs Q E hr e0 hb r hsp => ?_⟩
  have hl := len _ _ _ _ hsp
  have KX : K.In s.heap := e0.mod.kin.keeps fun b o e => (e0.bs b o e).1
  have lim : s.heap.NoLimit := e0.mod.nolimit.keeps fun b o e => (e0.bs b o e).1
  have hkind : ∀ y ∈ ps.zip us, scope.names.lookup y.1 = some .local ∨ (scope.names.lookup y.1 = some .cell ∧ ((cellsFrom (s.heap.objs.size + 1) scope.names []).lookup y.1).isSome = true) := fun ⟨n, v⟩ hy => by
    rcases S.par n (List.of_mem_zip hy).1 with q | q
    · exact .inl q
    · exact .inr ⟨q, PySem.W.cellsFrom_some _ _ _ (.inl q)⟩
  refine codeAny_call_function hr.depth (KX _ _ lk) rfl S.co S.gen rfl (PySem.W.codeRec_of KX hcd) (hb _ _ _ _ ?_)
  refine wpAny_newFunctionEnv_cells S.kind hkind fun env he s1 x => ?_
  subst he
  refine ⟨lim.keeps x.toInCall.keep, codeAny_func ?_⟩
  obtain ⟨t, ht, hq⟩ := hbody A outer s H vs Q E (hr.deeper _) hsp
  have I : Inv (cxOf CX P w K mg base N qual scope f cdv A outer s H E) [] (start N vs) H s1 := inv_start S hr.hd e0 hl r x
  refine wpAny_mono (ht [] s1 (start N vs) H _ I hq) (fun fl s' hs => ?_) fun e s' hs => hs
  have fin : ∀ {σ' : St} {H' : Hp} {v : V} {u : Value}, Inv (cxOf CX P w K mg base N qual scope f cdv A outer s H E) [] σ' H' s' → RelV v u → Q v H' → CE outer P w H s Q u s' :=
    fun {σ' H' v u} J rv q => ⟨v, H', J.os, J.bare, J.base, J.hok, rv, q⟩
  cases fl with
  | ret u =>
    obtain ⟨v, σ', H', J, rv, q⟩ := hs
    exact fin J rv q
  | next =>
    obtain ⟨σ', H', J, q⟩ := hs
    exact fin (v := V.non) (u := Value.none) J rfl q
  | brk =>
    obtain ⟨_, _, _, q⟩ := hs
    exact False.elim q
  | cont =>
    obtain ⟨_, _, _, q⟩ := hs
    exact False.elim q
end L2
namespace L2
open PySem PySem.Spec PyProof.Rows
section
variable {X : Cx} {x : Str} {p pos : Pos} {e : Expr} {es : List Expr} {t : TA} {id T : String} {r : List V → Hp → VK → Prop}
def tCB (r : List V → Hp → VK → Prop) (t : TA) : TE := fun σ H Q => t σ H fun vs H1 => r vs H1 Q
/-- f(e, ..), f a built-in function -/
theorem pe_callB (hc : CallR X (.builtin id) r) (hg : Gl X x) (hm : X.mg x = none) (hv : bootBuiltins x = some (.builtin id)) (ha : PA X (e :: es) t) (hn : x ≠ "__name__" := by decide) (hdb : (x == ("__debug__" : Str)) = false := by decide)
    (he : starEach (e :: es) X.env = (false, eval e X.env) :: starEach es X.env := by rfl) (hpl : (backTo pos (starEach es X.env)).any (·.1) = false := by rfl) : PE X (.Call (.Name x p) (e :: es) [] pos) (tCB r t) := by
  intro pins s σ H Q I h
  refine wpAny_Call_Name_kw (ld_blt I hg hm hv ?_ hn hdb)
  exact PyProof.Rows.callWith_builtin1 (thn (ha pos pins s σ H _ I h) fun us s1 ⟨vs, H1, I1, r1, q1⟩ => hc pins s1 σ H1 vs us Q I1 r1 q1) he hpl
/-- T(e, ..), T a built-in type -/
theorem pe_callTy (hc : CallR X (.type T) r) (hg : Gl X x) (hm : X.mg x = none) (hv : bootBuiltins x = some (.type T)) (ha : PA X (e :: es) t) (hn : x ≠ "__name__" := by decide) (hdb : (x == ("__debug__" : Str)) = false := by decide)
    (he : starEach (e :: es) X.env = (false, eval e X.env) :: starEach es X.env := by rfl) (hpl : (backTo pos (starEach es X.env)).any (·.1) = false := by rfl) : PE X (.Call (.Name x p) (e :: es) [] pos) (tCB r t) := by
  intro pins s σ H Q I h
  refine wpAny_Call_Name_kw (ld_blt I hg hm hv ?_ hn hdb)
  exact PyProof.Rows.callWith_type1 (thn (ha pos pins s σ H _ I h) fun us s1 ⟨vs, H1, I1, r1, q1⟩ => hc pins s1 σ H1 vs us Q I1 r1 q1) he hpl
end
end L2
namespace HT
open PySem PyProof.Rows
section
open PySem.SeqAt
open PySem.AutoSeq1 (wpAny_loadPart')
open PySem.MeetsSeq PySem.MeetsSeq2 PySem.MeetsSeq3
end
section
variable {prog : Program} {w : World} {A : Around} {E : Value → Shared → Prop} {s : Shared}
/-- t + u, t not empty -/
theorem cat_tup {t b : Addr} {vs ws : List Value} {Q : Value → Shared → Prop} (ht : IsTup s.heap t vs.toArray) (hb : IsTup s.heap b ws.toArray) (hv : vs ≠ [])
    (h1 : ws = [] → Q (.ref t) s) (h2 : ws ≠ [] → Q (.ref s.heap.objs.size) { s with heap := s.heap.push { cls := .type "tuple", data := .seq (vs ++ ws).toArray } })
    (hsz : vs.length + ws.length ≤ sizeLine) : wpAny (model prog w) A (binaryOp .Add (.ref t) (.ref b)) Q E s := by
  obtain ⟨⟨cls, dd, data, sl⟩, ho, hc, n, hd⟩ := id ht
  obtain ⟨⟨cls2, dd2, data2, sl2⟩, ho2, hc2, n2, hd2⟩ := id hb
  simp only at hc hd hc2 hd2
  subst hc hd hc2 hd2
  have e : vs.toArray ++ ws.toArray = (vs ++ ws).toArray := by simp
  by_cases hw : ws = []
  · exact concat_meets ⟨_, ho, rfl⟩ ⟨_, ho2, rfl⟩ noFill_tuple_add seq_tuple_add PySem.F.slot_tuple_add PySem.F.entry_tuple_add (PySem.F.args_tuple_add_2 _ _)
      (tuple_addW1 t b vs.toArray ws.toArray n n2 dd dd2 sl sl2 (by simpa using hv) (by simp [hw])) ⟨ho, ho2, h1 hw⟩
  · refine concat_meets ⟨_, ho, rfl⟩ ⟨_, ho2, rfl⟩ noFill_tuple_add seq_tuple_add PySem.F.slot_tuple_add PySem.F.entry_tuple_add (PySem.F.args_tuple_add_2 _ _)
      (tuple_addW2 t b vs.toArray ws.toArray n n2 dd dd2 sl sl2 (by simpa using hv) (by simpa using hw) (by rw [List.size_toArray, List.size_toArray]; exact hsz)) ⟨ho, ho2, ?_⟩
    rw [e]
    exact h2 hw
/-- a slice's bound as a place among n (d where it is left out) -/
def sIx (n d : Nat) : Option Int → Nat
  | none => d
  | some v => if v < 0 then (v + (n : Int)).toNat else min v.toNat n
theorem sIx_none (n d : Nat) : sIx n d none = d := rfl
theorem sIx_nat (n d k : Nat) : sIx n d (some (k : Int)) = min k n := by
  show (if (k : Int) < 0 then ((k : Int) + (n : Int)).toNat else min (k : Int).toNat n) = min k n
  rw [if_neg (by omega), Int.toNat_natCast]
theorem sIx_le (n d : Nat) (hd : d ≤ n) (o : Option Int) : sIx n d o ≤ n := by
  cases o with
  | none => exact hd
  | some v =>
    show (if v < 0 then (v + (n : Int)).toNat else min v.toNat n) ≤ n
    by_cases hv : v < 0
    · rw [if_pos hv]; omega
    · rw [if_neg hv]; exact Nat.min_le_right _ _
theorem clip_eq (v : Int) (n d : Nat) : (if v < 0 then max (v + (n : Int)) 0 else min v (n : Int)) = ((sIx n d (some v) : Nat) : Int) := by
  show (if v < 0 then max (v + (n : Int)) 0 else min v (n : Int)) = (((if v < 0 then (v + (n : Int)).toNat else min v.toNat n) : Nat) : Int)
  by_cases hv : v < 0
  · simp only [if_pos hv]; omega
  · simp only [if_neg hv]; omega
theorem adjust_gen (lo hi : Option Int) (n : Nat) : Builtin.Slice.sliceAdjust lo hi 1 (n : Int) = (((sIx n 0 lo : Nat) : Int), ((sIx n n hi : Nat) : Int)) := by
  have h1 : ¬ ((1 : Int) < 0) := by omega
  unfold Builtin.Slice.sliceAdjust
  simp only [h1, if_false]
  refine Prod.ext ?_ ?_
  · cases lo with
    | none => rfl
    | some v => exact clip_eq v n 0
  · cases hi with
    | none => rfl
    | some v => exact clip_eq v n n
theorem places_gen (i j : Nat) : Builtin.Slice.slicePlaces (i : Int) (j : Int) 1 = j - i := by
  unfold Builtin.Slice.slicePlaces
  have h1 : (1 : Int) > 0 := by omega
  simp only [h1, if_true, Int.ediv_one]
  split <;> omega
theorem slicePart_ {v : Value} {o : Option Int} {Q : Option Int → Shared → Prop} (p : IsPart v o) (h : Q o s) : wpAny (model prog w) A (Builtin.Slice.slicePartIndex v) Q E s := by
  cases p with
  | none => exact slicePart_none h
  | int i t => exact slicePart_int h
theorem sliceApplied_gen {sl : Addr} {vl vu : Value} {lo hi : Option Int} {n : Nat} {Q : Int × Int × Nat → Shared → Prop} (hs : s.heap.IsSliceOf sl vl vu .none) (pl : IsPart vl lo) (pu : IsPart vu hi)
    (h : Q (((sIx n 0 lo : Nat) : Int), 1, sIx n n hi - sIx n 0 lo) s) : wpAny (model prog w) A (Builtin.Slice.sliceApplied (.ref sl) (pure (n : Int))) Q E s := by
  obtain ⟨os, hos, hcs, hds⟩ := id hs
  unfold Builtin.Slice.sliceApplied Builtin.Slice.sliceFields
  refine wpAny_bind (wpAny_bind (wpAny_field hos hds (x := vl) rfl (wpAny_bind (wpAny_field hos hds (x := vu) rfl (wpAny_bind (wpAny_field hos hds (x := .none) rfl (wpAny_pure ?_)))))))
  refine wpAny_bind (slicePart_none ?_)
  show wpAny _ _ (if ((1 : Int) == 0) = true then _ else _) _ _ s
  rw [if_neg (by decide)]
  refine wpAny_bind (slicePart_ pl (wpAny_bind (slicePart_ pu (wpAny_bind (wpAny_pure ?_)))))
  show wpAny _ _ (match Builtin.Slice.sliceAdjust lo hi 1 (n : Int) with | (lo, hi) => pure (lo, (1 : Int), Builtin.Slice.slicePlaces lo hi 1)) _ _ s
  rw [adjust_gen lo hi n]
  show wpAny _ _ (pure (((sIx n 0 lo : Nat) : Int), (1 : Int), Builtin.Slice.slicePlaces ((sIx n 0 lo : Nat) : Int) ((sIx n n hi : Nat) : Int) 1)) _ _ s
  rw [places_gen]
  exact wpAny_pure h
theorem pick_gen (xs : Array Value) (i k : Nat) : ((List.range k).filterMap fun (m : Nat) => xs[((i : Int) + (m : Int) * 1).toNat]?).toArray = ((xs.toList.drop i).take k).toArray := by
  have e : (fun (m : Nat) => xs[((i : Int) + (m : Int) * 1).toNat]?) = fun m => xs[i + m]? := by
    funext m
    have : ((i : Int) + (m : Int) * 1).toNat = i + m := by omega
    rw [this]
  rw [e]
  have := pick_run xs i k
  rw [List.filterMap_map] at this
  have e2 : ((fun x => xs[x]?) ∘ fun x => i + x) = fun m => xs[i + m]? := rfl
  rw [e2] at this
  rw [this]
theorem getItem_tuple_cut {t sl : Addr} {items : Array Value} {vl vu : Value} {lo hi : Option Int} {Q : Value → Shared → Prop} (ht : IsTup s.heap t items) (hs : s.heap.IsSliceOf sl vl vu .none) (pl : IsPart vl lo) (pu : IsPart vu hi)
    (hw : ¬ (sIx items.size 0 lo = 0 ∧ sIx items.size items.size hi = items.size))
    (h : Q (.ref s.heap.objs.size) { s with heap := s.heap.push { cls := .type "tuple", data := .seq ((items.toList.drop (sIx items.size 0 lo)).take (sIx items.size items.size hi - sIx items.size 0 lo)).toArray } })
    (hsz : items.size ≤ sizeLine) : wpAny (model prog w) A (getItem (.ref t) (.ref sl)) Q E s := by
  have htake : sizeOk (.seq ((items.toList.drop (sIx items.size 0 lo)).take (sIx items.size items.size hi - sIx items.size 0 lo)).toArray) := by
    show ((items.toList.drop (sIx items.size 0 lo)).take (sIx items.size items.size hi - sIx items.size 0 lo)).toArray.size ≤ sizeLine
    rw [List.size_toArray, List.length_take, List.length_drop, Array.length_toList]
    omega
  have hj : sIx items.size items.size hi ≤ items.size := sIx_le _ _ (Nat.le_refl _) hi
  obtain ⟨os, hos, hcs, hds⟩ := id hs
  have hTs : s.TypeIs (.ref sl) "slice" := ⟨os, hos, hcs⟩
  unfold getItem
  try with_reducible refine wpAny_holding ?_
  first | refine wpAny_bind (wpAny_pure ?_) | skip
  refine wpAny_bind (wpAny_sequenceKey ht.typeIs (by decide) ?_)
  refine wpAny_bind (wpAny_callSpecial?_slot (name := Str.ofString "__getitem__") ht.typeIs PyProof.Rows.slot_tuple_getitem
    (wpAny_call_entry PyProof.Rows.slot_tuple_getitem ht.typeIs entry_tuple_getitem ?_ (args_tuple_getitem _ _)))
  show wpAny _ _ (Builtin.Tuple.tupleItemsOf (.ref t) >>= _) _ _ s
  refine wpAny_bind (tupleItemsOf_ ht ?_)
  refine wpAny_bind (wpAny_typeOf hTs ?_)
  rw [if_pos (by decide)]
  refine wpAny_bind (sliceApplied_gen hs pl pu ?_)
  have hno : ¬ ((((sIx items.size 0 lo : Nat) : Int) == 0 && (1 : Int) == 1 && (sIx items.size items.size hi - sIx items.size 0 lo) == items.size) = true) := by
    intro q
    rw [Bool.and_eq_true, Bool.and_eq_true] at q
    have q1 : ((sIx items.size 0 lo : Nat) : Int) = 0 := eq_of_beq q.1.1
    have q2 : sIx items.size items.size hi - sIx items.size 0 lo = items.size := eq_of_beq q.2
    exact hw ⟨by omega, by omega⟩
  show wpAny _ _ (if (((sIx items.size 0 lo : Nat) : Int) == 0 && (1 : Int) == 1 && (sIx items.size items.size hi - sIx items.size 0 lo) == items.size) = true then _ else _) _ _ s
  rw [if_neg hno, pick_gen]
  first
    | exact wpAny_bind (m := Builtin.Tuple.tupleExact _) (wpAny_newObj_type (wpAny_pure ⟨_, rfl, wpAny_pure h⟩) htake)
    | exact wpAny_bind (m := Builtin.Tuple.tupleExact _) (wpAny_newObj_type (wpAny_bind (wpAny_pure (wpAny_pure ⟨_, rfl, wpAny_pure h⟩))) htake)
    | exact wpAny_bind (wpAny_bind (m := Builtin.Tuple.tupleExact _) (wpAny_newObj_type (wpAny_pure (wpAny_pure ⟨_, rfl, wpAny_pure h⟩)) htake))
    | exact wpAny_bind (wpAny_bind (m := Builtin.Tuple.tupleExact _) (wpAny_newObj_type (wpAny_pure ⟨_, rfl, wpAny_pure h⟩) htake))
end
end HT
namespace L2
open PySem PySem.Spec PyProof.Rows
abbrev TO := St → Hp → (Option Int → Hp → Prop) → Prop
/-- a slice's part (left out, or an int) -/
def PO (X : Cx) (e : Option Expr) (t : TO) : Prop :=
  ∀ (pins : List (Addr × Obj)) (s : Shared) (σ : St) (H : Hp) (Q : Option Int → Hp → Prop), Inv X pins σ H s → t σ H Q →
    wpAny (model X.prog X.w) X.A (evalPart e X.env) (fun u s' => ∃ o H', Inv X pins σ H' s' ∧ IsPart u o ∧ Q o H') X.xe s
def tNoPart : TO := fun _ H Q => Q none H
inductive tPart_I (Q : (Option Int → Hp → Prop)) (x : V) (H1 : Hp) : Prop
  | mk : ∀ i, x = .int i → Q (some i) H1 → tPart_I Q x H1
def tPart (t : TE) : TO := fun σ H Q => t σ H fun x H1 => tPart_I Q x H1
section
variable {X : Cx} {e : Expr} {te : TE} {lo hi : Option Expr} {tl th : TO} {pos p2 : Pos}
theorem po_none : PO X none tNoPart := by
  intro pins s σ H Q I h
  rw [evalPart_none]
  exact wpAny_pure ⟨none, H, I, .none, h⟩
theorem po_some (h : PE X e te) : PO X (some e) (tPart te) := by
  intro pins s σ H Q I hw
  rw [evalPart_some]
  refine thn (h pins s σ H _ I hw) fun u s1 ⟨x, H1, I1, r1, q1⟩ => ?_
  obtain ⟨i, rfl, q⟩ := q1
  obtain ⟨t, rfl⟩ := r1
  exact ⟨some i, H1, I1, .int i t, q⟩
/-- what a slice of a value is, by values: the slice object stands at sl -/
def SlR (X : Cx) (r : V → Option Int → Option Int → Hp → VK → Prop) : Prop :=
  ∀ (pins : List (Addr × Obj)) (s : Shared) (σ : St) (H : Hp) (x : V) (v vl vu : Value) (lo hi : Option Int) (sl : Addr) (Q : VK), Inv X pins σ H s → RelV x v → s.heap.IsSliceOf sl vl vu .none → IsPart vl lo → IsPart vu hi → r x lo hi H Q →
    ∃ T id, typeLookup (.type T) "__getitem__" = pure (some (.builtin id)) ∧ s.TypeIs v T ∧ wpAny (model X.prog X.w) X.A (getItem v (.ref sl)) (EP X pins σ Q) X.xe s
def tSl (r : V → Option Int → Option Int → Hp → VK → Prop) (te : TE) (tl th : TO) : TE := fun σ H Q => te σ H fun x H1 => tl σ H1 fun l H2 => th σ H2 fun u H3 => r x l u H3 Q
/-- a[lo:hi], any a -/
theorem pe_slice {r : V → Option Int → Option Int → Hp → VK → Prop} (hr : SlR X r) (he : PE X e te) (hl : PO X lo tl) (hu : PO X hi th) : PE X (.Subscript e (.Slice lo hi none p2) pos) (tSl r te tl th) := by
  intro pins s σ H Q I h
  refine Subscript_ (thn (he pins s σ H _ I h) fun v s1 ⟨x, H1, I1, r1, q1⟩ => ?_)
  refine wpAny_Slice (thn (hl pins s1 σ H1 _ I1 q1) fun vl s2 ⟨l, H2, I2, pl, q2⟩ => thn (hu pins s2 σ H2 _ I2 q2) fun vu s3 ⟨u, H3, I3, pu, q3⟩ => ?_)
  rw [evalPart_none]
  refine wpAny_pure ?_
  have I4 : Inv X pins σ H3 { s3 with heap := s3.heap.push { cls := .type "slice", data := .fields #[vl, vu, .none] } } := I3.kept (t' := s3.toks) fun b ob q => Heap.get?_push_of_some _ q
  obtain ⟨T, id, hT, ht, hg⟩ := hr pins { s3 with heap := s3.heap.push { cls := .type "slice", data := .fields #[vl, vu, .none] } } σ H3 x v vl vu l u s3.heap.objs.size Q I4 r1 (Heap.IsSliceOf.new ..) pl pu q3
  show wpAny (model X.prog X.w) X.A (subscriptTail e (.Slice lo hi none p2) v (.ref s3.heap.objs.size)) (EP X pins σ Q) X.xe { s3 with heap := s3.heap.push { cls := .type "slice", data := .fields #[vl, vu, .none] } }
  exact tail_any (ops := [.ref s3.heap.objs.size, v]) ht hT hg (by with_unfolding_all rfl)
/-- the items of xs[lo:hi] -/
def cutV (xs : List V) (lo hi : Option Int) : List V := (xs.drop (HT.sIx xs.length 0 lo)).take (HT.sIx xs.length xs.length hi - HT.sIx xs.length 0 lo)
theorem cutV_length (xs : List V) (lo hi : Option Int) : (cutV xs lo hi).length ≤ xs.length := by
  unfold cutV
  rw [List.length_take, List.length_drop]
  omega
/-- t[lo:hi], not the whole of it (the whole would be t itself) -/
inductive rSlT_I (K : PySem.W.Frag) (x : V) (lo : Option Int) (hi : Option Int) (H : Hp) (Q : VK) : Prop
  | mk : ∀ a xs, x = .ref a → SqT K H a xs → ¬ (HT.sIx xs.length 0 lo = 0 ∧ HT.sIx xs.length xs.length hi = xs.length) → (∀ p, H p = none → Q (.ref p) (upd H p (.tup (cutV xs lo hi)))) → rSlT_I K x lo hi H Q
def rSlT (K : PySem.W.Frag) : V → Option Int → Option Int → Hp → VK → Prop := fun x lo hi H Q => rSlT_I K x lo hi H Q
theorem sl_tup : SlR X (rSlT X.K) := by
  intro pins s σ H x v vl vu lo hi sl Q I rx hs pl pu h
  obtain ⟨a, xs, rfl, hx, hw, q⟩ := h
  cases rx
  obtain ⟨its, r, ht, hz⟩ := I.tuple hx
  have hlen : its.toArray.size = xs.length := by rw [List.size_toArray]; exact r.length.symm
  refine ⟨"tuple", _, PyProof.Rows.slot_tuple_getitem.lookup, ht.typeIs, ?_⟩
  refine HT.getItem_tuple_cut ht hs pl pu (by rw [hlen]; exact hw) ?_ (by rw [hlen]; exact hz)
  rw [hlen]
  refine ⟨.ref s.heap.objs.size, _, I.laid (t' := s.toks) (o := .tup (cutV xs lo hi)) (fun b ob q => Heap.get?_push_of_some _ q) (Nat.le_refl _) ?_, rfl, q _ (I.hok.fresh (Nat.le_refl _))⟩
  exact ⟨Nat.le_trans (cutV_length xs lo hi) hz, _, (r.drop (HT.sIx xs.length 0 lo)).take (HT.sIx xs.length xs.length hi - HT.sIx xs.length 0 lo), IsTup.new _ _⟩
/-- t + u, t not empty: u empty gives t itself -/
inductive rCatT_I (K : PySem.W.Frag) (x : V) (y : V) (H : Hp) (Q : VK) : Prop
  | mk : ∀ a b xs ys, x = .ref a → y = .ref b → SqT K H a xs → SqT K H b ys → xs ≠ [] → xs.length + ys.length ≤ sizeLine → ((ys = [] → Q (.ref a) H)) → ((ys ≠ [] → ∀ p, H p = none → Q (.ref p) (upd H p (.tup (xs ++ ys))))) → rCatT_I K x y H Q
def rCatT (K : PySem.W.Frag) : R2 := fun x y H Q => rCatT_I K x y H Q
theorem Vals.nil_iff {xs : List V} {us : List Value} (r : Vals xs us) : us = [] ↔ xs = [] := by
  cases r with
  | nil => simp
  | cons _ _ => simp
theorem op_catT : OpR X (binaryOp .Add) (rCatT X.K) := by
  intro pins s σ H x y v u Q I rx ry h
  obtain ⟨a, b, xs, ys, rfl, rfl, ha, hb, hx, hz, q1, q2⟩ := h
  cases rx
  cases ry
  obtain ⟨its, r1, p1, _⟩ := I.tuple ha
  obtain ⟨its2, r2, p2, _⟩ := I.tuple hb
  refine HT.cat_tup p1 p2 (fun z => hx (r1.nil_iff.mp z)) (fun z => ⟨.ref a, H, I, rfl, q1 (r2.nil_iff.mp z)⟩) (fun z => ?_) (by rw [← r1.length, ← r2.length]; exact hz)
  refine ⟨.ref s.heap.objs.size, _, I.laid (t' := s.toks) (o := .tup (xs ++ ys)) (fun b ob q => Heap.get?_push_of_some _ q) (Nat.le_refl _) ?_, rfl, q2 (fun w => z (r2.nil_iff.mpr w)) _ (I.hok.fresh (Nat.le_refl _))⟩
  exact ⟨by rw [List.length_append]; exact hz, _, r1.append r2, IsTup.new _ _⟩
end
end L2
namespace L2
open PySem PySem.Spec PyProof.Rows
/-- the place that an index of any sign means -/
def ixN (n : Nat) (i : Int) : Option Nat := if 0 ≤ i then (if i < n then some i.toNat else none) else if -(n : Int) ≤ i then some (i + n).toNat else none
def atI {α : Type} (xs : List α) (i : Int) : Option α := (ixN xs.length i).bind fun j => xs[j]?
theorem ixN_seq {n : Nat} {i : Int} {j : Nat} (h : ixN n i = some j) : seqIndex? i n = some j ∧ j < n ∧ -(n : Int) ≤ i ∧ i < n := by
  unfold ixN at h
  by_cases h0 : 0 ≤ i
  · rw [if_pos h0] at h
    by_cases h1 : i < n
    · rw [if_pos h1] at h
      have e : i.toNat = j := Option.some.inj h
      exact ⟨by rw [seqIndex_of h0 h1, e], by omega, by omega, h1⟩
    · rw [if_neg h1] at h; cases h
  · rw [if_neg h0] at h
    by_cases h1 : -(n : Int) ≤ i
    · rw [if_pos h1] at h
      have e : (i + n).toNat = j := Option.some.inj h
      exact ⟨by rw [seqIndex_neg (by omega) h1, e], by omega, h1, by omega⟩
    · rw [if_neg h1] at h; cases h
theorem atI_get {α : Type} {xs : List α} {i : Int} {v : α} (h : atI xs i = some v) : ∃ j, seqIndex? i xs.length = some j ∧ xs[j]? = some v ∧ j < xs.length ∧ -(xs.length : Int) ≤ i ∧ i < xs.length := by
  unfold atI at h
  cases e : ixN xs.length i with
  | none => rw [e] at h; cases h
  | some j =>
    rw [e] at h
    obtain ⟨h1, h2, h3, h4⟩ := ixN_seq e
    exact ⟨j, h1, h, h2, h3, h4⟩
theorem atI_nat {α : Type} {xs : List α} {j : Nat} {v : α} (h : xs[j]? = some v) : atI xs (j : Int) = some v := by
  have hj : j < xs.length := (List.getElem?_eq_some_iff.mp h).1
  have e : ixN xs.length (j : Int) = some j := by
    unfold ixN
    rw [if_pos (by omega), if_pos (by omega)]; simp
  unfold atI; rw [e]; exact h
/-- what stands as an index of a plain subscript -/
def PlainIx (b : Expr) : Prop := ∀ o i, subscripted b false o i = operate [o, i] (getItem o i)
/-- a subscript by values -/
def IxR (X : Cx) (r : R2) : Prop :=
  ∀ (value slice : Expr) (pins : List (Addr × Obj)) (s : Shared) (σ : St) (H : Hp) (x y : V) (v u : Value) (Q : VK), Inv X pins σ H s → RelV x v → RelV y u → r x y H Q →
    subscripted slice false v u = operate [v, u] (getItem v u) → wpAny (model X.prog X.w) X.A (subscriptTail value slice v u) (EP X pins σ Q) X.xe s
/-- a call of a builtin's method by values: the receiver, the arguments -/
def MtR (X : Cx) (id : String) (r : V → List V → Hp → VK → Prop) : Prop :=
  ∀ (pins : List (Addr × Obj)) (s : Shared) (σ : St) (H : Hp) (x : V) (xs : List V) (v : Value) (us : List Value) (Q : VK), Inv X pins σ H s → RelV x v → Vals xs us → r x xs H Q →
    wpAny (model X.prog X.w) X.A (call (.builtin id) (v :: us)) (EP X pins σ Q) X.xe s
section
variable {X : Cx} {a b : Expr} {ta tb : TE} {pos : Pos}
/-- a[b] -/
theorem pe_ix {r : R2} (hr : IxR X r) (ha : PE X a ta) (hb : PE X b tb) (hs : PlainIx b) : PE X (.Subscript a b pos) (tOp r ta tb) := by
  intro pins s σ H Q I h
  exact Subscript_ (binT ha hb I h fun v u s2 x y H2 I2 rx ry q => hr a b pins s2 σ H2 x y v u Q I2 rx ry q (hs _ _))
inductive rIxL_I (K : PySem.W.Frag) (x : V) (y : V) (H : Hp) (Q : VK) : Prop
  | mk : ∀ p xs i v, x = .ref p → y = .int i → SqL K H p xs → atI xs i = some v → Q v H → rIxL_I K x y H Q
def rIxL (K : PySem.W.Frag) : R2 := fun x y H Q => rIxL_I K x y H Q
inductive rIxT_I (K : PySem.W.Frag) (x : V) (y : V) (H : Hp) (Q : VK) : Prop
  | mk : ∀ p xs i v, x = .ref p → y = .int i → SqT K H p xs → atI xs i = some v → Q v H → rIxT_I K x y H Q
def rIxT (K : PySem.W.Frag) : R2 := fun x y H Q => rIxT_I K x y H Q
inductive rIxS_I (x : V) (y : V) (H : Hp) (Q : VK) : Prop
  | mk : ∀ z i c, x = .str z → y = .int i → z.length ≤ sizeLine → atI z.cps.toList i = some c → Q (.str ⟨#[c]⟩) H → rIxS_I x y H Q
def rIxS : R2 := fun x y H Q => rIxS_I x y H Q
theorem ix_list : IxR X (rIxL X.K) := by
  intro value slice pins s σ H x y v u Q I rx ry h hs
  obtain ⟨p, xs, i, z, rfl, rfl, hq, he, q⟩ := h
  cases rx
  obtain ⟨t, rfl⟩ := ry
  obtain ⟨its, r, pl, hz⟩ := I.list hq
  obtain ⟨j, h1, h2, h3, h4, h5⟩ := atI_get he
  obtain ⟨w, ew, rw'⟩ := r.get h2
  have hl := r.length
  have hn := line63
  have fin : EP X pins σ Q w s := ⟨z, H, I, rw', q⟩
  by_cases h0 : 0 ≤ i
  · have hj : i.toNat = j := by
      rw [seqIndex_of h0 h5] at h1
      exact Option.some.inj h1
    exact item_listR pl.isList h0 (by omega) (by rw [hj]; simpa using ew) fin hs
  · have hj : (i + (its.toArray.size : Int)).toNat = j := by
      rw [seqIndex_neg (by omega) h4] at h1
      rw [List.size_toArray, ← hl]
      exact Option.some.inj h1
    exact subscriptTail_builtinR (x := w) pl.isList.typeIs slot_list_getitem.lookup
      (wpAny_getItem_list_neg (Q := fun r s' => r = w ∧ EP X pins σ Q r s') pl.isList (by omega) (by rw [List.size_toArray] <;> omega) (by omega) (by rw [hj]; simpa using ew) ⟨rfl, fin⟩) hs
theorem ix_tup : IxR X (rIxT X.K) := by
  intro value slice pins s σ H x y v u Q I rx ry h hs
  obtain ⟨p, xs, i, z, rfl, rfl, hq, he, q⟩ := h
  cases rx
  obtain ⟨t, rfl⟩ := ry
  obtain ⟨its, r, pl, hz⟩ := I.tuple hq
  obtain ⟨j, h1, h2, h3, h4, h5⟩ := atI_get he
  obtain ⟨w, ew, rw'⟩ := r.get h2
  have hl := r.length
  have hn := line63
  have fin : EP X pins σ Q w s := ⟨z, H, I, rw', q⟩
  exact subscriptTail_builtinR (x := w) pl.typeIs slot_tuple_getitem.lookup
    (getItem_tuple (j := j) (Q := fun r s' => r = w ∧ EP X pins σ Q r s') pl (by omega) (by omega) (by rw [List.size_toArray, ← hl]; exact h1) (by simpa using ew) ⟨rfl, fin⟩) hs
theorem ix_str : IxR X rIxS := by
  intro value slice pins s σ H x y v u Q I rx ry h hs
  obtain ⟨z, i, c, rfl, rfl, hz, he, q⟩ := h
  obtain ⟨t, rfl⟩ := rx
  obtain ⟨t', rfl⟩ := ry
  obtain ⟨j, h1, h2, h3, h4, h5⟩ := atI_get he
  have hl : z.cps.toList.length = z.length := by simp [Str.length]
  rw [hl] at h1 h4 h5
  have hn := line63
  exact tail_any (typeIs_str s z t) slot_str_getitem.lookup (getItem_str (c := c) (by
    have e1 : decide (i < -(2 ^ 63 : Int)) = false := decide_eq_false (by omega)
    have e2 : decide (i ≥ 2 ^ 63) = false := decide_eq_false (by omega)
    rw [e1, e2, Bool.or_false]) (by rw [h1]; simpa using h2) ⟨.str ⟨#[c]⟩, H, I.tok _, ⟨_, rfl⟩, q⟩) hs
/-- the list's object behind a store -/
theorem mapSeq_set (its : List Value) (n j : Nat) (u : Value) : Obj.mapSeq (·.setIfInBounds j u) { cls := .type "list", data := .seq its.toArray n } = { cls := .type "list", data := .seq (its.set j u).toArray n } := by
  simp [Obj.mapSeq]
theorem Inv.lst {pins : List (Addr × Obj)} {σ : St} {H : Hp} {s : Shared} {p : Addr} {xs : List V} (I : Inv X pins σ H s) (h : H p = some (.lst xs)) :
    ∃ (its : List Value) (n : Nat), Vals xs its ∧ s.heap.get? p = some { cls := .type "list", data := .seq its.toArray n } ∧ xs.length ≤ sizeLine := by
  obtain ⟨z, its, n, r, e⟩ := I.hok p _ h
  exact ⟨its, n, r, e, z⟩
/-- the list at p is written by an update of its object -/
theorem Inv.lstUpd {pins : List (Addr × Obj)} {σ : St} {H : Hp} {s : Shared} {p : Addr} {xs ys : List V} {its its' : List Value} {n n' : Nat} {f : Obj → Obj} (I : Inv X pins σ H s) (h : H p = some (.lst xs))
    (ho : s.heap.get? p = some { cls := .type "list", data := .seq its.toArray n }) (hf : f { cls := .type "list", data := .seq its.toArray n } = { cls := .type "list", data := .seq its'.toArray n' }) (r : Vals ys its') (hz : ys.length ≤ sizeLine) (t : Nat) :
    Inv X pins σ (upd H p (.lst ys)) { s with heap := s.heap.update p f, toks := t } := by
  have e : (s.heap.update p f).get? p = some { cls := .type "list", data := .seq its'.toArray n' } := by
    rw [Heap.get?_update_self f ho (by rw [hf] <;> rfl), hf]
  refine I.write (x := p) (e := p) (by rw [h]; trivial) (.inl rfl) (fun b u hb q => (Heap.get?_update_other _ _ (Ne.symm hb)).trans q) ⟨_, e⟩ ?_
  exact ⟨hz, its', n', r, e⟩
inductive rSetL_I (o : V) (i : V) (v : V) (H : Hp) (Q : (Hp → Prop)) : Prop
  | mk : ∀ p xs k j, o = .ref p → i = .int k → H p = some (.lst xs) → ixN xs.length k = some j → Q (upd H p (.lst (xs.set j v))) → rSetL_I o i v H Q
def rSetL : V → V → V → Hp → (Hp → Prop) → Prop := fun o i v H Q => rSetL_I o i v H Q
theorem set_list : PSet X rSetL := by
  intro pins s σ H o i v ov iv u Q I ro ri rv h
  obtain ⟨p, xs, k, j, rfl, rfl, hp, hj, q⟩ := h
  cases ro
  obtain ⟨t, rfl⟩ := ri
  obtain ⟨its, n, r, ho, hz⟩ := I.lst hp
  obtain ⟨h1, h2, h3, h4⟩ := ixN_seq hj
  have hl := r.length
  have hn := line63
  have I' : Inv X pins σ (upd H p (.lst (xs.set j v))) { s with heap := s.heap.update p (Obj.mapSeq (·.setIfInBounds j u)) } :=
    I.lstUpd hp ho (mapSeq_set its n j u) (r.set rv j) (by rw [List.length_set]; exact hz) s.toks
  by_cases h0 : 0 ≤ k
  · have hk : k.toNat = j := by
      rw [seqIndex_of h0 h4] at h1
      exact Option.some.inj h1
    exact PySem.W.ki_setAt ho h0 (by omega) (by rw [List.size_toArray, ← hl]; exact h4) (by rw [hk]; exact ⟨_, I', q⟩)
  · have hk : (k + (its.toArray.size : Int)).toNat = j := by
      rw [seqIndex_neg (by omega) h3] at h1
      rw [List.size_toArray, ← hl]
      exact Option.some.inj h1
    exact PySem.W.ki_setBack ho (by omega) (by rw [List.size_toArray, ← hl]; exact h3) (by omega) (by rw [hk]; exact ⟨_, I', q⟩)
theorem slice_bounds (lo hi : Option Int) (n : Nat) : (sliceBounds lo hi none n).1 = ((HT.sIx n 0 lo : Nat) : Int) ∧ (sliceBounds lo hi none n).2.1 = ((HT.sIx n n hi : Nat) : Int) ∧ (sliceBounds lo hi none n).2.2 = 1 := by
  refine ⟨?_, ?_, rfl⟩
  · cases lo with
    | none => simp [sliceBounds, HT.sIx]
    | some i =>
      simp only [sliceBounds, HT.sIx, Option.getD_none, show (1 : Int) > 0 by decide, if_true]
      by_cases h : i < 0
      · simp only [h, if_true] <;> omega
      · simp only [h, if_false] <;> omega
  · cases hi with
    | none => simp [sliceBounds, HT.sIx]
    | some i =>
      simp only [sliceBounds, HT.sIx, Option.getD_none, show (1 : Int) > 0 by decide, if_true]
      by_cases h : i < 0
      · simp only [h, if_true] <;> omega
      · simp only [h, if_false] <;> omega
theorem slicePick_cut (its : List Value) (lo hi : Option Int) : slicePick its.toArray lo hi none = ((its.drop (HT.sIx its.length 0 lo)).take (HT.sIx its.length its.length hi - HT.sIx its.length 0 lo)).toArray := by
  obtain ⟨h1, h2, h3⟩ := slice_bounds lo hi its.toArray.size
  unfold slicePick
  rw [h1, h2, h3]
  simp only [sliceRange_one, pick_run, List.size_toArray] <;> rfl
/-- xs[lo:hi] of a list: a new list -/
inductive rSlL_I (K : PySem.W.Frag) (x : V) (lo : Option Int) (hi : Option Int) (H : Hp) (Q : VK) : Prop
  | mk : ∀ a xs, x = .ref a → SqL K H a xs → (∀ p, H p = none → Q (.ref p) (upd H p (.lst (cutV xs lo hi)))) → rSlL_I K x lo hi H Q
def rSlL (K : PySem.W.Frag) : V → Option Int → Option Int → Hp → VK → Prop := fun x lo hi H Q => rSlL_I K x lo hi H Q
theorem sl_list : SlR X (rSlL X.K) := by
  intro pins s σ H x v vl vu lo hi sl Q I rx hs pl pu h
  obtain ⟨a, xs, rfl, hx, q⟩ := h
  cases rx
  obtain ⟨its, r, ht, hz⟩ := I.list hx
  have hlen := r.length
  refine ⟨"list", _, slot_list_getitem.lookup, ht.isList.typeIs, ?_⟩
  refine wpAny_getItem_list_slice ht.isList hs pl pu .none (by simp) ?_ (by rw [List.size_toArray] <;> omega)
  rw [slicePick_cut, ← hlen]
  refine ⟨.ref s.heap.objs.size, _, I.laid (t' := s.toks) (o := .lst (cutV xs lo hi)) (fun b ob q => Heap.get?_push_of_some _ q) (Nat.le_refl _) ?_, rfl, q _ (I.hok.fresh (Nat.le_refl _))⟩
  exact ⟨Nat.le_trans (cutV_length xs lo hi) hz, _, 0, (r.drop (HT.sIx xs.length 0 lo)).take (HT.sIx xs.length xs.length hi - HT.sIx xs.length 0 lo), Heap.get?_push_size _ rfl⟩
/-- == of flat values -/
def eqV : V → V → Bool
  | .non, .non => true
  | .bl a, .bl b => a == b
  | .bl a, .int b => (if a then 1 else 0) == b
  | .int a, .bl b => a == (if b then 1 else 0)
  | .int a, .int b => a == b
  | .str a, .str b => a == b
  | _, _ => false
theorem call_len_seq : CallR X (.builtin "len") (fun xs H Q => ∃ p ys, xs = [.ref p] ∧ (SqL X.K H p ys ∨ SqT X.K H p ys) ∧ Q (.int ys.length) H) := by
  intro pins s σ H xs us Q I r h
  obtain ⟨p, ys, rfl, hq, q⟩ := h
  obtain ⟨u, rfl, rx⟩ := vals1 r
  cases rx
  have hn := line63
  rcases hq with hq | hq
  · obtain ⟨its, r', pl, hz⟩ := I.list hq
    have hlen := r'.length
    exact Calls.call_len_list pl.isList (by simp only [List.size_toArray] <;> omega) ⟨.int ys.length, H, I.tok _, ⟨s.toks + 1, by rw [List.size_toArray, hlen]⟩, q⟩
  · obtain ⟨its, r', pl, hz⟩ := I.tuple hq
    have hlen := r'.length
    exact len_tuple pl (by simp only [List.size_toArray] <;> omega) ⟨.int ys.length, H, I.tok _, ⟨s.toks + 1, by rw [List.size_toArray, hlen]⟩, q⟩
theorem call_len_str : CallR X (.builtin "len") (fun xs H Q => ∃ z, xs = [.str z] ∧ z.length ≤ sizeLine ∧ Q (.int z.length) H) := by
  intro pins s σ H xs us Q I r h
  obtain ⟨z, rfl, hz, q⟩ := h
  obtain ⟨u, rfl, t, rfl⟩ := vals1 r
  have hn := line63
  exact len_str (by omega) ⟨.int z.length, H, I.tok _, ⟨_, rfl⟩, q⟩
theorem call_list_of : CallR X (.type "list") (fun xs H Q => ∃ p ys, xs = [.ref p] ∧ (SqL X.K H p ys ∨ SqT X.K H p ys) ∧ ∀ l, H l = none → Q (.ref l) (upd H l (.lst ys))) := by
  intro pins s σ H xs us Q I r h
  obtain ⟨p, ys, rfl, hq, q⟩ := h
  obtain ⟨u, rfl, rx⟩ := vals1 r
  cases rx
  have fin : ∀ (its : List Value), Vals ys its → ys.length ≤ sizeLine → ∀ (h' : Heap) (c' : Nat), (∀ b o', s.heap.get? b = some o' → h'.get? b = some o') →
      h'.get? s.heap.objs.size = some { cls := .type "list", dict := none, data := .seq its.toArray c', slots := #[] } → EP X pins σ Q (.ref s.heap.objs.size) { s with heap := h' } := fun its r' hz h' c' kp e =>
    ⟨.ref s.heap.objs.size, _, I.laid (t' := s.toks) kp (Nat.le_refl _) (show ObjOk X.prog X.w _ h' _ (.lst ys) from ⟨hz, its, c', r', e⟩), rfl, q _ (I.hok.fresh (Nat.le_refl _))⟩
  rcases hq with hq | hq
  · obtain ⟨its, r', pl, hz⟩ := I.list hq
    have hlen := r'.length
    obtain ⟨o, ho, hc, n, hd⟩ := pl.isList
    exact call_list_seq p (.inl rfl) ho hc hd (fun h' c' kp e => fin its r' hz h' c' kp e) (by simp only [List.size_toArray] <;> omega)
  · obtain ⟨its, r', pl, hz⟩ := I.tuple hq
    have hlen := r'.length
    obtain ⟨o, ho, hc, n, hd⟩ := pl
    exact call_list_seq p (.inr rfl) ho hc hd (fun h' c' kp e => fin its r' hz h' c' kp e) (by simp only [List.size_toArray] <;> omega)
theorem call_tuple_of : CallR X (.type "tuple") (fun xs H Q => ∃ p ys, xs = [.ref p] ∧ ((SqL X.K H p ys ∧ ∀ l, H l = none → Q (.ref l) (upd H l (.tup ys))) ∨ (SqT X.K H p ys ∧ Q (.ref p) H))) := by
  intro pins s σ H xs us Q I r h
  obtain ⟨p, ys, rfl, h⟩ := h
  obtain ⟨u, rfl, rx⟩ := vals1 r
  cases rx
  rcases h with ⟨hq, q⟩ | ⟨hq, q⟩
  · obtain ⟨its, r', pl, hz⟩ := I.list hq
    have hlen := r'.length
    refine call_tuple_list pl.isList (fun h' kp => ?_) (by simp only [List.size_toArray] <;> omega)
    have I1 : Inv X pins σ H { s with heap := h' } := I.kept (t' := s.toks) kp
    have I2 : Inv X pins σ (upd H h'.objs.size (.tup ys)) { s with heap := h'.push { cls := .type "tuple", data := .seq its.toArray } } :=
      I1.laid (t' := s.toks) (fun b o e => Heap.get?_push_of_some _ e) (Nat.le_refl _) (show ObjOk X.prog X.w _ _ _ (.tup ys) from ⟨hz, its, r', IsTup.new _ _⟩)
    exact ⟨.ref h'.objs.size, _, I2, rfl, q _ (I1.hok.fresh (Nat.le_refl _))⟩
  · obtain ⟨its, r', pl, hz⟩ := I.tuple hq
    exact call_tuple_same pl ⟨.ref p, H, I, rfl, q⟩
/-- the value is of that builtin type -/
def tyV (K : PySem.W.Frag) (T : String) (x : V) (H : Hp) : Prop := match x with
  | .str _ => T = "str"
  | .int _ => T = "int"
  | .ref p => (T = "list" ∧ ∃ xs, SqL K H p xs) ∨ (T = "tuple" ∧ ∃ o, K.lookup p = some o ∧ o.cls = .type "tuple" ∧ o.dict = none) ∨
      (T = "dict" ∧ ((∃ kvs, H p = some (.dK kvs)) ∨ ∃ kvs, H p = some (.dT kvs))) ∨ (T = "set" ∧ ∃ S n, H p = some (.set S n))
  | _ => False
theorem tyV_is {pins : List (Addr × Obj)} {σ : St} {H : Hp} {s : Shared} {T : String} {x : V} {v : Value} (I : Inv X pins σ H s) (r : RelV x v) (ty : tyV X.K T x H) :
    s.TypeIs v T ∧ ∀ a, v = .ref a → ∃ ob, s.heap.get? a = some ob ∧ ob.dict = none := by
  cases x with
  | str z =>
    obtain ⟨t, rfl⟩ := r
    cases (show T = "str" from ty)
    exact ⟨typeIs_str s z t, fun _ e => nomatch e⟩
  | int i =>
    obtain ⟨t, rfl⟩ := r
    cases (show T = "int" from ty)
    exact ⟨typeIs_int s i t, fun _ e => nomatch e⟩
  | ref p =>
    cases r
    rcases ty with ⟨rfl, xs, hq⟩ | ⟨rfl, o, hk, hc, hd⟩ | ⟨rfl, hk⟩ | ⟨rfl, S, n, hk⟩
    · obtain ⟨its, _, pl, _⟩ := I.list hq
      refine ⟨pl.isList.typeIs, fun a e => ?_⟩
      cases e
      obtain ⟨o, n, e, c, hd, _⟩ := pl
      exact ⟨o, e, hd⟩
    · refine ⟨⟨o, I.kIn p o hk, hc⟩, fun a e => ?_⟩
      cases e
      exact ⟨o, I.kIn _ o hk, hd⟩
    · have z : ∃ o, s.heap.get? p = some o ∧ o.ExactDict := by
        rcases hk with ⟨kvs, hk⟩ | ⟨kvs, hk⟩
        · obtain ⟨_, _, _, _, o, _, _, e, ex, _⟩ := I.hok p _ hk
          exact ⟨o, e, ex⟩
        · obtain ⟨_, _, _, _, o, _, _, e, ex, _⟩ := I.hok p _ hk
          exact ⟨o, e, ex⟩
      obtain ⟨o, e, ex⟩ := z
      refine ⟨⟨o, e, ex.1⟩, fun a e2 => ?_⟩
      cases e2
      exact ⟨o, e, ex.2.1⟩
    · obtain ⟨o, _, _, _, e, ex, _⟩ := I.hok p _ hk
      refine ⟨⟨o, e, ex.1⟩, fun a e2 => ?_⟩
      cases e2
      exact ⟨o, e, ex.2.1⟩
  | _ => exact False.elim ty
def tBM (K : PySem.W.Frag) (T : String) (r : V → List V → Hp → VK → Prop) (to : TE) (t : TA) : TE := fun σ H Q => to σ H fun x H1 => tyV K T x H1 ∧ t σ H1 fun xs H2 => r x xs H2 Q
variable {o e : Expr} {es : List Expr} {to : TE} {t : TA} {name : Str} {apos cpos : Pos} {T id : String} {r : V → List V → Hp → VK → Prop}
theorem pe_bm (pa : PlainAttrs T) (slot : Slot T name id) (hty : typeOf (.builtin id) = pure (.type "method_descriptor")) (hm : MtR X id r) (ho : PE X o to) (ha : PA X (e :: es) t)
    (hbase : attributeBase o name X.env (eval o X.env) = eval o X.env := by rfl)
    (hfew : ((backTo cpos (starEach (e :: es) X.env)).all (fun x => !x.1) && (backToKw cpos (keywordEach [] X.env)).all (fun x => x.1.isSome)
      && decide ((e :: es).length + ([] : List Keyword).length + (if ([] : List Keyword).isEmpty then 0 else 1) < 30)) = true := by rfl)
    (hline : (apos.endLine == cpos.line) = true := by rfl) (hs : starEach (e :: es) X.env = (false, eval e X.env) :: starEach es X.env := by rfl) (hplain : (backTo cpos (starEach es X.env)).any (·.1) = false := by rfl) :
    PE X (.Call (.Attribute o name apos) (e :: es) [] cpos) (tBM X.K T r to t) := by
  intro pins s σ H Q I h
  refine wpAny_Call_method_late hbase hfew hline rfl (thn (ho pins s σ H _ I h) fun v s1 ⟨x, H1, I1, r1, ty, q1⟩ => ?_)
  obtain ⟨h1, h2⟩ := tyV_is I1 r1 ty
  refine ⟨T, id, pa, slot, hty, h1, h2, ?_⟩
  have hA := ha cpos pins s1 σ H1 _ I1 q1
  rw [hs] at hA ⊢
  refine Calls.callWith_builtin (by show (false || (backTo cpos (starEach es X.env)).any (·.1)) = false; rw [hplain] <;> rfl) (Calls.evalArgs_plain ?_)
  exact thn hA fun us s2 ⟨vs, H2, I2, r2, q2⟩ => hm pins s2 σ H2 x vs v us Q I2 r1 r2 q2
/- xs.append(e), list.index on a module's tuple .. are MtR facts of 06m -/
end
end L2
namespace L2
open PySem PySem.Spec PyProof.Rows
def MtM (X : Cx) (id : String) (r : V → List V → Hp → VK → Prop) : Prop :=
  ∀ (pins : List (Addr × Obj)) (s : Shared) (σ : St) (H : Hp) (x : V) (xs : List V) (v : Value) (us : List Value) (Q : VK), Inv X pins σ H s → RelV x v → Vals xs us → r x xs H Q →
    wpAny (model X.prog X.w) X.A (call (.builtin id) (v :: us)) (EP X pins σ Q) X.xe s
theorem Vals.one : ∀ {x : V} {us : List Value}, Vals [x] us → ∃ u, us = [u] ∧ RelV x u
  | _, _, .cons r .nil => ⟨_, rfl, r⟩
theorem Vals.zero : ∀ {us : List Value}, Vals [] us → us = []
  | _, .nil => rfl
theorem Vals.eraseIdx : ∀ {xs : List V} {us : List Value} (i : Nat), Vals xs us → Vals (xs.eraseIdx i) (us.eraseIdx i)
  | _, _, _, .nil => .nil
  | _, _, 0, .cons _ t => t
  | _, _, i + 1, .cons r t => .cons r (Vals.eraseIdx i t)
section
variable {X : Cx} {pins : List (Addr × Obj)} {σ : St} {H : Hp} {s : Shared} {l b : Addr} {xs ys zs : List V}
theorem Inv.lset {its its' : List Value} {n : Nat} {f : Array Value → Array Value} {t' : Nat} (I : Inv X pins σ H s) (hH : H l = some (.lst xs))
    (e : s.heap.get? l = some { cls := .type "list", data := .seq its.toArray n }) (hf : f its.toArray = its'.toArray) (hv : Vals ys its') (hz : ys.length ≤ sizeLine) :
    Inv X pins σ (upd H l (.lst ys)) { s with heap := s.heap.update l (Obj.mapSeq f), toks := t' } := by
  have q := PySem.IsL.update e f
  rw [hf] at q
  refine I.write (x := l) (e := l) (by rw [hH]; exact trivial) (.inl rfl) (fun b' u hb hu => (Heap.get?_update_other s.heap (Obj.mapSeq f) (Ne.symm hb)).trans hu) ⟨_, q⟩ ?_
  exact ⟨hz, its', _, hv, q⟩
theorem Inv.lnew {its : List Value} {t' : Nat} (I : Inv X pins σ H s) (hv : Vals ys its) (hz : ys.length ≤ sizeLine) :
    Inv X pins σ (upd H s.heap.objs.size (.lst ys)) { s with heap := s.heap.push { cls := .type "list", data := .seq its.toArray }, toks := t' } :=
  I.laid (fun _ _ q => Heap.get?_push_of_some _ q) (Nat.le_refl _) ⟨hz, its, 0, hv, Heap.get?_push_size _ rfl⟩
theorem Inv.fresh (I : Inv X pins σ H s) : H s.heap.objs.size = none := I.hok.fresh (Nat.le_refl _)
theorem Inv.lstM (I : Inv X pins σ H s) (hH : H l = some (.lst xs)) : xs.length ≤ sizeLine ∧ ∃ (its : List Value) (n : Nat), Vals xs its ∧ xs.length = its.length ∧ s.heap.get? l = some { cls := .type "list", data := .seq its.toArray n } := by
  obtain ⟨z, its, n, r, e⟩ := I.hok l _ hH
  exact ⟨z, its, n, r, r.length, e⟩
end
section
variable {X : Cx}
inductive rAppend_I (x : V) (vs : List V) (H : Hp) (Q : VK) : Prop
  | mk : ∀ l xs y, x = .ref l → vs = [y] → H l = some (.lst xs) → xs.length < sizeLine → Q .non (upd H l (.lst (xs ++ [y]))) → rAppend_I x vs H Q
def rAppend : V → List V → Hp → VK → Prop := fun x vs H Q => rAppend_I x vs H Q
theorem mt_append : MtM X "list.append" rAppend := by
  intro pins s σ H x vs v us Q I rx rv h
  obtain ⟨l, xs, y, rfl, rfl, hH, hz, q⟩ := h
  cases rx
  obtain ⟨u, rfl, ru⟩ := rv.one
  obtain ⟨z, its, n, r, hl, e⟩ := I.lstM hH
  refine call_meets F.slot_list_append ⟨_, e, rfl⟩ F.entry_list_append (F.args_list_append_2 _ _) (PySem.list_append l its.toArray n u (by rw [List.size_toArray]; omega)) ⟨e, ?_⟩
  refine ⟨.non, _, I.lset (its' := its ++ [u]) hH e (by simp) (r.append (.cons ru .nil)) ?_, rfl, q⟩
  rw [List.length_append, List.length_singleton]
  omega
inductive rCat_I (x : V) (y : V) (H : Hp) (Q : VK) : Prop
  | mk : ∀ l b xs zs, x = .ref l → y = .ref b → H l = some (.lst xs) → H b = some (.lst zs) → xs.length + zs.length ≤ sizeLine → (∀ p, H p = none → Q (.ref p) (upd H p (.lst (xs ++ zs)))) → rCat_I x y H Q
def rCat : R2 := fun x y H Q => rCat_I x y H Q
theorem op_cat : OpR X (binaryOp .Add) rCat := by
  intro pins s σ H x y v u Q I rx ry h
  obtain ⟨l, b, xs, zs, rfl, rfl, hH, hB, hz, q⟩ := h
  cases rx
  cases ry
  obtain ⟨z, its, n, r, hl, e⟩ := I.lstM hH
  obtain ⟨z2, its2, n2, r2, hl2, e2⟩ := I.lstM hB
  refine PySem.P.add_list e e2 ?_ (by rw [List.size_toArray, List.size_toArray]; omega)
  have ea : its.toArray ++ its2.toArray = (its ++ its2).toArray := by simp
  rw [ea]
  exact ⟨.ref _, _, I.lnew (t' := s.toks) (r.append r2) (by rw [List.length_append]; omega), rfl, q _ I.fresh⟩
end
section
variable {prog : Program} {w : World} {A : Around} {E : Value → Shared → Prop} {s : Shared}
end
section
variable {X : Cx}
end
end L2
namespace L2
open PySem PySem.Spec PyProof.Rows
section
variable {κ : Type} [DecidableEq κ]
def valV (kvs : List (κ × V)) (k : κ) : Option V := (kvs.find? fun kv => decide (kv.1 = k)).map (·.2)
/-- in its place, or at the end -/
def putK (kvs : List (κ × V)) (k : κ) (v : V) : List (κ × V) :=
  if (kvs.any fun kv => decide (kv.1 = k)) = true then kvs.map (fun kv => if kv.1 = k then (kv.1, v) else kv) else kvs ++ [(k, v)]
def dropK (kvs : List (κ × V)) (k : κ) : List (κ × V) := kvs.filter fun kv => decide (kv.1 ≠ k)
theorem RelO.getD {o : Option V} {u : Option Value} {d : V} {d' : Value} (r : RelO o u) (rd : RelV d d') : RelV (o.getD d) (u.getD d') := by
  cases o with
  | none => cases u with
    | none => exact rd
    | some _ => exact (show False from r).elim
  | some _ => cases u with
    | none => exact (show False from r).elim
    | some _ => exact r
theorem KV.any {kvs : List (κ × V)} {vs : List (κ × Value)} (r : KV kvs vs) (k : κ) : (kvs.any fun kv => decide (kv.1 = k)) = vs.any fun kv => decide (kv.1 = k) := by
  unfold KV at r
  induction r with
  | nil => rfl
  | cons h t ih => rw [List.any_cons, List.any_cons, ih, h.1]
theorem KV.drop {kvs : List (κ × V)} {vs : List (κ × Value)} (r : KV kvs vs) (k : κ) : KV (dropK kvs k) (without vs k) := by
  unfold KV at r ⊢
  unfold dropK without
  induction r with
  | nil => exact .nil
  | @cons p q ps qs h t ih =>
    obtain ⟨h1, h2⟩ := h
    rw [List.filter_cons, List.filter_cons]
    by_cases e : p.1 = k
    · have a : ¬ decide (p.1 ≠ k) = true := by simp [e]
      have b : ¬ decide (q.1 ≠ k) = true := by simp [h1.symm.trans e]
      rw [if_neg a, if_neg b]; exact ih
    · have e' : ¬ q.1 = k := fun z => e (h1.trans z)
      have a : decide (p.1 ≠ k) = true := by simp [e]
      have b : decide (q.1 ≠ k) = true := by simp [e']
      rw [if_pos a, if_pos b]; exact .cons ⟨h1, h2⟩ ih
theorem KV.length {kvs : List (κ × V)} {vs : List (κ × Value)} (r : KV kvs vs) : kvs.length = vs.length := Paired.length r
end
/-- raw entries of a dict with tuple keys -/
abbrev KT (H : Hp) : List (List Key × V) → List (List Key × Addr × Value) → Prop := Paired fun p q => p.1 = q.1 ∧ H q.2.1 = some (.tup (p.1.map kV)) ∧ RelV p.2 q.2.2
theorem KT.keeps {H H' : Hp} {kvs : List (List Key × V)} {xs : List (List Key × Addr × Value)} (r : KT H kvs xs) (ht : ∀ b ys, H b = some (.tup ys) → H' b = some (.tup ys)) : KT H' kvs xs :=
  Paired.mapP r fun _ _ z => ⟨z.1, ht _ _ z.2.1, z.2.2⟩
section
variable {P : Program} {w : World} {H : Hp} {h : Heap} {a : Addr}
theorem rd_of {u : HO} (ok : HOk P w H h) (e : Rd H a u) : ObjOk P w H h a u := e.ok ok
theorem dk_rd {kvs : List (Key × V)} (ok : HOk P w H h) (e : Rd H a (.dK kvs)) : kvs.length ≤ sizeLine ∧ (a == sysModules) = false ∧ ∃ vs, KV kvs vs ∧ h.DictOf (mixKind P w) a vs :=
  show ObjOk P w H h a (.dK kvs) from rd_of ok e
theorem dk_of {kvs : List (Key × V)} (ok : HOk P w H h) (e : H a = some (.dK kvs)) : kvs.length ≤ sizeLine ∧ (a == sysModules) = false ∧ ∃ vs, KV kvs vs ∧ h.DictOf (mixKind P w) a vs := dk_rd ok (.inl e)
end
/-- what the dict at a holds at the key y -/
def DGet (H : Hp) (a : Addr) (y : V) (r : Option V) : Prop :=
  (∃ kvs k, Rd H a (.dK kvs) ∧ y = kV k ∧ r = valV kvs k) ∨ ∃ kvs k b, Rd H a (.dT kvs) ∧ y = .ref b ∧ H b = some (.tup (k.map kV)) ∧ r = valV kvs k
/-- the heap behind a[y] = v -/
def DPut (H : Hp) (a : Addr) (y v : V) (H' : Hp) : Prop :=
  (∃ kvs k, H a = some (.dK kvs) ∧ y = kV k ∧ kvs.length < sizeLine ∧ H' = upd H a (.dK (putK kvs k v))) ∨
  ∃ kvs k b, H a = some (.dT kvs) ∧ y = .ref b ∧ H b = some (.tup (k.map kV)) ∧ kvs.length < sizeLine ∧ H' = upd H a (.dT (putK kvs k v))
theorem DGet.k {H : Hp} {a : Addr} {kvs : List (Key × V)} {k : Key} (e : H a = some (.dK kvs)) : DGet H a (kV k) (valV kvs k) := .inl ⟨kvs, k, .inl e, rfl, rfl⟩
theorem DGet.t {H : Hp} {a b : Addr} {kvs : List (List Key × V)} {k : List Key} (e : H a = some (.dT kvs)) (eb : H b = some (.tup (k.map kV))) : DGet H a (.ref b) (valV kvs k) := .inr ⟨kvs, k, b, .inl e, rfl, eb, rfl⟩
theorem DPut.k {H : Hp} {a : Addr} {kvs : List (Key × V)} {k : Key} {v : V} (e : H a = some (.dK kvs)) (hl : kvs.length < sizeLine) : DPut H a (kV k) v (upd H a (.dK (putK kvs k v))) := .inl ⟨kvs, k, e, rfl, hl, rfl⟩
theorem DPut.t {H : Hp} {a b : Addr} {kvs : List (List Key × V)} {k : List Key} {v : V} (e : H a = some (.dT kvs)) (eb : H b = some (.tup (k.map kV))) (hl : kvs.length < sizeLine) :
    DPut H a (.ref b) v (upd H a (.dT (putK kvs k v))) := .inr ⟨kvs, k, b, e, rfl, eb, hl, rfl⟩
section
variable {X : Cx} {pins : List (Addr × Obj)} {σ : St} {H : Hp} {s : Shared} {a : Addr} {y v : V} {u r : Value} {o : Option V} {A : Around} {E : Value → Shared → Prop}
theorem Inv.big (I : Inv X pins σ H s) : sysModules < s.heap.objs.size := by
  have h : mainGlobals < s.heap.objs.size := (I.mod.glob.keeps I.bk).lt
  exact Nat.lt_trans (by decide) h
end
section
variable {X : Cx} {pins : List (Addr × Obj)} {σ : St} {H : Hp} {s : Shared} {a : Addr} {kvs : List (Key × V)} {k : Key} {u : Value} {A : Around} {E : Value → Shared → Prop}
end
section
variable {X : Cx} {o i e value : Expr} {pos pos' tpos : Pos} {td ty tv : TE}
end
theorem dk_empty {P : Program} {w : World} {H : Hp} (h : Heap) (hb : sysModules < h.objs.size) : ObjOk P w H (h.push { cls := .type "dict", data := .dict #[] }) h.objs.size (.dK []) :=
  ⟨Nat.zero_le _, beq_eq_false_iff_ne.mpr (Ne.symm (Nat.ne_of_lt hb)), [], .nil, Heap.DictOf.new h⟩
/-- {}, to be a dict of the kind that is wanted -/
def tDNewK : TE := fun _ H Q => ∀ p, H p = none → Q (.ref p) (upd H p (.dK []))
section
variable {X : Cx} {pos : Pos}
theorem pe_dnewK : PE X (.Dict [] [] pos) tDNewK := fun pins s σ H Q I h =>
  wpAny_Dict_empty ⟨.ref s.heap.objs.size, _, I.laid (a := s.heap.objs.size) (o := .dK []) (t' := s.toks) (fun _ _ q => Heap.get?_push_of_some _ q) (Nat.le_refl _) (dk_empty s.heap I.big), rfl, h _ (I.hok.fresh (Nat.le_refl _))⟩
end
section
variable {X : Cx} {pins : List (Addr × Obj)} {σ : St} {H : Hp} {s : Shared} {a : Addr} {y d : V} {u r : Value} {o : Option V} {A : Around} {E : Value → Shared → Prop}
end
section
variable {X : Cx} {o e f : Expr} {apos cpos : Pos} {td ty tx : TE}
end
section
variable {X : Cx} {pins : List (Addr × Obj)} {σ : St} {H : Hp} {s : Shared} {a : Addr} {kvs : List (Key × V)} {A : Around} {E : Value → Shared → Prop}
end
section
variable {X : Cx} {pins : List (Addr × Obj)} {σ : St} {H : Hp} {s : Shared} {a : Addr} {y : V} {u : Value} {A : Around} {E : Value → Shared → Prop}
end
end L2
namespace Att
open PySem PySem.W PySem.Calls PyProof.Rows
theorem ints_of_wellAll {P : Params} {h : Heap} : ∀ (ns : List Int) (vs : List Value), WellAll P h vs (ns.map WData.int) → IntsAre vs ns := by
  intro ns
  induction ns with
  | nil =>
    intro vs w
    rw [List.map_nil] at w
    cases w
    exact .nil
  | cons n ns ih =>
    intro vs w
    rw [List.map_cons] at w
    cases w with
    | cons a b =>
      cases a
      exact .cons _ _ (ih _ b)
theorem script_of {l : OpenLaw} {n : Nat} (hn : l.most = some n) {P : Params} {h : Heap} {args : List WData} {vals : List Value}
    (hpre : l.row.toRowW.claim.pre args = true) (hwl : WellAll P h vals args) :
    ∃ a vs ns, vals = [Value.ref a] ∧ args = [WData.list (ns.map WData.int)] ∧ h.get? a = some { cls := .type "list", data := .seq vs.toArray } ∧ IntsAre vs ns ∧ ns.length ≤ n := by
  have hsh : WShape.hasAll [] args [.list .int] = true := (pre_splitW hpre).1
  have hc : l.pre.holds [] { args := args } = true := (pre_splitW hpre).2
  obtain ⟨d, r, rfl, h1, h2⟩ := hasAllW_cons hsh
  obtain rfl := hasAllW_nil h2
  obtain ⟨xs, rfl, h3⟩ := hasW_list h1
  obtain ⟨ns, rfl⟩ := items_int h3
  have hlen : ns.length ≤ n := by
    unfold OpenLaw.pre at hc
    have h4 : (WTm.not (.lt (.lit (.int (n : Int))) (.len (.arg 0)))).holds [] { args := [.list (ns.map .int)] } = true := by
      have h4 := (holds_andW hc).1
      rw [hn] at h4
      exact h4
    have h5 := condW_of h4 (w_not (w_lt w_lit (w_len_list (w_arg rfl))))
    rw [List.length_map] at h5
    refine Nat.le_of_not_lt fun q => ?_
    have q' : (n : Int) < ((ns.length : Nat) : Int) := by omega
    first
      | (rw [decide_eq_true q'] at h5; exact absurd h5 (by decide))
      | (simp at h5; omega)
  cases hwl with
  | cons w1 w2 =>
    cases w2
    cases w1 with
    | list ho hall => exact ⟨_, _, ns, rfl, rfl, ho, ints_of_wellAll ns _ hall, hlen⟩
theorem post_true (l : OpenLaw) (args : List WData) : l.row.toRowW.claim.post args (.bool true) args = true :=
  postW_of (r := l.row.toRowW) (X := (true == true))
    (show WShape.has [] (.bool true) .bool = true by first | rfl | decide | simp [WShape.has, WShape.arms, WShape.armsAll])
    (show (WTm.eq .res (.lit (.bool true))).value [] { args := args, res := some (.bool true), after := args } = some (.bool (true == true)) from w_eq_bool (w_res rfl) w_lit) rfl
/-- the same from a codeAny of the CALL (for a layer whose function contracts speak of calls) -/
theorem attach_call {l : OpenLaw} {n : Nat} {q : Program} {loose : List Str} {XP : (Str → Option Value) → Heap → Prop} {YP : World → Heap → Prop} {d : DefRec}
    (hn : l.most = some n) (hdf : d.params.defaults = [])
    (call : ∀ (w : World) (s₀ s₁ : Shared) (mg mb : Str → Option Value) (fa : Addr) (o : Obj) (pm cd doc : Value) (a : Addr) (vs : List Value) (ns : List Int),
      Ground q loose [] XP w s₀ mg mb s₁.heap → YP w s₁.heap →
      s₁.heap.get? fa = some o → o.data = .func (docDef d.name d.params d.body d.scope pm cd doc) → s₁.heap.CodeRec cd d.name → mg d.name = some (.ref fa) →
      s₁.heap.get? a = some { cls := .type "list", data := .seq vs.toArray } → IntsAre vs ns → ns.length ≤ n → s₁.gens = #[] →
      codeAny (model l.prog w) callerA (.call (.ref fa) ⟨[.ref a], []⟩) (fun r s' => r = .ok (.ret (.bool true)) ∧ OldK s₁.heap s'.heap ∧ s'.os = s₁.os ∧ AllBare s'.gens) s₁) :
    WalkO q loose XP YP l.row.toRowW d [] (fun f vs => PySem.call f vs) := by
  intro w s₀ s₁ mg mb G Y fa o pm cd doc dV kV ho hd hcd hD hmg hg args vals as hpre hlay hrd hwl hlo
  obtain rfl : dV = .none := Dflts.none hD hdf
  obtain rfl : kV = .none := Dflts.noKw hD
  obtain ⟨a, vs, ns, rfl, rfl, hobj, hints, hlen⟩ := script_of hn hpre hwl
  refine enter_call (codeAny_mono (call w s₀ s₁ mg mb fa o pm cd doc a vs ns G Y ho (fd_plain hd) hcd hmg hobj hints hlen hg) fun r s' hq => ?_)
  obtain ⟨rfl, h2, h3, h4⟩ := hq
  exact ⟨.inl ⟨.bool true, .bool true, [], rfl, fun _ => rfl, .bool true, post_true l _, fun _ => ⟨List.Pairwise.nil, fun _ hm => (nomatch hm)⟩⟩, h2, h3, h4⟩
section
variable {prog : Program} {w : World} {A : Around} {E : Value → Shared → Prop} {s : Shared} {K : Frag}
end
end Att
namespace L2
open PySem PySem.Spec PyProof.Rows
theorem vals_ints : ∀ {vs : List Value} {ns : List Int}, IntsAre vs ns → Vals (ns.map V.int) vs
  | _, _, .nil => .nil
  | _, _, .cons n t h => .cons ⟨t, rfl⟩ (vals_ints h)
/-- nothing is tracked but the script, known to the object (or it is an object of the module) -/
def Only (H : Hp) : Prop := ∀ b, H b = none ∨ ∃ o xs, H b = some (.frz o (.lst xs))
/-- THE HEAD: the law's promise, at the heap behind the top. F, the promise of the law's def, may use that base is part of the heap (so K.In base, base.Ns mainGlobals mg stand in Mod) -/
theorem law_call {P : Program} {w : World} {K : PySem.W.Frag} {mg mb : Str → Option Value} {CX : CXT} {k : Nat} {fa a : Addr} {fd : FuncData} {x : Str} {sp : Sp} {s₁ : Shared} {vs : List Value} {ns : List Int}
    (KX : K.In s₁.heap) (hns : s₁.heap.Ns mainGlobals mg) (hb : s₁.heap.Ns builtinsNs mb) (hbb : ∀ x : Str, x ≠ "__name__" → mb x = bootBuiltins x) (hlim : s₁.heap.NoLimit) (hg : s₁.gens = #[])
    (ha : s₁.heap.get? a = some { cls := .type "list", data := .seq vs.toArray }) (hi : IntsAre vs ns) (hl : ns.length ≤ sizeLine) (hr : Room k callerA)
    (F : ∀ base : Heap, K.In base → base.Ns mainGlobals mg → FnOk P w K mg base CX k fa fd [x] sp) (hbind : ∀ (s : Shared) (u : Value), BindsTo s fd ⟨[u], []⟩ [(x, u)])
    (hsp : ∀ H : Hp, Only H → SqL K H a (ns.map V.int) → sp [.ref a] H (fun v _ => v = .bl true) fun _ _ _ => False)
    (hCX : ∀ H e s', CX [] H s₁ (fun _ _ _ => False) e s' → False) :
    codeAny (model P w) callerA (.call (.ref fa) ⟨[.ref a], []⟩) (fun r s' => r = .ok (.ret (.bool true)) ∧ OldK s₁.heap s'.heap ∧ s'.os = s₁.os ∧ AllBare s'.gens) s₁ := by
  have rv := vals_ints hi
  have lenV := hi.length
  -- from an abstract heap in which nothing but the script may be tracked
  have core : ∀ H : Hp, Only H → SqL K H a (ns.map V.int) → HOk P w H s₁.heap → (∀ b, H b ≠ none → b = a) → (H a ≠ none → K.lookup a = none) →
      codeAny (model P w) callerA (.call (.ref fa) ⟨[.ref a], []⟩) (fun r s' => r = .ok (.ret (.bool true)) ∧ OldK s₁.heap s'.heap ∧ s'.os = s₁.os ∧ AllBare s'.gens) s₁ := by
    intro H hO hS hok hA hK
    have base_of : ∀ {b : Addr} {o : Obj}, s₁.heap.get? b = some o → H b = none → (hidT s₁.heap H).get? b = some o := fun e n => hidT_get e n
    have noA : ∀ {b : Addr} {o : Obj} {es : Array DictEntry} {ep : Nat}, s₁.heap.get? b = some o → o.data = .dict es ep → H b = none := fun {b o es ep} e d => by
      cases q : H b with
      | none => rfl
      | some u =>
        have e' : b = a := hA b (by rw [q]; simp)
        subst e'
        rw [ha] at e; cases e
        have d' : Data.seq vs.toArray _ = Data.dict es ep := d
        cases d'
    have nsK : ∀ {b : Addr} {m : Str → Option Value}, s₁.heap.Ns b m → (hidT s₁.heap H).Ns b m := fun {b m} ⟨o, es, ep, e, d, r⟩ => ⟨o, es, ep, base_of e (noA e d), d, r⟩
    have hKb : K.In (hidT s₁.heap H) := fun b o e => base_of (KX b o e) (by
      cases q : H b with
      | none => rfl
      | some u =>
        have e' : b = a := hA b (by rw [q]; simp)
        subst e'
        rw [hK (by rw [q]; simp)] at e; cases e)
    have hM : Mod K mg (hidT s₁.heap H) := ⟨hKb, nsK hns, ⟨mb, nsK hb, hbb⟩, let ⟨mc, h1, h2⟩ := hlim; ⟨mc, nsK h1, h2⟩⟩
    have e0 : Env0 P w K mg (hidT s₁.heap H) callerA [] s₁ H := ⟨rfl, hM, fun b o e => of_hidT e, Nat.le_of_eq (hidT_size _ _), trivial, fun b hb => absurd (show b ∈ ([] : List Addr) from hb) (by simp), hok, .of_eq hg⟩
    refine codeAny_mono ((F _ hKb (nsK hns)).run callerA [] s₁ H ⟨[.ref a], []⟩ [.ref a] [.ref a] _ _ hr e0 (hbind s₁ (.ref a)) (.cons rfl .nil) (hsp H hO hS)) fun r s' h => ?_
    cases r with
    | error e => exact (hCX H e s' h).elim
    | ok fl =>
      cases fl with
      | next => exact False.elim h
      | brk => exact False.elim h
      | cont => exact False.elim h
      | ret u =>
        obtain ⟨v, H', os, bare, un, hok', r', q⟩ := h
        have q' : v = .bl true := q
        subst q'
        obtain rfl : u = Value.bool true := r'
        refine ⟨rfl, OldK.of_keep fun b o e => ?_, os, bare⟩
        cases q : H b with
        | none => exact un.keep b o e q (by intro z; exact absurd (show b ∈ ([] : List Addr) from z) (by simp)) (by simp)
        | some u =>
          rcases hO b with z | ⟨ob, xs, z⟩
          · rw [q] at z; cases z
          · have z2 := un.frzs b ob _ z
            obtain ⟨e1, _⟩ := hok b _ z
            obtain ⟨e2, _⟩ := hok' b _ z2
            rw [e] at e1; cases e1
            exact e2
  cases hk : K.lookup a with
  | some o =>
    -- the script is one of the module's own objects
    have e := KX a o hk
    rw [ha] at e
    cases e
    refine core (fun _ => none) (fun _ => .inl rfl) (.inr ⟨_, vs.toArray, _, hk, rfl, rfl, rfl, by rw [List.size_toArray, lenV]; exact hl, by simpa using rv⟩) (fun b u z => by have z' : (none : Option HO) = some u := z; cases z') (fun b z => absurd rfl z) fun z => absurd rfl z
  | none =>
    refine core (fun b => if b = a then some (.frz { cls := .type "list", data := .seq vs.toArray } (.lst (ns.map V.int))) else none) (fun b => ?_) (.inl (.inr ⟨{ cls := .type "list", data := .seq vs.toArray }, if_pos rfl⟩)) (fun b u z => ?_) (fun b z => ?_) fun _ => hk
    · by_cases hb : b = a
      · exact .inr ⟨_, _, if_pos hb⟩
      · exact .inl (if_neg hb)
    · by_cases hb : b = a
      · have z' := (if_pos hb).symm.trans z
        cases z'
        subst hb
        exact ⟨ha, by rw [List.length_map]; exact hl, vs, _, rv, ha⟩
      · have z' := (if_neg hb).symm.trans z
        cases z'
    · by_cases hb : b = a
      · exact hb
      · exact absurd (if_neg hb) z
end L2
namespace L2
open PySem PySem.Spec PyProof.Rows
/-- the goal that k_head leaves (case hc), from the law's promise. F gives the function object fd (K's own) once, then the promise over every base -/
theorem walk_of {l : PySem.W.OpenLaw} {n k : Nat} {q : Program} {loose : List Str} {XP : (Str → Option Value) → Heap → Prop} {YP : World → Heap → Prop} {d : DefRec} {K : Params → PySem.W.Frag} {CX : World → CXT} {sp : World → Sp} {x : Str}
    (hn : l.most = some n) (hn2 : n ≤ sizeLine) (hdf : d.params.defaults = []) (hr : Room k callerA)
    (hY : ∀ (w : World) (h : Heap), YP w h → (K w.params).In h)
    (F : ∀ (w : World) (mg : Str → Option Value) (fa : Addr) (h : Heap), (K w.params).In h → h.Ns mainGlobals mg → mg d.name = some (.ref fa) →
      ∃ fd : FuncData, (∀ (s : Shared) (u : Value), BindsTo s fd ⟨[u], []⟩ [(x, u)]) ∧
        ∀ base : Heap, (K w.params).In base → base.Ns mainGlobals mg → FnOk l.prog w (K w.params) mg base (CX w) k fa fd [x] (sp w))
    (hsp : ∀ (w : World) (H : Hp) (a : Addr) (ns : List Int), ns.length ≤ n → Only H → SqL (K w.params) H a (ns.map V.int) → sp w [.ref a] H (fun v _ => v = .bl true) fun _ _ _ => False)
    (hCX : ∀ (w : World) (H : Hp) (s : Shared) (e : Value) (s' : Shared), CX w [] H s (fun _ _ _ => False) e s' → False) :
    PySem.W.WalkO q loose XP YP l.row.toRowW d [] (fun f vs => PySem.call f vs) := by
  refine Att.attach_call hn hdf fun w s₀ s₁ mg mb fa o pm cd doc a vs ns G Y ho hd hcd hmg hobj hints hlen hg => ?_
  have KX := hY w _ Y
  obtain ⟨fd, hb, hF⟩ := F w mg fa _ KX G.T.g hmg
  exact law_call KX G.T.g G.T.b G.T.builtins G.T.nolimit hg hobj hints (Nat.le_trans hlen hn2) hr hF hb (fun H hO hS => hsp w H a ns hlen hO hS) fun H e s' => hCX w H s₁ e s'
end L2
namespace L2
open PySem PySem.Spec PyProof.Rows
/-- the j-th statement of a class's body -/
def inClass (s : Stmt) (j : Nat) : Stmt := match s with
  | .ClassDef _ _ _ body _ _ _ _ _ _ _ => body.getD j (.Pass ⟨0, 0, 0, 0⟩)
  | _ => .Pass ⟨0, 0, 0, 0⟩
def defArgs (s : Stmt) : Arguments := match s with
  | .FunctionDef _ a _ _ _ _ _ _ _ _ => a
  | _ => { posonlyargs := [], args := [], vararg := none, kwonlyargs := [], kw_defaults := [], kwarg := none, defaults := [] }
def defBody (s : Stmt) : List Stmt := match s with
  | .FunctionDef _ _ b _ _ _ _ _ _ _ => b
  | _ => []
def defScope (s : Stmt) : Scope := match s with
  | .FunctionDef _ _ _ _ _ _ sc _ _ _ => sc
  | _ => { kind := .function, names := [], isGenerator := false, isCoroutine := false }
abbrev CX0 : CXT := fun _ _ _ _ _ _ => False
abbrev E0 : XK := fun _ _ _ => False
theorem pass0 {X : Cx} : Passes CX0 X E0 := fun _ _ _ _ _ _ _ h => h.elim
structure Fun (K : PySem.W.Frag) (x qual : Str) (st : Stmt) (f : Addr) (fd : FuncData) : Prop where
  ex : ∃ (oc : Value) (od : Option Addr) (kV doc pm : Value) (an : Option Addr) (cdv ct : Value) (osl : Array (Option Value)),
    fd = PySem.W.fnOf x qual (defArgs st) (defBody st) (defScope st) .none kV doc pm an cdv ct ∧ K.lookup f = some ⟨oc, od, .func fd, osl⟩ ∧ PySem.W.codeIn K cdv qual = true
  kp : PySem.W.keepIn K (.ref f) = true
section
variable {P : Program} {w : World} {K : PySem.W.Frag} {mg : Str → Option Value} {base : Heap}
/-- THE RULE for a def: its body as a term of rules, and the reading of that term -/
theorem Fun.ok {x qual : Str} {st : Stmt} {f : Addr} {fd : FuncData} {N ps : List Str} {k : Nat} {sp : Sp} (F : Fun K x qual st f fd) (S : FnScope N ps (defScope st)) (len : ∀ vs H Q E, sp vs H Q E → vs.length = ps.length)
    (hbody : ∀ (cdv : Value) (A : Around) (outer : List Env) (s : Shared) (H : Hp) (vs : List V) (Q : VK) (E : XK), Room k (A.deeper (envOfC qual (defScope st) s.heap.objs.size f cdv)) → sp vs H Q E →
      ∃ t, PSs (cxOf CX0 P w K mg base N qual (defScope st) f cdv A outer s H E).nox (defBody st) t ∧ t { nx := fun _ H' => Q .non H', rt := Q } (start N vs) H) : FnOk P w K mg base CX0 (k + 1) f fd ps sp := by
  obtain ⟨oc, od, kV, doc, pm, an, cdv, ct, osl, rfl, lk, hcd⟩ := F.ex
  refine fn_of lk hcd S len fun A outer s H vs Q E hr hsp => ?_
  obtain ⟨t, h, q⟩ := hbody cdv A outer s H vs Q E hr hsp
  exact ⟨t, h.nox, q⟩
/-- how its arguments bind (no defaults): h is «fun _ _ _ _ _ _ us hl => match us, hl with | [_, _], _ => rfl», one _ a parameter -/
theorem Fun.binds {x qual : Str} {st : Stmt} {f : Addr} {fd : FuncData} {ps : List Str} (F : Fun K x qual st f fd)
    (h : ∀ (kV doc pm : Value) (an : Option Addr) (cdv ct : Value) (us : List Value), us.length = ps.length → bindArgs (PySem.W.fnOf x qual (defArgs st) (defBody st) (defScope st) .none kV doc pm an cdv ct) ⟨us, []⟩ = pure (ps.zip us)) : Binds K fd ps [] := by
  obtain ⟨oc, od, kV, doc, pm, an, cdv, ct, osl, rfl, lk, hcd⟩ := F.ex
  exact .all (h kV doc pm an cdv ct)
theorem fun_mk {x qual : Str} {st : Stmt} {f : Addr} {oc : Value} {od an : Option Addr} {osl : Array (Option Value)} {kV doc pm cdv ct : Value} (l : K.lookup f = some ⟨oc, od, .func (PySem.W.fnOf x qual (defArgs st) (defBody st) (defScope st) .none kV doc pm an cdv ct), osl⟩)
    (c : PySem.W.codeIn K cdv qual = true) (k : PySem.W.keepIn K (.ref f) = true) : Fun K x qual st f (PySem.W.fnOf x qual (defArgs st) (defBody st) (defScope st) .none kV doc pm an cdv ct) := ⟨⟨oc, od, kV, doc, pm, an, cdv, ct, osl, rfl, l, c⟩, k⟩
end
theorem small1000 {n : Nat} (h : n ≤ 1000) : n < sizeLine := Nat.lt_of_le_of_lt h (by decide)
section
variable {X : Cx}
theorem pv (i : Nat) {x : Str} {pos : Pos} (hN : X.N[i]? = some x := by rfl) (hv : Vis X.env.scope x := by first | exact Or.inl rfl | exact Or.inr (Or.inl rfl) | exact Or.inr (Or.inr rfl)) (hd : (x == ("__debug__" : Str)) = false := by decide)
    (hcd : (x == ("__classdict__" : Str)) = false := by decide) : PE X (.Name x pos) (tVar i) := pe_var hN hv hd hcd
end
theorem iteF {A B : Prop} (h : B) : if false = true then A else B := by
  rw [if_neg Bool.false_ne_true]
  exact h
theorem iteT {A B : Prop} (h : A) : if true = true then A else B := by
  rw [if_pos rfl]
  exact h
theorem ite2 {c A B : Prop} [Decidable c] (h1 : c → A) (h2 : ¬ c → B) : if c then A else B := by
  by_cases h : c
  · rw [if_pos h]
    exact h1 h
  · rw [if_neg h]
    exact h2 h
/-- all that was tracked is as it was -/
def Same (H H' : Hp) : Prop := ∀ b o, H b = some o → H' b = some o
theorem Same.refl (H : Hp) : Same H H := fun _ _ h => h
theorem Same.trans {H H1 H2 : Hp} (a : Same H H1) (b : Same H1 H2) : Same H H2 := fun c o h => b c o (a c o h)
theorem Same.free {H H' : Hp} (e : Same H H') {l : Addr} (h : H' l = Option.none) : H l = Option.none := by
  cases q : H l with
  | none => rfl
  | some o =>
    rw [e l o q] at h
    cases h
theorem Same.seq {K : PySem.W.Frag} {H H' : Hp} {a : Addr} {xs : List V} (e : Same H H') (h : SqL K H a xs) : SqL K H' a xs := by
  rcases h with (h | ⟨o, h⟩) | h
  · exact .inl (.inl (e _ _ h))
  · exact .inl (.inr ⟨o, e _ _ h⟩)
  · exact .inr h
end L2
namespace L2
open PySem PySem.Spec PyProof.Rows
section
variable {X : Cx}
end
section
variable {κ : Type} [DecidableEq κ]
end
end L2
set_option Elab.async false
set_option linter.all false
set_option maxRecDepth 100000
set_option maxHeartbeats 4000000
namespace L2
open PySem PySem.Spec PyProof.Rows
/-- the signs of a text, one by one -/
def Its (x : Str) : It := ⟨fun i _ => i < x.cps.size, fun i H y H' => H' = H ∧ ∃ c, x.cps[i]? = some c ∧ y = .str ⟨#[c]⟩, fun i _ => i = x.cps.size⟩
theorem turn_strG {P : Program} {w : World} {K : PySem.W.Frag} {tg : Expr} {x : Str} {t : Tok} {it : Addr} {ty : String}
    (hn : ["enumerate", "zip", "dict_itemiterator", "dict_reverseitemiterator", "odict_iterator", "itertools.zip_longest", "itertools.pairwise"].contains ty = false)
    (W : ∀ A' : Around, A'.handled = none → Walks P w A' it [it] [it] x.cps.size (SignAt x) (fun i h => h.IsStrIter it ty x t i))
    (hself : ∀ (A : Around) (i : Nat) (s : Shared) (Q : Value → Shared → Prop) (E : Value → Shared → Prop), s.heap.IsStrIter it ty x t i → Q (.ref it) s → wpAny (model P w) A (pyIter (.ref it)) Q E s) :
    Turn P w K tg (Its x) [it] it (fun i h => h.IsStrIter it ty x t i) where
  mem := List.mem_singleton.mpr rfl
  obj := fun i h st b hb => by
    cases List.mem_singleton.mp hb
    obtain ⟨o, q, _, d⟩ := st
    exact ⟨o, q, fun v z => by rw [d] at z; cases z⟩
  keep := fun i h h' st k => by
    obtain ⟨o, q, r⟩ := st
    exact ⟨o, k it (List.mem_singleton.mpr rfl) o q, r⟩
  item := by
    intro X e1 e2 e3 hc i pins s σ H E I hf st hg
    subst e1 e2 e3
    have F := hf it (List.mem_singleton.mpr rfl)
    refine (W X.A (I.ok.hd hc)).item i s _ _ hg st fun v h' tk hv st' kk => ?_
    obtain ⟨c, u, hx, rfl⟩ := hv
    have J : Inv X pins σ H { s with heap := h', toks := tk } := I.turned (fun b o hb q => kk b o (fun z => hb (List.mem_singleton.mp z)) q) F.1 F.2.1 F.2.2.2.1 F.2.2.2.2.1 F.2.2.2.2.2
    obtain ⟨o, q, cc, d⟩ := id st'
    exact ⟨_, rfl, go_of (s := { s with heap := h', toks := tk }) q cc d hn ⟨.str ⟨#[c]⟩, H, J, ⟨u, rfl⟩, ⟨rfl, c, hx, rfl⟩, st', fun b hb => (hf b hb).1⟩⟩
  done := by
    intro X e1 e2 e3 hc i pins s σ H E I hf st hg
    subst e1 e2 e3
    have F := hf it (List.mem_singleton.mpr rfl)
    have g : i = x.cps.size := hg
    subst g
    exact (W X.A (I.ok.hd hc)).done s _ _ st fun h' tk kk => ⟨rfl, I.turned (fun b o hb q => kk b o (fun z => hb (List.mem_singleton.mp z)) q) F.1 F.2.1 F.2.2.2.1 F.2.2.2.2.1 F.2.2.2.2.2⟩
  self := hself
inductive iStr_I (R : (It → Hp → Prop)) (x : V) (H1 : Hp) : Prop
  | mk : ∀ y, x = .str y → R (Its y) H1 → iStr_I R x H1
def iStr (te : TE) : TI := fun σ H R => te σ H fun x H1 => iStr_I R x H1
theorem pi_str {X : Cx} {tg l : Expr} {tl : TE} (hl : PE X l tl) : PI X tg l (iStr tl) := by
  intro pins s σ H R I h
  refine thn (hl pins s σ H _ I h) fun v s1 ⟨x, H1, I1, r1, y, e, q⟩ => ?_
  subst e
  obtain ⟨t, rfl⟩ := r1
  have fp : ∀ b ∈ [s1.heap.objs.size], FpOk X pins H1 b := fun b hb => by
    cases List.mem_singleton.mp hb
    exact I1.fpOk (Nat.le_refl _) (I1.hok.fresh (Nat.le_refl _))
  cases ha : y.cps.all (· < 128)
  · refine wpAny_pyIter_wide ha ?_
    exact ⟨s1.heap.objs.size, [s1.heap.objs.size], _, _, H1, rfl, I1.kept (t' := s1.toks) fun b o z => Heap.get?_push_of_some _ z,
      turn_strG (x := y) (t := t) (ty := "str_iterator") (by decide) (fun A' hA => Walks.strWide hA _ y t) (fun _ _ _ _ _ st hq => wpAny_pyIter_striter_wide st hq), ⟨_, Heap.get?_push_size _ rfl, rfl, rfl⟩, fp, q⟩
  · refine wpAny_pyIter_ascii ha ?_
    exact ⟨s1.heap.objs.size, [s1.heap.objs.size], _, _, H1, rfl, I1.kept (t' := s1.toks) fun b o z => Heap.get?_push_of_some _ z,
      turn_strG (x := y) (t := t) (ty := "str_ascii_iterator") (by decide) (fun A' hA => Walks.strAscii hA _ y t) (fun _ _ _ _ _ st hq => wpAny_pyIter_striter_ascii st hq), ⟨_, Heap.get?_push_size _ rfl, rfl, rfl⟩, fp, q⟩
/-- the cells that a comprehension takes from around it -/
def closOf (cells : List (Str × Addr)) : List (Str × NameKind) → List (Str × Addr) → List (Str × Addr)
  | [], cs => cs
  | (n, k) :: r, cs => closOf cells r (if k == .free then (match cells.lookup n with | some c => (n, c) :: cs | none => cs) else cs)
theorem closureFor_of {scope : Scope} {env : Env} (h : ∀ y ∈ scope.names, y.2 = .free → ∃ c, env.cells.lookup y.1 = some c) : closureFor scope env = pure (closOf env.cells scope.names []) := by
  unfold closureFor
  generalize ([] : List (Str × Addr)) = cs
  revert cs
  generalize scope.names = names at h
  induction names with
  | nil => intro cs; rfl
  | cons p r ih =>
    obtain ⟨n, k⟩ := p
    intro cs
    have ih' := ih fun y hy => h y (List.mem_cons_of_mem _ hy)
    by_cases hk : k = .free
    · subst hk
      obtain ⟨c, hc⟩ := h (n, .free) List.mem_cons_self rfl
      have e : cellOf env n = pure c := by unfold cellOf; rw [hc] <;> rfl
      dsimp only at hc ⊢
      rw [List.forIn_cons]
      simp only [beq_self_eq_true, if_true, closOf, hc]
      rw [e]
      exact ih' _
    · have hb : (k == NameKind.free) = false := by simpa using hk
      dsimp only
      rw [List.forIn_cons]
      simp only [hb, Bool.false_eq_true, if_false, closOf]
      exact ih' _
theorem closOf_sub {cells : List (Str × Addr)} : ∀ (names : List (Str × NameKind)) (cs : List (Str × Addr)) {y : Str} {c : Addr}, (closOf cells names cs).lookup y = some c → cells.lookup y = some c ∨ cs.lookup y = some c
  | [], cs, y, c, h => .inr h
  | (n, k) :: r, cs, y, c, h => by
    rcases closOf_sub r _ (show (closOf cells r _).lookup y = some c from h) with h1 | h1
    · exact .inl h1
    · split at h1
      · split at h1
        · rename_i c' hc'
          rw [List.lookup_cons] at h1
          split at h1
          · rename_i e
            cases h1
            exact .inl (by rw [eq_of_beq e]; exact hc')
          · exact .inr h1
        · exact .inr h1
      · exact .inr h1
theorem closOf_keep {cells : List (Str × Addr)} : ∀ (names : List (Str × NameKind)) (cs : List (Str × Addr)) {y : Str}, (∃ c, cs.lookup y = some c) → ∃ c, (closOf cells names cs).lookup y = some c
  | [], cs, y, h => h
  | (n, k) :: r, cs, y, h => by
    refine closOf_keep r _ ?_
    split
    · split
      · rw [List.lookup_cons]
        split
        · exact ⟨_, rfl⟩
        · exact h
      · exact h
    · exact h
theorem closOf_has {cells : List (Str × Addr)} : ∀ (names : List (Str × NameKind)) (cs : List (Str × Addr)) {y : Str}, (y, NameKind.free) ∈ names → (∃ c, cells.lookup y = some c) → ∃ c, (closOf cells names cs).lookup y = some c
  | (n, k) :: r, cs, y, hy, hc => by
    rcases List.mem_cons.mp hy with e | hy
    · cases e
      refine closOf_keep r _ ?_
      obtain ⟨c, hc⟩ := hc
      simp only [beq_self_eq_true, if_true, hc]
      exact ⟨c, by simp [List.lookup_cons]⟩
    · exact closOf_has r _ hy hc
def relF (env : Env) (p : Str × NameKind) : Str × NameKind := if (p.2 == NameKind.free && env.scope.kind == .function && env.kindOf p.1 == some .cell) = true then (p.1, NameKind.cell) else (p.1, p.2)
theorem relF_free {env : Env} : ∀ {names : List (Str × NameKind)} {x : Str}, names.lookup x = some .free → (names.map (relF env)).lookup x = some .cell ∨ (names.map (relF env)).lookup x = some .free
  | [], _, h => by simp at h
  | (n, k) :: r, x, h => by
    have ih := @relF_free env r x
    rw [List.map_cons]
    unfold relF
    cases hx : x == n with
    | true =>
      rw [List.lookup_cons, hx] at h
      cases h
      by_cases hc : (NameKind.free == NameKind.free && env.scope.kind == .function && env.kindOf n == some .cell) = true
      · left; rw [if_pos hc, List.lookup_cons, hx]
      · right; rw [if_neg hc, List.lookup_cons, hx]
    | false =>
      rw [List.lookup_cons, hx] at h
      by_cases hc : (k == NameKind.free && env.scope.kind == .function && env.kindOf n == some .cell) = true
      · rw [if_pos hc, List.lookup_cons, hx]; exact ih h
      · rw [if_neg hc, List.lookup_cons, hx]; exact ih h
theorem lookup_relabel_free {scope : Scope} {env : Env} {x : Str} (h : scope.names.lookup x = some .free) : (relabel scope env).names.lookup x = some .cell ∨ (relabel scope env).names.lookup x = some .free :=
  relF_free (env := env) h
theorem relabel_kind {scope : Scope} {env : Env} (nc : ∀ y ∈ scope.names, y.2 ≠ .cell) {y : Str} (h : (relabel scope env).names.lookup y = some .cell ∨ (relabel scope env).names.lookup y = some .free) : (y, NameKind.free) ∈ scope.names := by
  have key : ∀ k, (relabel scope env).names.lookup y = some k → k = .cell ∨ k = .free → (y, NameKind.free) ∈ scope.names := fun k e hk => by
    have m := PySem.mem_of_lookup e
    obtain ⟨⟨n, k'⟩, hm, q⟩ := List.mem_map.mp m
    dsimp only at q
    split at q
    · rename_i c
      have c1 : (k' == NameKind.free) = true := by
        simp only [Bool.and_eq_true] at c
        exact c.1.1
      have c2 : k' = .free := eq_of_beq c1
      cases q
      rw [c2] at hm
      exact hm
    · cases q
      rcases hk with z | z
      · exact absurd z (nc _ hm)
      · rw [z] at hm; exact hm
  rcases h with h | h
  · exact key _ h (.inl rfl)
  · exact key _ h (.inr rfl)
/-- what of a comprehension's scope is asked: sc the scope around it, N the names around it, x its own name, fr the slots and names that it takes from around -/
structure CompScope (sc scope : Scope) (N : List Str) (x : Str) (fr : List (Nat × Str)) : Prop where
  kind : scope.kind = .function
  loc : scope.names.lookup x = some .local
  names : ∀ y ∈ scope.names, y.2 = .local → scope.names.lookup y.1 = some .local
  nocell : ∀ y ∈ scope.names, y.2 ≠ .cell
  free : ∀ y ∈ scope.names, y.2 = .free → sc.names.lookup y.1 = some .cell ∨ sc.names.lookup y.1 = some .free
  frk : ∀ p ∈ fr, N[p.1]? = some p.2 ∧ scope.names.lookup p.2 = some .free
  nd : (x :: fr.map (·.2)).Nodup
/-- the context of a comprehension's block -/
def cxComp (X : Cx) (scope : Scope) (C : Addr) (N : List Str) (s : Shared) (H : Hp) (fp : List Addr) : Cx where
  prog := X.prog
  w := X.w
  K := X.K
  mg := X.mg
  base := X.base
  A := X.A
  N := N
  s₀ := s
  H₀ := H
  env := compEnvC scope (closOf X.env.cells scope.names []) C X.env
  outer := X.stack
  stack := X.stack
  ex := fp
  fn := fun _ => false
  calm := X.calm
  pn := []
  xe := fun _ _ => False
def frV (σ : St) (fr : List (Nat × Str)) : St := fr.map fun p => (σ[p.1]?).join
/-- the tests of a comprehension -/
def PTs (X : Cx) (ifs : List Expr) (t : TT) : Prop :=
  ∀ (pins : List (Addr × Obj)) (s : Shared) (σ : St) (H : Hp) (Q : Bool → Hp → Prop), Inv X pins σ H s → t σ H Q →
    wpAny (model X.prog X.w) X.A (forIn ifs true fun c r => if r = true then do let ok ← isTrue c X.env (eval c X.env); pure (ForInStep.yield ok) else pure (ForInStep.yield r)) (TP X pins σ Q) X.xe s
def tTrue : TT := fun _ H Q => Q true H
theorem tTrue_go {σ : St} {H : Hp} {Q : Bool → Hp → Prop} (h : Q true H) : tTrue σ H Q := h
theorem pts_nil {X : Cx} : PTs X [] tTrue := fun _ _ _ H _ I h => wpAny_tests_nil ⟨H, I, h⟩
/-- [elt for x in iter if ..]: the list D grows by the turn; W its invariant with a measure -/
def compGoal (J : It) (fr : List (Nat × Str)) (tt : TT) (te : TE) (σ : St) (H1 : Hp) (Q : VK) : Prop := ∀ D, H1 D = none →
  ∃ W : Nat → Nat → List V → Hp → Prop, (∃ m, W 0 m [] (upd H1 D (.lst []))) ∧ ∀ i m ys H2, W i m ys H2 → H2 D = some (.lst ys) ∧
    ((J.stop i H2 ∧ Q (.ref D) H2) ∨ (J.go i H2 ∧ ∀ v H3, J.yld i H2 v H3 → tt (some v :: frV σ fr) H3 fun b H4 =>
      if b = true then te (some v :: frV σ fr) H4 fun y H5 => H5 D = some (.lst ys) ∧ ys.length < sizeLine ∧ ∃ m', m' < m ∧ W (i + 1) m' (ys ++ [y]) (upd H5 D (.lst (ys ++ [y])))
      else ∃ m', m' < m ∧ W (i + 1) m' ys H4))
def tComp (wi : TI) (fr : List (Nat × Str)) (tt : TT) (te : TE) : TE := fun σ H Q => wi σ H fun J H1 => compGoal J fr tt te σ H1 Q
/-- what is known of the block's own namespace from outside -/
structure FreshC (X : Cx) (pins : List (Addr × Obj)) (H : Hp) (C : Addr) : Prop where
  hn : H C = none
  hL : C ≠ X.env.locals
  h1 : C ∈ X.ex ∨ X.s₀.heap.objs.size ≤ C
  h2 : ∀ x c, X.env.cells.lookup x = some c → c ≠ C
  h3 : ∀ p ∈ X.pn ++ pins, p.1 ≠ C
theorem comp_run {X : Cx} {x : Str} {px : Pos} {iter elt : Expr} {ifs : List Expr} {scope sc : Scope} {pos pos' : Pos} {N : List Str} {fr : List (Nat × Str)} {wi : TI} {tt : TT} {te : TE}
    {pins : List (Addr × Obj)} {s : Shared} {σ : St} {H : Hp} {Q : VK} {Q' : Value → Shared → Prop} {use : Option (Value → Sem Unit)}
    (S : CompScope sc scope N x fr) (hsc : X.env.scope = sc) (hN : X.N = N) (hc : X.calm = true) (hi : PI X (.Name x px) iter wi)
    (ht : ∀ (C : Addr) (s : Shared) (H : Hp) (fp : List Addr), PTs (cxComp X scope C (x :: fr.map (·.2)) s H fp) ifs tt)
    (he : ∀ (C : Addr) (s : Shared) (H : Hp) (fp : List Addr), PE (cxComp X scope C (x :: fr.map (·.2)) s H fp) elt te)
    (hs : ∀ z, foldedSetIterable iter X.env z = pure z) (I : Inv X pins σ H s) (h : tComp wi fr tt te σ H Q)
    (hfin : ∀ (D C : Addr) (H' : Hp) (s' : Shared) (m : Str → Option Value), Inv X pins σ H' s' → s'.heap.Ns C m → FreshC X pins H' C → Q (.ref D) H' → compPost (model X.prog X.w) X.A X.xe use Q' (.ref D) C (.ok .next) s') :
    wpAny (model X.prog X.w) X.A (comprehension (.ListComp elt [⟨.Name x px, iter, ifs, 0⟩] scope pos) scope X.env pos' (newList []) false (eval iter X.env) use) Q' X.xe s := by
  have kin : ∀ y, scope.names.lookup y = some .free → X.env.kindOf y = some .cell ∨ X.env.kindOf y = some .free := fun y hy => by
    show X.env.scope.names.lookup y = _ ∨ X.env.scope.names.lookup y = _
    rw [hsc]
    exact S.free (y, .free) (PySem.mem_of_lookup hy) rfl
  have kin' : ∀ y ∈ scope.names, y.2 = .free → X.env.kindOf y.1 = some .cell ∨ X.env.kindOf y.1 = some .free := fun y hy hf => by
    show X.env.scope.names.lookup y.1 = _ ∨ X.env.scope.names.lookup y.1 = _
    rw [hsc]
    exact S.free y hy hf
  have hkc : ∀ y ∈ scope.names, y.2 = .free → ∃ c, X.env.cells.lookup y.1 = some c := fun y hy hf => I.ok.has y.1 (kin' y hy hf)
  refine wpAny_comprehension_free (use := use) rfl hs (closureFor_of hkc) S.kind S.names ?_
  refine thn (hi pins s σ H _ I h) fun xv s1 h1 => thn h1 fun itv s2 h2 => ?_
  obtain ⟨it, fp, tn, J, H2, rfl, I2, T, st2, f2, q2⟩ := h2
  refine wpAny_newObj_type (wpAny_newFunctionEnv S.nocell (by intro y hy; simp at hy) (fun h₁ hns₁ hsb₁ => ?_) S.kind)
  dsimp only at hns₁ hsb₁ ⊢
  have I3 : Inv X pins σ (upd H2 s2.heap.objs.size (.lst [])) { s2 with heap := s2.heap.push { cls := .type "list", data := .seq ([] : List Value).toArray } } :=
    I2.lnew (its := []) (t' := s2.toks) .nil (Nat.zero_le _)
  unfold compGoal at q2
  obtain ⟨W, ⟨m0, w0⟩, turn⟩ := q2 s2.heap.objs.size (I2.hok.fresh (Nat.le_refl _))
  generalize hG : s2.heap.push { cls := .type "list", dict := none, data := .seq ([] : List Value).toArray } = G at hns₁ hsb₁ I3 ⊢
  generalize hD : s2.heap.objs.size = D at I3 turn w0 ⊢
  generalize hH3 : upd H2 D (.lst []) = H3 at I3 w0
  have neG : ∀ b o, G.get? b = some o → b ≠ G.objs.size := fun b o e => Nat.ne_of_lt (Heap.lt_size e)
  have old : ∀ b o, G.get? b = some o → h₁.get? b = some o := fun b o e => (hsb₁.2 b (neG b o e)).trans (Heap.get?_push_of_some _ e)
  have up2 : ∀ b o, s2.heap.get? b = some o → G.get? b = some o := fun b o e => by rw [← hG]; exact Heap.get?_push_of_some _ e
  have fpG : ∀ b ∈ fp, b < G.objs.size := fun b hb => by
    obtain ⟨o, e, _⟩ := T.obj _ _ st2 b hb
    exact Heap.lt_size (up2 b o e)
  have sub : ∀ {y : Str} {c : Addr}, (closOf X.env.cells scope.names []).lookup y = some c → X.env.cells.lookup y = some c := fun {y c} e => by
    rcases closOf_sub _ _ e with z | z
    · exact z
    · simp at z
  have stat0 : ∀ b ∈ fp, (b ∈ X.ex ∨ X.s₀.heap.objs.size ≤ b) ∧ b ≠ X.env.locals ∧ (∀ x c, X.env.cells.lookup x = some c → c ≠ b) ∧ ∀ p ∈ X.pn ++ pins, p.1 ≠ b := fun b hb =>
    ⟨(f2 b hb).2.2.2.1, (f2 b hb).2.1, (f2 b hb).2.2.2.2.1, (f2 b hb).2.2.2.2.2⟩
  have hCL : G.objs.size ≠ X.env.locals := Nat.ne_of_gt I3.lt
  have hC1 : X.s₀.heap.objs.size ≤ G.objs.size := I3.sz
  have hC2 : ∀ x c, X.env.cells.lookup x = some c → c ≠ G.objs.size := fun x c e => by
    obtain ⟨v, o, ho, _⟩ := I3.cell x c e
    exact neG c o ho
  have hC3 : ∀ p ∈ X.pn ++ pins, p.1 ≠ G.objs.size := fun p hp => neG p.1 p.2 (I3.pin p hp).1
  have okB : (cxComp X scope G.objs.size (x :: fr.map (·.2)) { s2 with heap := G } H3 fp).Ok := by
    refine ⟨I2.ok.mod, S.kind, I2.ok.glob, I2.ok.blt, Nat.le_refl _, fun y z c e1 e2 => I2.ok.inj y z c (sub e1) (sub e2), fun y hy => ?_, fun y c z => Bool.noConfusion z, I2.ok.hd, I2.ok.frames, .inl rfl, fun b hb => ⟨Nat.ne_of_lt (fpG b hb), fun y c e => (stat0 b hb).2.2.1 y c (sub e)⟩,
      fun b o e => I3.bs b o e, Nat.le_trans I2.ok.bsz I3.sz, fun b o e hb => ?_, fun b hb hf => ?_, I3.stack, I3.stkFree⟩
    · have m := relabel_kind S.nocell hy
      exact closOf_has _ _ m (hkc _ m rfl)
    · rcases (stat0 b hb).1 with z | z
      · exact I2.ok.noex b o e z
      · exact absurd (Nat.lt_of_lt_of_le (Heap.lt_size e) (Nat.le_trans I2.ok.bsz z)) (Nat.lt_irrefl _)
    · rcases List.mem_cons.mp (I2.stkSub b hf) with z | z
      · exact (stat0 b hb).2.1 z
      · exact (f2 b hb).2.2.1 z
  have I4 : ∀ tk : Nat, Inv (cxComp X scope G.objs.size (x :: fr.map (·.2)) { s2 with heap := G } H3 fp) [] (none :: frV σ fr) H3 { s2 with heap := h₁, toks := tk } := fun tk => by
    refine ⟨okB, rfl, I2.bare, Un.kept old, ⟨_, hns₁, fun i y v e1 e2 _ => ?_⟩, fun y c e => ?_, I3.hok.fresh (Nat.le_refl _), fun y c e => I3.freeC y c (sub e), fun p hp => absurd (show p ∈ ([] : List (Addr × Obj)) from hp) (by simp), I3.hok.kept old, ?_⟩
    · cases i with
      | zero => simp at e2
      | succ i =>
        have e1' : (fr.map (·.2))[i]? = some y := e1
        have e2' : (fr.map fun p => (σ[p.1]?).join)[i]? = some (some v) := e2
        rw [List.getElem?_map] at e1' e2'
        cases hp : fr[i]? with
        | none => rw [hp] at e1'; cases e1'
        | some p =>
          rw [hp] at e1' e2'
          have ey : p.2 = y := Option.some.inj e1'
          have ev : (σ[p.1]?).join = some v := Option.some.inj e2'
          have ev' : σ[p.1]? = some (some v) := by
            cases q : σ[p.1]? with
            | none => rw [q] at ev; cases ev
            | some o => rw [q] at ev; simp only [Option.join] at ev; exact congrArg some ev
          have hf := S.frk p (List.mem_of_getElem? hp)
          rw [ey] at hf
          have hk := kin y hf.2
          obtain ⟨m, _, hl⟩ := I2.loc
          obtain ⟨u, ru, l⟩ := hl p.1 y v (by rw [hN]; exact hf.1) ev' (.inr hk)
          refine ⟨u, ru, .inr ⟨lookup_relabel_free hf.2, ?_⟩⟩
          rcases l with ⟨k, _⟩ | ⟨_, c, e, z⟩
          · rcases hk with hk | hk
            · rw [hk] at k; cases k
            · rw [hk] at k; cases k
          · obtain ⟨c', ec⟩ := closOf_has (cells := X.env.cells) scope.names [] (PySem.mem_of_lookup hf.2) ⟨c, e⟩
            have := sub ec
            rw [e] at this
            cases this
            obtain ⟨o, ho, hd⟩ := z
            exact ⟨c, ec, o, old c o (up2 c o ho), hd⟩
    · obtain ⟨v, o, ho, hd⟩ := I2.cell y c (sub e)
      exact ⟨v, o, old c o (up2 c o ho), hd⟩
    · show (none :: frV σ fr).length = (x :: fr.map (·.2)).length
      simp [frV]
  have locX : (cxComp X scope G.objs.size (x :: fr.map (·.2)) { s2 with heap := G } H3 fp).env.scope.names.lookup x = some .local := lookup_relabel_local S.loc
  generalize hX : cxComp X scope G.objs.size (x :: fr.map (·.2)) { s2 with heap := G } H3 fp = Y at I4 locX
  have eP : Y.prog = X.prog := by rw [← hX]; rfl
  have eW : Y.w = X.w := by rw [← hX]; rfl
  have eK : Y.K = X.K := by rw [← hX]; rfl
  have eA : Y.A = X.A := by rw [← hX]; rfl
  have eC : Y.calm = true := by rw [← hX]; exact hc
  have eE : Y.env = compEnvC scope (closOf X.env.cells scope.names []) G.objs.size X.env := by rw [← hX]; rfl
  have eN : Y.N = x :: fr.map (·.2) := by rw [← hX]; rfl
  have eX : Y.xe = fun _ _ => False := by rw [← hX]; rfl
  have eB : ∀ {σ' : St} {H' : Hp} {s' : Shared} {pins' : List (Addr × Obj)}, Inv Y pins' σ' H' s' → s'.os = s2.os ∧ Un (frs X.stack) fp H3 H' G s'.heap := fun {σ' H' s' pins'} J => by
    subst hX
    exact ⟨J.os, J.base⟩
  have hT := ht G.objs.size { s2 with heap := G } H3 fp
  have hE := he G.objs.size { s2 with heap := G } H3 fp
  rw [hX] at hT hE
  have fpY : ∀ {H' : Hp}, (∀ b ∈ fp, H' b = none) → ∀ b ∈ fp, FpOk Y [] H' b := fun {H'} hn b hb => by
    subst hX
    refine ⟨hn b hb, Nat.ne_of_lt (fpG b hb), okB.exfs b hb, .inl hb, fun y c e => (okB.exf b hb).2 y c e, fun p hp => absurd (show p ∈ ([] : List (Addr × Obj)) from hp) (by simp)⟩
  have loop : ∀ s3 : Shared, (∃ tk, s3 = { s2 with heap := h₁, toks := tk }) →
      codeAny (model X.prog X.w) X.A (.compLoop (.ListComp elt [⟨.Name x px, iter, ifs, 0⟩] scope pos) 0 (.ref it) (.ref D) Y.env)
        (compPost (model X.prog X.w) X.A X.xe use Q' (.ref D) G.objs.size) s3 := by
    rintro s3 ⟨tk, rfl⟩
    refine codeAny_compLoop_tests (fun n s' => ∃ i ys o H', Inv Y [] (o :: frV σ fr) H' s' ∧ tn i s'.heap ∧ (∀ b ∈ fp, H' b = none) ∧ W i n ys H') ?_ m0
      ⟨0, [], none, H3, I4 tk, T.keep _ _ _ st2 fun b hb o e => old b o (up2 b o e), fun b hb => ?_, w0⟩
    · rintro n s' ⟨i, ys, o, H', J', st', fr', w'⟩
      obtain ⟨hD', hgo⟩ := turn i n ys H' w'
      rcases hgo with ⟨stop, qn⟩ | ⟨go, step⟩
      · have Q1 := T.done Y eP eW eK eC i [] s' (o :: frV σ fr) H' (notedBy (model X.prog X.w) X.A Y.env fun e s'' => compPost (model X.prog X.w) X.A X.xe use Q' (.ref D) G.objs.size (.error e) s'') J' (fpY fr') st' stop
        rw [eA] at Q1
        refine thn Q1 fun r s4 ⟨hr, J4⟩ => ?_
        subst hr
        obtain ⟨m, hn, _⟩ := J4.loc
        rw [eE] at hn
        obtain ⟨os4, u4⟩ := eB J4
        have free4 : H' G.objs.size = none := by have := J4.free; rw [eE] at this; exact this
        have hok4 : HOk X.prog X.w H' s4.heap := by have := J4.hok; rw [eP, eW] at this; exact this
        exact hfin D G.objs.size H' s4 m (I3.call' (ch := fp) (s' := s4) os4 u4 hok4 J4.bare stat0) hn ⟨free4, hCL, .inr hC1, hC2, hC3⟩ qn
      · have Q1 := T.item Y eP eW eK eC i [] s' (o :: frV σ fr) H' (notedBy (model X.prog X.w) X.A Y.env fun e s'' => compPost (model X.prog X.w) X.A X.xe use Q' (.ref D) G.objs.size (.error e) s'') J' (fpY fr') st' go
        rw [eA] at Q1
        refine thn Q1 fun r s4 ⟨u, hr, h4⟩ => ?_
        subst hr
        show wpAny _ _ (letOwnedTupleGo (.Name x px) (.ref it) u >>= fun _ => assign (.Name x px) Y.env u) _ _ s4
        refine wpAny_bind (thn h4 fun _ s5 ⟨v, H5, J5, r5, y5, st5, fr5⟩ => ?_)
        have J5' := J5.pinned (fpY fr5) (T.obj _ _ st5)
        have G5 := pg_name (X := Y) (i := 0) (x := x) (pos := px) (by rw [eN]; exact S.nd) (by rw [eN]; rfl) (.inl locX) (.inr locX) ([] ++ pinsAt fp s5.heap) s5 (o :: frV σ fr) H5 v u (fun σ6 H6 => σ6 = some v :: frV σ fr ∧ H6 = H5) J5' r5 ⟨rfl, rfl⟩
        rw [eP, eW, eA, eX] at G5
        refine wpAny_mono G5 (fun _ s6 ⟨σ6, H6, J6, e6, e6'⟩ => ?_) fun _ _ z => z.elim
        subst e6 e6'
        have T6 := hT _ s6 _ _ _ J6 (step v _ y5)
        rw [eP, eW, eA, eX] at T6
        have again : ∀ {s7 : Shared} {H7 : Hp} {zs : List V}, Inv Y ([] ++ pinsAt fp s5.heap) (some v :: frV σ fr) H7 s7 → (∃ m', m' < n ∧ W (i + 1) m' zs H7) → ∃ m, m < n ∧ ∃ i ys o H', Inv Y [] (o :: frV σ fr) H' s7 ∧ tn i s7.heap ∧ (∀ b ∈ fp, H' b = none) ∧ W i m ys H' := fun {s7 H7 zs} J7 ⟨m', hm, w7⟩ => by
          refine ⟨m', hm, i + 1, zs, some v, H7, J7.unpinned, T.keep _ _ _ st5 fun b hb o e => (J7.pin (b, o) (List.mem_append_right _ (List.mem_append_right _ (mem_pinsAt hb e)))).1, fun b hb => ?_, w7⟩
          obtain ⟨o, e, d⟩ := T.obj _ _ st5 b hb
          exact (J7.pin (b, o) (List.mem_append_right _ (List.mem_append_right _ (mem_pinsAt hb e)))).2.1
        refine wpAny_mono T6 (fun ok s7 ⟨H7, J7, q7⟩ => ?_) fun _ _ z => z.elim
        cases ok with
        | false => exact again J7 q7
        | true =>
          have E7 := hE _ s7 _ _ _ J7 q7
          rw [eP, eW, eA, eX] at E7
          show wpAny _ _ (eval elt Y.env) _ _ s7
          refine wpAny_mono E7 (fun u8 s8 ⟨y8, H8, J8, r8, hD8, hz8, w8⟩ => ?_) fun _ _ z => z.elim
          have A8 := mt_append (X := Y) _ s8 _ H8 (.ref D) [y8] (.ref D) [u8] (fun z H9 => H9 = upd H8 D (.lst (ys ++ [y8]))) J8 rfl (.cons r8 .nil) ⟨D, ys, y8, rfl, rfl, hD8, hz8, rfl⟩
          rw [eP, eW, eA, eX] at A8
          refine wpAny_mono A8 (fun _ s9 ⟨z9, H9, J9, _, e9⟩ => ?_) fun _ _ z => z.elim
          subst e9
          exact again J9 w8
    · rw [← hH3]
      have hbD : b ≠ D := by
        rw [← hD]
        obtain ⟨o, e, _⟩ := T.obj _ _ st2 b hb
        exact Nat.ne_of_lt (Heap.lt_size e)
      rw [upd_ne hbD]
      exact (f2 b hb).1
  rw [eE] at loop
  exact codeAny_compStart_list (loop _ ⟨_, rfl⟩) (T.self _ 0 _ _ _ (T.keep _ _ _ st2 fun b hb o e => old b o (up2 b o e)) (loop _ ⟨_, rfl⟩))
theorem pe_comp {X : Cx} {x : Str} {px : Pos} {iter elt : Expr} {ifs : List Expr} {scope sc : Scope} {pos : Pos} {N : List Str} {fr : List (Nat × Str)} {wi : TI} {tt : TT} {te : TE}
    (S : CompScope sc scope N x fr) (hsc : X.env.scope = sc) (hN : X.N = N) (hc : X.calm = true) (hi : PI X (.Name x px) iter wi)
    (ht : ∀ (C : Addr) (s : Shared) (H : Hp) (fp : List Addr), PTs (cxComp X scope C (x :: fr.map (·.2)) s H fp) ifs tt)
    (he : ∀ (C : Addr) (s : Shared) (H : Hp) (fp : List Addr), PE (cxComp X scope C (x :: fr.map (·.2)) s H fp) elt te)
    (hs : ∀ z, foldedSetIterable iter X.env z = pure z := by intro _; rfl) :
    PE X (.ListComp elt [⟨.Name x px, iter, ifs, 0⟩] scope pos) (tComp wi fr tt te) := by
  intro pins s σ H Q I h
  rw [eval_ListComp]
  refine comp_run (use := none) S hsc hN hc hi ht he hs I h fun D C H' s' m J hn fc q => ?_
  exact ⟨m, hn, fun h' hs' => ⟨.ref D, H', J.turned (t' := s'.toks) (fun b o hb e => (hs'.2 b hb).trans e) fc.hn fc.hL fc.h1 fc.h2 fc.h3, rfl, q⟩⟩
/-- name = [.. for ..], the name a plain local -/
theorem ps_setComp {X : Cx} {x y : Str} {px py spos : Pos} {i : Nat} {iter elt : Expr} {ifs : List Expr} {scope sc : Scope} {pos : Pos} {N : List Str} {fr : List (Nat × Str)} {wi : TI} {tt : TT} {te : TE}
    (S : CompScope sc scope N x fr) (hsc : X.env.scope = sc) (hN : X.N = N) (hc : X.calm = true) (hnd : X.N.Nodup) (hiy : X.N[i]? = some y) (hy : X.env.scope.names.lookup y = some .local) (hi : PI X (.Name x px) iter wi)
    (ht : ∀ (C : Addr) (s : Shared) (H : Hp) (fp : List Addr), PTs (cxComp X scope C (x :: fr.map (·.2)) s H fp) ifs tt)
    (he : ∀ (C : Addr) (s : Shared) (H : Hp) (fp : List Addr), PE (cxComp X scope C (x :: fr.map (·.2)) s H fp) elt te)
    (hs : ∀ z, foldedSetIterable iter X.env z = pure z := by intro _; rfl)
    (hsw : swapsWith (.ListComp elt [⟨.Name x px, iter, ifs, 0⟩] scope pos) (some (.Name y py)) spos.line X.env = pure true := by rfl) :
    PS X (.Assign [.Name y py] (.ListComp elt [⟨.Name x px, iter, ifs, 0⟩] scope pos) spos) (tAsg (tComp wi fr tt te) (gName i)) := by
  intro pins s σ H D0 I h
  rw [exec_Assign_Name_used _ _ _ _ hsw]
  refine wpAny_bind (wpAny_standAt (wpAny_bind ?_))
  show wpAny _ X.A (do let _ ← comprehension (.ListComp elt [⟨.Name x px, iter, ifs, 0⟩] scope pos) scope X.env _ (newList []) false (eval iter X.env) (some (assign (.Name y py) X.env))) _ _ s
  refine wpAny_bind (thn (comp_run (use := some (assign (.Name y py) X.env)) (Q' := fun _ s' => SP X pins D0 .next s') S hsc hN hc hi ht he hs I h fun D C H' s' m J hn fc q => ?_) fun _ s' hq => wpAny_pure (wpAny_pure hq))
  show wpAny _ _ (assign (.Name y py) X.env (.ref D)) _ _ s'
  refine wpAny_assign_Name (store_ok2 J hnd hiy (.inl hy) (v := .ref D) rfl (fun s5 J5 hs5 => ?_) (.inr hy))
  obtain ⟨a, sb, ha⟩ := hs5
  have hCa : C ≠ a := by
    rcases ha with z | z
    · rw [z]; exact fc.hL
    · exact Ne.symm (fc.h2 _ _ z)
  refine ⟨m, hn.sameBut sb hCa, fun h' hs' => ⟨_, H', J5.turned (t' := s5.toks) (fun b o hb e => (hs'.2 b hb).trans e) fc.hn fc.hL fc.h1 fc.h2 fc.h3, q⟩⟩
theorem all_range {bs : List Bool} : (List.range bs.length).all (fun i => bs.getD i true) = bs.all id := by
  rw [Bool.eq_iff_iff, List.all_eq_true, List.all_eq_true]
  constructor
  · intro h b hb
    obtain ⟨i, hi, e⟩ := List.mem_iff_getElem.mp hb
    have q := h i (List.mem_range.mpr hi)
    simp only [List.getD_eq_getElem?_getD, List.getElem?_eq_getElem hi, Option.getD_some] at q
    rw [← e]; exact q
  · intro h i hi
    have hi' := List.mem_range.mp hi
    simp only [List.getD_eq_getElem?_getD, List.getElem?_eq_getElem hi', Option.getD_some]
    exact h _ (List.getElem_mem hi')
theorem call_all {X : Cx} (hc : X.calm = true) : CallR X (.builtin "all") (fun xs H Q => ∃ (p : Addr) (bs : List Bool), xs = [.ref p] ∧ SqL X.K H p (bs.map V.bl) ∧ Q (.bl (bs.all id)) H) := by
  intro pins s σ H xs us Q I r h
  obtain ⟨p, bs, rfl, hq, q⟩ := h
  obtain ⟨u, rfl, rx⟩ := vals1 r
  cases rx
  obtain ⟨its, rv, pl, hz⟩ := I.list hq
  have hlen := rv.length
  rw [List.length_map] at hlen
  have hpl : p < s.heap.objs.size := by obtain ⟨o, e, _⟩ := pl.isList; exact Heap.lt_size e
  refine call_all_walk (wpAny_pyIter_list pl.isList ?_)
  refine ⟨s.heap.objs.size, _, [s.heap.objs.size], its.toArray.size, _, _, fun i => bs.getD i true, rfl, Walks.list (A := X.A.in1) (I.ok.hd hc) s.heap.objs.size p (Nat.ne_of_lt hpl) its.toArray, ⟨⟨_, Heap.get?_push_size _ rfl, rfl, rfl⟩, pl.isList.push _⟩, ?_, ?_⟩
  · intro i v s' Q' E' hv hq'
    have hv' : its[i]? = some v := by simpa using hv
    have hi : i < its.length := (List.getElem?_eq_some_iff.mp hv').1
    have hb : (bs.map V.bl)[i]? = some (V.bl (bs.getD i true)) := by
      rw [List.getElem?_map, List.getElem?_eq_getElem (by omega)]
      simp [List.getD_eq_getElem?_getD, List.getElem?_eq_getElem (show i < bs.length by omega)]
    obtain ⟨u, e1, e2⟩ := rv.get hb
    rw [hv'] at e1
    cases e1
    cases e2
    exact wpAny_truthy_bool hq'
  · intro h' tk hk
    have hsz : its.toArray.size = bs.length := by rw [List.size_toArray]; exact hlen.symm
    rw [hsz, all_range]
    exact ⟨.bl (bs.all id), H, I.kept (t' := tk) fun b o e => hk b o (fun z => absurd (Heap.lt_size e) (by rw [List.mem_singleton.mp z]; exact Nat.lt_irrefl _)) (Heap.get?_push_of_some _ e), rfl, q⟩
def clsV : V → Option Value
  | .ty n => some (.type n)
  | .ref a => some (.ref a)
  | _ => none
theorem call_isinst {X : Cx} : CallR X (.builtin "isinstance") (fun xs H Q => ∃ x c cv t b, xs = [x, c] ∧ clsV c = some cv ∧ TyOf X.K H x t ∧ PySem.W.kitOne X.K t cv = some b ∧ Q (.bl b) H) := by
  intro pins s σ H xs us Q I r h
  obtain ⟨x, c, cv, t, b, rfl, hcv, ty, hk, q⟩ := h
  obtain ⟨u, u', rfl, rx, rc⟩ := vals2 r
  have e : u' = cv := by
    cases c with
    | ty n => cases hcv; exact rc
    | ref a => cases hcv; exact rc
    | _ => cases hcv
  subst e
  exact isinst_ok I rx ty hk fun tk => ⟨.bl b, H, I.tok tk, rfl, q⟩
theorem strsAre_of {xs : List Str} : ∀ {us : List Value}, Vals (xs.map V.str) us → StrsAre us xs := by
  induction xs with
  | nil => intro us r; rw [List.map_nil] at r; cases r; exact .nil
  | cons y ys ih =>
    intro us r
    rw [List.map_cons] at r
    cases r with
    | cons r1 r2 =>
      obtain ⟨t, e⟩ := r1
      subst e
      exact .cons y t (ih r2)
inductive rJoin_I (K : PySem.W.Frag) (x : V) (xs : List V) (H : Hp) (Q : VK) : Prop
  | mk : ∀ (sep : Str) (p : Addr) (ys : List Str), x = .str sep → xs = [.ref p] → SqL K H p (ys.map V.str) → (ys.map (·.length)).sum + ys.length * sep.length ≤ 16777216 → Q (.str (Txt.join sep ys)) H → rJoin_I K x xs H Q
def rJoin (K : PySem.W.Frag) : V → List V → Hp → VK → Prop := fun x xs H Q => rJoin_I K x xs H Q
theorem mt_join {X : Cx} : MtR X "str.join" (rJoin X.K) := by
  intro pins s σ H x xs v us Q I rx rv h
  obtain ⟨sep, p, ys, rfl, rfl, hq, hz, q⟩ := h
  obtain ⟨t, rfl⟩ := rx
  obtain ⟨u, rfl, ru⟩ := vals1 rv
  cases ru
  obtain ⟨its, r, pl, _⟩ := I.list hq
  exact join_list pl.isList (by have := strsAre_of r; simpa using this) hz fun t' k => ⟨.str (Txt.join sep ys), H, I.tok k, ⟨t', rfl⟩, q⟩
inductive rSlS_I (x : V) (lo : Option Int) (hi : Option Int) (H : Hp) (Q : VK) : Prop
  | mk : ∀ y, x = .str y → y.length ≤ sizeLine → Q (.str (Txt.slice y lo hi)) H → rSlS_I x lo hi H Q
def rSlS : V → Option Int → Option Int → Hp → VK → Prop := fun x lo hi H Q => rSlS_I x lo hi H Q
theorem sl_str {X : Cx} : SlR X rSlS := by
  intro pins s σ H x v vl vu lo hi sl Q I rx hs pl pu h
  obtain ⟨y, rfl, hz, q⟩ := h
  obtain ⟨t, rfl⟩ := rx
  refine ⟨"str", _, F.slot_str_getitem.lookup, typeIs_str _ _ _, ?_⟩
  have fin : ∀ lo hi, Q (.str (Txt.slice y lo hi)) H → (Txt.slice y lo hi).length ≤ sizeLine ∧ ∀ t' k, EP X pins σ Q (.str (Txt.slice y lo hi) t') { s with toks := k } := fun lo hi q =>
    ⟨Nat.le_trans (Txt.slice_le y _ _) hz, fun t' k => ⟨.str _, H, I.tok k, ⟨t', rfl⟩, q⟩⟩
  cases pl with
  | none =>
    cases pu with
    | none => exact wpAny_getItem_str_slice (l := none) (u := none) (st := none) hs rfl (post_val_or_str (fin _ _ q))
    | int j tj => exact wpAny_getItem_str_slice (l := none) (u := some (j, tj)) (st := none) hs rfl (post_val_or_str (fin _ _ q))
  | int i ti =>
    cases pu with
    | none => exact wpAny_getItem_str_slice (l := some (i, ti)) (u := none) (st := none) hs rfl (post_val_or_str (fin _ _ q))
    | int j tj => exact wpAny_getItem_str_slice (l := some (i, ti)) (u := some (j, tj)) (st := none) hs rfl (post_val_or_str (fin _ _ q))
mutual
inductive RD (K : PySem.W.Frag) (H : Hp) : V → PyData → Prop
  | non : RD K H .non .none
  | bl (b : Bool) : RD K H (.bl b) (.bool b)
  | int (i : Int) : RD K H (.int i) (.int i)
  | str (x : Str) : RD K H (.str x) (.str x)
  | lst {a : Addr} {xs : List V} {ds : List PyData} : SqL K H a xs → RDs K H xs ds → RD K H (.ref a) (.list ds)
  | tup {a : Addr} {xs : List V} {ds : List PyData} : SqT K H a xs → RDs K H xs ds → RD K H (.ref a) (.tuple ds)
inductive RDs (K : PySem.W.Frag) (H : Hp) : List V → List PyData → Prop
  | nil : RDs K H [] []
  | cons {x : V} {xs : List V} {d : PyData} {ds : List PyData} : RD K H x d → RDs K H xs ds → RDs K H (x :: xs) (d :: ds)
end
mutual
theorem RD.reads {X : Cx} {pins : List (Addr × Obj)} {σ : St} {H : Hp} {s : Shared} (I : Inv X pins σ H s) : ∀ {x : V} {d : PyData} {u : Value}, RD X.K H x d → RelV x u → ∃ as, Reads s.heap u d as
  | _, _, _, .non, r => by cases (show _ = Value.none from r); exact ⟨_, .none⟩
  | _, _, _, .bl b, r => by cases (show _ = Value.bool b from r); exact ⟨_, .bool b⟩
  | _, _, _, .int i, r => by obtain ⟨t, e⟩ := r; subst e; exact ⟨_, .int i t⟩
  | _, _, _, .str x, r => by obtain ⟨t, e⟩ := r; subst e; exact ⟨_, .str x t⟩
  | _, _, _, .lst (a := a) hq hs, r => by
    cases (show _ = Value.ref a from r)
    obtain ⟨its, rv, pl, _⟩ := I.list hq
    obtain ⟨as, ra⟩ := RDs.reads I hs rv
    obtain ⟨o, e, c, n, d⟩ := pl.isList
    exact ⟨_, .list e c d (by simpa using ra)⟩
  | _, _, _, .tup (a := a) hq hs, r => by
    cases (show _ = Value.ref a from r)
    obtain ⟨its, rv, pl, _⟩ := I.tuple hq
    obtain ⟨as, ra⟩ := RDs.reads I hs rv
    obtain ⟨o, e, c, n, d⟩ := pl
    exact ⟨_, .tuple e c d (by simpa using ra)⟩
theorem RDs.reads {X : Cx} {pins : List (Addr × Obj)} {σ : St} {H : Hp} {s : Shared} (I : Inv X pins σ H s) : ∀ {xs : List V} {ds : List PyData} {us : List Value}, RDs X.K H xs ds → Vals xs us → ∃ as, ReadsAll s.heap us ds as
  | _, _, _, .nil, r => by cases r; exact ⟨_, .nil⟩
  | _, _, _, .cons h1 h2, r => by
    cases r with
    | cons r1 r2 =>
      obtain ⟨as, a1⟩ := RD.reads I h1 r1
      obtain ⟨bs, a2⟩ := RDs.reads I h2 r2
      exact ⟨_, .cons a1 a2⟩
end
inductive rEqD_I (K : PySem.W.Frag) (x : V) (y : V) (H : Hp) (Q : VK) : Prop
  | mk : ∀ d e, RD K H x d → RD K H y e → SeqAt.shaped d = true → SeqAt.shaped e = true → Q (.bl (PyData.eqv d e)) H → rEqD_I K x y H Q
def rEqD (K : PySem.W.Frag) : R2 := fun x y H Q => rEqD_I K x y H Q
theorem op_eqD {X : Cx} (hu : X.A.units + 64 < cLine) : OpR X (compareOp .Eq) (rEqD X.K) := by
  intro pins s σ H x y v u Q I rx ry h
  obtain ⟨d, e, hd, he, sd, se, q⟩ := h
  obtain ⟨as, ra⟩ := hd.reads I rx
  obtain ⟨bs, rb⟩ := he.reads I ry
  exact eq_dataH ra rb sd se hu ⟨.bl _, H, I, rfl, q⟩
theorem us_s {n : Nat} {P : List Value → Prop} (h : ∀ a us, us.length = n → P (a :: us)) : ∀ us : List Value, us.length = n + 1 → P us := fun us e => by
  cases us with
  | nil => exact absurd e (Nat.succ_ne_zero n).symm
  | cons a us => exact h a us (Nat.succ.inj e)
theorem us_0 {P : List Value → Prop} (h : P []) : ∀ us : List Value, us.length = 0 → P us := fun us e => by rw [List.eq_nil_of_length_eq_zero e]; exact h
theorem us_1 {P : List Value → Prop} (h : ∀ a, P [a]) : ∀ us : List Value, us.length = 1 → P us := us_s fun a => us_0 (P := fun us => P (a :: us)) (h a)
theorem us_2 {P : List Value → Prop} (h : ∀ a b, P [a, b]) : ∀ us : List Value, us.length = 2 → P us := us_s fun a => us_1 (P := fun us => P (a :: us)) (fun b => h a b)
theorem us_3 {P : List Value → Prop} (h : ∀ a b c, P [a, b, c]) : ∀ us : List Value, us.length = 3 → P us := us_s fun a => us_2 (P := fun us => P (a :: us)) (fun b c => h a b c)
theorem us_4 {P : List Value → Prop} (h : ∀ a b c d, P [a, b, c, d]) : ∀ us : List Value, us.length = 4 → P us := us_s fun a => us_3 (P := fun us => P (a :: us)) (fun b c d => h a b c d)
theorem us_5 {P : List Value → Prop} (h : ∀ a b c d e, P [a, b, c, d, e]) : ∀ us : List Value, us.length = 5 → P us := us_s fun a => us_4 (P := fun us => P (a :: us)) (fun b c d e => h a b c d e)
theorem us_6 {P : List Value → Prop} (h : ∀ a b c d e f, P [a, b, c, d, e, f]) : ∀ us : List Value, us.length = 6 → P us := us_s fun a => us_5 (P := fun us => P (a :: us)) (fun b c d e f => h a b c d e f)
end L2
set_option Elab.async false
set_option linter.all false
set_option maxRecDepth 100000
set_option maxHeartbeats 4000000
namespace L2
open PySem PySem.Spec PyProof.Rows
theorem atI_some {α : Type} {xs : List α} {i : Int} (h0 : 0 ≤ i) (h1 : i < (xs.length : Int)) : ∃ v, atI xs i = some v ∧ v ∈ xs ∧ xs[i.toNat]? = some v := by
  have hn : i.toNat < xs.length := by omega
  refine ⟨xs[i.toNat], ?_, List.getElem_mem hn, List.getElem?_eq_getElem hn⟩
  have e : ((i.toNat : Nat) : Int) = i := by omega
  have q := atI_nat (xs := xs) (j := i.toNat) (List.getElem?_eq_getElem hn)
  rw [e] at q
  exact q
theorem atI_mod {α : Type} {xs : List α} (i : Int) (h : 0 < xs.length) : ∃ v, atI xs (i % (xs.length : Int)) = some v ∧ v ∈ xs ∧ xs[(i % (xs.length : Int)).toNat]? = some v :=
  atI_some (Int.emod_nonneg _ (by omega)) (Int.emod_lt_of_pos _ (by omega))
theorem mem_map_int {ns : List Int} {v : V} (h : v ∈ ns.map V.int) : ∃ z, v = .int z ∧ z ∈ ns := by
  obtain ⟨z, hz, e⟩ := List.mem_map.mp h
  exact ⟨z, e.symm, hz⟩
theorem Same.upd_new {H : Hp} {p : Addr} {o : HO} (h : H p = none) : Same H (upd H p o) := fun b u e => by rw [upd_ne (ne_of_none e h)]; exact e
theorem Same.upd_of {H H' : Hp} {p : Addr} {o : HO} (s : Same H H') (h : H p = none) : Same H (upd H' p o) := fun b u e => by rw [upd_ne (ne_of_none e h)]; exact s b u e
theorem Same.tup {K : PySem.W.Frag} {H H' : Hp} {a : Addr} {xs : List V} (e : Same H H') (h : SqT K H a xs) : SqT K H' a xs := by
  rcases h with (h | ⟨o, h⟩) | h
  · exact .inl (.inl (e _ _ h))
  · exact .inl (.inr ⟨o, e _ _ h⟩)
  · exact .inr h
/-- a global that holds a plain value -/
theorem pe_gl {X : Cx} {x : Str} {v : V} {pos : Pos} (hg : Gl X x) (h : ∃ u, X.mg x = some u ∧ RelV v u) (hd : (x == ("__debug__" : Str)) = false := by decide) : PE X (.Name x pos) (tC v) := by
  obtain ⟨u, hm, r⟩ := h
  exact pe_glob hg hm r hd
theorem ix_tupK {X : Cx} (K : PySem.W.Frag) (hK : X.K = K := by rfl) : IxR X (rIxT K) := hK ▸ ix_tup
section
variable {X : Cx} {o e : Expr} {es : List Expr} {to : TE} {t : TA} {name : Str} {apos cpos : Pos} {T id : String} {r : V → List V → Hp → VK → Prop}
end
def plainE : Expr → Bool
  | .Starred .. => false
  | _ => true
theorem starEach_plain {e : Expr} {es : List Expr} {env : Env} (h : plainE e = true) : starEach (e :: es) env = (false, eval e env) :: starEach es env := by
  cases e <;> first | rfl | (cases h)
/-- an item of a written list, tuple or argument list (no star) -/
theorem pac {X : Cx} {e : Expr} {es : List Expr} {te : TE} {t : TA} (ha : PE X e te) (hr : PA X es t) (h : plainE e = true := by rfl) : PA X (e :: es) (tCons te t) := pa_cons ha hr (starEach_plain h)
/-- an item list, not to be looked into by the elaborator (its unfolding is paid for item by item, twice each) -/
structure PAs (X : Cx) (es : List Expr) (t : TA) : Prop where
  h : PA X es t
theorem pas_nil {X : Cx} : PAs X [] tNil := ⟨pa_nil⟩
theorem pas_cons {X : Cx} {e : Expr} {es : List Expr} {te : TE} {t : TA} (ha : PE X e te) (hr : PAs X es t) (h : plainE e = true := by rfl) : PAs X (e :: es) (tCons te t) := ⟨pac ha hr.h h⟩
theorem pe_lstS {X : Cx} {es : List Expr} {t : TA} {pos : Pos} (h : PAs X es t) : PE X (.List es pos) (tLst t) := pe_lst h.h
theorem pe_tupS {X : Cx} {es : List Expr} {t : TA} {x1 : Nat} {pos : Pos} (h : PAs X es t) : PE X (.Tuple es x1 pos) (tTup t) := pe_tup h.h
/-- a comprehension over a text whose elements leave the heap as it is -/
theorem comp_str {x : Str} {fr : List (Nat × Str)} {te : TE} {σ : St} {H1 : Hp} {Q : VK} (f : Nat → V) (hz : x.cps.size ≤ sizeLine)
    (hte : ∀ (c : Nat) (H3 : Hp) (Q' : VK), c ∈ x.cps.toList → Q' (f c) H3 → te (some (.str ⟨#[c]⟩) :: frV σ fr) H3 Q')
    (hQ : ∀ D, H1 D = none → Q (.ref D) (upd H1 D (.lst (x.cps.toList.map f)))) :
    compGoal (Its x) fr tTrue te σ H1 Q := by
  unfold compGoal
  intro D hD
  refine ⟨fun i m ys H2 => m = x.cps.size - i ∧ i ≤ x.cps.size ∧ ys = (x.cps.toList.take i).map f ∧ H2 = upd H1 D (.lst ys), ⟨x.cps.size, by simp, Nat.zero_le _, by simp, rfl⟩, ?_⟩
  rintro i m ys H2 ⟨rfl, hi, rfl, rfl⟩
  refine ⟨upd_same, ?_⟩
  by_cases hlt : i < x.cps.size
  · refine .inr ⟨hlt, ?_⟩
    rintro v H3 ⟨rfl, c, hc, rfl⟩
    refine tTrue_go (iteT ?_)
    have hcl : x.cps.toList[i]? = some c := by simpa using hc
    refine hte c _ _ (List.mem_of_getElem? hcl) ⟨upd_same, ?_, x.cps.size - (i + 1), by omega, rfl, hlt, ?_, upd_upd⟩
    · rw [List.length_map, List.length_take]
      simp only [Array.length_toList]
      omega
    · rw [List.take_add_one, hcl]
      simp
  · have e : i = x.cps.size := by omega
    subst e
    have e2 : x.cps.toList.take x.cps.size = x.cps.toList := List.take_of_length_le (by simp)
    refine .inl ⟨rfl, ?_⟩
    rw [e2]
    exact hQ D hD
/-- a comprehension over a range -/
theorem comp_range {lo : Int} {n : Nat} {fr : List (Nat × Str)} {te : TE} {σ : St} {H1 : Hp} {Q : VK} (f : Nat → V) (hz : n ≤ sizeLine)
    (hte : ∀ (i : Nat) (H3 : Hp) (Q' : VK), i < n → Same H1 H3 → Q' (f i) H3 → te (some (.int (lo + i)) :: frV σ fr) H3 Q')
    (hQ : ∀ D, H1 D = none → Q (.ref D) (upd H1 D (.lst ((List.range n).map f)))) :
    compGoal (Itr lo n) fr tTrue te σ H1 Q := by
  unfold compGoal
  intro D hD
  refine ⟨fun i m ys H2 => m = n - i ∧ i ≤ n ∧ ys = (List.range i).map f ∧ H2 = upd H1 D (.lst ys), ⟨n, by simp, Nat.zero_le _, by simp, rfl⟩, ?_⟩
  rintro i m ys H2 ⟨rfl, hi, rfl, rfl⟩
  refine ⟨upd_same, ?_⟩
  by_cases hlt : i < n
  · refine .inr ⟨hlt, ?_⟩
    rintro v H3 ⟨rfl, rfl⟩
    refine tTrue_go (iteT ?_)
    refine hte i _ _ hlt (Same.upd_new hD) ⟨upd_same, ?_, n - (i + 1), by omega, rfl, hlt, ?_, upd_upd⟩
    · rw [List.length_map, List.length_range]
      omega
    · rw [List.range_succ, List.map_append, List.map_singleton]
  · have e : i = n := by omega
    subst e
    exact .inl ⟨Nat.le_refl _, hQ D hD⟩
theorem sum_ones {α : Type} (g : α → Nat) : ∀ (l : List α), (∀ x ∈ l, g x = 1) → (l.map g).sum = l.length
  | [], _ => rfl
  | a :: r, h => by
    rw [List.map_cons, List.sum_cons, h a List.mem_cons_self, sum_ones g r fun x hx => h x (List.mem_cons_of_mem _ hx), List.length_cons]
    omega
theorem sl_le (x : Str) (lo hi : Option Int) : (Txt.slice x lo hi).length ≤ x.length := Txt.slice_le x lo hi
theorem cat_len (x y : Str) : (x ++ y).length = x.length + y.length := by
  show (x.cps ++ y.cps).size = _
  rw [Array.size_append]; rfl
theorem one_len (c : Nat) : (⟨#[c]⟩ : Str).length = 1 := rfl
end L2
set_option Elab.async false
set_option linter.all false
set_option maxRecDepth 100000
set_option maxHeartbeats 4000000
namespace L2
open PySem PySem.Spec PyProof.Rows
/-- only plain signs -/
def Asc (x : Str) : Prop := ∀ c ∈ x.cps.toList, c < 128
theorem Asc.ok {x : Str} (h : Asc x) : PyData.strOk x = true := by
  unfold PyData.strOk
  rw [Array.all_eq_true']
  intro c hc
  have := h c (Array.mem_toList_iff.mpr hc)
  exact decide_eq_true (by omega)
theorem Asc.app {x y : Str} (hx : Asc x) (hy : Asc y) : Asc (x ++ y) := fun c hc => by
  have e : (x ++ y).cps.toList = x.cps.toList ++ y.cps.toList := by show (x.cps ++ y.cps).toList = _; simp
  rw [e] at hc
  rcases List.mem_append.mp hc with z | z
  · exact hx c z
  · exact hy c z
theorem Asc.one {x : Str} {c : Nat} (h : Asc x) (hc : c ∈ x.cps.toList) : Asc ⟨#[c]⟩ := fun d hd => by
  have : d = c := by simpa using hd
  rw [this]; exact h c hc
theorem KV.at {κ : Type} : ∀ {kvs : List (κ × V)} {vs : List (κ × Value)} {j : Nat} {p : κ × V} {q : κ × Value}, KV kvs vs → kvs[j]? = some p → vs[j]? = some q → p.1 = q.1
  | _, _, _, _, _, .nil, h, _ => by simp at h
  | _, _, 0, _, _, .cons r _, h1, h2 => by
    simp only [List.getElem?_cons_zero, Option.some.injEq] at h1 h2
    subst h1 h2
    exact r.1
  | _, _, j + 1, _, _, .cons _ t, h1, h2 => KV.at (j := j) (show KV _ _ from t) (by simpa using h1) (by simpa using h2)
end L2
set_option Elab.async false
set_option linter.all false
set_option maxRecDepth 100000
set_option maxHeartbeats 4000000
namespace L2
open PySem PySem.Spec PyProof.Rows
/-- a cut from the front -/
theorem cut_front {α : Type} (f : α → V) (xs : List α) (v : Int) (h : 0 ≤ v) : cutV (xs.map f) none (some v) = (xs.take v.toNat).map f := by
  have hv : ¬ v < 0 := by omega
  simp only [cutV, HT.sIx, if_neg hv, List.drop_zero, List.length_map, Nat.sub_zero, ← List.map_take]
  congr 1
  by_cases h2 : v.toNat ≤ xs.length
  · rw [Nat.min_eq_left h2]
  · rw [Nat.min_eq_right (by omega), List.take_of_length_le (Nat.le_refl _), List.take_of_length_le (by omega)]
end L2
namespace L2
open PySem PySem.Spec PyProof.Rows
abbrev aZ : Str := "abcdefghijklmnopqrstuvwxyz0123456789"
theorem aZ_len : aZ.cps.toList.length = 36 := by decide +kernel
theorem aZ_asc : Asc aZ := by
  have h : (aZ.cps.toList.all fun c => decide (c < 128)) = true := by decide +kernel
  intro c hc
  exact of_decide_eq_true (List.all_eq_true.mp h c hc)
theorem aZ_small : aZ.length ≤ sizeLine := by
  have : aZ.length = 36 := by decide +kernel
  rw [this]; decide
/-- 1 to 20 signs, each a small letter or a figure -/
structure WordS (x : Str) : Prop where
  lo : 1 ≤ x.length
  hi : x.length ≤ 20
  in_ : ∀ c ∈ x.cps.toList, c ∈ aZ.cps.toList
theorem WordS.asc {x : Str} (h : WordS x) : Asc x := fun c hc => aZ_asc c (h.in_ c hc)
theorem join0 (ys : List Str) : (Txt.join "" ys).cps.toList = (ys.map (·.cps.toList)).flatten := by
  have key : ∀ (r : List Str) (acc : Array Nat), (r.foldl (fun acc p => acc ++ ("" : Str).cps ++ p.cps) acc).toList = acc.toList ++ (r.map (·.cps.toList)).flatten := by
    intro r
    induction r with
    | nil => intro acc; simp
    | cons y r ih =>
      intro acc
      rw [List.foldl_cons, ih, List.map_cons, List.flatten_cons]
      have e : ("" : Str).cps = #[] := by decide +kernel
      rw [e]
      simp
  cases ys with
  | nil => rfl
  | cons y r => exact (key r y.cps).trans (by rw [List.map_cons, List.flatten_cons])
theorem len_list (x : Str) : x.length = x.cps.toList.length := by simp [Str.length]
theorem join0_len {ys : List Str} (h : ∀ y ∈ ys, y.length = 1) : (Txt.join "" ys).length = ys.length := by
  rw [len_list, join0, List.length_flatten, List.map_map]
  exact sum_ones _ _ fun y hy => by
    have := h y hy
    rw [len_list] at this
    exact this
theorem cat_list (x y : Str) : (x ++ y).cps.toList = x.cps.toList ++ y.cps.toList := by show (x.cps ++ y.cps).toList = _; simp
theorem empty_len : ("" : Str).length = 0 := by decide +kernel
/-- one sign out of a text -/
def Sign1 (z y : Str) : Prop := ∃ c, c ∈ z.cps.toList ∧ y = ⟨#[c]⟩
theorem Sign1.len {z y : Str} (h : Sign1 z y) : y.length = 1 := by obtain ⟨c, _, rfl⟩ := h; rfl
theorem join_signs {z : Str} {ys : List Str} (h : ∀ y ∈ ys, Sign1 z y) : (Txt.join "" ys).length = ys.length ∧ ∀ c ∈ (Txt.join "" ys).cps.toList, c ∈ z.cps.toList := by
  refine ⟨join0_len fun y hy => (h y hy).len, fun c hc => ?_⟩
  rw [join0] at hc
  obtain ⟨l, hl, hcl⟩ := List.mem_flatten.mp hc
  obtain ⟨y, hy, rfl⟩ := List.mem_map.mp hl
  obtain ⟨d, hd, rfl⟩ := h y hy
  have : c = d := by simpa using hcl
  rw [this]; exact hd
theorem join_sum {ys : List Str} (h : ∀ y ∈ ys, y.length = 1) (hl : ys.length ≤ 100000) : (ys.map (·.length)).sum + ys.length * ("" : Str).length ≤ 16777216 := by
  rw [sum_ones _ _ h, empty_len]; omega
theorem pick_sign {z : Str} {i : Int} (h0 : 0 ≤ i) (h1 : i < (z.cps.toList.length : Int)) : ∃ c, atI z.cps.toList i = some c ∧ c ∈ z.cps.toList := by
  obtain ⟨c, a, b, _⟩ := atI_some h0 h1
  exact ⟨c, a, b⟩
theorem num_small : ∀ n : Nat, n < 100 → (Str.ofString (toString (n : Int))).length ≤ 2 ∧ 1 ≤ (Str.ofString (toString (n : Int))).length ∧ ((Str.ofString (toString (n : Int))).cps.toList.all fun c => decide (c ∈ aZ.cps.toList)) = true := by decide +kernel
end L2
set_option Elab.async false
set_option linter.all false
set_option maxRecDepth 100000
set_option maxHeartbeats 4000000
namespace L2
open PySem PySem.Spec PyProof.Rows
end L2
set_option Elab.async false
set_option linter.all false
set_option maxRecDepth 100000
set_option maxHeartbeats 4000000
namespace L2
open PySem PySem.Spec PyProof.Rows
end L2
set_option Elab.async false
set_option linter.all false
set_option maxRecDepth 100000
set_option maxHeartbeats 4000000
namespace L2
open PySem PySem.Spec PyProof.Rows
structure FunD (K : PySem.W.Frag) (x qual : Str) (st : Stmt) (f : Addr) (fd : FuncData) : Prop where
  ex : ∃ (oc : Value) (od : Option Addr) (dV kV doc pm : Value) (an : Option Addr) (cdv ct : Value) (osl : Array (Option Value)),
    fd = PySem.W.fnOf x qual (defArgs st) (defBody st) (defScope st) dV kV doc pm an cdv ct ∧ K.lookup f = some ⟨oc, od, .func fd, osl⟩ ∧ PySem.W.codeIn K cdv qual = true
  kp : PySem.W.keepIn K (.ref f) = true
theorem FunD.ok {P : Program} {w : World} {K : PySem.W.Frag} {mg : Str → Option Value} {base : Heap} {x qual : Str} {st : Stmt} {f : Addr} {fd : FuncData} {N ps : List Str} {k : Nat} {sp : Sp} (F : FunD K x qual st f fd) (S : FnScope N ps (defScope st))
    (len : ∀ vs H Q E, sp vs H Q E → vs.length = ps.length)
    (hbody : ∀ (cdv : Value) (A : Around) (outer : List Env) (s : Shared) (H : Hp) (vs : List V) (Q : VK) (E : XK), Room k (A.deeper (envOfC qual (defScope st) s.heap.objs.size f cdv)) → sp vs H Q E →
      ∃ t, PSs (cxOf CX0 P w K mg base N qual (defScope st) f cdv A outer s H E).nox (defBody st) t ∧ t { nx := fun _ H' => Q .non H', rt := Q } (start N vs) H) : FnOk P w K mg base CX0 (k + 1) f fd ps sp := by
  obtain ⟨oc, od, dV, kV, doc, pm, an, cdv, ct, osl, rfl, lk, hcd⟩ := F.ex
  refine fn_of lk hcd S len fun A outer s H vs Q E hr hsp => ?_
  obtain ⟨t, h, q⟩ := hbody cdv A outer s H vs Q E hr hsp
  exact ⟨t, h.nox, q⟩
theorem fun_mkD {K : PySem.W.Frag} {x qual : Str} {st : Stmt} {f : Addr} {oc dV : Value} {od an : Option Addr} {osl : Array (Option Value)} {kV doc pm cdv ct : Value} (l : K.lookup f = some ⟨oc, od, .func (PySem.W.fnOf x qual (defArgs st) (defBody st) (defScope st) dV kV doc pm an cdv ct), osl⟩)
    (c : PySem.W.codeIn K cdv qual = true) (k : PySem.W.keepIn K (.ref f) = true) : FunD K x qual st f (PySem.W.fnOf x qual (defArgs st) (defBody st) (defScope st) dV kV doc pm an cdv ct) := ⟨⟨oc, od, dV, kV, doc, pm, an, cdv, ct, osl, rfl, l, c⟩, k⟩
theorem eq_refl {K : PySem.W.Frag} {H : Hp} {x y : V} {d : PyData} {Q : VK} (hx : RD K H x d) (hy : RD K H y d) (h : SeqAt.shaped d = true) (q : Q (.bl true) H) : rEqD K x y H Q :=
  ⟨d, d, hx, hy, h, h, by rw [SeqAt.eqv_refl d (SeqAt.canLay_of_shaped h)]; exact q⟩
theorem slice_mem {x : Str} {l u : Option Int} {c : Nat} (hc : c ∈ (PySem.Txt.slice x l u).cps.toList) : c ∈ x.cps.toList := by
  unfold PySem.Txt.slice at hc
  split at hc
  · exact hc
  · have hc' : c ∈ (Builtin.Str.strSliceIndices l u 1 x.length).filterMap (x.cps[·]?) := by simpa using hc
    obtain ⟨i, _, e⟩ := List.mem_filterMap.mp hc'
    exact Array.mem_toList_iff.mpr (Array.mem_of_getElem? e)
def Prt (x : Str) : Prop := ∀ c ∈ x.cps.toList, 32 ≤ c ∧ c < 127
theorem Prt.asc {x : Str} (h : Prt x) : Asc x := fun c hc => Nat.lt_trans (h c hc).2 (by decide)
theorem Prt.app {x y : Str} (hx : Prt x) (hy : Prt y) : Prt (x ++ y) := fun c hc => by
  rw [cat_list] at hc
  rcases List.mem_append.mp hc with z | z
  · exact hx c z
  · exact hy c z
theorem Prt.one {x : Str} {c : Nat} (h : Prt x) (hc : c ∈ x.cps.toList) : Prt ⟨#[c]⟩ := fun d hd => by
  have : d = c := by simpa using hd
  rw [this]; exact h c hc
theorem prt_of {x : Str} (h : (x.cps.toList.all fun c => decide (32 ≤ c ∧ c < 127)) = true) : Prt x := fun c hc => of_decide_eq_true (List.all_eq_true.mp h c hc)
end L2
set_option Elab.async false
set_option linter.all false
set_option maxRecDepth 100000
set_option maxHeartbeats 4000000
namespace L2
open PySem PySem.Spec PyProof.Rows
open Builtin.Str in
theorem idx_nat (a b n : Nat) : strSliceIndices (some (a : Int)) (some (b : Int)) 1 n = (List.range (min b n - min a n)).map (fun k => min a n + k) := by
  have h1 : ¬ ((a : Int) < 0) := by omega
  have h2 : ¬ ((b : Int) < 0) := by omega
  have e1 : max (0 : Int) (min (a : Int) (n : Int)) = ((min a n : Nat) : Int) := by omega
  have e2 : max (0 : Int) (min (b : Int) (n : Int)) = ((min b n : Nat) : Int) := by omega
  simp only [strSliceIndices, sliceRange, h1, h2, if_false, e1, e2, show ((1 : Int) > 0) = True from by simp, if_true]
  by_cases hlt : ((min a n : Nat) : Int) < ((min b n : Nat) : Int)
  · have e3 : ((((min b n : Nat) : Int) - ((min a n : Nat) : Int) + 1 - 1) / 1).toNat = min b n - min a n := by first | omega | (simp; done) | (simp; omega)
    simp only [hlt, if_true, e3]
    refine List.map_congr_left fun k _ => ?_
    omega
  · have : min b n - min a n = 0 := by omega
    simp [hlt, this]
open Builtin.Str in
theorem idx_none_l (u : Option Int) (n : Nat) : strSliceIndices none u 1 n = strSliceIndices (some ((0 : Nat) : Int)) u 1 n := by
  have e1 : max (0 : Int) (min (((0 : Nat) : Int)) (n : Int)) = 0 := by omega
  simp only [strSliceIndices, show ¬ ((((0 : Nat) : Int)) < 0) from by omega, if_false, e1, show ((1 : Int) > 0) = True from by simp, if_true]
open Builtin.Str in
theorem idx_none_u (l : Option Int) (n : Nat) : strSliceIndices l none 1 n = strSliceIndices l (some (n : Int)) 1 n := by
  have e1 : max (0 : Int) (min (n : Int) (n : Int)) = n := by omega
  simp only [strSliceIndices, show ¬ ((n : Int) < 0) from by omega, if_false, e1, show ((1 : Int) > 0) = True from by simp, if_true]
theorem slice_list (x : Str) (a b : Nat) : (Txt.slice x (some (a : Int)) (some (b : Int))).cps.toList = (x.cps.toList.drop a).take (b - a) := by
  have hl := len_list x
  unfold Txt.slice
  rw [idx_nat, List.length_map, List.length_range]
  have hp := StrLaws.picks x.cps.toList (min b x.length - min a x.length) (min a x.length) (by omega)
  have key : ((List.range (min b x.length - min a x.length)).map (fun k => min a x.length + k)).filterMap (x.cps[·]?) = (x.cps.toList.drop a).take (b - a) := by
    have e : (fun i : Nat => x.cps[i]?) = (fun i : Nat => x.cps.toList[i]?) := by funext i; simp
    rw [e, hp]
    by_cases h : a ≤ x.length
    · rw [Nat.min_eq_left (show a ≤ x.length from h)]
      by_cases h2 : b ≤ x.length
      · rw [Nat.min_eq_left (show b ≤ x.length from h2)]
      · rw [Nat.min_eq_right (show x.length ≤ b by omega), List.take_of_length_le (by rw [List.length_drop]; omega), List.take_of_length_le (by rw [List.length_drop]; omega)]
    · rw [Nat.min_eq_right (show x.length ≤ a by omega), List.drop_of_length_le (by omega), List.drop_of_length_le (by omega), List.take_nil, List.take_nil]
  split
  · rename_i h
    have h' : min b x.length - min a x.length = x.length := by
      have := (Bool.and_eq_true_iff.mp h).2
      exact beq_iff_eq.mp this
    rw [← key, h']
    have e0 : x.length = 0 ∨ min a x.length = 0 := by omega
    rcases e0 with e0 | e0
    · have : x.cps.toList = [] := List.eq_nil_of_length_eq_zero (by omega)
      rw [this, e0]; rfl
    · have e : (fun i : Nat => x.cps[i]?) = (fun i : Nat => x.cps.toList[i]?) := by funext i; simp
      rw [e]
      have hp2 := StrLaws.picks x.cps.toList x.length 0 (by omega)
      rw [e0, hp2, List.drop_zero, List.take_of_length_le (by omega)]
  · rw [key]
theorem slice_to (x : Str) (b : Nat) : (Txt.slice x none (some (b : Int))).cps.toList = x.cps.toList.take b := by
  have e : Txt.slice x none (some (b : Int)) = Txt.slice x (some ((0 : Nat) : Int)) (some (b : Int)) := by unfold Txt.slice; rw [idx_none_l]
  rw [e, slice_list, List.drop_zero, Nat.sub_zero]
theorem slice_from (x : Str) (a : Nat) : (Txt.slice x (some (a : Int)) none).cps.toList = x.cps.toList.drop a := by
  have e : Txt.slice x (some (a : Int)) none = Txt.slice x (some (a : Int)) (some (x.length : Int)) := by unfold Txt.slice; rw [idx_none_u]
  rw [e, slice_list, List.take_of_length_le (by rw [List.length_drop, ← len_list]; omega)]
theorem str_ext {x y : Str} (h : x.cps.toList = y.cps.toList) : x = y := by
  cases x; cases y
  have := Array.toList_inj.mp h
  simp only at this
  rw [this]
theorem cut_to_le (x : Str) (b : Nat) : (Txt.slice x none (some (b : Int))).length ≤ b := by
  rw [len_list, slice_to, List.length_take]; omega
theorem cut_le (x : Str) (a b : Nat) : (Txt.slice x (some (a : Int)) (some (b : Int))).length ≤ b - a := by
  rw [len_list, slice_list, List.length_take]; omega
/-- a row of drawn numbers: what stands at a place -/
theorem row_pick {rs : List Int} {m : Int} (hb : ∀ r ∈ rs, 0 ≤ r ∧ r < m) (i : Int) (h0 : 0 ≤ i) (h1 : i < (rs.length : Int)) : ∃ z, atI (rs.map V.int) i = some (V.int z) ∧ 0 ≤ z ∧ z < m := by
  obtain ⟨v, hv, hvm, _⟩ := atI_some (xs := rs.map V.int) h0 (by rw [List.length_map]; exact h1)
  obtain ⟨z, hz, rfl⟩ := List.mem_map.mp hvm
  exact ⟨z, hv, hb z hz⟩
end L2
set_option Elab.async false
set_option linter.all false
set_option maxRecDepth 100000
set_option maxHeartbeats 4000000
namespace L2
open PySem PySem.Spec PyProof.Rows
end L2
set_option Elab.async false
set_option linter.all false
set_option maxRecDepth 100000
set_option maxHeartbeats 4000000
namespace L2
open PySem PySem.Spec PyProof.Rows
end L2
set_option Elab.async false
set_option linter.all false
set_option maxRecDepth 100000
set_option maxHeartbeats 4000000
namespace L2
open PySem PySem.Spec PyProof.Rows
end L2
set_option Elab.async false
set_option linter.all false
set_option maxRecDepth 100000
set_option maxHeartbeats 4000000
namespace L2
open PySem PySem.Spec PyProof.Rows
def leS (a b : Str) : Bool := !ltCps b.cps.toList a.cps.toList
def insS (x : Str) : List Str → List Str
  | [] => [x]
  | y :: r => if leS x y = true then x :: y :: r else y :: insS x r
def sortS : List Str → List Str
  | [] => []
  | x :: r => insS x (sortS r)
theorem leS_iff (a b : Str) : leS a b = true ↔ ¬ b.cps.toList < a.cps.toList := by
  unfold leS
  rw [ltCps_eq]
  simp
theorem leS_total (a b : Str) : leS a b = true ∨ leS b a = true := by
  rw [leS_iff, leS_iff]
  by_cases h : b.cps.toList < a.cps.toList
  · exact .inr (List.lt_asymm h)
  · exact .inl h
theorem leS_trans {a b c : Str} (h1 : leS a b = true) (h2 : leS b c = true) : leS a c = true := by
  rw [leS_iff] at *
  intro h
  rcases strKind.negTrans c.cps.toList b.cps.toList a.cps.toList (by simpa using h) with z | z
  · exact h2 (by simpa using z)
  · exact h1 (by simpa using z)
theorem leS_antisymm {a b : Str} (h1 : leS a b = true) (h2 : leS b a = true) : a = b := by
  rw [leS_iff] at *
  exact str_ext (List.le_antisymm (List.not_lt.mp h1) (List.not_lt.mp h2))
abbrev Sor (l : List Str) : Prop := l.Pairwise fun a b => leS a b = true
theorem ins_perm (x : Str) : ∀ l : List Str, (insS x l).Perm (x :: l)
  | [] => .refl _
  | y :: r => by
    unfold insS
    split
    · exact .refl _
    · exact ((ins_perm x r).cons y).trans (.swap x y r)
theorem sortS_perm : ∀ l : List Str, (sortS l).Perm l
  | [] => .refl _
  | x :: r => (ins_perm x (sortS r)).trans ((sortS_perm r).cons x)
theorem ins_sor (x : Str) : ∀ {l : List Str}, Sor l → Sor (insS x l)
  | [], _ => List.pairwise_singleton _ _
  | y :: r, h => by
    unfold insS
    obtain ⟨h1, h2⟩ := List.pairwise_cons.mp h
    split
    · rename_i hx
      refine List.pairwise_cons.mpr ⟨fun z hz => ?_, h⟩
      rcases List.mem_cons.mp hz with rfl | hz
      · exact hx
      · exact leS_trans hx (h1 z hz)
    · rename_i hx
      refine List.pairwise_cons.mpr ⟨fun z hz => ?_, ins_sor x h2⟩
      rcases List.mem_cons.mp ((ins_perm x r).mem_iff.mp hz) with rfl | hz
      · exact (leS_total y z).resolve_right hx
      · exact h1 z hz
theorem sortS_sor : ∀ l : List Str, Sor (sortS l)
  | [] => .nil
  | x :: r => ins_sor x (sortS_sor r)
theorem sor_unique : ∀ {a b : List Str}, a.Perm b → Sor a → Sor b → a = b
  | [], b, p, _, _ => (List.nil_perm.mp p).symm
  | x :: r, [], p, _, _ => absurd p.symm.nil_eq (by simp)
  | x :: r, y :: t, p, ha, hb => by
    have e : x = y := by
      have h1 : x ∈ y :: t := p.mem_iff.mp List.mem_cons_self
      have h2 : y ∈ x :: r := p.mem_iff.mpr List.mem_cons_self
      rcases List.mem_cons.mp h1 with e | h1
      · exact e
      · rcases List.mem_cons.mp h2 with e | h2
        · exact e.symm
        · exact leS_antisymm ((List.pairwise_cons.mp ha).1 y h2) ((List.pairwise_cons.mp hb).1 x h1)
    subst e
    rw [sor_unique (List.perm_cons _ |>.mp p) (List.pairwise_cons.mp ha).2 (List.pairwise_cons.mp hb).2]
theorem sortS_eq {a b : List Str} (p : a.Perm b) (h : Sor a) : a = sortS b := sor_unique (p.trans (sortS_perm b).symm) h (sortS_sor b)
theorem sortS_congr {a b : List Str} (p : a.Perm b) : sortS a = sortS b := sortS_eq ((sortS_perm a).trans p) (sortS_sor a)
end L2
set_option Elab.async false
set_option linter.all false
set_option maxRecDepth 100000
set_option maxHeartbeats 4000000
namespace L2
open PySem PySem.Spec PyProof.Rows
theorem RDs.len {K : PySem.W.Frag} {H : Hp} : ∀ {xs : List V} {ds : List PyData}, RDs K H xs ds → xs.length = ds.length
  | _, _, .nil => rfl
  | _, _, .cons _ r => by rw [List.length_cons, List.length_cons, RDs.len r]
theorem RDs.at {K : PySem.W.Frag} {H : Hp} : ∀ {xs : List V} {ds : List PyData} {m : Nat} {x : V}, RDs K H xs ds → xs[m]? = some x → ∃ d, ds[m]? = some d ∧ RD K H x d
  | _, _, _, _, .nil, e => by simp at e
  | _, _, 0, _, .cons h _, e => by simp at e; subst e; exact ⟨_, rfl, h⟩
  | _, _, m + 1, x, .cons _ r, e => by
    obtain ⟨d, e1, e2⟩ := RDs.at (m := m) (x := x) r (by simpa using e)
    exact ⟨d, by simpa using e1, e2⟩
theorem Vals.erase : ∀ {xs : List V} {us : List Value} (j : Nat), Vals xs us → Vals (xs.eraseIdx j) (us.eraseIdx j)
  | _, _, _, .nil => .nil
  | _, _, 0, .cons _ r => r
  | _, _, j + 1, .cons h r => .cons h (Vals.erase j r)
end L2
set_option Elab.async false
set_option linter.all false
set_option maxRecDepth 100000
set_option maxHeartbeats 4000000
namespace L2
open PySem PySem.Spec PyProof.Rows
end L2
set_option Elab.async false
set_option linter.all false
set_option maxRecDepth 100000
set_option maxHeartbeats 4000000
namespace L2
open PySem PySem.Spec PyProof.Rows
abbrev Rows := List (Str × Str)
def up (rows : Rows) (n : Str) : Option Str := (rows.find? fun r => decide (r.1 = n)).map (·.2)
def reps (rows : Rows) (t : Str) : List Str := (rows.filter fun r => decide (r.2 = t)).map (·.1)
def without (rows : Rows) (n : Str) : Rows := rows.filter fun r => decide (r.1 ≠ n)
theorem up_mem {rows : Rows} {n a : Str} (h : up rows n = some a) : (n, a) ∈ rows := by
  unfold up at h
  cases e : rows.find? fun r => decide (r.1 = n) with
  | none => rw [e] at h; cases h
  | some r =>
    rw [e] at h
    have h1 := List.find?_some e
    have h2 := List.mem_of_find?_eq_some e
    have e1 : r.1 = n := of_decide_eq_true h1
    have e2 : r.2 = a := Option.some.inj h
    rw [← e1, ← e2]; exact h2
theorem up_none {rows : Rows} {n : Str} : up rows n = none ↔ ¬ n ∈ rows.map (·.1) := by
  unfold up
  rw [Option.map_eq_none_iff, List.find?_eq_none]
  constructor
  · intro h z
    obtain ⟨r, hr, e⟩ := List.mem_map.mp z
    exact h r hr (decide_eq_true e)
  · intro h r hr z
    exact h (List.mem_map.mpr ⟨r, hr, of_decide_eq_true z⟩)
theorem up_some {rows : Rows} {n : Str} (h : n ∈ rows.map (·.1)) : ∃ a, up rows n = some a := by
  cases e : up rows n with
  | none => exact absurd h (up_none.mp e)
  | some a => exact ⟨a, rfl⟩
theorem reps_sub {rows : Rows} {t n : Str} (h : n ∈ reps rows t) : n ∈ rows.map (·.1) := by
  obtain ⟨r, hr, e⟩ := List.mem_map.mp h
  exact List.mem_map.mpr ⟨r, (List.mem_filter.mp hr).1, e⟩
theorem one_answer {rows : Rows} {n a b : Str} (nd : (rows.map (·.1)).Nodup) (h1 : (n, a) ∈ rows) (h2 : (n, b) ∈ rows) : a = b := by
  induction rows with
  | nil => cases h1
  | cons r rows ih =>
    rw [List.map_cons, List.nodup_cons] at nd
    rcases List.mem_cons.mp h1 with e1 | h1
    · rcases List.mem_cons.mp h2 with e2 | h2
      · rw [← e2] at e1; exact (Prod.mk.inj e1).2
      · exact absurd (List.mem_map.mpr ⟨_, h2, by rw [← e1]⟩) nd.1
    · rcases List.mem_cons.mp h2 with e2 | h2
      · exact absurd (List.mem_map.mpr ⟨_, h1, by rw [← e2]⟩) nd.1
      · exact ih nd.2 h1 h2
theorem in_reps {rows : Rows} {n a : Str} (h : up rows n = some a) : n ∈ reps rows a := List.mem_map.mpr ⟨(n, a), List.mem_filter.mpr ⟨up_mem h, decide_eq_true rfl⟩, rfl⟩
def chain (rows : Rows) : Nat → List Str → List Str
  | 0, met => met
  | k + 1, met => match up rows (met.getLastD "") with
    | some a => if a ∈ rows.map (·.1) ∧ ¬ a ∈ met then chain rows k (met ++ [a]) else met
    | none => met
def depthOf (rows : Rows) (n : Str) : Int := ((chain rows rows.length [n]).length : Int) - 1
theorem chain_go {rows : Rows} {met : List Str} {a : Str} {k : Nat} (h : up rows (met.getLastD "") = some a) (h1 : a ∈ rows.map (·.1)) (h2 : ¬ a ∈ met) : chain rows (k + 1) met = chain rows k (met ++ [a]) := by
  conv => lhs; unfold chain
  rw [h]
  simp only [if_pos (And.intro h1 h2)]
theorem chain_end {rows : Rows} {met : List Str} {a : Str} {k : Nat} (h : up rows (met.getLastD "") = some a) (h1 : ¬ (a ∈ rows.map (·.1) ∧ ¬ a ∈ met)) : chain rows (k + 1) met = met := by
  unfold chain
  rw [h]
  exact if_neg h1
theorem nodup_le : ∀ {ms l : List Str}, ms.Nodup → (∀ m ∈ ms, m ∈ l) → ms.length ≤ l.length
  | [], _, _, _ => Nat.zero_le _
  | m :: ms, l, nd, h => by
    obtain ⟨h1, h2⟩ := List.nodup_cons.mp nd
    have hm := h m List.mem_cons_self
    have e := List.length_erase_of_mem hm
    have hp := List.length_pos_of_mem hm
    have := nodup_le (l := l.erase m) h2 fun x hx => (List.mem_erase_of_ne (a := x) (b := m) (fun z => h1 (by rw [← z]; exact hx))).mpr (h x (List.mem_cons_of_mem _ hx))
    rw [List.length_cons]
    omega
/-- on the way: met is the way so far, a what its last one answers -/
structure OnWay (rows : Rows) (n : Str) (met : List Str) (a : Str) : Prop where
  nd : met.Nodup
  sub : ∀ m ∈ met, m ∈ rows.map (·.1)
  last : up rows (met.getLastD "") = some a
  ne : met ≠ []
  way : chain rows (rows.length + 1 - met.length) met = chain rows rows.length [n]
theorem OnWay.len {rows : Rows} {n : Str} {met : List Str} {a : Str} (w : OnWay rows n met a) : 1 ≤ met.length ∧ met.length ≤ rows.length := by
  have h1 := nodup_le w.nd w.sub
  rw [List.length_map] at h1
  exact ⟨List.length_pos_iff.mpr w.ne, h1⟩
theorem OnWay.start {rows : Rows} {n a : Str} (h : up rows n = some a) : OnWay rows n [n] a :=
  ⟨by simp, fun m hm => by rw [List.mem_singleton.mp hm]; exact List.mem_map.mpr ⟨_, up_mem h, rfl⟩, h, by simp, rfl⟩
theorem OnWay.step {rows : Rows} {n : Str} {met : List Str} {a b : Str} (w : OnWay rows n met a) (h1 : up rows a = some b) (h2 : ¬ a ∈ met) : OnWay rows n (met ++ [a]) b := by
  have hl := w.len
  have ha : a ∈ rows.map (·.1) := List.mem_map.mpr ⟨_, up_mem h1, rfl⟩
  have e := chain_go (k := rows.length - met.length) w.last ha h2
  refine ⟨List.nodup_append.mpr ⟨w.nd, by simp, fun x hx y hy z => ?_⟩, fun m hm => ?_, ?_, by simp, ?_⟩
  · have : y = a := by simpa using hy
    rw [z, this] at hx; exact h2 hx
  · rcases List.mem_append.mp hm with z | z
    · exact w.sub m z
    · rw [List.mem_singleton.mp z]; exact ha
  · rw [List.getLastD_concat]; exact h1
  · rw [← w.way, List.length_append, List.length_singleton, show rows.length + 1 - (met.length + 1) = rows.length - met.length by omega, ← e, show rows.length - met.length + 1 = rows.length + 1 - met.length by omega]
theorem OnWay.stop {rows : Rows} {n : Str} {met : List Str} {a : Str} (w : OnWay rows n met a) (h : ¬ (a ∈ rows.map (·.1) ∧ ¬ a ∈ met)) : (met.length : Int) - 1 = depthOf rows n := by
  have hl := w.len
  have e := chain_end (k := rows.length - met.length) w.last h
  unfold depthOf
  rw [← w.way, show rows.length + 1 - met.length = rows.length - met.length + 1 by omega, e]
/-- all but dicts stays -/
def Kp1 (H H' : Hp) : Prop := ∀ c o, H c = some o → (∀ kvs, o ≠ .dK kvs) → H' c = some o
/-- all but lists stays -/
def Kp2 (H H' : Hp) : Prop := ∀ c o, H c = some o → (∀ xs, o ≠ .lst xs) → H' c = some o
theorem Kp1.trans {H H1 H2 : Hp} (a : Kp1 H H1) (b : Kp1 H1 H2) : Kp1 H H2 := fun c o e n => b c o (a c o e n) n
theorem Kp2.trans {H H1 H2 : Hp} (a : Kp2 H H1) (b : Kp2 H1 H2) : Kp2 H H2 := fun c o e n => b c o (a c o e n) n
theorem Kp1.refl (H : Hp) : Kp1 H H := fun _ _ e _ => e
theorem Kp2.refl (H : Hp) : Kp2 H H := fun _ _ e _ => e
theorem Kp1.upd {H : Hp} {p : Addr} {kvs kvs' : List (Key × V)} (h : H p = some (.dK kvs)) : Kp1 H (upd H p (.dK kvs')) := fun c o e n => by
  by_cases z : c = p
  · rw [z, h] at e; cases e; exact absurd rfl (n kvs)
  · rw [upd_ne z]; exact e
theorem Kp2.upd {H : Hp} {p : Addr} {xs xs' : List V} (h : H p = some (.lst xs)) : Kp2 H (upd H p (.lst xs')) := fun c o e n => by
  by_cases z : c = p
  · rw [z, h] at e; cases e; exact absurd rfl (n xs)
  · rw [upd_ne z]; exact e
end L2
set_option Elab.async false
set_option linter.all false
set_option maxRecDepth 100000
set_option maxHeartbeats 4000000
namespace L2
open PySem PySem.Spec PyProof.Rows
theorem rep_list (x : Str) : ∀ (n : Nat) (acc : Array Nat), ((List.replicate n x.cps).foldl (· ++ ·) acc).toList = acc.toList ++ (List.replicate n x.cps.toList).flatten
  | 0, acc => by simp
  | n + 1, acc => by
    rw [List.replicate_succ, List.foldl_cons, rep_list x n (acc ++ x.cps), List.replicate_succ, List.flatten_cons, Array.toList_append, List.append_assoc]
theorem mul_signs (x : Str) (n : Int) : (Txt.mul x n).cps.toList = (List.replicate n.toNat x.cps.toList).flatten := by
  unfold Txt.mul
  by_cases h : n < 1
  · rw [if_pos h, show n.toNat = 0 by omega]; rfl
  · rw [if_neg h]
    split
    · rename_i h2
      rw [Bool.or_eq_true] at h2
      rcases h2 with h2 | h2
      · have : n = 1 := by simpa using h2
        rw [this]
        show _ = (List.replicate 1 x.cps.toList).flatten
        simp
      · have h3 : x.cps.toList = [] := List.eq_nil_of_length_eq_zero (by rw [← len_list]; simpa using h2)
        rw [h3]
        simp
    · show ((List.replicate n.toNat x.cps).foldl (· ++ ·) #[]).toList = _
      rw [rep_list]; rfl
theorem mul_len (x : Str) (n : Int) : (Txt.mul x n).length = n.toNat * x.length := by
  rw [len_list, mul_signs, len_list, List.length_flatten]
  simp
theorem mul_mem {x : Str} {n : Int} {c : Nat} (h : c ∈ (Txt.mul x n).cps.toList) : c ∈ x.cps.toList := by
  rw [mul_signs] at h
  obtain ⟨l, h1, h2⟩ := List.mem_flatten.mp h
  rw [(List.mem_replicate.mp h1).2] at h2
  exact h2
inductive rMulS_I (x : V) (y : V) (H : Hp) (Q : VK) : Prop
  | mk : ∀ (s : Str) (n : Int), x = .str s → y = .int n → s.length ≤ 100 → -1000 ≤ n → n ≤ 1000 → Q (.str (Txt.mul s n)) H → rMulS_I x y H Q
def rMulS : R2 := fun x y H Q => rMulS_I x y H Q
theorem op_mul_str {X : Cx} : OpR X (binaryOp .Mult) rMulS := by
  intro pins s σ H x y v u Q I rx ry h
  obtain ⟨z, n, rfl, rfl, hz, h0, h1, q⟩ := h
  obtain ⟨t, rfl⟩ := rx
  obtain ⟨t', rfl⟩ := ry
  refine SB.mul ⟨?_, fun hn _ => ?_, fun hn _ => ?_⟩ fun t' k => ⟨.str _, H, I.tok _, ⟨_, rfl⟩, q⟩
  · rw [Bool.or_eq_false_iff]
    exact ⟨decide_eq_false (by omega), decide_eq_false (by omega)⟩
  · have h4 : (z.length : Int) * n ≤ 100 * 1000 := Int.mul_le_mul (by omega) h1 (by omega) (by decide)
    have h5 : (z.length : Int) ≤ (2 ^ 63 - 1) / n := Int.le_ediv_of_mul_le (by omega) (Int.le_trans h4 (by decide))
    omega
  · have h2 : z.length * n.toNat ≤ 100 * 1000 := Nat.mul_le_mul hz (by omega)
    have h3 : 100 * 1000 ≤ sizeLine := by decide
    unfold Builtin.Str.tooLong
    exact decide_eq_false (by omega)
end L2
set_option Elab.async false
set_option linter.all false
set_option maxRecDepth 100000
set_option maxHeartbeats 4000000
namespace L2
open PySem PySem.Spec PyProof.Rows
abbrev PRow := Addr × Str × Str
/-- all but the list at h stays -/
def KpH (h : Addr) (H H' : Hp) : Prop := ∀ c o, c ≠ h → H c = some o → H' c = some o
theorem KpH.trans {h : Addr} {H H1 H2 : Hp} (a : KpH h H H1) (b : KpH h H1 H2) : KpH h H H2 := fun c o n e => b c o n (a c o n e)
end L2
set_option Elab.async false
set_option linter.all false
set_option maxRecDepth 100000
set_option maxHeartbeats 4000000
namespace L2
open PySem PySem.Spec PyProof.Rows
section
variable {X : Cx} {pins : List (Addr × Obj)} {σ : St} {H : Hp} {s : Shared} {a : Addr} {oa : Obj} {kvs : List (Key × V)}
end
end L2
set_option Elab.async false
set_option linter.all false
set_option maxRecDepth 100000
set_option maxHeartbeats 4000000
namespace L2
open PySem PySem.Spec PyProof.Rows
def upL (rows : Rows) (n : Str) : List Str := match up rows n with
  | some a => if a = "" then [] else [a]
  | none => []
def nbr (rows : Rows) (n : Str) : List Str := reps rows n ++ upL rows n
inductive Rch (rows : Rows) (n : Str) : Str → Prop
  | refl : Rch rows n n
  | step {m k : Str} : Rch rows n m → k ∈ nbr rows m → Rch rows n k
theorem mem_upL {rows : Rows} {n k : Str} : k ∈ upL rows n ↔ up rows n = some k ∧ k ≠ "" := by
  unfold upL
  cases up rows n with
  | none => simp
  | some a =>
    by_cases h : a = ""
    · subst h
      simp
      intro e; exact e.symm
    · simp [h]
      constructor
      · rintro rfl; exact ⟨rfl, h⟩
      · rintro ⟨e, _⟩; exact e.symm
theorem mem_reps {rows : Rows} {t n : Str} (nd : (rows.map (·.1)).Nodup) : n ∈ reps rows t ↔ up rows n = some t := by
  constructor
  · intro h
    obtain ⟨r, hr, e⟩ := List.mem_map.mp h
    obtain ⟨h1, h2⟩ := List.mem_filter.mp hr
    have e2 : r.2 = t := of_decide_eq_true h2
    obtain ⟨a, ea⟩ := up_some (List.mem_map.mpr ⟨r, h1, e⟩)
    have : (n, t) ∈ rows := by rw [← e, ← e2]; exact h1
    rw [ea, one_answer nd (up_mem ea) this]
  · exact in_reps
/-- names are no empty texts -/
def NoE (rows : Rows) : Prop := ∀ n : Str, n ∈ rows.map (·.1) → n ≠ ""
theorem nbr_sym {rows : Rows} (nd : (rows.map (·.1)).Nodup) {m k : Str} (hm : m ≠ "") (h : k ∈ nbr rows m) : m ∈ nbr rows k := by
  rcases List.mem_append.mp h with h | h
  · exact List.mem_append_right _ (mem_upL.mpr ⟨(mem_reps nd).mp h, hm⟩)
  · exact List.mem_append_left _ ((mem_reps nd).mpr (mem_upL.mp h).1)
theorem nbr_ne {rows : Rows} (ne : NoE rows) {m k : Str} (h : k ∈ nbr rows m) : k ≠ "" := by
  rcases List.mem_append.mp h with h | h
  · exact ne k (reps_sub h)
  · exact (mem_upL.mp h).2
theorem Rch.ne {rows : Rows} (ne : NoE rows) {n k : Str} (hn : n ≠ "") (h : Rch rows n k) : k ≠ "" := by
  cases h with
  | refl => exact hn
  | step _ h => exact nbr_ne ne h
theorem Rch.trans {rows : Rows} {a b c : Str} (h1 : Rch rows a b) (h2 : Rch rows b c) : Rch rows a c := by
  induction h2 with
  | refl => exact h1
  | step _ h ih => exact .step ih h
theorem Rch.symm {rows : Rows} (nd : (rows.map (·.1)).Nodup) (ne : NoE rows) {a b : Str} (ha : a ≠ "") (h : Rch rows a b) : Rch rows b a := by
  induction h with
  | refl => exact .refl
  | step h1 h2 ih => exact (Rch.step .refl (nbr_sym nd (h1.ne ne ha) h2)).trans ih
open Classical in
noncomputable def thrOf (rows : Rows) (n : Str) : List Str := sortS ((rows.map (·.1)).filter fun m => decide (Rch rows n m))
theorem thr_of {rows : Rows} (nd : (rows.map (·.1)).Nodup) {n : Str} {l : List Str} (hl : l.Nodup) (h : ∀ m, m ∈ l ↔ m ∈ rows.map (·.1) ∧ Rch rows n m) : sortS l = thrOf rows n := by
  unfold thrOf
  refine sortS_congr ((List.perm_ext_iff_of_nodup hl (nd.filter _)).mpr fun m => ?_)
  rw [h, List.mem_filter]
  simp
structure DFS (rows : Rows) (n : Str) (rc wt : List Str) : Prop where
  nd : rc.Nodup
  start : n ∈ rc
  sound : ∀ m ∈ rc, Rch rows n m
  sub : ∀ m ∈ wt, m ∈ rc
  clo : ∀ m ∈ rc, m ∉ wt → ∀ k ∈ nbr rows m, k ∈ rc
def univ (rows : Rows) : List Str := rows.map (·.1) ++ rows.map (·.2)
theorem rch_univ {rows : Rows} {n m : Str} (hn : n ∈ rows.map (·.1)) (h : Rch rows n m) : m ∈ univ rows := by
  cases h with
  | refl => exact List.mem_append_left _ hn
  | step _ h =>
    rcases List.mem_append.mp h with h | h
    · exact List.mem_append_left _ (reps_sub h)
    · exact List.mem_append_right _ (List.mem_map.mpr ⟨_, up_mem (mem_upL.mp h).1, rfl⟩)
theorem DFS.len {rows : Rows} {n : Str} {rc wt : List Str} (d : DFS rows n rc wt) (hn : n ∈ rows.map (·.1)) : rc.length ≤ 2 * rows.length := by
  have := nodup_le d.nd fun m hm => rch_univ hn (d.sound m hm)
  unfold univ at this
  rw [List.length_append, List.length_map, List.length_map] at this
  omega
theorem DFS.init {rows : Rows} {n : Str} : DFS rows n [n] [n] :=
  ⟨by simp, by simp, fun m hm => by rw [List.mem_singleton.mp hm]; exact .refl, fun m hm => hm, fun m hm h => absurd hm h⟩
theorem DFS.done {rows : Rows} (nd : (rows.map (·.1)).Nodup) {n : Str} {rc : List Str} (d : DFS rows n rc []) : sortS (rc.filter fun m => decide (m ∈ rows.map (·.1))) = thrOf rows n := by
  have all : ∀ m, Rch rows n m → m ∈ rc := fun m h => by
    induction h with
    | refl => exact d.start
    | step _ h ih => exact d.clo _ ih (by simp) _ h
  refine thr_of nd (d.nd.filter _) fun m => ?_
  rw [List.mem_filter]
  constructor
  · rintro ⟨h1, h2⟩
    exact ⟨of_decide_eq_true h2, d.sound m h1⟩
  · rintro ⟨h1, h2⟩
    exact ⟨all m h2, decide_eq_true h1⟩
/-- within a turn: here was taken off, its neighbours ns (the first i of them) have been looked at -/
structure DFSin (rows : Rows) (n here : Str) (seen : List Str) (rc wt : List Str) : Prop where
  nd : rc.Nodup
  start : n ∈ rc
  hr : here ∈ rc
  sound : ∀ m ∈ rc, Rch rows n m
  sub : ∀ m ∈ wt, m ∈ rc
  clo : ∀ m ∈ rc, m ∉ wt → m ≠ here → ∀ k ∈ nbr rows m, k ∈ rc
  got : ∀ k ∈ seen, k ∈ rc
theorem DFSin.old {rows : Rows} {n here k : Str} {seen rc wt : List Str} (d : DFSin rows n here seen rc wt) (hk : k ∈ rc) : DFSin rows n here (seen ++ [k]) rc wt :=
  ⟨d.nd, d.start, d.hr, d.sound, d.sub, d.clo, fun m hm => (List.mem_append.mp hm).elim (d.got m) fun y => by rw [List.mem_singleton.mp y]; exact hk⟩
theorem DFSin.new {rows : Rows} {n here k : Str} {seen rc wt : List Str} (d : DFSin rows n here seen rc wt) (hk : ¬ k ∈ rc) (hn : k ∈ nbr rows here) : DFSin rows n here (seen ++ [k]) (rc ++ [k]) (wt ++ [k]) := by
  refine ⟨List.nodup_append.mpr ⟨d.nd, by simp, fun x hx y hy e => hk ?_⟩, List.mem_append_left _ d.start, List.mem_append_left _ d.hr, fun m hm => ?_, fun m hm => ?_, fun m hm h1 h2 => ?_, fun m hm => ?_⟩
  · rw [List.mem_singleton.mp hy] at e; rw [← e]; exact hx
  · rcases List.mem_append.mp hm with z | z
    · exact d.sound m z
    · rw [List.mem_singleton.mp z]; exact .step (d.sound here d.hr) hn
  · rcases List.mem_append.mp hm with z | z
    · exact List.mem_append_left _ (d.sub m z)
    · exact List.mem_append_right _ z
  · rcases List.mem_append.mp hm with z | z
    · intro k' hk'
      exact List.mem_append_left _ (d.clo m z (fun y => h1 (List.mem_append_left _ y)) h2 k' hk')
    · exact absurd (List.mem_append_right _ z) h1
  · rcases List.mem_append.mp hm with z | z
    · exact List.mem_append_left _ (d.got m z)
    · exact List.mem_append_right _ z
def hang (one other : Str × Str) : Bool := decide (one.2 = other.1) || (decide (other.2 = one.1) || (decide (one.2 ≠ "") && decide (one.2 = other.2)))
theorem hang_rch {rows : Rows} (nd : (rows.map (·.1)).Nodup) (ne : NoE rows) {one other : Str × Str} (h1 : one ∈ rows) (h2 : other ∈ rows) (h : hang one other = true) : Rch rows other.1 one.1 := by
  have u : ∀ r ∈ rows, up rows r.1 = some r.2 := fun r hr => by
    obtain ⟨a, ea⟩ := up_some (List.mem_map.mpr ⟨r, hr, rfl⟩)
    rw [ea, one_answer nd (up_mem ea) hr]
  have n1 := ne one.1 (List.mem_map.mpr ⟨one, h1, rfl⟩)
  unfold hang at h
  rw [Bool.or_eq_true, Bool.or_eq_true, Bool.and_eq_true] at h
  rcases h with h | h | ⟨h, h'⟩
  · have e := of_decide_eq_true h
    exact .step .refl (List.mem_append_left _ ((mem_reps nd).mpr (by rw [u one h1, e])))
  · have e := of_decide_eq_true h
    exact .step .refl (List.mem_append_right _ (mem_upL.mpr ⟨by rw [u other h2, e], n1⟩))
  · have e0 := of_decide_eq_true h
    have e := of_decide_eq_true h'
    refine .step (m := one.2) (.step .refl (List.mem_append_right _ (mem_upL.mpr ⟨by rw [u other h2, e], e0⟩))) (List.mem_append_left _ ((mem_reps nd).mpr (u one h1)))
theorem hang_all {rows : Rows} (nd : (rows.map (·.1)).Nodup) (ne : NoE rows) {n : Str} {S : Rows} (sub : ∀ r ∈ S, r ∈ rows) (hn : n ∈ S.map (·.1)) (clo : ∀ r ∈ S, ∀ q ∈ rows, hang q r = true → q ∈ S) {m : Str} (hm : m ∈ rows.map (·.1)) (h : Rch rows n m) : m ∈ S.map (·.1) := by
  have n0 : n ≠ "" := by
    obtain ⟨r, hr, e⟩ := List.mem_map.mp hn
    exact ne n (List.mem_map.mpr ⟨r, sub r hr, e⟩)
  have good : ∀ k, Rch rows n k → (k ∈ rows.map (·.1) → k ∈ S.map (·.1)) ∧ (k ∉ rows.map (·.1) → ∃ r ∈ S, r.2 = k) := fun k hk => by
    induction hk with
    | refl => exact ⟨fun _ => hn, fun z => by
        obtain ⟨r, hr, e⟩ := List.mem_map.mp hn
        exact absurd (List.mem_map.mpr ⟨r, sub r hr, e⟩) z⟩
    | @step m k h1 h2 ih =>
      have m0 := h1.ne ne n0
      rcases List.mem_append.mp h2 with h2 | h2
      · -- k answers m
        have hk := reps_sub h2
        refine ⟨fun _ => ?_, fun z => absurd hk z⟩
        have hkm : (k, m) ∈ rows := up_mem ((mem_reps nd).mp h2)
        by_cases hmn : m ∈ rows.map (·.1)
        · obtain ⟨r, hr, e⟩ := List.mem_map.mp (ih.1 hmn)
          exact List.mem_map.mpr ⟨(k, m), clo r hr _ hkm (by unfold hang; simp [e]), rfl⟩
        · obtain ⟨r, hr, e⟩ := ih.2 hmn
          exact List.mem_map.mpr ⟨(k, m), clo r hr _ hkm (by unfold hang; simp [e, m0]), rfl⟩
      · obtain ⟨e1, e2⟩ := mem_upL.mp h2
        have hmm := up_mem e1
        have hmn : m ∈ rows.map (·.1) := List.mem_map.mpr ⟨_, hmm, rfl⟩
        obtain ⟨r, hr, e⟩ := List.mem_map.mp (ih.1 hmn)
        have er : r.2 = k := one_answer nd (by rw [← e]; exact sub r hr) hmm
        refine ⟨fun hk => ?_, fun _ => ⟨r, hr, er⟩⟩
        obtain ⟨q, hq, eq⟩ := List.mem_map.mp hk
        exact List.mem_map.mpr ⟨q, clo r hr q hq (by unfold hang; simp [er, eq]), eq⟩
  exact (good m h).1 hm
end L2
set_option Elab.async false
set_option linter.all false
set_option maxRecDepth 100000
set_option maxHeartbeats 4000000
namespace L2
open PySem PySem.Spec PyProof.Rows
theorem inj_nd {α β : Type} {f : α → β} : ∀ {l : List α}, (l.map f).Nodup → ∀ {a b : α}, a ∈ l → b ∈ l → f a = f b → a = b
  | [], _, _, _, ha, _, _ => by cases ha
  | x :: l, nd, a, b, ha, hb, e => by
    rw [List.map_cons, List.nodup_cons] at nd
    rcases List.mem_cons.mp ha with h1 | h1 <;> rcases List.mem_cons.mp hb with h2 | h2
    · rw [h1, h2]
    · exact absurd (List.mem_map.mpr ⟨b, h2, by rw [← e, h1]⟩) nd.1
    · exact absurd (List.mem_map.mpr ⟨a, h1, by rw [e, h2]⟩) nd.1
    · exact inj_nd nd.2 h1 h2 e
theorem filter_map_nd {α β : Type} {f : α → β} {p : α → Bool} {l : List α} (nd : (l.map f).Nodup) : ((l.filter p).map f).Nodup := nd.sublist ((List.filter_sublist).map f)
structure LW (prs : List PRow) (n : Str) (S : List PRow) (at' : Nat) : Prop where
  sub : ∀ r ∈ S, r ∈ prs
  nd : (S.map (·.2.1)).Nodup
  snd : ∀ r ∈ S, Rch (prs.map (·.2)) n r.2.1
  me : n ∈ S.map (·.2.1)
  clo : ∀ j, j < at' → ∀ r, S[j]? = some r → ∀ q ∈ prs, hang q.2 r.2 = true → q ∈ S
def lwNew (prs S : List PRow) (r : PRow) : List PRow := prs.filter fun q => !(S.any fun s => decide (s.2 = q.2)) && hang q.2 r.2
section
variable {prs S : List PRow} {n : Str} {k : Nat}
theorem LW.start (nd : (prs.map (·.2.1)).Nodup) (hn : n ∈ prs.map (·.2.1)) : LW prs n (prs.filter fun q => decide (q.2.1 = n)) 0 := by
  refine ⟨fun r hr => (List.mem_filter.mp hr).1, filter_map_nd nd, fun r hr => ?_, ?_, fun j hj => absurd hj (Nat.not_lt_zero _)⟩
  · rw [of_decide_eq_true (List.mem_filter.mp hr).2]; exact .refl
  · obtain ⟨r, hr, e⟩ := List.mem_map.mp hn
    exact List.mem_map.mpr ⟨r, List.mem_filter.mpr ⟨hr, decide_eq_true e⟩, e⟩
theorem LW.len (w : LW prs n S k) : S.length ≤ prs.length := by
  have := nodup_le w.nd (l := prs.map (·.2.1)) fun m hm => by
    obtain ⟨r, hr, e⟩ := List.mem_map.mp hm
    exact List.mem_map.mpr ⟨r, w.sub r hr, e⟩
  rw [List.length_map, List.length_map] at this
  exact this
theorem LW.step (nd : (prs.map (·.2.1)).Nodup) (ne : NoE (prs.map (·.2))) {r : PRow} (w : LW prs n S k) (hr : S[k]? = some r) : LW prs n (S ++ lwNew prs S r) (k + 1) := by
  have nd' : ((prs.map (·.2)).map (·.1)).Nodup := by rw [List.map_map]; exact nd
  have hrS : r ∈ S := List.mem_of_getElem? hr
  have hk : k < S.length := (List.getElem?_eq_some_iff.mp hr).1
  have hnew : ∀ q, q ∈ lwNew prs S r ↔ q ∈ prs ∧ ¬ q ∈ S ∧ hang q.2 r.2 = true := fun q => by
    unfold lwNew
    rw [List.mem_filter, Bool.and_eq_true, Bool.not_eq_true']
    constructor
    · rintro ⟨h1, h2, h3⟩
      refine ⟨h1, fun z => ?_, h3⟩
      have : (S.any fun s => decide (s.2 = q.2)) = true := List.any_eq_true.mpr ⟨q, z, decide_eq_true rfl⟩
      rw [h2] at this
      cases this
    · rintro ⟨h1, h2, h3⟩
      refine ⟨h1, ?_, h3⟩
      cases e : S.any fun s => decide (s.2 = q.2) with
      | false => rfl
      | true =>
        obtain ⟨s, hs, es⟩ := List.any_eq_true.mp e
        have := inj_nd nd (w.sub s hs) h1 (congrArg (·.1) (of_decide_eq_true es))
        rw [this] at hs
        exact absurd hs h2
  refine ⟨fun q hq => ?_, ?_, fun q hq => ?_, ?_, fun j hj q' hq' q hq hh => ?_⟩
  · rcases List.mem_append.mp hq with z | z
    · exact w.sub q z
    · exact ((hnew q).mp z).1
  · rw [List.map_append, List.nodup_append]
    refine ⟨w.nd, filter_map_nd nd, fun a ha b hb e => ?_⟩
    obtain ⟨s, hs, rfl⟩ := List.mem_map.mp ha
    obtain ⟨q, hq, rfl⟩ := List.mem_map.mp hb
    obtain ⟨h1, h2, _⟩ := (hnew q).mp hq
    have := inj_nd nd (w.sub s hs) h1 e
    rw [this] at hs
    exact h2 hs
  · rcases List.mem_append.mp hq with z | z
    · exact w.snd q z
    · obtain ⟨h1, _, h3⟩ := (hnew q).mp z
      exact (w.snd r hrS).trans (hang_rch nd' ne (List.mem_map.mpr ⟨q, h1, rfl⟩) (List.mem_map.mpr ⟨r, w.sub r hrS, rfl⟩) h3)
  · rw [List.map_append]
    exact List.mem_append_left _ w.me
  · have hjl : j < S.length := by omega
    rw [List.getElem?_append_left hjl] at hq'
    by_cases ej : j = k
    · rw [ej, hr] at hq'
      cases hq'
      by_cases z : q ∈ S
      · exact List.mem_append_left _ z
      · exact List.mem_append_right _ ((hnew q).mpr ⟨hq, z, hh⟩)
    · exact List.mem_append_left _ (w.clo j (by omega) q' hq' q hq hh)
theorem LW.done (nd : (prs.map (·.2.1)).Nodup) (ne : NoE (prs.map (·.2))) (w : LW prs n S k) (hk : S.length ≤ k) : sortS (S.map (·.2.1)) = thrOf (prs.map (·.2)) n := by
  have nd' : ((prs.map (·.2)).map (·.1)).Nodup := by rw [List.map_map]; exact nd
  refine thr_of nd' w.nd fun m => ⟨fun hm => ?_, fun ⟨h1, h2⟩ => ?_⟩
  · obtain ⟨r, hr, rfl⟩ := List.mem_map.mp hm
    exact ⟨List.mem_map.mpr ⟨r.2, List.mem_map.mpr ⟨r, w.sub r hr, rfl⟩, rfl⟩, w.snd r hr⟩
  · have := hang_all nd' ne (S := S.map (·.2)) (fun r hr => by
      obtain ⟨q, hq, rfl⟩ := List.mem_map.mp hr
      exact List.mem_map.mpr ⟨q, w.sub q hq, rfl⟩) (by rw [List.map_map]; exact w.me) (fun r hr q hq hh => by
      obtain ⟨r', hr', rfl⟩ := List.mem_map.mp hr
      obtain ⟨q', hq', rfl⟩ := List.mem_map.mp hq
      obtain ⟨j, hj, e⟩ := List.getElem_of_mem hr'
      exact List.mem_map.mpr ⟨q', w.clo j (by omega) r' (by rw [List.getElem?_eq_getElem hj, e]) q' hq' hh, rfl⟩) h1 h2
    rw [List.map_map] at this
    exact this
end
/-- names that were met, one more -/
def addN (ns : List Str) (n : Str) : List Str := if n ∈ ns then ns else ns ++ [n]
inductive TD where
  | flat (xs : List Str)
  | deep (ls : List (Addr × List Str)) (zz : Bool)
def tdD : TD → PyData
  | .flat xs => .list (xs.map PyData.str)
  | .deep ls zz => .list ((ls.map fun p => PyData.list (p.2.map PyData.str)) ++ if zz then [PyData.str "zz"] else [])
def tdIn : TD → List Addr
  | .flat _ => []
  | .deep ls _ => ls.map (·.1)
def TDOk (H : Hp) (l : Addr) : TD → Prop
  | .flat xs => H l = some (.lst (xs.map V.str))
  | .deep ls zz => H l = some (.lst ((ls.map fun p => V.ref p.1) ++ if zz then [V.str "zz"] else [])) ∧ ∀ p ∈ ls, H p.1 = some (.lst (p.2.map V.str))
def TDB : TD → Prop
  | .flat xs => xs.length ≤ 41 ∧ ∀ x ∈ xs, Asc x ∧ x.length ≤ 20
  | .deep ls _ => ls.length ≤ 40 ∧ ∀ p ∈ ls, p.2.length ≤ 40 ∧ ∀ x ∈ p.2, Asc x ∧ x.length ≤ 20
theorem TDOk.mono {H H' : Hp} {l : Addr} {td : TD} (h : TDOk H l td) (k1 : ∀ o, H l = some o → H' l = some o) (k2 : ∀ b ∈ tdIn td, ∀ o, H b = some o → H' b = some o) : TDOk H' l td := by
  cases td with
  | flat xs => exact k1 _ h
  | deep ls zz => exact ⟨k1 _ h.1, fun p hp => k2 p.1 (List.mem_map.mpr ⟨p, hp, rfl⟩) _ (h.2 p hp)⟩
abbrev GRow := Addr × Addr × TD
structure HeldG (r h : Addr) (H : Hp) (hd : List GRow) : Prop where
  l_ : H h = some (.lst (hd.map fun q => V.ref q.1))
  hr : h ≠ r
  t_ : ∀ q ∈ hd, H q.1 = some (.tup [.ref q.2.1, .str (tdD q.2.2).shown])
  x_ : ∀ q ∈ hd, TDOk H q.2.1 q.2.2 ∧ q.2.1 ≠ h ∧ q.2.1 ≠ r ∧ ∀ b ∈ tdIn q.2.2, b ≠ h ∧ b ≠ r
  b_ : ∀ q ∈ hd, TDB q.2.2
  sep : hd.Pairwise fun q q' => q'.2.1 ≠ q.2.1 ∧ ¬ q'.2.1 ∈ tdIn q.2.2
theorem HeldG.free {r h : Addr} {H : Hp} {hd : List GRow} (a : HeldG r h H hd) {l : Addr} (hl : H l = none) : ∀ q ∈ hd, l ≠ q.2.1 ∧ ¬ l ∈ tdIn q.2.2 := fun q hq => by
  have hx := (a.x_ q hq).1
  obtain ⟨u, l1, td⟩ := q
  cases td with
  | flat xs => exact ⟨(ne_of_none hx hl).symm, fun z => nomatch z⟩
  | deep ls zz =>
    refine ⟨(ne_of_none hx.1 hl).symm, fun z => ?_⟩
    obtain ⟨p, hp, e⟩ := List.mem_map.mp z
    have := hx.2 p hp
    rw [e, hl] at this
    cases this
end L2
set_option Elab.async false
set_option linter.all false
namespace L2
open PySem PySem.Spec
section
variable {X : Cx} {pins : List (Addr × Obj)} {σ : St} {H : Hp} {s : Shared} {a : Addr} {kvs : List (Key × V)} {k : Key} {z : V} {u r : Value} {A : Around} {E : Value → Shared → Prop}
end
section
variable {X : Cx} {o e f : Expr} {apos cpos : Pos} {td ty tx : TE}
end
/-- all but what stands at x is kept -/
def SX (x : Addr) (H H' : Hp) : Prop := ∀ c o, c ≠ x → H c = some o → H' c = some o
theorem SX.of {x : Addr} {H H' : Hp} (h : Same H H') : SX x H H' := fun c o _ e => h c o e
theorem SX.trans {x : Addr} {H H1 H2 : Hp} (h : SX x H H1) (g : SX x H1 H2) : SX x H H2 := fun c o n e => g c o n (h c o n e)
theorem SX.free {x l : Addr} {H H1 : Hp} {o : HO} (h : SX x H H1) (e : H1 x = some o) (n : H1 l = none) : H l = none := by
  cases q : H l with
  | none => rfl
  | some u =>
    by_cases z : l = x
    · rw [z, e] at n; cases n
    · rw [h l u z q] at n; cases n
def nIns : HO → Bool
  | .ins _ _ _ => false
  | _ => true
/-- all but instances is kept -/
def SN (H H' : Hp) : Prop := ∀ c o, nIns o = true → H c = some o → H' c = some o
theorem Same.sn {H H' : Hp} (h : Same H H') : SN H H' := fun c o _ e => h c o e
theorem SN.trans {H H1 H2 : Hp} (h : SN H H1) (g : SN H1 H2) : SN H H2 := fun c o n e => g c o n (h c o n e)
theorem SX.sn {x C dx : Addr} {fs : List (Str × V)} {H H' : Hp} (h : SX x H H') (ex : H x = some (.ins C dx fs)) : SN H H' := fun c o n e => h c o (ne_of e ex fun z => by rw [z] at n; cases n) e
end L2
set_option Elab.async false
set_option linter.all false
set_option maxRecDepth 100000
set_option maxHeartbeats 4000000
namespace L2
open PySem PySem.Spec PyProof.Rows
def keyT : Value → Str
  | .str x _ => x
  | _ => ""
def SetT (prog : Program) (w : World) (led : Bool) (a : Addr) (ks : List Str) (h : Heap) : Prop := ∃ o es ep t, h.get? a = some o ∧ o.ExactSet ∧ o.data = .set es ep t ∧ ElemsOf (strKind prog w) es.toList ∧ es.size < scanBound ∧ t.fits es.size = true ∧ t.led = led ∧
  (t.plain = true → es.size = 0) ∧ (es.toList.map fun e => keyT e.2).Perm ks
theorem SetT.at {prog : Program} {w : World} {led : Bool} {a : Addr} {ks : List Str} {h h' : Heap} (x : SetT prog w led a ks h) (k : ∀ o, h.get? a = some o → h'.get? a = some o) : SetT prog w led a ks h' :=
  let ⟨o, es, ep, t, e, r⟩ := x; ⟨o, es, ep, t, k o e, r⟩
section
variable {prog : Program} {w : World} {A : Around} {E : Value → Shared → Prop} {s : Shared}
end
end L2
set_option Elab.async false
set_option linter.all false
set_option maxRecDepth 100000
set_option maxHeartbeats 4000000
namespace L2
open PySem PySem.Spec PyProof.Rows
section
variable {prog : Program} {w : World} {A : Around} {E : Value → Shared → Prop} {s : Shared}
end
end L2
set_option Elab.async false
set_option linter.all false
set_option maxRecDepth 100000
set_option maxHeartbeats 4000000
namespace L2
open PySem PySem.Spec PyProof.Rows
/-- the iterator -/
def SitAt (h : Heap) (it a : Addr) (first : Value) (i n ep : Nat) : Prop := ∃ o, h.get? it = some o ∧ o.cls = .type "set_iterator" ∧ o.data = .fields #[first, .int i 0, .ref a, .int n 0, .int ep 0]
def SAt (h : Heap) (a : Addr) (es : Array (Int × Value)) (ep : Nat) (t : SetTable) : Prop := ∃ o, h.get? a = some o ∧ o.cls = .type "set" ∧ o.data = .set es ep t
section
variable {prog : Program} {w : World} {A : Around} {E : Value → Shared → Prop} {s : Shared} {a it : Addr} {es : Array (Int × Value)} {ep : Nat} {t : SetTable}
theorem SitAt.typeIs {first : Value} {i n : Nat} (h : SitAt s.heap it a first i n ep) : s.TypeIs (.ref it) "set_iterator" := let ⟨o, e, c, _⟩ := h; ⟨o, e, c⟩
end
end L2
set_option Elab.async false
set_option linter.all false
set_option maxRecDepth 100000
set_option maxHeartbeats 4000000
namespace L2
open PySem PySem.Spec PyProof.Rows
section
variable {prog : Program} {w : World} {A : Around} {E : Value → Shared → Prop} {s : Shared} {a it : Addr} {es : Array (Int × Value)} {ep : Nat} {t : SetTable}
theorem SAt.at {h h' : Heap} (x : SAt h a es ep t) (k : ∀ o, h.get? a = some o → h'.get? a = some o) : SAt h' a es ep t := let ⟨o, e, r⟩ := x; ⟨o, k o e, r⟩
theorem SitAt.at {h h' : Heap} {first : Value} {i n : Nat} (x : SitAt h it a first i n ep) (k : ∀ o, h.get? it = some o → h'.get? it = some o) : SitAt h' it a first i n ep := let ⟨o, e, r⟩ := x; ⟨o, k o e, r⟩
end
end L2
set_option Elab.async false
set_option linter.all false
set_option maxRecDepth 100000
set_option maxHeartbeats 4000000
namespace L2
open PySem PySem.Spec PyProof.Rows
section
variable {prog : Program} {w : World} {A : Around} {E : Value → Shared → Prop} {s : Shared}
theorem SetT.typeIs {led : Bool} {a : Addr} {ks : List Str} (x : SetT prog w led a ks s.heap) : s.TypeIs (.ref a) "set" := let ⟨o, _, _, _, e, hex, _⟩ := x; ⟨o, e, hex.1⟩
theorem SetT.lt {led : Bool} {a : Addr} {ks : List Str} {h : Heap} (x : SetT prog w led a ks h) : a < h.objs.size := let ⟨o, _, _, _, e, _⟩ := x; Heap.lt_size e
end
end L2
set_option Elab.async false
set_option linter.all false
set_option maxRecDepth 100000
set_option maxHeartbeats 4000000
namespace L2
open PySem PySem.Spec PyProof.Rows
end L2
set_option Elab.async false
set_option linter.all false
set_option maxRecDepth 100000
set_option maxHeartbeats 4000000
namespace L2
open PySem PySem.Spec PyProof.Rows
end L2
set_option Elab.async false
set_option linter.all false
set_option maxRecDepth 100000
set_option maxHeartbeats 4000000
namespace L2
open PySem PySem.Spec PyProof.Rows
section
variable {prog : Program} {w : World} {A : Around} {E : Value → Shared → Prop} {s : Shared}
end
end L2
set_option Elab.async false
set_option linter.all false
set_option maxRecDepth 100000
set_option maxHeartbeats 4000000
namespace L2
open PySem PySem.Spec PyProof.Rows
def dd (ss : List Str) : List Str := ss.foldl addN []
end L2
set_option Elab.async false
set_option linter.all false
set_option maxRecDepth 100000
set_option maxHeartbeats 4000000
namespace L2
open PySem PySem.Spec PyProof.Rows
end L2
set_option Elab.async false
set_option linter.all false
set_option maxRecDepth 100000
set_option maxHeartbeats 4000000
namespace L2
open PySem PySem.Spec PyProof.Rows
end L2
set_option Elab.async false
set_option linter.all false
set_option maxRecDepth 100000
set_option maxHeartbeats 4000000
namespace L2
open PySem PySem.Spec PyProof.Rows
theorem ObjOk.there {P : Program} {w : World} {H : Hp} {h : Heap} {a : Addr} {o : HO} (x : ObjOk P w H h a o) : ∃ ob, h.get? a = some ob := by
  cases o with
  | lst xs => obtain ⟨_, _, _, _, e⟩ := x; exact ⟨_, e⟩
  | tup xs => obtain ⟨_, _, _, ob, e, _⟩ := x; exact ⟨_, e⟩
  | dK kvs => obtain ⟨_, _, _, _, o, _, _, e, _⟩ := x; exact ⟨_, e⟩
  | dT kvs => obtain ⟨_, _, _, _, o, _, _, e, _⟩ := x; exact ⟨_, e⟩
  | set S n => obtain ⟨o, _, _, _, e, _⟩ := x; exact ⟨_, e⟩
  | ins C dx fs => obtain ⟨_, _, _, e, _⟩ := x; exact ⟨_, e⟩
  | own y => exact x
  | xd fs => obtain ⟨_, ⟨_, _, _, e, _⟩, _⟩ := x; exact ⟨_, e⟩
  | rng lo hi => obtain ⟨_, _, _, e⟩ := x; exact ⟨_, e⟩
  | frz ob u => obtain ⟨e, _⟩ := x; exact ⟨_, e⟩
  | tbl ps => exact ⟨_, (show h.get? a = some _ from x)⟩
  | met f y => exact ⟨_, (show h.get? a = some _ from x)⟩
  | ext φ => obtain ⟨_, e, _⟩ := x; exact e
/-- what stood in h is in B, but the frames; what is untracked is the same -/
def Cov (fs : List Addr) (H : Hp) (h B : Heap) : Prop := ∀ b o, h.get? b = some o → b ∉ fs → ∃ o', B.get? b = some o' ∧ (H b = none → o' = o)
/-- what is tracked stands in B -/
def Trk (H : Hp) (h B : Heap) : Prop := ∀ b o, H b ≠ none → h.get? b = some o → B.get? b = some o
theorem Un.flown {fs : List Addr} {H H' : Hp} {h h1 h2 B : Heap} (u : Un fs [] H H' h h1) (cv : Cov fs H h B) (st : B.StaysIn h2) (sl : h1.UpToSlots h2) (fr : ∀ b ∈ fs, ∀ o, h1.get? b = some o → ∀ vs, o.data ≠ .fields vs) : Un fs [] H H' h h2 where
  keep := fun b o q n hb _ => by
    obtain ⟨o', e, z⟩ := cv b o q hb
    rw [z n] at e
    exact st _ _ e
  slot := fun b o q n hb hx => by
    obtain ⟨s0, e⟩ := u.slot b o q n hb hx
    obtain ⟨s1, e1⟩ := sl b _ e (fr b hb _ e)
    exact ⟨s1, e1⟩
  free := u.free
  there := fun b o q hx => by
    by_cases hb : b ∈ fs
    · obtain ⟨o1, e1⟩ := u.there b o q hx
      obtain ⟨_, e2⟩ := sl b o1 e1 (fr b hb o1 e1)
      exact ⟨_, e2⟩
    · obtain ⟨o', e, _⟩ := cv b o q hb
      exact ⟨o', st _ _ e⟩
  tups := u.tups
  frzs := u.frzs
  tbls := u.tbls
theorem HOk.flown {P : Program} {w : World} {H : Hp} {h1 h2 B : Heap} (x : HOk P w H h1) (ct : Trk H h1 B) (st : B.StaysIn h2) : HOk P w H h2 := fun a o e =>
  (x a o e).stay (fun b u hb q => st b u (ct b u (fun z => by
    rcases hb with rfl | hb
    · rw [z] at e; cases e
    · rw [z] at hb; cases hb) q)) (fun _ q => q) fun _ _ q => q
theorem Trk.flown {P : Program} {w : World} {H : Hp} {h1 h2 B : Heap} (x : HOk P w H h1) (ct : Trk H h1 B) (st : B.StaysIn h2) : Trk H h2 B := fun b o n q => by
  cases e : H b with
  | none => exact absurd e n
  | some u =>
    obtain ⟨ob, eb⟩ := (x b u e).there
    have e1 := ct b ob n eb
    have e2 := st _ _ e1
    rw [q] at e2
    cases e2
    exact e1
/-- an exception e of the own class at C is on its way through the frames l; H, s: as it was at the call that let it out -/
structure Fly (P : Program) (w : World) (l : List Env) (H : Hp) (s : Shared) (e C : Addr) (H' : Hp) (s' : Shared) : Prop where
  os : s'.os = s.os
  bare : AllBare s'.gens
  un : Un (frs l) [] H H' s.heap s'.heap
  hok : HOk P w H' s'.heap
  fr : H' e = none
  nw : s.heap.get? e = none
  fly : ∃ (B : Heap) (a0 : Value), Heap.FlyingW B l e (.ref C) a0 s'.heap ∧ Cov (frs l) H s.heap B ∧ Trk H' s'.heap B
def CXF (P : Program) (w : World) : CXT := fun l H s E ev s' => ∃ (e C : Addr) (H' : Hp), ev = .ref e ∧ Fly P w l H s e C H' s' ∧ E (.ref C) none H'
theorem passN {P : Program} {w : World} {X : Cx} : Passes (CXF P w) X E0 := fun _ _ _ _ _ _ _ ⟨_, _, _, _, _, h⟩ => h.elim
theorem FnOk.up {P : Program} {w : World} {K : PySem.W.Frag} {mg : Str → Option Value} {base : Heap} {CX : CXT} {k : Nat} {f : Addr} {fd : FuncData} {ps : List Str} {sp : Sp} (F : FnOk P w K mg base CX0 k f fd ps sp) : FnOk P w K mg base CX k f fd ps sp :=
  ⟨F.len, fun A outer s H args us vs Q E hr he hb hv hs => codeAny_mono (F.run A outer s H args us vs Q E hr he hb hv hs) fun r s' h => by
    cases r with
    | error e => exact False.elim h
    | ok f => cases f <;> exact h⟩
section
variable {X : Cx} {pins : List (Addr × Obj)} {σ : St} {Hc H' : Hp} {sc : Shared}
theorem Inv.nofr (I : Inv X pins σ Hc sc) : ∀ b ∈ frs X.stack, ∀ o, sc.heap.get? b = some o → ∀ vs, o.data ≠ .fields vs := fun b hb o e => by
  obtain ⟨_, o1, e1, d⟩ := I.stack.mem hb
  rw [e] at e1
  cases e1
  exact d
/-- it has left this frame -/
theorem fly_out {s1 : Shared} {h2 B : Heap} {e C : Addr} {a0 : Value} (I : Inv X pins σ Hc sc) (hex : X.ex = []) (un : Un (frs X.stack) [] Hc H' sc.heap s1.heap) (os : s1.os = sc.os) (bare : AllBare s1.gens) (hok : HOk X.prog X.w H' s1.heap)
    (he : H' e = none) (nw : sc.heap.get? e = none) (fl : Heap.FlyingW B X.outer e (.ref C) a0 h2) (cv : Cov (frs X.stack) Hc sc.heap B) (ct : Trk H' s1.heap B) (sl : s1.heap.UpToSlots h2) (nf : ∀ b ∈ frs X.stack, ∀ o, s1.heap.get? b = some o → ∀ vs, o.data ≠ .fields vs) :
    Fly X.prog X.w X.outer X.H₀ X.s₀ e C H' { s1 with heap := h2 } := by
  have un2 := un.flown cv fl.1 sl nf
  have hok2 := hok.flown ct fl.1
  have J : Inv X pins σ H' { s1 with heap := h2 } := I.call' (s' := { s1 with heap := h2 }) (ch := []) os un2 hok2 bare (fun b z => nomatch z)
  have base := J.base
  rw [hex] at base
  have base0 := I.base
  rw [hex] at base0
  refine ⟨J.os, J.bare, base, J.hok, he, ?_, B, a0, fl, fun b o e hb => ?_, ct.flown hok fl.1⟩
  · cases q : X.s₀.heap.get? e with
    | none => rfl
    | some o =>
      obtain ⟨o', e'⟩ := base0.there e o q (fun z => nomatch z)
      rw [nw] at e'
      cases e'
  · obtain ⟨o1, e1⟩ := base0.there b o e (fun z => nomatch z)
    have nb : b ∉ frs X.stack := fun z => (List.mem_cons.mp (I.stkSub b z)).elim (fun z => absurd (Nat.lt_of_lt_of_le (Heap.lt_size e) I.ok.above) (by rw [z]; exact Nat.lt_irrefl _)) hb
    obtain ⟨o', e2, z⟩ := cv b o1 e1 nb
    refine ⟨o', e2, fun n => ?_⟩
    have := base0.keep b o e n hb (fun z => nomatch z)
    rw [e1] at this
    cases this
    exact z (base0.free b o e n (fun z => nomatch z))
end
section
variable {P : Program} {w : World} {K : PySem.W.Frag} {mg : Str → Option Value} {base : Heap} {N : List Str} {qual : Str} {scope : Scope} {f : Addr} {cd : Value} {A : Around} {outer : List Env} {s : Shared} {H : Hp} {E : XK}
/-- a callee's exception goes on to the caller -/
theorem passF : Passes (CXF P w) (cxOf (CXF P w) P w K mg base N qual scope f cd A outer s H E) E := by
  intro pins σ Hc sc ev s1 I h
  obtain ⟨e, C, H', rfl, F, q⟩ := h
  obtain ⟨B, a0, fl, cv, ct⟩ := F.fly
  refine wpAny_leaves_onW (base := B) I.ok.frames rfl fl fun h2 fl2 sl => ?_
  have nf : ∀ b ∈ frs (cxOf (CXF P w) P w K mg base N qual scope f cd A outer s H E).stack, ∀ o, s1.heap.get? b = some o → ∀ vs, o.data ≠ .fields vs := fun b hb o e => by
    obtain ⟨_, o1, e1, d⟩ := fl.2.2.1.mem hb
    rw [e] at e1
    cases e1
    exact d
  exact ⟨e, C, H', rfl, fly_out I rfl F.un F.os F.bare F.hok F.fr F.nw fl2 cv ct sl nf, q⟩
theorem fly_made {pins : List (Addr × Obj)} {σ : St} {H1 : Hp} {s2 : Shared} {e C : Addr} {h' : Heap} {vs : List Value} (I : Inv (cxOf (CXF P w) P w K mg base N qual scope f cd A outer s H E) pins σ H1 s2) (hx : Heap.MadeExcOf s2.heap h' e (.ref C) vs) (q : E (.ref C) none H1) :
    (cxOf (CXF P w) P w K mg base N qual scope f cd A outer s H E).xe (.ref e) { s2 with heap := h' } := by
  have hB : (PySem.W.hideAll s2.heap (frs (cxOf (CXF P w) P w K mg base N qual scope f cd A outer s H E).stack)).StaysIn s2.heap := fun b o q => PySem.W.of_hideAll _ q
  refine wpAny_leaves_madeW (h := s2.heap) I.ok.frames rfl hB (PySem.W.funFrames_hide I.stack fun env he b hb => List.mem_filterMap.mpr ⟨env, he, hb⟩) hx fun h2 t fl tup tn sl => ?_
  have un : Un (frs (cxOf (CXF P w) P w K mg base N qual scope f cd A outer s H E).stack) [] H1 H1 s2.heap h' := Un.kept hx.keeps
  have he : H1 e = none := by
    cases z : H1 e with
    | none => rfl
    | some o =>
      obtain ⟨ob, eb⟩ := (I.hok e o z).there
      rw [hx.new] at eb
      cases eb
  refine ⟨e, C, H1, rfl, fly_out (s1 := { s2 with heap := h' }) I rfl un rfl I.bare (I.hok.kept hx.keeps) he hx.new fl (fun b o e hb => ⟨o, PySem.W.hideAll_get _ e hb, fun _ => rfl⟩) (fun b o n e => ?_) sl (fun b hb o e => ?_), q⟩
  · cases z : H1 b with
    | none => exact absurd z n
    | some u =>
      obtain ⟨ob, eb⟩ := (I.hok b u z).there
      have e1 := hx.keeps _ _ eb
      have e2 : h'.get? b = some o := e
      rw [e2] at e1
      cases e1
      exact PySem.W.hideAll_get _ eb fun hb => n (I.stkFree b hb)
  · obtain ⟨_, o1, e1, d⟩ := I.stack.mem hb
    have e2 : h'.get? b = some o := e
    rw [hx.keeps _ _ e1] at e2
    cases e2
    exact d
end
abbrev mroVE : List Value := [.type "ValueError", .type "Exception", .type "BaseException", .type "object"]
structure Xcl (K : PySem.W.Frag) (C : Addr) : Prop where
  q : PySem.W.excIn K C mroVE "ValueError.__new__" = true
inductive XObj (h : Heap) (C : Addr) : Prop
  | mk : ∀ bm N nm q bs hdct sn sub ab col dd k0 k1 k2 k3 k5 mN, h.get? C = some (excClassObj nm q C N bs bm hdct sn sub ab col dd k0 k1 k2 k3 k5 "ValueError.__new__") → h.Ns N mN → mN "__init__" = none → OwnTail h mroVE bm → XObj h C
theorem Xcl.obj {K : PySem.W.Frag} {h : Heap} {C : Addr} (x : Xcl K C) (X : K.In h) : XObj h C := by
  have q := x.q
  unfold PySem.W.excIn at q
  split at q
  · rename_i dd cd sl ho
    split at q
    · rename_i C' bm k0 k1 k2 k3 n k5 hm hs
      rw [Bool.and_eq_true, Bool.and_eq_true, Bool.and_eq_true, Bool.and_eq_true, Bool.and_eq_true] at q
      obtain ⟨⟨⟨⟨⟨q1, q2⟩, q3⟩, q4⟩, q5⟩, q6⟩ := q
      have q1 := beq_iff_eq.mp q1
      have q2 := beq_iff_eq.mp q2
      rw [Bool.not_eq_true'] at q3
      obtain ⟨a1, a2, a3, a4, a5, a6, a7, a8, a9, a10, a11⟩ := cd
      obtain ⟨ls⟩ := sl
      dsimp only at hm q3 q5 q6 hs
      have q6 := beq_iff_eq.mp q6
      subst hm q3 hs q1 q2
      exact ⟨bm, a4, a1, a5, a2, a6, a7, a8, a9, a10, dd, k0, k1, k2, k3, k5, _, X _ _ ho, .of_isNs (PySem.W.isNs_of_in X q5), PySem.W.nsMap_none_of_in X q5 q6, PySem.W.tail_of_in X q4⟩
    · cases q
  · cases q
/-- raise C(e, ..) -/
def tRaise (C : Addr) (E : XK) (ta : TA) : TS := fun _ σ H => ta σ H fun vs H1 => vs.length ≤ sizeLine ∧ E (.ref C) none H1
section
variable {P : Program} {w : World} {K : PySem.W.Frag} {mg : Str → Option Value} {base : Heap} {N : List Str} {qual : Str} {scope : Scope} {f : Addr} {cd : Value} {A : Around} {outer : List Env} {s : Shared} {H : Hp} {E : XK}
theorem ps_raise {x : Str} {C : Addr} {e₀ : Expr} {rest : List Expr} {ta : TA} {np cpos pos : Pos} (c : Xcl K C) (hm : mg x = some (.ref C)) (hh : A.handled = none)
    (hg : Gl (cxOf (CXF P w) P w K mg base N qual scope f cd A outer s H E) x) (ha : PA (cxOf (CXF P w) P w K mg base N qual scope f cd A outer s H E) (e₀ :: rest) ta)
    (hdb : (x == ("__debug__" : Str)) = false := by decide)
    (he : starEach (e₀ :: rest) (cxOf (CXF P w) P w K mg base N qual scope f cd A outer s H E).env = (false, eval e₀ (cxOf (CXF P w) P w K mg base N qual scope f cd A outer s H E).env) :: starEach rest (cxOf (CXF P w) P w K mg base N qual scope f cd A outer s H E).env := by rfl)
    (hpl : (backTo cpos (starEach rest (cxOf (CXF P w) P w K mg base N qual scope f cd A outer s H E).env)).any (·.1) = false := by rfl) :
    PS (cxOf (CXF P w) P w K mg base N qual scope f cd A outer s H E) (.Raise (some (.Call (.Name x np) (e₀ :: rest) [] cpos)) none pos) (tRaise C E ta) := by
  intro pins s0 σ H0 D I h
  obtain ⟨tl, N1, nm, q, bs, hdct, sn, sub, ab, col, dd, k0, k1, k2, k3, k5, mN, hC, hN, hni, T⟩ := c.obj I.ok.mod.kin
  refine wpAny_Raise_call_subT (C := C) (nm := nm) (q := q) (N := N1) (bs := bs) (bm := tl) (hdct := hdct) (sn := sn) (sub := sub) (ab := ab) (col := col) (dd := dd) (k0 := k0) (k1 := k1) (k2 := k2) (k3 := k3) (k5 := k5)
    PySem.F.excBase_ValueError (mN := mN) (T.hasType PySem.F.excBase_ValueError.hasBase) hh ?_ hni (ld_glob I hg hm ⟨rfl, ?_⟩ hdb)
  · rw [he]
    show (false || (backTo cpos (starEach rest (cxOf (CXF P w) P w K mg base N qual scope f cd A outer s H E).env)).any (·.1)) = false
    rw [hpl]
    rfl
  · have h1 := ha cpos pins s0 σ H0 _ I h
    rw [he] at h1 ⊢
    refine Calls.evalArgs_plain (thn h1 fun us s2 z => ?_)
    obtain ⟨vs, H1, I2, r, z1, z2⟩ := z
    exact ⟨rfl, by rw [← r.length]; exact z1, I2.bk _ _ hC, hN.keeps I2.bk, T.keeps I2.bk, fun h' e hx => fly_made I2 hx z2⟩
/-- THE RULE for a def that may raise -/
theorem Fun.okX {x : Str} {st : Stmt} {fd : FuncData} {ps : List Str} {k : Nat} {sp : Sp} (F : Fun K x qual st f fd) (S : FnScope N ps (defScope st)) (len : ∀ vs H Q E, sp vs H Q E → vs.length = ps.length)
    (hbody : ∀ (cdv : Value) (A : Around) (outer : List Env) (s : Shared) (H : Hp) (vs : List V) (Q : VK) (E : XK), Room k (A.deeper (envOfC qual (defScope st) s.heap.objs.size f cdv)) → sp vs H Q E →
      ∃ t, PSs (cxOf (CXF P w) P w K mg base N qual (defScope st) f cdv A outer s H E) (defBody st) t ∧ t { nx := fun _ H' => Q .non H', rt := Q } (start N vs) H) : FnOk P w K mg base (CXF P w) (k + 1) f fd ps sp := by
  obtain ⟨oc, od, kV, doc, pm, an, cdv, ct, osl, rfl, lk, hcd⟩ := F.ex
  exact fn_of lk hcd S len fun A outer s H vs Q E hr hsp => hbody cdv A outer s H vs Q E hr hsp
end
theorem PS.nox {X : Cx} {st : Stmt} {t : TS} (h : PS X.nox st t) : PS X st t := fun pins s σ H D I hw =>
  wpAny_mono (h pins s σ H D (I.wish _) hw) (fun _ _ z => SP.unwish z) fun _ _ z => z.elim
/-- .. the wish may speak of the names' values -/
def PassesX (CX : CXT) (X : Cx) (R : St → XK) : Prop := ∀ (pins : List (Addr × Obj)) (σ : St) (H : Hp) (s : Shared) (e : Value) (s' : Shared), Inv X pins σ H s → CX X.stack H s (R σ) e s' → X.xe e s'
def tCallX (sp : Sp) (dvs : List V) (R : St → XK) (t : TA) : TE := fun σ H Q => t σ H fun vs H1 => sp (vs ++ dvs) H1 Q (R σ)
def tMakeX (C : Addr) (sp : Sp) (dvs : List V) (R : St → XK) (t : TA) : TE := fun σ H Q => t σ H fun vs H1 => ∀ x dx, H1 x = none → H1 dx = none → dx ≠ x →
  sp (.ref x :: (vs ++ dvs)) (upd (upd H1 dx (.own x)) x (.ins C dx [])) (fun v H2 => v = .non ∧ Q (.ref x) H2) (R σ)
section
variable {X : Cx} {CX : CXT} {k : Nat} {f C : Addr} {fd : FuncData} {ps : List Str} {sp : Sp} {dvs : List V} {ds : List Value} {R : St → XK} {x m : Str} {p pos apos : Pos} {e o : Expr} {es : List Expr} {ta : TE} {t : TA}
theorem run_fnX {pins : List (Addr × Obj)} {σ : St} {H : Hp} {s : Shared} {Q : VK} {us : List Value} {vs : List V} (F : FnOk X.prog X.w X.K X.mg X.base CX k f fd ps sp) (hr : Room k X.A) (hb : Binds X.K fd ps ds) (hd : Vals dvs ds) (hx : PassesX CX X R)
    (I : Inv X pins σ H s) (r : Vals vs us) (h : sp (vs ++ dvs) H Q (R σ)) : wpAny (model X.prog X.w) X.A (call (.ref f) us) (EP X pins σ Q) X.xe s := by
  have r2 : Vals (vs ++ dvs) (us ++ ds) := r.append hd
  have hl : (us ++ ds).length = ps.length := by rw [← r2.length]; exact F.len _ _ _ _ h
  refine wpAny_call (codeAny_mono (F.run X.A X.stack s H ⟨us, []⟩ (us ++ ds) (vs ++ dvs) Q (R σ) hr I.env0 (hb s us I.kIn hl) r2 h) fun r s' hq => ?_)
  cases r with
  | error e => exact hx pins σ H s e s' I hq
  | ok fl => cases fl with
    | ret u => exact I.after hq
    | _ => exact False.elim hq
theorem pe_callX (F : FnOk X.prog X.w X.K X.mg X.base CX k f fd ps sp) (hr : Room k X.A) (hg : Gl X x) (hm : X.mg x = some (.ref f)) (hk : PySem.W.keepIn X.K (.ref f) = true) (hb : Binds X.K fd ps ds) (hd : Vals dvs ds) (hx : PassesX CX X R)
    (ha : PA X (e :: es) t) (hdb : (x == ("__debug__" : Str)) = false := by decide) (he : starEach (e :: es) X.env = (false, eval e X.env) :: starEach es X.env := by rfl) (hpl : (backTo pos (starEach es X.env)).any (·.1) = false := by rfl) :
    PE X (.Call (.Name x p) (e :: es) [] pos) (tCallX sp dvs R t) := by
  intro pins s σ H Q I h
  refine wpAny_Call_Name_kw (ld_glob I hg hm (PySem.W.callWith_K (h₀ := X.base) I.ok.mod.kin hk (thn (ha pos pins s σ H _ I h) fun us s1 ⟨vs, H1, I1, r, q⟩ => ⟨I1.kIn, run_fnX F hr hb hd hx I1 r q⟩) he hpl) hdb)
theorem run_makeX {pins : List (Addr × Obj)} {σ : St} {H : Hp} {s : Shared} {Q : VK} {us : List Value} {vs : List V} (M : Mk X.K C f) (F : FnOk X.prog X.w X.K X.mg X.base CX k f fd ps sp) (hr : Room (k + 1) X.A) (hb : Binds X.K fd ps ds) (hd : Vals dvs ds)
    (hx : PassesX CX X R) (I : Inv X pins σ H s) (r : Vals vs us)
    (h : ∀ x dx, H x = none → H dx = none → dx ≠ x → sp (.ref x :: (vs ++ dvs)) (upd (upd H dx (.own x)) x (.ins C dx [])) (fun v H2 => v = .non ∧ Q (.ref x) H2) (R σ)) :
    wpAny (model X.prog X.w) X.A (call (.ref C) us) (EP X pins σ Q) X.xe s := by
  have hq := h (s.heap.objs.size + 1) s.heap.objs.size (I.hok.fresh (Nat.le_succ _)) (I.hok.fresh (Nat.le_refl _)) (Nat.ne_of_lt (Nat.lt_succ_self _))
  have I2 := Inv.made (C := C) I
  have r2 : Vals (V.ref (s.heap.objs.size + 1) :: (vs ++ dvs)) (Value.ref (s.heap.objs.size + 1) :: (us ++ ds)) := .cons rfl (r.append hd)
  have hl : (Value.ref (s.heap.objs.size + 1) :: us ++ ds).length = ps.length := by
    have e := r2.length
    rw [F.len _ _ _ _ hq] at e
    exact e.symm
  refine wpAny_call (make_map (f := f) I.kIn M.makes M.init (beq_iff_eq.mp M.fn) (codeAny_mono (F.run _ X.stack _ _ ⟨Value.ref (s.heap.objs.size + 1) :: us, []⟩ (Value.ref (s.heap.objs.size + 1) :: (us ++ ds)) _ _ (R σ) (hr.make C us [])
    (I2.env0.make C us []) (hb _ (Value.ref (s.heap.objs.size + 1) :: us) I2.kIn hl) r2 hq) fun r s' hq' => ?_))
  cases r with
  | error e => exact hx pins σ _ _ e s' I2 hq'
  | ok fl =>
    cases fl with
    | ret u =>
      obtain ⟨v, H', I3, rv, ev, q3⟩ := I2.after hq'
      subst ev
      exact ⟨rv, ⟨V.ref (s.heap.objs.size + 1), H', I3, rfl, q3⟩⟩
    | next => exact False.elim hq'
    | brk => exact False.elim hq'
    | cont => exact False.elim hq'
theorem pe_makeX (M : Mk X.K C f) (F : FnOk X.prog X.w X.K X.mg X.base CX k f fd ps sp) (hr : Room (k + 1) X.A) (hg : Gl X x) (hm : X.mg x = some (.ref C)) (hb : Binds X.K fd ps ds) (hd : Vals dvs ds) (hx : PassesX CX X R)
    (ha : PA X (e :: es) t) (hdb : (x == ("__debug__" : Str)) = false := by decide) (he : starEach (e :: es) X.env = (false, eval e X.env) :: starEach es X.env := by rfl) (hpl : (backTo pos (starEach es X.env)).any (·.1) = false := by rfl) :
    PE X (.Call (.Name x p) (e :: es) [] pos) (tMakeX C sp dvs R t) := by
  intro pins s σ H Q I h
  refine wpAny_Call_Name_kw (ld_glob I hg hm ?_ hdb)
  refine PySem.W.callWith_K (h₀ := X.base) I.ok.mod.kin M.kp (thn (ha pos pins s σ H _ I h) fun us s1 ⟨vs, H1, I1, r, q⟩ => ⟨I1.kIn, ?_⟩) he hpl
  exact run_makeX M F hr hb hd hx I1 r q
end
def mroIn (K : PySem.W.Frag) (C D : Addr) : Bool := match K.lookup C with
  | some ⟨_, _, .cls cd, _⟩ => cd.mro.contains (.ref D)
  | _ => false
structure Sub (K : PySem.W.Frag) (C D : Addr) : Prop where
  c : Xcl K C
  s : mroIn K C D = true
theorem Sub.has {K : PySem.W.Frag} {h : Heap} {C D N : Addr} (x : Sub K C D) (X : K.In h) {nm q : Str} {bs bm : List Value} {hdct : Bool} {sn : List Str} {sub : List Value} {ab : Bool} {col : Option Bool} {dd : Option Addr} {k0 k1 k2 k3 k5 : Option Value} {newId : String}
    (hC : h.get? C = some (excClassObj nm q C N bs bm hdct sn sub ab col dd k0 k1 k2 k3 k5 newId)) : (Value.ref C :: bm).contains (.ref D) = true := by
  have s := x.s
  unfold mroIn at s
  split at s
  · rename_i ho
    have e := X _ _ ho
    rw [hC] at e
    cases e
    exact s
  · cases s
theorem matches_own {M : Model} {A : Around} {E : Value → Shared → Prop} {h : Heap} {g : Array GenState} {d : Drawn} {t : Nat} {os : OsState} {e C D N N' : Addr} {oe : Obj} {Q : Bool → Shared → Prop}
    {nm q nm' q' : Str} {bs bm bs' bm' : List Value} {hdct hdct' : Bool} {sn sn' : List Str} {sub sub' : List Value} {ab ab' : Bool} {col col' : Option Bool} {dd dd' : Option Addr} {k0 k1 k2 k3 k5 l0 l1 l2 l3 l5 : Option Value} {newId newId' : String}
    (hC : h.get? C = some (excClassObj nm q C N bs bm hdct sn sub ab col dd k0 k1 k2 k3 k5 newId)) (hD : h.get? D = some (excClassObj nm' q' D N' bs' bm' hdct' sn' sub' ab' col' dd' l0 l1 l2 l3 l5 newId')) (he : h.get? e = some oe) (hcls : oe.cls = .ref C)
    (hbase : bm'.contains (.type "BaseException") = true) (hsub : (Value.ref C :: bm).contains (.ref D) = true) (hq : Q true ⟨h, g, d, t, os⟩) : wpAny M A (excMatches (.ref e) (.ref D)) Q E ⟨h, g, d, t, os⟩ := by
  have hB : (Value.ref D :: bm').contains (.type "BaseException") = true := by rw [List.contains_cons, hbase, Bool.or_true]
  have f := tc_notTuple
  unfold excMatches
  repeat (first | (with_reducible refine wpAny_loadPart_at he ?_; rw [hcls]) | (with_reducible refine wpAny_loadPart_at hD ?_) | (with_reducible refine wpAny_isSubtype_exc hD ?_; rw [hB]) | (with_reducible refine wpAny_isSubtype_exc hC ?_; rw [hsub]) | wp_step)
  exact hq
/-- a try's body: an exception comes as R says -/
def tryCx (X : Cx) (pn : List (Addr × Obj)) (R : St → XK) : Cx := { X with pn := X.pn ++ pn, xe := fun ev s' => ∃ (σ : St) (Hc : Hp) (sc : Shared) (e C : Addr) (H' : Hp), ev = .ref e ∧ Inv X pn σ Hc sc ∧ Fly X.prog X.w X.stack Hc sc e C H' s' ∧ R σ (.ref C) none H' }
/-- an except suite from which nothing is raised -/
def hnd (X : Cx) (ev : Value) : Cx := { X with A := X.A.mark (some ev), calm := false, xe := fun _ _ => False }
section
variable {X : Cx} {pins pins' : List (Addr × Obj)} {σ : St} {H : Hp} {s : Shared} {R : St → XK}
theorem Inv.intry (I : Inv X pins σ H s) : Inv (tryCx X pins R) [] σ H s :=
  ⟨⟨I.ok.mod, I.ok.kind, I.ok.glob, I.ok.blt, I.ok.above, I.ok.inj, I.ok.has, I.ok.cab, I.ok.hd, I.ok.frames, I.ok.stk, I.ok.exf, I.ok.bs, I.ok.bsz, I.ok.noex, I.ok.exfs, I.ok.funs, I.ok.frf⟩, I.os, I.bare, I.base, I.loc, I.cell, I.free, I.freeC, fun p hp => I.pin p (by
    rw [List.append_nil] at hp
    exact hp), I.hok, I.len⟩
theorem Inv.outtry (I : Inv (tryCx X pins R) pins' σ H s) : Inv X pins σ H s :=
  ⟨⟨I.ok.mod, I.ok.kind, I.ok.glob, I.ok.blt, I.ok.above, I.ok.inj, I.ok.has, I.ok.cab, I.ok.hd, I.ok.frames, I.ok.stk, I.ok.exf, I.ok.bs, I.ok.bsz, I.ok.noex, I.ok.exfs, I.ok.funs, I.ok.frf⟩, I.os, I.bare, I.base, I.loc, I.cell, I.free, I.freeC, fun p hp => I.pin p (List.mem_append_left _ hp), I.hok, I.len⟩
theorem Inv.inhnd (I : Inv X pins σ H s) (ev : Value) : Inv (hnd X ev) pins σ H s :=
  ⟨⟨I.ok.mod, I.ok.kind, I.ok.glob, I.ok.blt, I.ok.above, I.ok.inj, I.ok.has, I.ok.cab, (fun z => nomatch z), I.ok.frames, I.ok.stk, I.ok.exf, I.ok.bs, I.ok.bsz, I.ok.noex, I.ok.exfs, I.ok.funs, I.ok.frf⟩, I.os, I.bare, I.base, I.loc, I.cell, I.free, I.freeC, I.pin, I.hok, I.len⟩
theorem Inv.outhnd {ev : Value} (ok : X.Ok) (I : Inv (hnd X ev) pins σ H s) : Inv X pins σ H s :=
  ⟨ok, I.os, I.bare, I.base, I.loc, I.cell, I.free, I.freeC, I.pin, I.hok, I.len⟩
theorem SP.outtry {D : Ends} {f : Flow} (h : SP (tryCx X pins R) pins' D f s) : SP X pins D f s := by
  cases f with
  | ret u => obtain ⟨v, σ', H', I, r, q⟩ := h; exact ⟨v, σ', H', I.outtry, r, q⟩
  | _ => obtain ⟨σ', H', I, q⟩ := h; exact ⟨σ', H', I.outtry, q⟩
theorem SP.outhnd {ev : Value} {D : Ends} {f : Flow} (ok : X.Ok) (h : SP (hnd X ev) pins D f s) : SP X pins D f s := by
  cases f with
  | ret u => obtain ⟨v, σ', H', I, r, q⟩ := h; exact ⟨v, σ', H', I.outhnd ok, r, q⟩
  | _ => obtain ⟨σ', H', I, q⟩ := h; exact ⟨σ', H', I.outhnd ok, q⟩
theorem passT {pn : List (Addr × Obj)} : PassesX (CXF X.prog X.w) (tryCx X pn R) R := by
  intro pins σ H s ev s' I h
  obtain ⟨e, C, H', rfl, F, q⟩ := h
  exact ⟨σ, H, s, e, C, H', rfl, I.outtry, F, q⟩
/-- behind a callee's exception, when it has been looked at here -/
theorem Fly.inv {e C : Addr} {H' : Hp} {s1 : Shared} {B h2 : Heap} {l : List Env} {a0 : Value} (F : Fly X.prog X.w X.stack H s e C H' s1) (I : Inv X pins σ H s) (fl : Heap.FlyingW B X.stack e (.ref C) a0 s1.heap) (cv : Cov (frs X.stack) H s.heap B) (ct : Trk H' s1.heap B)
    (st : B.StaysIn h2) (sl : s1.heap.UpToSlots h2) : Inv X pins σ H' { s1 with heap := h2 } :=
  I.call' (s' := { s1 with heap := h2 }) (ch := []) F.os (F.un.flown cv st sl fun b hb o e => by
    obtain ⟨_, o1, e1, d⟩ := fl.2.2.1.mem hb
    rw [e] at e1
    cases e1
    exact d) (F.hok.flown ct st) F.bare (fun b z => nomatch z)
end
end L2
set_option Elab.async false
set_option linter.all false
set_option maxRecDepth 100000
set_option maxHeartbeats 4000000
namespace L2
open PySem PySem.Spec PyProof.Rows
/-- what comes behind, not looked into (the proof's term stays small) -/
theorem seq_open {t u : TS} {D : Ends} {σ : St} {H : Hp} (h : ∀ N : St → Hp → Prop, N = u D → t { D with nx := N } σ H) : tSeq t u D σ H := h _ rfl
theorem mro_of {K : PySem.W.Frag} {C D : Addr} (e : PySem.W.mroIn K C (.ref D) = some true) : L2.mroIn K C D = true := by
  unfold PySem.W.mroIn PySem.W.clsIn at e
  unfold L2.mroIn
  cases h : K.lookup C with
  | none => rw [h] at e; cases e
  | some o =>
    rw [h] at e
    obtain ⟨c, d, dat, sl⟩ := o
    cases dat with
    | cls cd =>
      obtain ⟨cd', e1, e2⟩ := Option.bind_eq_some_iff.mp e
      cases e1
      split at e2
      · cases e2
      · exact Option.some.inj e2
    | _ => cases e
theorem FunD.okX {P : Program} {w : World} {K : PySem.W.Frag} {mg : Str → Option Value} {base : Heap} {x qual : Str} {st : Stmt} {f : Addr} {fd : FuncData} {N ps : List Str} {k : Nat} {sp : Sp} (F : FunD K x qual st f fd) (S : FnScope N ps (defScope st)) (len : ∀ vs H Q E, sp vs H Q E → vs.length = ps.length)
    (hbody : ∀ (cdv : Value) (A : Around) (outer : List Env) (s : Shared) (H : Hp) (vs : List V) (Q : VK) (E : XK), Room k (A.deeper (envOfC qual (defScope st) s.heap.objs.size f cdv)) → sp vs H Q E →
      ∃ t, PSs (cxOf (CXF P w) P w K mg base N qual (defScope st) f cdv A outer s H E) (defBody st) t ∧ t { nx := fun _ H' => Q .non H', rt := Q } (start N vs) H) : FnOk P w K mg base (CXF P w) (k + 1) f fd ps sp := by
  obtain ⟨oc, od, dV, kV, doc, pm, an, cdv, ct, osl, rfl, lk, hcd⟩ := F.ex
  exact fn_of lk hcd S len fun A outer s H vs Q E hr hsp => hbody cdv A outer s H vs Q E hr hsp
end L2
set_option Elab.async false
set_option linter.all false
set_option maxRecDepth 100000
set_option maxHeartbeats 400000
namespace L2
open PySem PySem.Spec PyProof.Rows
open PySem.Builtin PySem.Builtin.ObjectAttr PySem.Builtin.Getset_descriptor
structure XGet (K : PySem.W.Frag) (C : Addr) : Prop where
  ga : PySem.W.findIn K (.ref C) "__getattribute__" = some (some (.builtin "BaseException.__getattribute__"))
  gt : PySem.W.findIn K (.ref C) "__getattr__" = some none
  cl : PySem.W.hasDictIn K C = true
  ca : PySem.W.findIn K (.ref C) "__class__" = some (some (.builtin "object.__class__"))
  hn : PySem.W.specialIn K (.builtin "object.__class__") "__get__" = some (some (.builtin "getset_descriptor.__get__"))
  tk : PySem.W.takesIn K (.builtin "object.__class__") = some true
  mo : PySem.W.mroIn K C (.type "object") = some true
  mb : PySem.W.mroIn K C (.type "BaseException") = some true
/-- an exception stands there -/
def XAt (C e : Addr) (h : Heap) : Prop := ∃ o, h.get? e = some o ∧ o.cls = .ref C
theorem XAt.type {C e : Addr} {h : Heap} (x : XAt C e h) {M : Model} : PySem.W.Looks M h (typeOf (.ref e)) (.ref C) := by
  obtain ⟨o, h1, h2⟩ := x
  exact h2 ▸ (PySem.W.Looks.ld h1).andThen .now
section
variable {prog : Program} {w : World} {A : Around} {E : Value → Shared → Prop} {K : PySem.W.Frag} {x C : Addr} {h : Heap} {g : Array GenState} {d : Drawn} {t : Nat} {os : OsState}
theorem wpAny_ite_f {α : Type} {M : Model} {A : Around} {c : Bool} {a b : Sem α} {Q : α → Shared → Prop} {E : Value → Shared → Prop} {s : Shared} (hc : c = false) (h : wpAny M A b Q E s) : wpAny M A (if c = true then a else b) Q E s := by
  rw [hc, if_neg Bool.false_ne_true]; exact h
theorem XGet.find (Z : XGet K C) (X : K.In h) {M : Model} : PySem.W.Looks M h (Builtin.ObjectAttr.find (.ref x) (.ref C) "__class__") (.bind (.builtin "getset_descriptor.__get__") (.builtin "object.__class__")) := by
  have L1 := PySem.W.looks_findIn (M := M) X Z.ca
  have L2 : PySem.W.Looks M h (Builtin.ObjectAttr.getOf (some (.builtin "object.__class__"))) (some (.builtin "getset_descriptor.__get__")) := PySem.W.looks_specialIn X Z.hn
  have L3 : PySem.W.Looks M h (Builtin.ObjectAttr.dataDescriptor? (some (.builtin "object.__class__")) (some (.builtin "getset_descriptor.__get__"))) (some (.builtin "getset_descriptor.__get__", .builtin "object.__class__")) := (PySem.W.looks_takesIn X Z.tk).andThen .now
  exact L1.andThen (L2.andThen (L3.andThen (PySem.W.Looks.tag .now)))
theorem exc_get {R : Result → Shared → Prop} {tp : Value} (Z : XGet K C) (X : K.In h) (I : XAt C x h) (hq : R (.ok (.ret (.ref C))) ⟨h, g, d, t, os⟩) :
    codeAny (model prog w) A (.call (.builtin "getset_descriptor.__get__") ⟨[.builtin "object.__class__", .ref x, tp], []⟩) R ⟨h, g, d, t, os⟩ := by
  have L0 := I.type (M := model prog w); have L1 := PySem.W.looks_mroIn (M := model prog w) X Z.mo
  refine codeAny_call_builtin PySem.W.KF.slot_gs.plain PySem.W.KF.entry_gs (PySem.W.KF.slot_gs.check _ _ _ _ _ _ _ _ PySem.W.KF.type_class (PySem.W.KF.args_gs _ _ _) ?_)
  unfold Builtin.«getset_descriptor.__get__» descrGet; rw [PySem.W.dga_obj]; refine wpAny_bind (wpAny_pure ?_)
  unfold descrGetter descrCheckInstance descrNameAndClass isInstance; simp only [PySem.W.KF.owner_class]; repeat lk
  refine ⟨Code.quiet_builtin _ (by decide +kernel), codeAny_builtin PySem.W.KF.entry_class ?_⟩; unfold Builtin.«object.__class__» shownTypeOf; repeat lk
  exact hq
theorem exc_entry {tk : Tok} {Q : Fin → Shared → Prop} (Z : XGet K C) (X : K.In h) (I : XAt C x h) (hq : Q (.done (.ret (.ref C))) ⟨h, g, d, t, os⟩) :
    wpAny (model prog w) A (Builtin.«object.__getattribute__» ⟨[.ref x, .str "__class__" tk], []⟩) Q E ⟨h, g, d, t, os⟩ := by
  have L0 := I.type (M := model prog w)
  have L3 := Z.find (x := x) X (M := model prog w)
  refine wpAny_bind (wpAny_pure (wpAny_bind (wpAny_pure (wpAny_bind (L0.at (wpAny_bind (L3.at ?_)))))))
  show wpAny _ _ (Builtin.ObjectAttr.bindTo (.builtin "getset_descriptor.__get__") (.builtin "object.__class__") (.ref x) (.ref C)) _ _ _
  unfold Builtin.ObjectAttr.bindTo
  repeat (any_goals (first | assumption | wp_step))
  exact exc_get Z X I (wpAny_pure hq)
theorem exc_check {M : Model} {nameV : Value} {Q : Unit → Shared → Prop} (L : PySem.W.Looks M h (isInstance (.ref x) (.type "BaseException")) true) (hq : Q () ⟨h, g, d, t, os⟩) : wpAny M A (checkBuiltinCall "BaseException.__getattribute__" ⟨[.ref x, nameV], []⟩) Q E ⟨h, g, d, t, os⟩ := by
  have hk : builtinKind "BaseException.__getattribute__" = some .slot := by decide +kernel
  have hs : splitId "BaseException.__getattribute__" = some ("BaseException", "__getattribute__") := by decide +kernel
  have ha : argsOk "BaseException.__getattribute__" ⟨[.ref x, nameV], []⟩ := F.args_bexc_ga (.ref x) nameV
  have LL : PySem.W.Looks M (⟨h, g, d, t, os⟩ : Shared).heap (isInstance (.ref x) (.type "BaseException")) true := L
  have key := PySem.W.check_slot (M := M) (A := A) (E := E) (s := ⟨h, g, d, t, os⟩) (i := "BaseException.__getattribute__") (owner := "BaseException") (n := "__getattribute__") (self := .ref x) (rest := [nameV]) (kw := []) (Q := Q) hk hs LL
  exact key ha hq
theorem exc_call {tk : Tok} {R : Result → Shared → Prop} (Z : XGet K C) (X : K.In h) (I : XAt C x h) (hq : R (.ok (.ret (.ref C))) ⟨h, g, d, t, os⟩) :
    codeAny (model prog w) A (.call (.builtin "BaseException.__getattribute__") ⟨[.ref x, .str "__class__" tk], []⟩) R ⟨h, g, d, t, os⟩ := by
  have L : PySem.W.Looks (model prog w) h (isInstance (.ref x) (.type "BaseException")) true := (I.type (M := model prog w)).andThen (PySem.W.looks_mroIn (M := model prog w) X Z.mb)
  exact codeAny_call_builtin F.excAttr_ValueError.ga.plain F.entry_bexc_ga (exc_check L (exc_entry Z X I hq))
theorem exc_by {tk : Tok} {Q : Value → Shared → Prop} (Z : XGet K C) (X : K.In h) (I : XAt C x h) (hq : Q (.ref C) ⟨h, g, d, t, os⟩) :
    wpAny (model prog w) A (getAttrBy (.ref x) (.str "__class__" tk) false) Q E ⟨h, g, d, t, os⟩ := by
  have L0 := I.type (M := model prog w)
  have L1 := PySem.W.looks_findIn (M := model prog w) X Z.ga
  have L2 := PySem.W.looks_findIn (M := model prog w) X Z.gt
  have f3 := F.excAttr_ValueError.ga.bind (.ref x)
  have hx2 : (Value.builtin "BaseException.__getattribute__" == Value.builtin "object.__getattribute__") = false := by decide +kernel
  have hx1 : (onTheHeap (Value.ref C) && Value.builtin "BaseException.__getattribute__" == Value.builtin "object.__getattribute__") = false := by rw [hx2]; rfl
  refine wpAny_holding (wpAny_bind (L0.at (wpAny_bind (L1.at ?_))))
  refine wpAny_ite_f hx1 ?_
  refine wpAny_bind (L2.at ?_)
  refine wpAny_bind (wpAny_attempt (wpAny_holding ?_))
  show wpAny _ _ (boundAndCalled (.builtin "BaseException.__getattribute__") (.ref x) (.str "__class__" tk)) _ _ _
  unfold boundAndCalled
  rw [f3]
  refine wpAny_bind (wpAny_pure ?_)
  refine wpAny_call (exc_call Z X I ?_)
  exact PySem.W.handed_on rfl hq
theorem exc_class {Q : Option Value → Shared → Prop} (Z : XGet K C) (X : K.In h) (I : XAt C x h) (hq : Q (some (.ref C)) ⟨h, g, d, t + 1, os⟩) : wpAny (model prog w) A (getAttr? (.ref x) "__class__") Q E ⟨h, g, d, t, os⟩ := by
  unfold getAttr? getAttrBy?
  refine wpAny_bind (wpAny_mkText (wpAny_bind (wpAny_attempt (exc_by Z X I ?_))))
  exact wpAny_pure hq
theorem kitx_exc (Z : XGet K C) : PySem.W.KitX K (.ref x) (.ref C) (XAt C x) where
  ty := fun _ _ _ I => I.type
  it := fun _ _ X _ => by
    obtain ⟨cd, hc, _⟩ := PySem.W.any_some Z.cl
    unfold PySem.W.clsIn at hc
    split at hc
    · rename_i ho
      intro A' Q' E' s' k q; unfold isType loadHead; exact wpAny_bind (wpAny_loadPart (k _ _ (X _ _ ho)) (wpAny_pure q))
    · cases hc
  ne := fun h tp dd its n sl X htp => by
    obtain ⟨cd, hc, _⟩ := PySem.W.any_some Z.cl
    refine Bool.eq_false_iff.mpr fun q => ?_
    have e : C = tp := Value.ref.inj (beq_iff_eq.mp q)
    rw [← e] at htp; unfold PySem.W.clsIn at hc
    split at hc
    · rename_i ho
      have z := (X _ _ ho).symm.trans htp; cases z
    · cases hc
  ca := fun {prog w A E Q s} X I k => by
    obtain ⟨h, g, d, t, os⟩ := s
    exact exc_class Z X I k
end
/-- an exception, held -/
def ExcO (C e : Addr) : HO := .ext (XAt C e)
theorem excO_ok {P : Program} {w : World} {H : Hp} {h : Heap} {C e : Addr} (x : XAt C e h) : ObjOk P w H h e (ExcO C e) := ⟨x, let ⟨o, h1, _⟩ := x; ⟨o, h1⟩, fun _ _ y k => let ⟨o, h1, h2⟩ := y; ⟨o, k o h1, h2⟩⟩
theorem call_isexc {X : Cx} : CallR X (.builtin "isinstance") (fun xs H Q => ∃ e C c cv b, xs = [.ref e, c] ∧ H e = some (ExcO C e) ∧ XGet X.K C ∧ clsV c = some cv ∧ PySem.W.kitOne X.K (.ref C) cv = some b ∧ Q (.bl b) H) := by
  intro pins s σ H xs us Q I r h
  obtain ⟨e, C, c, cv, b, rfl, he, Z, hcv, hk, q⟩ := h
  obtain ⟨u, u', rfl, rx, rc⟩ := vals2 r
  have e' : u' = cv := by
    cases c with
    | ty n => cases hcv; exact rc
    | ref a => cases hcv; exact rc
    | _ => cases hcv
  subst e'
  obtain rfl : u = Value.ref e := rx
  obtain ⟨x, _⟩ := (show ObjOk X.prog X.w H s.heap e (ExcO C e) from I.hok e _ he)
  exact PySem.W.kia_one (kitx_exc Z) I.kIn x hk (by intro q; cases q) fun tk => ⟨.bl b, H, I.tok tk, rfl, q⟩
end L2
set_option Elab.async false
set_option linter.all false
set_option maxRecDepth 100000
set_option maxHeartbeats 4000000
namespace L2
open PySem PySem.Spec PyProof.Rows
section
variable {X : Cx} {pins : List (Addr × Obj)} {σ : St} {H : Hp} {s : Shared}
/-- what stands there untracked, and was not there when the body began, is tracked from here on -/
theorem Inv.track {e : Addr} {o : HO} (I : Inv X pins σ H s) (hn : H e = none) (h0 : X.s₀.heap.get? e = none) (hL : e ≠ X.env.locals) (hC : ∀ x c, X.env.cells.lookup x = some c → c ≠ e) (hp : ∀ p ∈ X.pn ++ pins, p.1 ≠ e)
    (ok : ObjOk X.prog X.w (upd H e o) s.heap e o) : Inv X pins σ (upd H e o) s where
  ok := I.ok
  os := I.os
  bare := I.bare
  base := ⟨I.base.keep, I.base.slot, fun b ob q n hx => by
      have hb : b ≠ e := fun z => by rw [z, h0] at q; cases q
      rw [upd_ne hb]; exact I.base.free b ob q n hx, I.base.there,
    fun b xs q => by have := I.base.tups b xs q; rw [upd_ne (ne_of_none this hn)]; exact this,
    fun b o u q => by have := I.base.frzs b o u q; rw [upd_ne (ne_of_none this hn)]; exact this,
    fun b ps q => by obtain ⟨more, this⟩ := I.base.tbls b ps q; exact ⟨more, by rw [upd_ne (ne_of_none this hn)]; exact this⟩⟩
  loc := I.loc
  cell := I.cell
  free := by rw [upd_ne (Ne.symm hL)]; exact I.free
  freeC := fun x c q => by rw [upd_ne (hC x c q)]; exact I.freeC x c q
  pin := fun p q => by
    obtain ⟨a, b, c⟩ := I.pin p q
    exact ⟨a, by rw [upd_ne (hp p q)]; exact b, c⟩
  hok := fun b u q => by
    by_cases hb : b = e
    · subst hb; rw [upd_same] at q; cases q; exact ok
    · rw [upd_ne hb] at q
      exact (I.hok b u q).stay (fun _ _ _ z => z) (fun c z => by rw [upd_ne (ne_of_none z hn)]; exact z) fun c xs z => by rw [upd_ne (ne_of_none z hn)]; exact z
  len := I.len
/-- a name is gone behind the suite -/
theorem goes_ok {M : Model} {A : Around} {E : Value → Shared → Prop} {i : Nat} {x : Str} {pos : Pos} {Q : Unit → Shared → Prop} (I : Inv X pins σ H s) (hN : X.N.Nodup) (hi : X.N[i]? = some x) (hk : X.env.scope.names.lookup x = some .local)
    (h : ∀ s', Inv X pins (σ.set i none) H s' → Q () s') : wpAny M A (do bindName X.env x .none; unbindBehindTheSuite X.env x pos) Q E s := by
  obtain ⟨m, hn, hl⟩ := id I.loc
  have hcls : (X.env.scope.kind == .class || (X.env.scope.kind == .module && X.env.locals != X.env.globals)) = false := by rw [I.ok.kind]; rfl
  have cne := I.cne
  have hiσ : i < σ.length := by rw [I.len]; exact (List.getElem?_eq_some_iff.mp hi).1
  obtain ⟨oL, _, _, hoL, _⟩ := id hn
  refine wpAny_nameGoes_keeps hk hn hcls fun h' v hn' hs => ?_
  have far : ∀ b o, X.s₀.heap.get? b = some o → b ≠ X.env.locals := fun b o e => Nat.ne_of_lt (Nat.lt_of_lt_of_le (Heap.lt_size e) I.ok.above)
  refine h _ ⟨I.ok, I.os, I.bare, ⟨fun b o e n hb hx => ?_, fun b o e n hb hx => ?_, I.base.free, fun b o e hx => ?_, I.base.tups, I.base.frzs, I.base.tbls⟩, ⟨_, hn', fun j y v' e1 e2 e3 => ?_⟩, fun y c e => ?_, I.free, I.freeC, fun p hp => ?_, fun b ob e => ?_, by simpa using I.len⟩
  · exact (hs.2 b (far b o e)).trans (I.base.keep b o e n hb hx)
  · obtain ⟨sl, e1⟩ := I.base.slot b o e n hb hx
    exact ⟨sl, (hs.2 b (far b o e)).trans e1⟩
  · obtain ⟨o', e1⟩ := I.base.there b o e hx
    exact ⟨o', (hs.2 b (far b o e)).trans e1⟩
  · have hj : j ≠ i := fun z => by
      subst z
      rw [List.getElem?_set_self hiσ] at e2
      cases e2
    rw [List.getElem?_set_ne (Ne.symm hj)] at e2
    obtain ⟨u', r', q⟩ := hl j y v' e1 e2 e3
    refine ⟨u', r', ?_⟩
    rcases q with ⟨k, e⟩ | ⟨k, c, e, z⟩
    · refine .inl ⟨k, ?_⟩
      have : y ≠ x := fun e => hj (nodup_ix hN e1 (e ▸ hi))
      simp [this, e]
    · exact .inr ⟨k, c, e, z.sameBut hs (cne y c e)⟩
  · obtain ⟨w', z⟩ := I.cell y c e
    exact ⟨w', z.sameBut hs (cne y c e)⟩
  · obtain ⟨e, n, ne, nf, d⟩ := I.pin p hp
    exact ⟨(hs.2 p.1 ne).trans e, n, ne, nf, d⟩
  · refine (I.hok b ob e).stay (fun c w' hc q => (hs.2 c ?_).trans q) (fun _ q => q) fun _ _ q => q
    rintro rfl
    rcases hc with rfl | hc
    · rw [I.free] at e; cases e
    · rw [I.free] at hc; cases hc
end
/-- the ends, where the name at i is gone -/
def unb (i : Nat) (D : Ends) : Ends := { nx := fun σ H => D.nx (σ.set i none) H, rt := D.rt, bk := fun σ H => D.bk (σ.set i none) H, ct := fun σ H => D.ct (σ.set i none) H }
def tTryAs (i : Nat) (R : St → XK) (tb ts : TS) : TS := fun D σ H => (∀ σ' C H' e, R σ' (.ref C) none H' → H' e = none → ts (unb i D) (σ'.set i (some (.ref e))) (upd H' e (ExcO C e))) ∧ tb D σ H
theorem ps_tryAs {X : Cx} {body : List Stmt} {x n : Str} {i : Nat} {D : Addr} {b₀ : Stmt} {suite : List Stmt} {np hpos pos : Pos} {R : St → XK} {tb ts : TS} (hg : Gl X x) (hm : X.mg x = some (.ref D)) (d : Xcl X.K D) (hst : X.stack = X.env :: X.outer) (hf : X.env.frame = some X.env.locals) (hex : X.ex = [])
    (hN : X.N.Nodup) (hi : X.N[i]? = some n) (hloc : X.env.scope.names.lookup n = some .local)
    (hsub : ∀ σ C H, R σ (.ref C) none H → Sub X.K C D) (hb : ∀ pn, PSs (tryCx X pn R) body tb) (hs : ∀ ev, PSs (hnd X ev) (b₀ :: suite) ts) (hdb : (x == ("__debug__" : Str)) = false := by decide) :
    PS X (.Try body [.ExceptHandler (some (.Name x np)) (some n) (b₀ :: suite) hpos] [] [] pos) (tTryAs i R tb ts) := by
  intro pins s σ H Dd I h
  obtain ⟨hh, hq⟩ := h
  refine wpAny_Try_except (wpAny_mono (hb pins [] s σ H Dd I.intry hq) (fun f s₁ h₁ => ?_) fun ev s₁ h₁ => ?_)
  · have h2 : SP X pins Dd f s₁ := SP.outtry h₁
    cases f with
    | next => rw [arm_execs_nil]; exact wpAny_pure h2
    | _ => exact h2
  · obtain ⟨σ', Hc, sc, e, C, H', rfl, Ic, F, q⟩ := h₁
    obtain ⟨B, a0, fl, cv, ct⟩ := F.fly
    have fr : X.A.frames = some (X.env :: X.outer) := by rw [I.ok.frames, hst]
    have fl' := fl
    rw [hst] at fl'
    refine wpAny_looks_onW fr hf fl' fun h4 hheld hsm4 => ?_
    refine wpAny_landsW hheld fun h5 fl5 hsm5 => ?_
    have J5 : Inv X pins σ' H' { s₁ with heap := h5 } := F.inv (l := X.stack) Ic fl cv ct fl5.1 (hsm4.trans hsm5)
    refine wpAny_handleBy_cons (codeAny_handlers_test ?_) (by intro q; cases q)
    refine Calls.Name_function_global I.ok.kind hg (Calls.loadGlobal_global (by rw [I.ok.glob]; exact I.mod.glob.keeps J5.bk) hm ?_) hdb
    have sb := hsub σ' C H' q
    obtain ⟨bm, N, nm, qn, bs, hdct, sn, sub, ab, col, dd, k0, k1, k2, k3, k5, mN, hC, hN', hni, TL⟩ := sb.c.obj J5.kIn
    obtain ⟨bm', N', nm', qn', bs', hdct', sn', sub', ab', col', dd', l0, l1, l2, l3, l5, mN', hD, hN'', hni', TL'⟩ := d.obj J5.kIn
    obtain ⟨ob, hob, hobc⟩ := fl5.there
    refine matches_own hC hD hob hobc (TL'.hasType PySem.F.excBase_ValueError.hasBase) (sb.has J5.kIn hC) ?_
    refine codeAny_handlers_suite_as ?_
    refine lands_againW fl5 fun h6 fl6 hsm6 => ?_
    have J6 : Inv X pins σ' H' { s₁ with heap := h6 } := F.inv (l := X.stack) Ic fl cv ct fl6.1 ((hsm4.trans hsm5).trans hsm6)
    have base0 := Ic.base
    rw [hex] at base0
    have e0 : X.s₀.heap.get? e = none := by
      cases z : X.s₀.heap.get? e with
      | none => rfl
      | some o =>
        obtain ⟨o', e'⟩ := base0.there e o z (fun z => nomatch z)
        rw [F.nw] at e'
        cases e'
    obtain ⟨ob6, hob6, hobc6⟩ := fl6.there
    have eL : e ≠ X.env.locals := fun z => by
      obtain ⟨m, hn, _⟩ := Ic.loc
      obtain ⟨oL, _, _, hoL, _⟩ := hn
      rw [← z, F.nw] at hoL
      cases hoL
    have eC : ∀ x c, X.env.cells.lookup x = some c → c ≠ e := fun x c hc z => by
      obtain ⟨v, o, ho, _⟩ := Ic.cell x c hc
      rw [z, F.nw] at ho
      cases ho
    have eP : ∀ p ∈ X.pn ++ pins, p.1 ≠ e := fun p hp z => by
      obtain ⟨z1, _⟩ := Ic.pin p hp
      rw [z, F.nw] at z1
      cases z1
    have J7 : Inv X pins σ' (upd H' e (ExcO C e)) { s₁ with heap := h6 } := J6.track F.fr e0 eL eC eP (excO_ok ⟨ob6, hob6, hobc6⟩)
    refine store_ok J7 hN hi (.inl hloc) (v := .ref e) rfl (fun s2 J8 => ?_) (.inr hloc)
    refine wpAny_mono (hs (.ref e) pins s2 _ _ (unb i Dd) (J8.inhnd _) (hh σ' C H' e q F.fr)) (fun f s3 z => ?_) (fun _ _ z => z.elim)
    have z' : SP X pins (unb i Dd) f s3 := SP.outhnd I.ok z
    cases f with
    | ret u =>
      obtain ⟨v, σ2, H2, I2, r, q2⟩ := z'
      exact goes_ok I2 hN hi hloc fun s4 I4 => ⟨v, _, H2, I4, r, q2⟩
    | next =>
      obtain ⟨σ2, H2, I2, q2⟩ := z'
      exact goes_ok I2 hN hi hloc fun s4 I4 => ⟨_, H2, I4, q2⟩
    | brk =>
      obtain ⟨σ2, H2, I2, q2⟩ := z'
      exact goes_ok I2 hN hi hloc fun s4 I4 => ⟨_, H2, I4, q2⟩
    | cont =>
      obtain ⟨σ2, H2, I2, q2⟩ := z'
      exact goes_ok I2 hN hi hloc fun s4 I4 => ⟨_, H2, I4, q2⟩
end L2
set_option Elab.async false
set_option linter.all false
set_option maxRecDepth 100000
set_option maxHeartbeats 400000
namespace L2
open PySem PySem.Spec PyProof.Rows
end L2
set_option Elab.async false
set_option linter.all false
set_option maxRecDepth 100000
set_option maxHeartbeats 400000
namespace L2
open PySem PySem.Spec PyProof.Rows
theorem vals_bls {k : Bool} : ∀ {bs : List Bool} {us : List Value}, Vals (bs.map V.bl) us → (∀ y ∈ us, ∃ b, y = Value.bool b) ∧ us.countP (isBoolOf k) = bs.count k
  | [], us, r => by
    cases r
    exact ⟨fun y hy => (List.not_mem_nil hy).elim, rfl⟩
  | b :: bs, us, r => by
    cases r with
    | cons r1 r2 =>
      rename_i u us'
      obtain rfl : u = Value.bool b := r1
      obtain ⟨h1, h2⟩ := vals_bls (k := k) r2
      refine ⟨fun y hy => ?_, ?_⟩
      · rcases List.mem_cons.mp hy with rfl | hy
        · exact ⟨b, rfl⟩
        · exact h1 y hy
      · rw [List.countP_cons, List.count_cons, h2]
        rfl
inductive rCountB_I (x : V) (vs : List V) (H : Hp) (Q : VK) : Prop
  | mk : ∀ (l : Addr) (bs : List Bool) (k : Bool), x = .ref l → vs = [.bl k] → H l = some (.lst (bs.map V.bl)) → Q (.int (bs.count k : Nat)) H → rCountB_I x vs H Q
def rCountB : V → List V → Hp → VK → Prop := fun x vs H Q => rCountB_I x vs H Q
theorem mt_countB {X : Cx} : MtR X "list.count" rCountB := by
  intro pins s σ H x vs v us Q I rx rv h
  obtain ⟨l, bs, k, rfl, rfl, hH, q⟩ := h
  cases rx
  obtain ⟨u, rfl, ru⟩ := vals1 rv
  obtain rfl : u = Value.bool k := ru
  obtain ⟨z, its, n, r, hl, e⟩ := I.lstM hH
  obtain ⟨h1, h2⟩ := vals_bls (k := k) r
  refine call_meets F.slot_list_count ⟨_, e, rfl⟩ F.entry_list_count (F.args_list_count_2 _ _) (SeqAt.list_countAt l its.toArray n _ _ (.bool k) (isBoolOf k)) ⟨e, fun y hy => ?_, ?_⟩
  · obtain ⟨b, rfl⟩ := h1 y (by simpa using hy)
    exact SeqAt.EqAt.bool_bool b k
  · rw [show its.toArray.toList = its from rfl, h2]
    exact ⟨.int (bs.count k : Nat), H, I.tok _, ⟨_, rfl⟩, q⟩
end L2
set_option Elab.async false
set_option linter.all false
set_option maxRecDepth 100000
set_option maxHeartbeats 400000
namespace L2
open PySem PySem.Spec PyProof.Rows
structure RoomU (k : Nat) (A : Around) : Prop where
  dp : A.depth + 3 * k + 5 < recursionLimit
  un : A.units + 16 * k + 200 < cLine
  gd : A.guards = some []
theorem Room.toU {k : Nat} {A : Around} (r : Room k A) : RoomU k A := ⟨r.dp, r.un, r.gd⟩
theorem RoomU.mono {j k : Nat} {A : Around} (r : RoomU k A) (h : j ≤ k) : RoomU j A := ⟨by have := r.dp; omega, by have := r.un; omega, r.gd⟩
theorem RoomU.mark {k : Nat} {A : Around} (r : RoomU k A) (ev : Option Value) : RoomU k (A.mark ev) := ⟨r.dp, r.un, r.gd⟩
theorem RoomU.deeper {k : Nat} {A : Around} (r : RoomU (k + 1) A) (env : Env) : RoomU k (A.deeper env) :=
  ⟨by have := r.dp; show A.depth + 1 + 3 * k + 5 < _; omega, by have := r.un; show A.units + 3 + 16 * k + 200 < _; omega, r.gd⟩
theorem RoomU.depth {k : Nat} {A : Around} (r : RoomU k A) : A.depth < recursionLimit := by have := r.dp; omega
theorem RoomU.units {k : Nat} {A : Around} (r : RoomU k A) : A.units + 64 < cLine := by have := r.un; omega
structure FnOkU (P : Program) (w : World) (K : PySem.W.Frag) (mg : Str → Option Value) (base : Heap) (k : Nat) (f : Addr) (fd : FuncData) (ps : List Str) (sp : Sp) : Prop where
  len : ∀ vs H Q E, sp vs H Q E → vs.length = ps.length
  run : ∀ (A : Around) (outer : List Env) (s : Shared) (H : Hp) (args : Args) (us : List Value) (vs : List V) (Q : VK) (E : XK), RoomU k A → Env0 P w K mg base A outer s H → BindsTo s fd args (ps.zip us) → Vals vs us → sp vs H Q E →
    codeAny (model P w) A (.call (.ref f) args) (CR CX0 outer P w H s Q E) s
/-- the context of such a body -/
def cxU (P : Program) (w : World) (K : PySem.W.Frag) (mg : Str → Option Value) (base : Heap) (N : List Str) (qual : Str) (scope : Scope) (f : Addr) (cd : Value) (A : Around) (outer : List Env) (s : Shared) (H : Hp) (E : XK) : Cx :=
  { cxOf CX0 P w K mg base N qual scope f cd A outer s H E with calm := false, xe := fun _ _ => False }
theorem Inv.toU {P : Program} {w : World} {K : PySem.W.Frag} {mg : Str → Option Value} {base : Heap} {N : List Str} {qual : Str} {scope : Scope} {f : Addr} {cd : Value} {A : Around} {outer : List Env} {s s1 : Shared} {H H1 : Hp} {E : XK} {σ : St} {pins : List (Addr × Obj)}
    (I : Inv (cxOf CX0 P w K mg base N qual scope f cd { A with handled := none } outer s H E) pins σ H1 s1) : Inv (cxU P w K mg base N qual scope f cd A outer s H E) pins σ H1 s1 :=
  ⟨⟨I.ok.mod, I.ok.kind, I.ok.glob, I.ok.blt, I.ok.above, I.ok.inj, I.ok.has, I.ok.cab, (fun z => nomatch z), I.ok.frames, I.ok.stk, I.ok.exf, I.ok.bs, I.ok.bsz, I.ok.noex, I.ok.exfs, I.ok.funs, I.ok.frf⟩, I.os, I.bare, I.base, I.loc, I.cell, I.free, I.freeC, I.pin, I.hok, I.len⟩
theorem fn_ofU {P : Program} {w : World} {K : PySem.W.Frag} {mg : Str → Option Value} {base : Heap} {k : Nat} {f : Addr} {name qual : Str} {params : Arguments} {body : List Stmt} {scope : Scope} {dV kV doc pm cdv ct oc : Value} {an od : Option Addr}
    {osl : Array (Option Value)} {N ps : List Str} {sp : Sp} (lk : K.lookup f = some ⟨oc, od, .func (PySem.W.fnOf name qual params body scope dV kV doc pm an cdv ct), osl⟩) (hcd : PySem.W.codeIn K cdv qual = true) (S : FnScope N ps scope)
    (len : ∀ vs H Q E, sp vs H Q E → vs.length = ps.length)
    (hbody : ∀ (A : Around) (outer : List Env) (s : Shared) (H : Hp) (vs : List V) (Q : VK) (E : XK), RoomU k (A.deeper (envOfC qual scope s.heap.objs.size f cdv)) → sp vs H Q E →
      ∃ t, PSs (cxU P w K mg base N qual scope f cdv A outer s H E) body t ∧ t { nx := fun _ H' => Q .non H', rt := Q } (start N vs) H) :
    FnOkU P w K mg base (k + 1) f (PySem.W.fnOf name qual params body scope dV kV doc pm an cdv ct) ps sp := by
  refine ⟨len, fun A outer s H args us vs Q E hr e0 hb r hsp => ?_⟩
  have hl := len _ _ _ _ hsp
  have KX : K.In s.heap := e0.mod.kin.keeps fun b o e => (e0.bs b o e).1
  have lim : s.heap.NoLimit := e0.mod.nolimit.keeps fun b o e => (e0.bs b o e).1
  have hkind : ∀ y ∈ ps.zip us, scope.names.lookup y.1 = some .local ∨ (scope.names.lookup y.1 = some .cell ∧ ((cellsFrom (s.heap.objs.size + 1) scope.names []).lookup y.1).isSome = true) := fun ⟨n, v⟩ hy => by
    rcases S.par n (List.of_mem_zip hy).1 with q | q
    · exact .inl q
    · exact .inr ⟨q, PySem.W.cellsFrom_some _ _ _ (.inl q)⟩
  refine codeAny_call_function hr.depth (KX _ _ lk) rfl S.co S.gen rfl (PySem.W.codeRec_of KX hcd) (hb _ _ _ _ ?_)
  refine wpAny_newFunctionEnv_cells S.kind hkind fun env he s1 x => ?_
  subst he
  refine ⟨lim.keeps x.toInCall.keep, codeAny_func ?_⟩
  obtain ⟨t, ht, hq⟩ := hbody A outer s H vs Q E (hr.deeper _) hsp
  have e0' : Env0 P w K mg base { A with handled := none } outer s H := ⟨e0.frames, e0.mod, e0.bs, e0.bsz, e0.funs, e0.frf, e0.hok, e0.bare⟩
  have I0 : Inv (cxOf CX0 P w K mg base N qual scope f cdv { A with handled := none } outer s H E) [] (start N vs) H s1 := inv_start S rfl e0' hl r x
  have I : Inv (cxU P w K mg base N qual scope f cdv A outer s H E) [] (start N vs) H s1 := I0.toU
  refine wpAny_mono (ht [] s1 (start N vs) H _ I hq) (fun fl s' hs => ?_) fun e s' hs => hs.elim
  have fin : ∀ {σ' : St} {H' : Hp} {v : V} {u : Value}, Inv (cxU P w K mg base N qual scope f cdv A outer s H E) [] σ' H' s' → RelV v u → Q v H' → CE outer P w H s Q u s' :=
    fun {σ' H' v u} J rv q => ⟨v, H', J.os, J.bare, J.base, J.hok, rv, q⟩
  cases fl with
  | ret u =>
    obtain ⟨v, σ', H', J, rv, q⟩ := hs
    exact fin J rv q
  | next =>
    obtain ⟨σ', H', J, q⟩ := hs
    exact fin (v := V.non) (u := Value.none) J rfl q
  | brk =>
    obtain ⟨_, _, _, q⟩ := hs
    exact False.elim q
  | cont =>
    obtain ⟨_, _, _, q⟩ := hs
    exact False.elim q
theorem Fun.okU {P : Program} {w : World} {K : PySem.W.Frag} {mg : Str → Option Value} {base : Heap} {x qual : Str} {st : Stmt} {f : Addr} {fd : FuncData} {N ps : List Str} {k : Nat} {sp : Sp} (F : Fun K x qual st f fd) (S : FnScope N ps (defScope st)) (len : ∀ vs H Q E, sp vs H Q E → vs.length = ps.length)
    (hbody : ∀ (cdv : Value) (A : Around) (outer : List Env) (s : Shared) (H : Hp) (vs : List V) (Q : VK) (E : XK), RoomU k (A.deeper (envOfC qual (defScope st) s.heap.objs.size f cdv)) → sp vs H Q E →
      ∃ t, PSs (cxU P w K mg base N qual (defScope st) f cdv A outer s H E) (defBody st) t ∧ t { nx := fun _ H' => Q .non H', rt := Q } (start N vs) H) : FnOkU P w K mg base (k + 1) f fd ps sp := by
  obtain ⟨oc, od, kV, doc, pm, an, cdv, ct, osl, rfl, lk, hcd⟩ := F.ex
  exact fn_ofU lk hcd S len fun A outer s H vs Q E hr hsp => hbody cdv A outer s H vs Q E hr hsp
section
variable {X : Cx} {k : Nat} {f : Addr} {fd : FuncData} {ps : List Str} {sp : Sp} {dvs : List V} {ds : List Value} {E : XK} {x : Str} {p pos : Pos} {e : Expr} {es : List Expr} {t : TA}
theorem run_fnU {pins : List (Addr × Obj)} {σ : St} {H : Hp} {s : Shared} {Q : VK} {us : List Value} {vs : List V} (F : FnOkU X.prog X.w X.K X.mg X.base k f fd ps sp) (hr : RoomU k X.A) (hb : Binds X.K fd ps ds) (hd : Vals dvs ds)
    (I : Inv X pins σ H s) (r : Vals vs us) (h : sp (vs ++ dvs) H Q E) : wpAny (model X.prog X.w) X.A (call (.ref f) us) (EP X pins σ Q) X.xe s := by
  have r2 : Vals (vs ++ dvs) (us ++ ds) := r.append hd
  have hl : (us ++ ds).length = ps.length := by rw [← r2.length]; exact F.len _ _ _ _ h
  refine wpAny_call (codeAny_mono (F.run X.A X.stack s H ⟨us, []⟩ (us ++ ds) (vs ++ dvs) Q E hr I.env0 (hb s us I.kIn hl) r2 h) fun r s' hq => ?_)
  cases r with
  | error e => exact False.elim hq
  | ok fl =>
    cases fl with
    | ret u => exact I.after hq
    | next => exact False.elim hq
    | brk => exact False.elim hq
    | cont => exact False.elim hq
theorem pe_callU (F : FnOkU X.prog X.w X.K X.mg X.base k f fd ps sp) (hr : RoomU k X.A) (hg : Gl X x) (hm : X.mg x = some (.ref f)) (hk : PySem.W.keepIn X.K (.ref f) = true) (hb : Binds X.K fd ps ds) (hd : Vals dvs ds)
    (ha : PA X (e :: es) t) (hdb : (x == ("__debug__" : Str)) = false := by decide) (he : starEach (e :: es) X.env = (false, eval e X.env) :: starEach es X.env := by rfl) (hpl : (backTo pos (starEach es X.env)).any (·.1) = false := by rfl) :
    PE X (.Call (.Name x p) (e :: es) [] pos) (tCall sp dvs E t) := by
  intro pins s σ H Q I h
  refine wpAny_Call_Name_kw (ld_glob I hg hm ?_ hdb)
  refine PySem.W.callWith_K (h₀ := X.base) I.ok.mod.kin hk (thn (ha pos pins s σ H _ I h) fun us s1 ⟨vs, H1, I1, r, q⟩ => ⟨I1.kIn, ?_⟩) he hpl
  exact run_fnU F hr hb hd I1 r q
end
end L2
set_option Elab.async false
set_option linter.all false
set_option maxRecDepth 100000
set_option maxHeartbeats 400000
namespace L2
open PySem PySem.Spec PyProof.Rows
def rIsExc (K : PySem.W.Frag) : List V → Hp → VK → Prop := fun xs H Q => ∃ e C c cv b, xs = [.ref e, c] ∧ H e = some (ExcO C e) ∧ XGet K C ∧ clsV c = some cv ∧ PySem.W.kitOne K (.ref C) cv = some b ∧ Q (.bl b) H
theorem call_isexcK {X : Cx} (K : PySem.W.Frag) (hK : X.K = K := by rfl) : CallR X (.builtin "isinstance") (rIsExc K) := hK ▸ call_isexc
section
variable {X : Cx} {o e : Expr} {es : List Expr} {to : TE} {t : TA} {name : Str} {apos cpos : Pos} {T id : String} {r : V → List V → Hp → VK → Prop}
end
theorem boot_VE : bootBuiltins "ValueError" = some (.type "ValueError") := by decide +kernel
end L2
set_option Elab.async false
set_option linter.all false
set_option maxRecDepth 100000
set_option maxHeartbeats 4000000
namespace L2
open PySem PySem.Spec PyProof.Rows
/-- t + u of two tuples: u itself if t is empty, t itself if u is -/
inductive rCatA_I (K : PySem.W.Frag) (x : V) (y : V) (H : Hp) (Q : VK) : Prop
  | mk : ∀ a b xs ys, x = .ref a → y = .ref b → SqT K H a xs → SqT K H b ys → xs.length + ys.length ≤ sizeLine → (xs = [] → Q (.ref b) H) → (xs ≠ [] → ys = [] → Q (.ref a) H) → (xs ≠ [] → ys ≠ [] → ∀ p, H p = none → Q (.ref p) (upd H p (.tup (xs ++ ys)))) → rCatA_I K x y H Q
def rCatA (K : PySem.W.Frag) : R2 := fun x y H Q => rCatA_I K x y H Q
theorem op_catA {X : Cx} : OpR X (binaryOp .Add) (rCatA X.K) := by
  intro pins s σ H x y v u Q I rx ry h
  obtain ⟨a, b, xs, ys, rfl, rfl, ha, hb, hz, q0, q1, q2⟩ := h
  by_cases hx : xs = []
  · cases rx
    cases ry
    obtain ⟨its, r1, p1, _⟩ := I.tuple ha
    obtain ⟨its2, r2, p2, _⟩ := I.tuple hb
    obtain ⟨⟨cls, dd, data, sl⟩, ho, hc, n, hd⟩ := id p1
    obtain ⟨⟨cls2, dd2, data2, sl2⟩, ho2, hc2, n2, hd2⟩ := id p2
    simp only at hc hd hc2 hd2
    subst hc hd hc2 hd2
    exact concat_meets ⟨_, ho, rfl⟩ ⟨_, ho2, rfl⟩ noFill_tuple_add seq_tuple_add PySem.F.slot_tuple_add PySem.F.entry_tuple_add (PySem.F.args_tuple_add_2 _ _)
      (tuple_addW0 a b its.toArray its2.toArray n n2 dd dd2 sl sl2 (by simp [r1.nil_iff.mpr hx])) ⟨ho, ho2, .ref b, H, I, rfl, q0 hx⟩
  · exact op_catT pins s σ H _ _ v u Q I rx ry ⟨a, b, xs, ys, rfl, rfl, ha, hb, hx, hz, q1 hx, q2 hx⟩
theorem catA_go {K : PySem.W.Frag} {H : Hp} {Q : VK} {a b : Addr} {xs ys : List V} (ha : H a = some (.tup xs)) (hb : H b = some (.tup ys)) (hz : xs.length + ys.length ≤ sizeLine) (k : ∀ p H', Same H H' → H' p = some (.tup (xs ++ ys)) → Q (.ref p) H') : rCatA K (.ref a) (.ref b) H Q := by
  refine ⟨a, b, xs, ys, rfl, rfl, SqT.of ha, SqT.of hb, hz, fun e => ?_, fun _ e => ?_, fun _ _ p hp => k p _ (Same.upd_new hp) upd_same⟩
  · subst e; exact k b H (Same.refl H) hb
  · subst e; exact k a H (Same.refl H) (by rw [List.append_nil]; exact ha)
theorem slT_go {K : PySem.W.Frag} {H : Hp} {Q : VK} {a : Addr} {xs : List V} {lo hi : Option Int} (ha : H a = some (.tup xs)) (hw : ¬ (HT.sIx xs.length 0 lo = 0 ∧ HT.sIx xs.length xs.length hi = xs.length)) (k : ∀ p H', Same H H' → H' p = some (.tup (cutV xs lo hi)) → Q (.ref p) H') : rSlT K (.ref a) lo hi H Q :=
  ⟨a, xs, rfl, SqT.of ha, hw, fun p hp => k p _ (Same.upd_new hp) upd_same⟩
end L2
set_option Elab.async false
set_option linter.all false
set_option maxRecDepth 100000
set_option maxHeartbeats 4000000
namespace L2
open PySem PySem.Spec PyProof.Rows
theorem dict_eq_no (l : Addr) (v : Value) (T : String) (ht : typeOf v = pure (.type T)) (hs : isSubtype (.type T) (.type "dict") = pure false) : Meets (Builtin.«dict.__eq__» { pos := [Value.ref l, v] }) fun x R s => R (Except.ok (Flow.ret Value.notImplemented)) s := by
  refine Meets.of_wp fun prog w A R s h => ?_
  obtain ⟨hp, g, d, tk, os⟩ := s
  refine wpAny_bind ?_
  unfold Builtin.Dict.dictSlotArgs
  refine wpAny_bind ?_
  unfold Builtin.Dict.notOrdered
  refine wpAny_ite_false (by decide) (wpAny_pure ?_)
  refine wpAny_bind ?_
  unfold slotArgs
  refine wpAny_ite_false rfl ?_
  refine wpAny_ite_false rfl ?_
  refine wpAny_pure (wpAny_pure ?_)
  refine wpAny_bind ?_
  unfold isInstance
  rw [ht]
  refine wpAny_bind (wpAny_pure ?_)
  refine wpAny_of_eq hs ?_
  refine wpAny_ite_true (by decide) ?_
  refine wpAny_bind (wpAny_rule ?_)
  exact wpAny_pure ⟨_, rfl, h⟩
theorem str_eq_dict (b : Str) (u : Tok) (l : Addr) (ob : Obj) (hd : ∃ es ep, ob.data = .dict es ep) : Meets (Builtin.«str.__eq__» { pos := [Value.str b u, Value.ref l] }) fun x R s => s.heap.get? l = some ob ∧ R (Except.ok (Flow.ret Value.notImplemented)) s := by
  obtain ⟨cls, dd, data, sl⟩ := ob
  obtain ⟨es, ep, rfl⟩ := hd
  refine Meets.of_wp fun prog w A R s h => ?_
  obtain ⟨hp, g, d, tk, os⟩ := s
  obtain ⟨hl, h⟩ := h
  refine wpAny_bind (wpAny_bind ?_)
  unfold slotArgs
  refine wpAny_ite_false rfl (wpAny_ite_false rfl (wpAny_pure ?_))
  refine wpAny_bind (wpAny_bind (wpAny_pure (wpAny_pure (wpAny_pure ?_))))
  refine wpAny_bind (wpAny_bind (wpAny_load hl (wpAny_pure ?_)))
  exact wpAny_bind (wpAny_rule (wpAny_pure ⟨_, rfl, h⟩))
theorem int_eq_dict (b : Int) (u : Tok) (l : Addr) (ob : Obj) (hd : ∃ es ep, ob.data = .dict es ep) : Meets (Builtin.«int.__eq__» { pos := [Value.int b u, Value.ref l] }) fun x R s => s.heap.get? l = some ob ∧ R (Except.ok (Flow.ret Value.notImplemented)) s := by
  obtain ⟨cls, dd, data, sl⟩ := ob
  obtain ⟨es, ep, rfl⟩ := hd
  refine Meets.of_wp fun prog w A R s h => ?_
  obtain ⟨hp, g, d, tk, os⟩ := s
  obtain ⟨hl, h⟩ := h
  refine wpAny_bind ?_
  unfold slotArgs
  refine wpAny_ite_false rfl (wpAny_ite_false rfl (wpAny_pure ?_))
  refine wpAny_bind ?_
  refine wpAny_bind (wpAny_pure (wpAny_pure ?_))
  refine wpAny_bind (wpAny_bind (wpAny_load hl (wpAny_pure ?_)))
  exact wpAny_bind (wpAny_rule (wpAny_pure ⟨_, rfl, h⟩))
/-- x == y, y a text or a number -/
inductive XOk (H : Hp) : V → Prop
  | non : XOk H .non
  | bl (b : Bool) : XOk H (.bl b)
  | int (i : Int) : XOk H (.int i)
  | str (t : Str) : XOk H (.str t)
  | lst {p : Addr} {xs : List V} (e : H p = some (.lst xs)) : XOk H (.ref p)
  | tup {p : Addr} {xs : List V} (e : H p = some (.tup xs)) : XOk H (.ref p)
  | dct {p : Addr} {kvs : List (Key × V)} (e : H p = some (.dK kvs)) : XOk H (.ref p)
inductive YOk : V → Prop
  | str (t : Str) : YOk (.str t)
  | int (i : Int) : YOk (.int i)
inductive rEqX_I (x : V) (y : V) (H : Hp) (Q : VK) : Prop
  | mk : XOk H x → YOk y → Q (.bl (eqV x y)) H → rEqX_I x y H Q
def rEqX : R2 := fun x y H Q => rEqX_I x y H Q
theorem op_eqX {X : Cx} (hu : X.A.units + 64 < cLine) : OpR X (compareOp .Eq) rEqX := by
  intro pins s σ H x y v u Q I rx ry h
  obtain ⟨hx, hy, q⟩ := h
  have hu' : X.A.units < cLine := by omega
  show wpAny _ _ (richCompare .Eq _ _) _ _ _
  have go : ∀ b, SeqAt.RcAt X.A s v u b → eqV x y = b → wpAny (model X.prog X.w) X.A (richCompare .Eq v u) (EP X pins σ Q) X.xe s := fun b r e => by
    subst e
    exact r _ _ _ _ ⟨.bl _, H, I, rfl, q⟩
  cases hy with
  | str t =>
    obtain ⟨tk, rfl⟩ := ry
    cases hx with
    | non => cases rx; exact go _ (SeqAt.RcAt.none_str t tk) rfl
    | bl b => cases rx; exact go _ (SeqAt.RcAt.bool_str b t tk) rfl
    | int i => obtain ⟨tx, rfl⟩ := rx; exact go _ (SeqAt.RcAt.int_str i tx t tk) rfl
    | str r => obtain ⟨tx, rfl⟩ := rx; exact go _ (SeqAt.RcAt.str_str r tx t tk) rfl
    | lst e => cases rx; obtain ⟨its, _, ⟨o, n, eo, c1, c2, d1⟩, _⟩ := I.list (SqL.of e); exact go _ (SeqAt.RcAt.list_str t tk (items := its.toArray) ⟨o, eo, by first | exact c1 | exact c2, n, d1⟩ hu') rfl
    | tup e => cases rx; obtain ⟨its, _, p1, _⟩ := I.tuple (SqT.of e); exact go _ (SeqAt.RcAt.tuple_str t tk p1 hu') rfl
    | @dct p kvs e =>
      cases rx
      obtain ⟨_, _, vs, _, ob, es, ep, ho, ⟨hc, _⟩, hd, _⟩ := dk_of I.hok e
      exact SeqAt.rc_eq_decline_or (Ta := "dict") (Tb := "str") ⟨ob, ho, hc⟩ (typeIs_str s t tk) (by decide) F.sub_str_dict F.slot_dict_eq F.slot_str_eq_refl
        (fun Q' hq => call_meets F.slot_dict_eq ⟨ob, ho, hc⟩ F.entry_dict_eq (F.args_dict_eq_2 _ _) (dict_eq_no p _ "str" rfl F.sub_str_dict) hq)
        (fun Q' hq => call_meets F.slot_str_eq_refl (typeIs_str s t tk) F.entry_str_eq (F.args_str_eq_2 _ _) (str_eq_dict t tk p ob ⟨es, ep, hd⟩) ⟨ho, hq⟩)
        (fun Q' hq => wpAny_of_eq rfl hq) (.inr hu') ⟨.bl false, H, I, rfl, q⟩
  | int j =>
    obtain ⟨tk, rfl⟩ := ry
    cases hx with
    | non => cases rx; exact go _ (SeqAt.RcAt.none_int j tk) rfl
    | bl b => cases rx; exact go _ (SeqAt.RcAt.bool_int b j tk) rfl
    | int i => obtain ⟨tx, rfl⟩ := rx; exact go _ (SeqAt.RcAt.int_int i tx j tk) rfl
    | str r => obtain ⟨tx, rfl⟩ := rx; exact go _ (SeqAt.RcAt.str_int r tx j tk) rfl
    | lst e => cases rx; obtain ⟨its, _, ⟨o, n, eo, c1, c2, d1⟩, _⟩ := I.list (SqL.of e); exact go _ (SeqAt.RcAt.list_int j tk (items := its.toArray) ⟨o, eo, by first | exact c1 | exact c2, n, d1⟩ hu') rfl
    | tup e => cases rx; obtain ⟨its, _, p1, _⟩ := I.tuple (SqT.of e); exact go _ (SeqAt.RcAt.tuple_int j tk p1 hu') rfl
    | @dct p kvs e =>
      cases rx
      obtain ⟨_, _, vs, _, ob, es, ep, ho, ⟨hc, _⟩, hd, _⟩ := dk_of I.hok e
      exact SeqAt.rc_eq_decline_or (Ta := "dict") (Tb := "int") ⟨ob, ho, hc⟩ (typeIs_int s j tk) (by decide) F.sub_int_dict F.slot_dict_eq F.slot_int_eq_refl
        (fun Q' hq => call_meets F.slot_dict_eq ⟨ob, ho, hc⟩ F.entry_dict_eq (F.args_dict_eq_2 _ _) (dict_eq_no p _ "int" rfl F.sub_int_dict) hq)
        (fun Q' hq => call_meets F.slot_int_eq_refl (typeIs_int s j tk) F.entry_int_eq (F.args_int_eq_2 _ _) (int_eq_dict j tk p ob ⟨es, ep, hd⟩) ⟨ho, hq⟩)
        (fun Q' hq => wpAny_of_eq rfl hq) (.inr hu') ⟨.bl false, H, I, rfl, q⟩
end L2
set_option maxHeartbeats 4000000
namespace K05
open PySem L2
def top (i : Nat) : Stmt := PySem.Challenge.pw_mailroom_k05_letters_refused.main.body.getD i (.Pass ⟨0, 0, 0, 0⟩)
abbrev swall : Stmt := top 0
abbrev sall_among : Stmt := top 13
abbrev sis_word : Stmt := top 14
abbrev swords_of : Stmt := top 15
abbrev sis_text : Stmt := top 20
abbrev sis_whole : Stmt := top 21
abbrev sis_answered : Stmt := top 22
abbrev scheck_parts : Stmt := top 23
abbrev sletter_of : Stmt := top 25
abbrev sl_row : Stmt := top 27
abbrev sl_word : Stmt := top 28
abbrev sl_signs : Stmt := top 29
abbrev sl_parts : Stmt := top 30
abbrev sl_of_one_class : Stmt := top 31
abbrev sl_odd_word : Stmt := top 32
abbrev sl_odd_title : Stmt := top 33
abbrev sl_odd_parts : Stmt := top 34
abbrev sl_refused : Stmt := top 35
abbrev slaw : Stmt := top 36
abbrev sLetter_init : Stmt := inClass (top 24) 0
abbrev sLetter_twin : Stmt := inClass (top 24) 1
abbrev sLetter_parts : Stmt := inClass (top 24) 2
abbrev sLetter_known : Stmt := inClass (top 24) 3
abbrev sLetter_words : Stmt := inClass (top 24) 4
abbrev sLetter_title_words : Stmt := inClass (top 24) 5
abbrev n_all_among : List Str := ["text", "signs"]
theorem sc_all_among : FnScope n_all_among ["text", "signs"] (defScope sall_among) := ⟨rfl, rfl, rfl, by decide +kernel, rfl, by decide +kernel, by decide +kernel⟩
abbrev n_is_word : List Str := ["thing"]
theorem sc_is_word : FnScope n_is_word ["thing"] (defScope sis_word) := ⟨rfl, rfl, rfl, by decide +kernel, rfl, by decide +kernel, by decide +kernel⟩
abbrev n_is_text : List Str := ["thing", "most"]
theorem sc_is_text : FnScope n_is_text ["thing", "most"] (defScope sis_text) := ⟨rfl, rfl, rfl, by decide +kernel, rfl, by decide +kernel, by decide +kernel⟩
abbrev n_is_whole : List Str := ["thing"]
theorem sc_is_whole : FnScope n_is_whole ["thing"] (defScope sis_whole) := ⟨rfl, rfl, rfl, by decide +kernel, rfl, by decide +kernel, by decide +kernel⟩
abbrev n_is_answered : List Str := ["thing"]
theorem sc_is_answered : FnScope n_is_answered ["thing"] (defScope sis_answered) := ⟨rfl, rfl, rfl, by decide +kernel, rfl, by decide +kernel, by decide +kernel⟩
abbrev n_check_parts : List Str := ["sender", "title", "body", "day", "answers"]
theorem sc_check_parts : FnScope n_check_parts ["sender", "title", "body", "day", "answers"] (defScope scheck_parts) := ⟨rfl, rfl, rfl, by decide +kernel, rfl, by decide +kernel, by decide +kernel⟩
abbrev n_letter_of : List Str := ["thing"]
theorem sc_letter_of : FnScope n_letter_of ["thing"] (defScope sletter_of) := ⟨rfl, rfl, rfl, by decide +kernel, rfl, by decide +kernel, by decide +kernel⟩
abbrev n_l_row : List Str := ["_law_script", "_law_many", "_law_found", "_law_more", "_law_k", "_law_cell"]
theorem sc_l_row : FnScope n_l_row ["_law_script", "_law_many"] (defScope sl_row) := ⟨rfl, rfl, rfl, by decide +kernel, rfl, by decide +kernel, by decide +kernel⟩
abbrev n_l_word : List Str := ["_law_base", "_law_turn", "_law_some", "_law_signs_here", "_law_size", "_law_at"]
theorem sc_l_word : FnScope n_l_word ["_law_base", "_law_turn"] (defScope sl_word) := ⟨rfl, rfl, rfl, by decide +kernel, rfl, by decide +kernel, by decide +kernel⟩
abbrev n_l_signs : List Str := ["_law_number", "_law_many", "_law_some", "_law_found", "_law_k"]
theorem sc_l_signs : FnScope n_l_signs ["_law_number", "_law_many"] (defScope sl_signs) := ⟨rfl, rfl, rfl, by decide +kernel, rfl, by decide +kernel, by decide +kernel⟩
abbrev n_l_parts : List Str := ["_law_row_here", "_law_base", "_law_title", "_law_body", "_law_at", "_law_day", "_law_answers"]
theorem sc_l_parts : FnScope n_l_parts ["_law_row_here", "_law_base"] (defScope sl_parts) := ⟨rfl, rfl, rfl, by decide +kernel, rfl, by decide +kernel, by decide +kernel⟩
abbrev n_l_of_one_class : List Str := ["_law_e", "_law_found"]
theorem sc_l_of_one_class : FnScope n_l_of_one_class ["_law_e"] (defScope sl_of_one_class) := ⟨rfl, rfl, rfl, by decide +kernel, rfl, by decide +kernel, by decide +kernel⟩
abbrev n_l_odd_word : List Str := ["_law_number", "_law_word_here", "_law_other", "_law_at", "_law_far", "_law_odd"]
theorem sc_l_odd_word : FnScope n_l_odd_word ["_law_number", "_law_word_here"] (defScope sl_odd_word) := ⟨rfl, rfl, rfl, by decide +kernel, rfl, by decide +kernel, by decide +kernel⟩
abbrev n_l_odd_title : List Str := ["_law_number", "_law_title", "_law_at", "_law_far", "_law_lined"]
theorem sc_l_odd_title : FnScope n_l_odd_title ["_law_number", "_law_title"] (defScope sl_odd_title) := ⟨rfl, rfl, rfl, by decide +kernel, rfl, by decide +kernel, by decide +kernel⟩
abbrev n_l_odd_parts : List Str := ["_law_number", "_law_parts_here", "_law_which", "_law_more", "_law_far", "_law_days", "_law_odd"]
theorem sc_l_odd_parts : FnScope n_l_odd_parts ["_law_number", "_law_parts_here"] (defScope sl_odd_parts) := ⟨rfl, rfl, rfl, by decide +kernel, rfl, by decide +kernel, by decide +kernel⟩
abbrev n_l_refused : List Str := ["_law_parts_here", "_law_way", "_law_e"]
theorem sc_l_refused : FnScope n_l_refused ["_law_parts_here", "_law_way"] (defScope sl_refused) := ⟨rfl, rfl, rfl, by decide +kernel, rfl, by decide +kernel, by decide +kernel⟩
abbrev n_law : List Str := ["_law_script", "_law_row_here", "_law_parts_here", "_law_odd", "_law_other", "_law_some", "_law_k", "_law_things"]
theorem sc_law : FnScope n_law ["_law_script"] (defScope slaw) := ⟨rfl, rfl, rfl, by decide +kernel, rfl, by decide +kernel, by decide +kernel⟩
abbrev n_Letter_init : List Str := ["self", "sender", "title", "body", "day", "answers"]
theorem sc_Letter_init : FnScope n_Letter_init ["self", "sender", "title", "body", "day", "answers"] (defScope sLetter_init) := ⟨rfl, rfl, rfl, by decide +kernel, rfl, by decide +kernel, by decide +kernel⟩
abbrev n_Letter_parts : List Str := ["self"]
theorem sc_Letter_parts : FnScope n_Letter_parts ["self"] (defScope sLetter_parts) := ⟨rfl, rfl, rfl, by decide +kernel, rfl, by decide +kernel, by decide +kernel⟩
set_option genInjectivity false in
/-- where the top's things stand -/
structure Adr where
  f_wall : Addr
  f_all_among : Addr
  f_is_word : Addr
  f_words_of : Addr
  f_is_text : Addr
  f_is_whole : Addr
  f_is_answered : Addr
  f_check_parts : Addr
  f_letter_of : Addr
  f_l_row : Addr
  f_l_word : Addr
  f_l_signs : Addr
  f_l_parts : Addr
  f_l_of_one_class : Addr
  f_l_odd_word : Addr
  f_l_odd_title : Addr
  f_l_odd_parts : Addr
  f_l_refused : Addr
  f_law : Addr
  f_Letter_init : Addr
  f_Letter_twin : Addr
  f_Letter_parts : Addr
  f_Letter_known : Addr
  f_Letter_words : Addr
  f_Letter_title_words : Addr
  C_Letter : Addr
  C_MailError : Addr
  C_NoLetter : Addr
  C_NoWord : Addr
  C_NoRule : Addr
  C_NoName : Addr
  C_NoParcel : Addr
  C_NoRow : Addr
  dummy : Nat := 0
structure Txt (K : PySem.W.Frag) (mg : Str → Option Value) (a : Adr) : Prop where
  m_wall : mg "_wall" = some (.ref a.f_wall)
  m_all_among : mg "all_among" = some (.ref a.f_all_among)
  m_is_word : mg "is_word" = some (.ref a.f_is_word)
  m_words_of : mg "words_of" = some (.ref a.f_words_of)
  m_is_text : mg "is_text" = some (.ref a.f_is_text)
  m_is_whole : mg "is_whole" = some (.ref a.f_is_whole)
  m_is_answered : mg "is_answered" = some (.ref a.f_is_answered)
  m_check_parts : mg "check_parts" = some (.ref a.f_check_parts)
  m_letter_of : mg "letter_of" = some (.ref a.f_letter_of)
  m_l_row : mg "_law_row" = some (.ref a.f_l_row)
  m_l_word : mg "_law_word" = some (.ref a.f_l_word)
  m_l_signs : mg "_law_signs" = some (.ref a.f_l_signs)
  m_l_parts : mg "_law_parts" = some (.ref a.f_l_parts)
  m_l_of_one_class : mg "_law_of_one_class" = some (.ref a.f_l_of_one_class)
  m_l_odd_word : mg "_law_odd_word" = some (.ref a.f_l_odd_word)
  m_l_odd_title : mg "_law_odd_title" = some (.ref a.f_l_odd_title)
  m_l_odd_parts : mg "_law_odd_parts" = some (.ref a.f_l_odd_parts)
  m_l_refused : mg "_law_refused" = some (.ref a.f_l_refused)
  m_law : mg "law" = some (.ref a.f_law)
  g_WORD_SIGNS : ∃ u, mg "WORD_SIGNS" = some u ∧ RelV (.str "abcdefghijklmnopqrstuvwxyz0123456789") u
  g_RUN_SIGNS : ∃ u, mg "RUN_SIGNS" = some u ∧ RelV (.str "abcdefghijklmnopqrstuvwxyzABCDEFGHIJKLMNOPQRSTUVWXYZ0123456789") u
  g_MOST_WORD : ∃ u, mg "MOST_WORD" = some u ∧ RelV (.int 20) u
  g_MOST_TITLE : ∃ u, mg "MOST_TITLE" = some u ∧ RelV (.int 60) u
  g_MOST_BODY : ∃ u, mg "MOST_BODY" = some u ∧ RelV (.int 400) u
  g_LAST_DAY : ∃ u, mg "LAST_DAY" = some u ∧ RelV (.int 9999) u
  b_len : mg "len" = none
  b_range : mg "range" = none
  b_isinstance : mg "isinstance" = none
  b_str : mg "str" = none
  b_int : mg "int" = none
  b_bool : mg "bool" = none
  b_list : mg "list" = none
  b_tuple : mg "tuple" = none
  b_all : mg "all" = none
  mc_Letter : mg "Letter" = some (.ref a.C_Letter)
  c_Letter : Cls K a.C_Letter
  k_Letter : Mk K a.C_Letter a.f_Letter_init
  M_Letter_twin : Meth K a.C_Letter "twin" a.f_Letter_twin
  M_Letter_parts : Meth K a.C_Letter "parts" a.f_Letter_parts
  M_Letter_known : Meth K a.C_Letter "known" a.f_Letter_known
  M_Letter_words : Meth K a.C_Letter "words" a.f_Letter_words
  M_Letter_title_words : Meth K a.C_Letter "title_words" a.f_Letter_title_words
  n_Letter_sender : NoAttr K a.C_Letter "sender"
  n_Letter_title : NoAttr K a.C_Letter "title"
  n_Letter_body : NoAttr K a.C_Letter "body"
  n_Letter_day : NoAttr K a.C_Letter "day"
  n_Letter_answers : NoAttr K a.C_Letter "answers"
  n_Letter_found : NoAttr K a.C_Letter "found"
  mx_MailError : mg "MailError" = some (.ref a.C_MailError)
  x_MailError : Xcl K a.C_MailError
  mx_NoLetter : mg "NoLetter" = some (.ref a.C_NoLetter)
  x_NoLetter : Xcl K a.C_NoLetter
  s_NoLetter_MailError : mroIn K a.C_NoLetter a.C_MailError = true
  mx_NoWord : mg "NoWord" = some (.ref a.C_NoWord)
  mx_NoRule : mg "NoRule" = some (.ref a.C_NoRule)
  mx_NoName : mg "NoName" = some (.ref a.C_NoName)
  mx_NoParcel : mg "NoParcel" = some (.ref a.C_NoParcel)
  mx_NoRow : mg "NoRow" = some (.ref a.C_NoRow)
  xg_NoLetter : XGet K a.C_NoLetter
  ki_NoLetter_NoWord : PySem.W.kitOne K (.ref a.C_NoLetter) (.ref a.C_NoWord) = some false
  ki_NoLetter_NoLetter : PySem.W.kitOne K (.ref a.C_NoLetter) (.ref a.C_NoLetter) = some true
  ki_NoLetter_NoRule : PySem.W.kitOne K (.ref a.C_NoLetter) (.ref a.C_NoRule) = some false
  ki_NoLetter_NoName : PySem.W.kitOne K (.ref a.C_NoLetter) (.ref a.C_NoName) = some false
  ki_NoLetter_ValueError : PySem.W.kitOne K (.ref a.C_NoLetter) (.type "ValueError") = some true
  ki_NoLetter_NoParcel : PySem.W.kitOne K (.ref a.C_NoLetter) (.ref a.C_NoParcel) = some false
  ki_NoLetter_NoRow : PySem.W.kitOne K (.ref a.C_NoLetter) (.ref a.C_NoRow) = some false
  b_ValueError : mg "ValueError" = none
  top_ : True
structure Funs (K : PySem.W.Frag) (a : Adr) : Prop where
  F_wall : ∃ fd, Fun K "_wall" "_wall" swall a.f_wall fd ∧ Binds K fd ["k"] []
  F_all_among : ∃ fd, Fun K "all_among" "all_among" sall_among a.f_all_among fd ∧ Binds K fd ["text", "signs"] []
  F_is_word : ∃ fd, Fun K "is_word" "is_word" sis_word a.f_is_word fd ∧ Binds K fd ["thing"] []
  F_words_of : ∃ fd, Fun K "words_of" "words_of" swords_of a.f_words_of fd ∧ Binds K fd ["text"] []
  F_is_text : ∃ fd, Fun K "is_text" "is_text" sis_text a.f_is_text fd ∧ Binds K fd ["thing", "most"] []
  F_is_whole : ∃ fd, Fun K "is_whole" "is_whole" sis_whole a.f_is_whole fd ∧ Binds K fd ["thing"] []
  F_is_answered : ∃ fd, Fun K "is_answered" "is_answered" sis_answered a.f_is_answered fd ∧ Binds K fd ["thing"] []
  F_check_parts : ∃ fd, Fun K "check_parts" "check_parts" scheck_parts a.f_check_parts fd ∧ Binds K fd ["sender", "title", "body", "day", "answers"] []
  F_letter_of : ∃ fd, Fun K "letter_of" "letter_of" sletter_of a.f_letter_of fd ∧ Binds K fd ["thing"] []
  F_l_row : ∃ fd, Fun K "_law_row" "_law_row" sl_row a.f_l_row fd ∧ Binds K fd ["_law_script", "_law_many"] []
  F_l_word : ∃ fd, Fun K "_law_word" "_law_word" sl_word a.f_l_word fd ∧ Binds K fd ["_law_base", "_law_turn"] []
  F_l_signs : ∃ fd, Fun K "_law_signs" "_law_signs" sl_signs a.f_l_signs fd ∧ Binds K fd ["_law_number", "_law_many"] []
  F_l_parts : ∃ fd, Fun K "_law_parts" "_law_parts" sl_parts a.f_l_parts fd ∧ Binds K fd ["_law_row_here", "_law_base"] []
  F_l_of_one_class : ∃ fd, Fun K "_law_of_one_class" "_law_of_one_class" sl_of_one_class a.f_l_of_one_class fd ∧ Binds K fd ["_law_e"] []
  F_l_odd_word : ∃ fd, Fun K "_law_odd_word" "_law_odd_word" sl_odd_word a.f_l_odd_word fd ∧ Binds K fd ["_law_number", "_law_word_here"] []
  F_l_odd_title : ∃ fd, Fun K "_law_odd_title" "_law_odd_title" sl_odd_title a.f_l_odd_title fd ∧ Binds K fd ["_law_number", "_law_title"] []
  F_l_odd_parts : ∃ fd, Fun K "_law_odd_parts" "_law_odd_parts" sl_odd_parts a.f_l_odd_parts fd ∧ Binds K fd ["_law_number", "_law_parts_here"] []
  F_l_refused : ∃ fd, Fun K "_law_refused" "_law_refused" sl_refused a.f_l_refused fd ∧ Binds K fd ["_law_parts_here", "_law_way"] []
  F_law : ∃ fd, Fun K "law" "law" slaw a.f_law fd ∧ Binds K fd ["_law_script"] []
  F_Letter_init : ∃ fd, FunD K "__init__" "Letter.__init__" sLetter_init a.f_Letter_init fd ∧ Binds K fd ["self", "sender", "title", "body", "day", "answers"] [] ∧ (∃ ds, Vals [.str ""] ds ∧ Binds K fd ["self", "sender", "title", "body", "day", "answers"] ds)
  F_Letter_twin : ∃ fd, Fun K "twin" "Letter.twin" sLetter_twin a.f_Letter_twin fd ∧ Binds K fd ["self"] []
  F_Letter_parts : ∃ fd, Fun K "parts" "Letter.parts" sLetter_parts a.f_Letter_parts fd ∧ Binds K fd ["self"] []
  F_Letter_known : ∃ fd, Fun K "known" "Letter.known" sLetter_known a.f_Letter_known fd ∧ Binds K fd ["self"] []
  F_Letter_words : ∃ fd, Fun K "words" "Letter.words" sLetter_words a.f_Letter_words fd ∧ Binds K fd ["self"] []
  F_Letter_title_words : ∃ fd, Fun K "title_words" "Letter.title_words" sLetter_title_words a.f_Letter_title_words fd ∧ Binds K fd ["self"] []
inductive spRow_I (K : PySem.W.Frag) (vs : List V) (H : Hp) (Q : VK) : Prop
  | mk : ∀ (a : Addr) (ns : List Int) (n : Nat), vs = [.ref a, .int n] → SqL K H a (ns.map V.int) → n ≤ 1000 → (∀ (p : Addr) (rs : List Int) (H' : Hp), rs.length = n → (∀ r ∈ rs, 0 ≤ r ∧ r < 2147483629) → Same H H' → H' p = some (.lst (rs.map V.int)) → Q (.ref p) H') → spRow_I K vs H Q
def spRow (K : PySem.W.Frag) : Sp := fun vs H Q _ => spRow_I K vs H Q
theorem ok_row {P : Program} {w : World} {K : PySem.W.Frag} {mg : Str → Option Value} {base : Heap} {a : Adr} {fd : FuncData} (F : Fun K "_law_row" "_law_row" sl_row a.f_l_row fd) (T : Txt K mg a) : FnOk P w K mg base CX0 1 a.f_l_row fd ["_law_script", "_law_many"] (spRow K) := by
  refine F.ok sc_l_row (fun vs H Q E h => ?_) (fun cdv A outer s H vs Q E hr h => ?_)
  · obtain ⟨x, ns, n, rfl, _⟩ := h; rfl
  · obtain ⟨q, ns, n, rfl, hS, hn, k⟩ := h
    refine ⟨_, pss_cons (ps_set (i := 2) sc_l_row.nd rfl (Or.inl rfl) (pe_lst pa_nil))
      (pss_cons (ps_set (i := 3) sc_l_row.nd rfl (Or.inl rfl) pe_int)
      (pss_cons (ps_for PassesOwn.never rfl (pi_range1 rfl T.b_range (pa_cons (pv 1) pa_nil)) (pg_name (i := 4) sc_l_row.nd rfl (Or.inl rfl))
        (pss_cons (ps_set (i := 5) sc_l_row.nd rfl (Or.inl rfl) pe_int)
        (pss_cons (ps_if (pt_cmpR op_gt (pe_callB call_len_seq rfl T.b_len PySem.boot_len (pa_cons (pv 0) pa_nil)) pe_int (nomark _))
          (pss_one (ps_set (i := 5) sc_l_row.nd rfl (Or.inl rfl) (pe_ix ix_list (pv 0) (pe_op op_mod (pv 4) (pe_callB call_len_seq rfl T.b_len PySem.boot_len (pa_cons (pv 0) pa_nil))) (fun _ _ => rfl)))) pss_nil)
        (pss_cons (ps_set (i := 3) sc_l_row.nd rfl (Or.inl rfl) (pe_op op_mod (pe_op op_add (pe_op op_add (pe_op op_mul (pv 3) pe_int) (pv 5)) (pv 4)) pe_int))
        (pss_one (ps_expr (pe_bm PySem.F.plainAttrs_list PySem.F.slot_list_append PySem.F.type_list_append mt_append (pv 2) (pa_cons (pe_op op_mod (pe_op op_add (pe_op op_mul (pv 3) (pv 3)) (pe_op op_mul pe_int (pv 3))) pe_int) pa_nil))))))))
      (pss_one (ps_ret (pv 2))))), ?_⟩
    refine ⟨Nat.zero_le _, fun p hp => ?_⟩
    refine ⟨_, rfl, (n : Int), rfl, by omega, by omega, for_range (n := (n : Int).toNat) (fun i σ H2 => ∃ (rs : List Int) (more : Int) (c1 c2 : Option V), σ = [some (.ref q), some (.int n), some (.ref p), some (.int more), c1, c2] ∧ 0 ≤ more ∧ more < 2147483647 ∧
      rs.length = i ∧ (∀ r ∈ rs, 0 ≤ r ∧ r < 2147483629) ∧ H2 p = some (.lst (rs.map V.int)) ∧ Same H H2)
      ⟨[], 7, none, none, rfl, by decide, by decide, rfl, (fun _ h => nomatch h), upd_same, Same.upd_new hp⟩ ?_ ?_⟩
    · rintro i σ H2 hi ⟨rs, more, c1, c2, rfl, h0, h1, hl, hb, hp2, hs⟩
      have hS2 := hs.seq hS
      have hin : i < n := by omega
      have rest : ∀ z : Int, ∃ x : V, ([some (.ref q), some (.int n), some (.ref p), some (.int more), some (.int (0 + (i : Int))), some (.int z)] : St)[3]? = some (some x) ∧ True := fun z => ⟨_, rfl, trivial⟩
      refine ⟨_, rfl, q, _, rfl, .inl hS2, _, _, rfl, rfl, _, rfl, ?_⟩
      refine ite2 (fun hpos => ?_) (fun hneg => ?_)
      · have hpos' : 0 < (ns.map V.int).length := by simpa using hpos
        obtain ⟨v, hv, hm, _⟩ := atI_mod (xs := ns.map V.int) (0 + (i : Int)) hpos'
        obtain ⟨z, rfl, _⟩ := mem_map_int hm
        refine ⟨_, rfl, _, rfl, _, rfl, q, _, rfl, .inl hS2, _, _, rfl, rfl, (by omega), q, _, _, _, rfl, rfl, hS2, hv, ?_⟩
        refine ⟨_, rfl, _, _, rfl, rfl, .inl ⟨by omega, by omega⟩, _, rfl, _, _, rfl, rfl, _, rfl, _, _, rfl, rfl, _, _, rfl, rfl, (by show (0 : Int) < 2147483647; decide), ?_⟩
        have b0 : 0 ≤ (more * 48271 + z + (0 + (i : Int))) % 2147483647 := Int.emod_nonneg _ (by decide)
        have b1 : (more * 48271 + z + (0 + (i : Int))) % 2147483647 < 2147483647 := Int.emod_lt_of_pos _ (by decide)
        refine ⟨_, rfl, .inl ⟨rfl, _, SqL.of hp2⟩, _, rfl, _, rfl, _, _, rfl, rfl, .inl ⟨by omega, by omega⟩, _, rfl, _, _, rfl, rfl, .inl ⟨by decide, by decide⟩, _, _, rfl, rfl, _, _, rfl, rfl, (by show (0 : Int) < 2147483629; decide), p, _, _, rfl, rfl, hp2, (by rw [List.length_map]; exact small1000 (by omega)), ?_⟩
        refine ⟨rs ++ [_], _, _, _, rfl, b0, b1, by rw [List.length_append, hl]; rfl, fun r hr => ?_, by rw [List.map_append]; exact upd_same, hs.upd_of hp⟩
        rcases List.mem_append.mp hr with hr | hr
        · exact hb r hr
        · rw [List.mem_singleton.mp hr]
          exact ⟨Int.emod_nonneg _ (by decide), Int.emod_lt_of_pos _ (by decide)⟩
      · refine ⟨_, rfl, _, _, rfl, rfl, .inl ⟨by omega, by omega⟩, _, rfl, _, _, rfl, rfl, _, rfl, _, _, rfl, rfl, _, _, rfl, rfl, (by show (0 : Int) < 2147483647; decide), ?_⟩
        have b0 : 0 ≤ (more * 48271 + 0 + (0 + (i : Int))) % 2147483647 := Int.emod_nonneg _ (by decide)
        have b1 : (more * 48271 + 0 + (0 + (i : Int))) % 2147483647 < 2147483647 := Int.emod_lt_of_pos _ (by decide)
        refine ⟨_, rfl, .inl ⟨rfl, _, SqL.of hp2⟩, _, rfl, _, rfl, _, _, rfl, rfl, .inl ⟨by omega, by omega⟩, _, rfl, _, _, rfl, rfl, .inl ⟨by decide, by decide⟩, _, _, rfl, rfl, _, _, rfl, rfl, (by show (0 : Int) < 2147483629; decide), p, _, _, rfl, rfl, hp2, (by rw [List.length_map]; exact small1000 (by omega)), ?_⟩
        refine ⟨rs ++ [_], _, _, _, rfl, b0, b1, by rw [List.length_append, hl]; rfl, fun r hr => ?_, by rw [List.map_append]; exact upd_same, hs.upd_of hp⟩
        rcases List.mem_append.mp hr with hr | hr
        · exact hb r hr
        · rw [List.mem_singleton.mp hr]
          exact ⟨Int.emod_nonneg _ (by decide), Int.emod_lt_of_pos _ (by decide)⟩
    · rintro σ H2 ⟨rs, more, c1, c2, rfl, h0, h1, hl, hb, hp2, hs⟩
      refine ⟨_, rfl, k p rs H2 (by omega) hb hs hp2⟩
inductive spWord_I (vs : List V) (H : Hp) (Q : VK) : Prop
  | mk : ∀ (b t : Int), vs = [.int b, .int t] → 0 ≤ b → b < 2147483629 → 0 ≤ t → t < 100 → (∀ (x : Str) (H' : Hp), WordS x → Same H H' → Q (.str x) H') → spWord_I vs H Q
def spWord : Sp := fun vs H Q _ => spWord_I vs H Q
theorem ok_word {P : Program} {w : World} {K : PySem.W.Frag} {mg : Str → Option Value} {base : Heap} {a : Adr} {fd : FuncData} (F : Fun K "_law_word" "_law_word" sl_word a.f_l_word fd) (T : Txt K mg a) : FnOk P w K mg base CX0 1 a.f_l_word fd ["_law_base", "_law_turn"] spWord := by
  refine F.ok sc_l_word (fun vs H Q E h => ?_) (fun cdv A outer s H vs Q E hr h => ?_)
  · obtain ⟨b, t, rfl, _⟩ := h; rfl
  · obtain ⟨b, t, rfl, hb0, hb1, ht0, ht1, k⟩ := h
    have h36 := aZ_len
    have mod36 : ∀ z : Int, ∃ c, atI aZ.cps.toList (z % 36) = some c ∧ c ∈ aZ.cps.toList := fun z =>
      pick_sign (Int.emod_nonneg _ (by decide)) (by rw [h36]; exact Int.emod_lt_of_pos _ (by decide))
    have fin : ∀ (ys : List Str) (j : Nat) (H' : Hp), (∀ y ∈ ys, Sign1 aZ y) → ys.length = 20 → 1 ≤ j → j ≤ 20 → Same H H' → Q (.str (Txt.join "" (ys.take j))) H' := fun ys j H' h1 hl hj0 hj1 s' => by
      have q := join_signs (z := aZ) (ys := ys.take j) fun y hy => h1 y (List.mem_of_mem_take hy)
      have e : (ys.take j).length = j := by rw [List.length_take]; omega
      exact k _ H' ⟨by rw [q.1, e]; exact hj0, by rw [q.1, e]; exact hj1, q.2⟩ s'
    obtain ⟨t4, h4, sp4⟩ : ∃ tt, PSs (cxOf CX0 P w K mg base n_l_word "_law_word" (defScope sl_word) a.f_l_word cdv A outer s H E).nox ((defBody sl_word).drop 4) tt ∧
        ∀ (H1 : Hp) (D : Addr) (ys : List Str), Same H H1 → H D = none → H1 D = some (.lst (ys.map V.str)) → (∀ y ∈ ys, Sign1 aZ y) → ys.length = 20 →
          tt { nx := fun _ H' => Q .non H', rt := Q } [some (.int b), some (.int t), some (.str aZ), some (.ref D), none, none] H1 := by
      refine ⟨_, (pss_cons (ps_set (i := 4) sc_l_word.nd rfl (Or.inl rfl) (pe_op op_add pe_int (pe_op op_mod (pe_op op_fdiv (pv 0) pe_int) pe_int)))
        (pss_cons (ps_set (i := 5) sc_l_word.nd rfl (Or.inl rfl) (pe_op op_mod (pe_op op_fdiv (pv 0) pe_int) (pv 4)))
        (pss_cons (ps_asg (pe_ix ix_str (pv 2) (pe_op op_mod (pe_op op_add (pe_op op_fdiv (pv 0) pe_int) (pv 1)) pe_int) (fun _ _ => rfl)) (pg_sub (pv 3) (pv 5) set_list))
        (pss_one (ps_ret (pe_bm PySem.F.plainAttrs_str PySem.F.slot_str_join PySem.F.type_str_join mt_join pe_str (pa_cons (pe_slice sl_list (pv 3) po_none (po_some (pv 4))) pa_nil))))))), fun H1 D ys s1 hDn hD h1 hl => ?_⟩
      have z0 : 0 ≤ b / 3 % 20 := Int.emod_nonneg _ (by decide)
      have z1 : b / 3 % 20 < 20 := Int.emod_lt_of_pos _ (by decide)
      refine ⟨_, rfl, _, _, rfl, rfl, ⟨by decide, by decide⟩, _, _, rfl, rfl, (by show (0 : Int) < 20; decide), _, _, rfl, rfl, ?_⟩
      have y0 : 0 ≤ b / 61 % (1 + b / 3 % 20) := Int.emod_nonneg _ (by omega)
      have y1 : b / 61 % (1 + b / 3 % 20) < (1 + b / 3 % 20) := Int.emod_lt_of_pos _ (by omega)
      refine ⟨_, rfl, _, _, rfl, rfl, ⟨by decide, by decide⟩, _, rfl, _, _, rfl, rfl, (by show (0 : Int) < (1 + b / 3 % 20); omega), ?_⟩
      obtain ⟨c, hc, hcm⟩ := mod36 (b / 2311 + t)
      have hix : ixN (ys.map V.str).length (b / 61 % (1 + b / 3 % 20)) = some (b / 61 % (1 + b / 3 % 20)).toNat := by
        unfold ixN
        rw [if_pos y0, if_pos (by rw [List.length_map, hl]; omega)]
      refine ⟨_, rfl, _, rfl, _, _, rfl, rfl, ⟨by decide, by decide⟩, _, rfl, _, _, rfl, rfl, _, _, rfl, rfl, (by show (0 : Int) < 36; decide), aZ, _, c, rfl, rfl, aZ_small, hc, _, rfl, _, rfl, D, _, _, _, rfl, rfl, hD, hix, ?_⟩
      have hset : (ys.map V.str).set (b / 61 % (1 + b / 3 % 20)).toNat (V.str ⟨#[c]⟩) = (ys.set (b / 61 % (1 + b / 3 % 20)).toNat ⟨#[c]⟩).map V.str := by rw [List.map_set]
      rw [hset]
      generalize hzs : ys.set (b / 61 % (1 + b / 3 % 20)).toNat ⟨#[c]⟩ = zs
      have hzl : zs.length = 20 := by rw [← hzs, List.length_set]; exact hl
      have hz1 : ∀ y ∈ zs, Sign1 aZ y := fun y hy => by
        rw [← hzs] at hy
        rcases List.mem_or_eq_of_mem_set hy with z | z
        · exact h1 y z
        · exact ⟨c, hcm, z⟩
      refine ⟨rfl, _, rfl, _, rfl, _, rfl, D, _, rfl, SqL.of upd_same, fun p hp => ?_⟩
      have hcut := cut_front V.str zs (1 + b / 3 % 20) (by omega)
      refine ⟨"", p, zs.take (1 + b / 3 % 20).toNat, rfl, rfl, SqL.of (by rw [← hcut]; exact upd_same), join_sum (fun y hy => (hz1 y (List.mem_of_mem_take hy)).len) (by rw [List.length_take]; omega), ?_⟩
      refine fin zs (1 + b / 3 % 20).toNat _ hz1 hzl (by omega) (by omega) ?_
      intro bb o e
      have nb : bb ≠ D := ne_of_none e hDn
      have e1 : (upd H1 D (.lst (zs.map V.str))) bb = some o := by rw [upd_ne nb]; exact s1 _ _ e
      rw [upd_ne (ne_of_none e1 hp)]
      exact e1
    obtain ⟨t3, h3, sp3⟩ : ∃ tt, PSs (cxOf CX0 P w K mg base n_l_word "_law_word" (defScope sl_word) a.f_l_word cdv A outer s H E).nox ((defBody sl_word).drop 3) tt ∧
        ∀ (H1 : Hp) (D : Addr) (ys : List Str), Same H H1 → H D = none → H1 D = some (.lst (ys.map V.str)) → (∀ y ∈ ys, Sign1 aZ y) → ys.length = 20 →
          tt { nx := fun _ H' => Q .non H', rt := Q } [some (.int b), some (.int t), some (.str aZ), some (.ref D), none, none] H1 := by
      refine ⟨_, (pss_cons (ps_if (pw_or (pt_cmpR op_lt (pe_op op_mod (pv 0) pe_int) pe_int (nomark _)) (pw_or1 (pt_cmpR op_gt (pv 1) pe_int (nomark _)))).pt (pss_one (ps_ret (pe_op op_add_str (pe_op op_add_str (pe_bm PySem.F.plainAttrs_str PySem.F.slot_str_join PySem.F.type_str_join mt_join pe_str (pa_cons (pe_slice sl_list (pv 3) po_none (po_some (pe_op op_add pe_int (pe_op op_mod (pe_op op_fdiv (pv 0) pe_int) pe_int)))) pa_nil)) pe_str) (pe_callTy call_str_int rfl T.b_str PyProof.Rows.boot_str (pa_cons (pv 1) pa_nil))))) pss_nil)
        h4), fun H1 D ys s1 hDn hD h1 hl => ?_⟩
      have z0 : 0 ≤ b / 3 % 16 := Int.emod_nonneg _ (by decide)
      have z1 : b / 3 % 16 < 16 := Int.emod_lt_of_pos _ (by decide)
      have nxt := sp4 H1 D ys s1 hDn hD h1 hl
      obtain ⟨tn, rfl⟩ : ∃ tn : Nat, t = (tn : Int) := ⟨t.toNat, by omega⟩
      have htn : tn < 100 := by omega
      have num := num_small tn htn
      have hlog : ((tn : Int)).natAbs.log2 < 1920 := by
        have : ((tn : Int)).natAbs = tn := by omega
        rw [this]
        exact Nat.lt_of_le_of_lt (Nat.log2_le_self tn) (by omega)
      have hsm : ∀ n : Nat, n ≤ 1000 → n ≤ sizeLine := fun n h => Nat.le_of_lt (small1000 h)
      have done : ∀ (p : Addr) (hp : H1 p = none), Q (.str (Txt.join "" (ys.take (1 + b / 3 % 16).toNat) ++ "x" ++ Str.ofString (toString (tn : Int)))) (upd H1 p (.lst (cutV (ys.map V.str) none (some (1 + b / 3 % 16))))) := fun p hp => by
        have q := join_signs (z := aZ) (ys := ys.take (1 + b / 3 % 16).toNat) fun y hy => h1 y (List.mem_of_mem_take hy)
        have e : (ys.take (1 + b / 3 % 16).toNat).length = (1 + b / 3 % 16).toNat := by rw [List.length_take]; omega
        have ex : ("x" : Str).length = 1 := by decide +kernel
        have ex2 : ∀ c ∈ ("x" : Str).cps.toList, c ∈ aZ.cps.toList := by decide +kernel
        refine k _ _ ⟨?_, ?_, fun c hc => ?_⟩ (s1.upd_of (s1.free hp))
        · rw [cat_len, cat_len, ex]; omega
        · rw [cat_len, cat_len, ex, q.1, e]; omega
        · have e2 : (Txt.join "" (ys.take (1 + b / 3 % 16).toNat) ++ "x" ++ Str.ofString (toString (tn : Int))).cps.toList = (Txt.join "" (ys.take (1 + b / 3 % 16).toNat)).cps.toList ++ ("x" : Str).cps.toList ++ (Str.ofString (toString (tn : Int))).cps.toList := by
            rw [cat_list, cat_list]
          rw [e2] at hc
          rcases List.mem_append.mp hc with hc | hc
          · rcases List.mem_append.mp hc with hc | hc
            · exact q.2 c hc
            · exact ex2 c hc
          · exact of_decide_eq_true (List.all_eq_true.mp num.2.2 c hc)
      have ret : ∀ (Q2 : VK), (∀ (p : Addr), H1 p = none → Q2 (.str (Txt.join "" (ys.take (1 + b / 3 % 16).toNat) ++ "x" ++ Str.ofString (toString (tn : Int)))) (upd H1 p (.lst (cutV (ys.map V.str) none (some (1 + b / 3 % 16)))))) →
          ∀ (p : Addr), H1 p = none → rJoin K (.str "") [.ref p] (upd H1 p (.lst (cutV (ys.map V.str) none (some (1 + b / 3 % 16))))) fun x H2 => ∃ i j, x = .str i ∧ V.str "x" = .str j ∧ i.length + j.length ≤ sizeLine ∧ ∃ i' j', V.str (i ++ j) = .str i' ∧ V.str (Str.ofString (toString (tn : Int))) = .str j' ∧ i'.length + j'.length ≤ sizeLine ∧ Q2 (.str (i' ++ j')) H2 := fun Q2 q2 p hp => by
        have q := join_signs (z := aZ) (ys := ys.take (1 + b / 3 % 16).toNat) fun y hy => h1 y (List.mem_of_mem_take hy)
        have e : (ys.take (1 + b / 3 % 16).toNat).length = (1 + b / 3 % 16).toNat := by rw [List.length_take]; omega
        have ex : ("x" : Str).length = 1 := by decide +kernel
        refine ⟨"", p, ys.take (1 + b / 3 % 16).toNat, rfl, rfl, SqL.of (by rw [← cut_front V.str ys (1 + b / 3 % 16) (by omega)]; exact upd_same), join_sum (fun y hy => (h1 y (List.mem_of_mem_take hy)).len) (by rw [List.length_take]; omega), ?_⟩
        exact ⟨_, _, rfl, rfl, hsm _ (by rw [q.1, e, ex]; omega), _, _, rfl, rfl, hsm _ (by rw [cat_len, q.1, e, ex]; omega), q2 p hp⟩
      refine ⟨_, rfl, _, _, rfl, rfl, (by show (0 : Int) < 3; decide), _, _, rfl, rfl, _, rfl, ?_⟩
      refine ite2 (fun _ => ?_) (fun _ => ?_)
      · refine iteT ?_
        refine ⟨rfl, _, rfl, _, rfl, _, _, rfl, rfl, ⟨by decide, by decide⟩, _, _, rfl, rfl, (by show (0 : Int) < 16; decide), _, _, rfl, rfl, _, rfl, D, _, rfl, SqL.of hD, fun p hp => ?_⟩
        obtain ⟨sep, p', zs, e1, e2, hS, hz, i, j, e3, e4, hij, i', j', e5, e6, hij', qq⟩ := ret Q done p hp
        exact ⟨sep, p', zs, e1, e2, hS, hz, i, j, e3, e4, hij, _, rfl, _, rfl, hlog, i', j', e5, e6, hij', qq⟩
      · refine ⟨_, rfl, _, _, rfl, rfl, _, rfl, ?_⟩
        refine ite2 (fun _ => ?_) (fun _ => nxt)
        refine ⟨rfl, _, rfl, _, rfl, _, _, rfl, rfl, ⟨by decide, by decide⟩, _, _, rfl, rfl, (by show (0 : Int) < 16; decide), _, _, rfl, rfl, _, rfl, D, _, rfl, SqL.of hD, fun p hp => ?_⟩
        obtain ⟨sep, p', zs, e1, e2, hS, hz, i, j, e3, e4, hij, i', j', e5, e6, hij', qq⟩ := ret Q done p hp
        exact ⟨sep, p', zs, e1, e2, hS, hz, i, j, e3, e4, hij, _, rfl, _, rfl, hlog, i', j', e5, e6, hij', qq⟩
    refine ⟨_, (pss_cons (ps_set (i := 2) sc_l_word.nd rfl (Or.inr rfl) pe_str)
        (pss_cons (ps_setComp (sc := defScope sl_word) (N := n_l_word) (i := 3) (fr := [(2, "_law_some"), (0, "_law_base")]) ⟨rfl, rfl, by decide +kernel, by decide +kernel, by decide +kernel, by decide +kernel, by decide +kernel⟩ rfl rfl rfl sc_l_word.nd rfl rfl (pi_range1 rfl T.b_range (pa_cons pe_int pa_nil)) (fun _ _ _ _ => pts_nil) (fun _ _ _ _ => (pe_ix ix_str (pv 1) (pe_op op_mod (pe_op op_add (pe_op op_add (pe_op op_fdiv (pv 2) pe_int) (pe_op op_mul pe_int (pv 0))) (pe_op op_mul (pe_op op_fdiv (pv 2) pe_int) (pv 0))) pe_int) (fun _ _ => rfl))))
        (pss_cons (ps_if (pw_and (pt_cmpR op_eq (pe_op op_mod (pv 0) pe_int) pe_int (nomark _)) (pw_and1 (pt_cmpR op_lt (pv 1) pe_int (nomark _)))).pt (pss_one (ps_ret (pe_bm PySem.F.plainAttrs_str PySem.F.slot_str_join PySem.F.type_str_join mt_join pe_str (pa_cons (pe_slice sl_list (pv 3) po_none (po_some (pe_op op_add pe_int (pv 1)))) pa_nil)))) pss_nil)
        h3))), ?_⟩
    refine ⟨20, rfl, by decide, by decide, comp_range (n := (20 : Int).toNat) (fun i => V.str ⟨#[(atI aZ.cps.toList ((b / 64 + 7 * (0 + (i : Int)) + b / 99991 * (0 + (i : Int))) % 36)).getD 0]⟩) (by decide) ?_ ?_⟩
    · intro i H3 Q' hi s3 q3
      have hi' : i < 20 := hi
      obtain ⟨c, hc, _⟩ := mod36 (b / 64 + 7 * (0 + (i : Int)) + b / 99991 * (0 + (i : Int)))
      rw [hc] at q3
      exact ⟨_, rfl, _, rfl, _, _, rfl, rfl, ⟨by decide, by decide⟩, _, rfl, _, _, rfl, rfl, .inl ⟨by decide, by decide⟩, _, _, rfl, rfl, _, rfl, _, _, rfl, rfl, ⟨by decide, by decide⟩, _, rfl, _, _, rfl, rfl, .inl ⟨by omega, by omega⟩, _, _, rfl, rfl, _, _, rfl, rfl, (by show (0 : Int) < 36; decide),
        aZ, _, c, rfl, rfl, aZ_small, hc, q3⟩
    · intro D hDn
      generalize hys : (List.range (20 : Int).toNat).map (fun i : Nat => (⟨#[(atI aZ.cps.toList ((b / 64 + 7 * (0 + (i : Int)) + b / 99991 * (0 + (i : Int))) % 36)).getD 0]⟩ : Str)) = ys
      have hm : ((List.range (20 : Int).toNat).map fun (i : Nat) => V.str ⟨#[(atI aZ.cps.toList ((b / 64 + 7 * (0 + (i : Int)) + b / 99991 * (0 + (i : Int))) % 36)).getD 0]⟩) = ys.map V.str := by rw [← hys, List.map_map]; rfl
      have hyl : ys.length = 20 := by rw [← hys, List.length_map, List.length_range]; rfl
      have h1 : ∀ y ∈ ys, Sign1 aZ y := fun y hy => by
        rw [← hys] at hy
        obtain ⟨i, _, rfl⟩ := List.mem_map.mp hy
        obtain ⟨c, hc, hcm⟩ := mod36 (b / 64 + 7 * (0 + (i : Int)) + b / 99991 * (0 + (i : Int)))
        exact ⟨c, hcm, by rw [hc]; rfl⟩
      rw [hm]
      generalize hH : upd H D (.lst (ys.map V.str)) = H1
      have hD : H1 D = some (.lst (ys.map V.str)) := by rw [← hH]; exact upd_same
      have s1 : Same H H1 := by rw [← hH]; exact Same.upd_new hDn
      refine ⟨_, rfl, _, _, rfl, rfl, (by show (0 : Int) < 3; decide), rfl, _, rfl, ?_⟩
      refine ite2 (fun _ => ?_) (fun _ => iteF (sp3 H1 D ys s1 hDn hD h1 hyl))
      refine ⟨_, rfl, _, _, rfl, rfl, _, rfl, ?_⟩
      refine ite2 (fun hlt => ?_) (fun _ => sp3 H1 D ys s1 hDn hD h1 hyl)
      have hlt' : t < 20 := of_decide_eq_true hlt
      refine ⟨rfl, _, rfl, _, rfl, _, _, rfl, rfl, _, rfl, D, _, rfl, SqL.of hD, fun p hp => ?_⟩
      refine ⟨"", p, ys.take (1 + t).toNat, rfl, rfl, SqL.of (by rw [← cut_front V.str ys (1 + t) (by omega)]; exact upd_same), join_sum (fun y hy => (h1 y (List.mem_of_mem_take hy)).len) (by rw [List.length_take]; omega), ?_⟩
      exact fin ys (1 + t).toNat _ h1 hyl (by omega) (by omega) (s1.upd_of (s1.free hp))
theorem asc_of {x : Str} (h : (x.cps.toList.all fun c => decide (c < 128)) = true) : Asc x := fun c hc => of_decide_eq_true (List.all_eq_true.mp h c hc)
theorem slice_asc {x : Str} (h : Asc x) (l u : Option Int) : Asc (PySem.Txt.slice x l u) := fun c hc => h c (slice_mem hc)
inductive spSigns_I (vs : List V) (H : Hp) (Q : VK) : Prop
  | mk : ∀ (b : Int) (n : Nat), vs = [.int b, .int n] → 0 ≤ b → b < 2147483647 → n ≤ 400 → (∀ x : Str, Prt x → x.length = n → Q (.str x) H) → spSigns_I vs H Q
def spSigns : Sp := fun vs H Q _ => spSigns_I vs H Q
abbrev mixS : Str := "abcdeABCD012"
abbrev allS : Str := (" !\"#$&'()*+,-./0123456789:;<=>?@ABCDEFGHIJKLMNOPQRSTUVWXYZ[\\]^_`" : Str) ++ ("abcdefghijklmnopqrstuvwxyz{|}~" : Str)
theorem mix_len : mixS.cps.toList.length = 12 := by decide +kernel
theorem mix_prt : Prt mixS := prt_of (by decide +kernel)
theorem mix_small : mixS.length ≤ sizeLine := by decide +kernel
theorem all_len : allS.cps.toList.length = 94 := by decide +kernel
theorem all_prt : Prt allS := prt_of (by decide +kernel)
theorem all_small : allS.length ≤ sizeLine := by decide +kernel
theorem all_small0 : (" !\"#$&'()*+,-./0123456789:;<=>?@ABCDEFGHIJKLMNOPQRSTUVWXYZ[\\]^_`" : Str).length + ("abcdefghijklmnopqrstuvwxyz{|}~" : Str).length ≤ sizeLine := by decide +kernel
theorem blank_prt : Prt " " := prt_of (by decide +kernel)
theorem blank_len : (" " : Str).length = 1 := by decide +kernel
theorem empty_prt : Prt "" := prt_of (by decide +kernel)
section
variable {P : Program} {w : World} {K : PySem.W.Frag} {mg : Str → Option Value} {base : Heap} {a : Adr}
theorem ok_signs {fd : FuncData} (F : Fun K "_law_signs" "_law_signs" sl_signs a.f_l_signs fd) (T : Txt K mg a) : FnOk P w K mg base CX0 1 a.f_l_signs fd ["_law_number", "_law_many"] spSigns := by
  refine F.ok sc_l_signs (fun vs H Q E h => ?_) (fun cdv A outer s H vs Q E hr h => ?_)
  · obtain ⟨b, n, rfl, _⟩ := h; rfl
  · obtain ⟨b, n, rfl, hb0, hb1, hn, k⟩ := h
    refine ⟨_, (pss_cons (ps_set (i := 2) sc_l_signs.nd rfl (Or.inl rfl) pe_str)
        (pss_cons (ps_set (i := 2) sc_l_signs.nd rfl (Or.inl rfl) (pe_op op_add_str (pv 2) pe_str))
        (pss_cons (ps_set (i := 3) sc_l_signs.nd rfl (Or.inl rfl) pe_str)
        (pss_cons (ps_for PassesOwn.never rfl (pi_range1 rfl T.b_range (pac (pv 1) pa_nil)) (pg_name (i := 4) sc_l_signs.nd rfl (Or.inl rfl)) (pss_cons (ps_set (i := 0) sc_l_signs.nd rfl (Or.inl rfl) (pe_op op_mod (pe_op op_add (pe_op op_mul (pv 0) pe_int) pe_int) pe_int))
        (pss_one (ps_if (pt_cmpR op_eq (pe_op op_mod (pe_op op_fdiv (pv 0) pe_int) pe_int) pe_int (nomark _)) (pss_one (ps_aug (i := 3) sc_l_signs.nd rfl (Or.inl rfl) pe_str iop_add_str)) (pss_one (ps_if (pt_cmpR op_eq (pe_op op_mod (pe_op op_fdiv (pv 0) pe_int) pe_int) pe_int (nomark _)) (pss_one (ps_aug (i := 3) sc_l_signs.nd rfl (Or.inl rfl) (pe_ix ix_str pe_str (pe_op op_mod (pe_op op_fdiv (pv 0) pe_int) pe_int) (fun _ _ => rfl)) iop_add_str)) (pss_one (ps_aug (i := 3) sc_l_signs.nd rfl (Or.inl rfl) (pe_ix ix_str (pv 2) (pe_op op_mod (pe_op op_fdiv (pv 0) pe_int) pe_int) (fun _ _ => rfl)) iop_add_str))))))))
        (pss_one (ps_ret (pv 3))))))), ?_⟩
    refine ⟨_, rfl, _, _, rfl, rfl, all_small0, ?_⟩
    refine ⟨_, rfl, (n : Int), rfl, by omega, by omega, for_range (n := (n : Int).toNat) (fun i σ H2 => ∃ (z : Int) (y : Str) (o : Option V), σ = [some (.int z), some (.int n), some (.str allS), some (.str y), o] ∧ 0 ≤ z ∧ z < 2147483647 ∧ Prt y ∧ y.length = i ∧ H2 = H)
      ⟨b, "", none, rfl, hb0, hb1, empty_prt, empty_len, rfl⟩ ?_ ?_⟩
    · rintro i σ H2 hi ⟨z, y, o, rfl, h0, h1, hA, hl, rfl⟩
      have hin : i < n := by omega
      refine ⟨_, rfl, _, _, rfl, rfl, .inl ⟨by omega, by omega⟩, _, _, rfl, rfl, _, _, rfl, rfl, (by show (0 : Int) < 2147483647; decide), ?_⟩
      have b0 : 0 ≤ (z * 48271 + 11) % 2147483647 := by exact Int.emod_nonneg _ (by decide)
      have b1 : (z * 48271 + 11) % 2147483647 < 2147483647 := by exact Int.emod_lt_of_pos _ (by decide)
      have step : ∀ t : Str, Prt t → t.length = 1 → ∃ (z2 : Int) (y1 : Str) (o : Option V), ([some (.int ((z * 48271 + 11) % 2147483647)), some (.int n), some (.str allS), some (.str (y ++ t)), some (.int (0 + (i : Int)))] : St) = [some (.int z2), some (.int n), some (.str allS), some (.str y1), o] ∧ 0 ≤ z2 ∧ z2 < 2147483647 ∧ Prt y1 ∧ y1.length = i + 1 ∧ H2 = H2 := fun t ht hl1 =>
        ⟨((z * 48271 + 11) % 2147483647), y ++ t, _, rfl, b0, b1, hA.app ht, by rw [cat_len, hl, hl1], rfl⟩
      have fit : ∀ t : Str, t.length = 1 → y.length + t.length ≤ sizeLine := fun t ht => Nat.le_of_lt (small1000 (by omega))
      refine ⟨_, rfl, _, _, rfl, rfl, ⟨by decide, by decide⟩, _, _, rfl, rfl, (by show (0 : Int) < 3; decide), rfl, _, rfl, ?_⟩
      refine ite2 (fun _ => ?_) (fun _ => ?_)
      · exact ⟨_, rfl, _, _, rfl, rfl, fit _ blank_len, step _ blank_prt blank_len⟩
      · refine ⟨_, rfl, _, _, rfl, rfl, ⟨by decide, by decide⟩, _, _, rfl, rfl, (by show (0 : Int) < 3; decide), rfl, _, rfl, ?_⟩
        refine ite2 (fun _ => ?_) (fun _ => ?_)
        · obtain ⟨c, hc, hcm⟩ := pick_sign (z := mixS) (i := ((z * 48271 + 11) % 2147483647) / 64 % 12) (Int.emod_nonneg _ (by decide)) (by rw [mix_len]; exact Int.emod_lt_of_pos _ (by decide))
          exact ⟨_, rfl, _, rfl, _, _, rfl, rfl, ⟨by decide, by decide⟩, _, _, rfl, rfl, (by show (0 : Int) < 12; decide), mixS, _, c, rfl, rfl, mix_small, hc, _, _, rfl, rfl, fit _ (one_len c), step _ (mix_prt.one hcm) (one_len c)⟩
        · obtain ⟨c, hc, hcm⟩ := pick_sign (z := allS) (i := ((z * 48271 + 11) % 2147483647) / 64 % 94) (Int.emod_nonneg _ (by decide)) (by rw [all_len]; exact Int.emod_lt_of_pos _ (by decide))
          exact ⟨_, rfl, _, rfl, _, rfl, _, _, rfl, rfl, ⟨by decide, by decide⟩, _, _, rfl, rfl, (by show (0 : Int) < 94; decide), allS, _, c, rfl, rfl, all_small, hc, _, _, rfl, rfl, fit _ (one_len c), step _ (all_prt.one hcm) (one_len c)⟩
    · rintro σ H2 ⟨z, y, o, rfl, h0, h1, hA, hl, rfl⟩
      exact ⟨_, rfl, k y hA (by omega)⟩
end
/-- a word -/
def isW (x : Str) : Bool := decide (1 ≤ (x.length : Int)) && (decide ((x.length : Int) ≤ 20) && x.cps.toList.all fun c => decide (c ∈ aZ.cps.toList))
theorem kitSS {K : PySem.W.Frag} : PySem.W.kitOne K (.type "str") (.type "str") = some true := by unfold PySem.W.kitOne; rw [if_pos (beq_self_eq_true _)]
theorem kitN {K : PySem.W.Frag} : PySem.W.kitOne K (.type "NoneType") (.type "str") = some false := by kernel_rfl
theorem kitI {K : PySem.W.Frag} : PySem.W.kitOne K (.type "int") (.type "str") = some false := by kernel_rfl
theorem kitB {K : PySem.W.Frag} : PySem.W.kitOne K (.type "bool") (.type "str") = some false := by kernel_rfl
theorem kitT {K : PySem.W.Frag} : PySem.W.kitOne K (.type "tuple") (.type "str") = some false := by kernel_rfl
theorem kitL {K : PySem.W.Frag} : PySem.W.kitOne K (.type "list") (.type "str") = some false := by kernel_rfl
theorem kitD {K : PySem.W.Frag} : PySem.W.kitOne K (.type "dict") (.type "str") = some false := by kernel_rfl
inductive spAmong_I (vs : List V) (H : Hp) (Q : VK) : Prop
  | mk : ∀ x y : Str, vs = [.str x, .str y] → x.length ≤ 1000 → (∀ H', Same H H' → Q (.bl (x.cps.toList.all fun c => decide (c ∈ y.cps.toList))) H') → spAmong_I vs H Q
def spAmong : Sp := fun vs H Q _ => spAmong_I vs H Q
def spIsWord (K : PySem.W.Frag) : Sp := fun vs H Q _ => (∃ x : Str, vs = [.str x] ∧ x.length ≤ 1000 ∧ ∀ H', Same H H' → Q (.bl (isW x)) H') ∨
  ∃ v t, vs = [v] ∧ TyOf K H v t ∧ PySem.W.kitOne K t (.type "str") = some false ∧ Q (.bl false) H
section
variable {P : Program} {w : World} {K : PySem.W.Frag} {mg : Str → Option Value} {base : Heap} {a : Adr}
theorem ok_among {fd : FuncData} (F : Fun K "all_among" "all_among" sall_among a.f_all_among fd) (T : Txt K mg a) : FnOk P w K mg base CX0 1 a.f_all_among fd ["text", "signs"] spAmong := by
  refine F.ok sc_all_among (fun vs H Q E h => ?_) (fun cdv A outer s H vs Q E hr h => ?_)
  · obtain ⟨x, y, rfl, _⟩ := h; rfl
  · obtain ⟨x, y, rfl, hx, k⟩ := h
    refine ⟨_, pss_one (ps_ret (pe_callB (call_all rfl) rfl T.b_all PyProof.Rows.boot_all (pac (pe_comp (sc := defScope sall_among) (N := n_all_among) (fr := [(1, "signs")]) ⟨rfl, rfl, by decide +kernel, by decide +kernel, by decide +kernel, by decide +kernel, by decide +kernel⟩ rfl rfl rfl (pi_str (pv 0))
      (fun _ _ _ _ => pts_nil) (fun _ _ _ _ => pe_cmpR op_in_str (pv 0) (pv 1) (by with_unfolding_all rfl))) pa_nil))), ?_⟩
    refine ⟨_, rfl, x, rfl, comp_str (fun c => .bl (decide (c ∈ y.cps.toList))) (Nat.le_of_lt (small1000 hx)) ?_ ?_⟩
    · intro c H3 Q' hc q
      refine ⟨_, rfl, _, rfl, _, _, rfl, rfl, ?_⟩
      rw [StrLaws.found_one]
      exact q
    · intro D hD
      refine ⟨D, x.cps.toList.map fun c => decide (c ∈ y.cps.toList), rfl, SqL.of (by rw [List.map_map]; exact upd_same), ?_⟩
      rw [List.all_map]
      exact k _ (Same.upd_new hD)
theorem ok_isword {fd : FuncData} (F : Fun K "is_word" "is_word" sis_word a.f_is_word fd) (T : Txt K mg a) (FF : Funs K a) : FnOk P w K mg base CX0 2 a.f_is_word fd ["thing"] (spIsWord K) := by
  obtain ⟨fdA, FA, bA⟩ := FF.F_all_among
  have GA : FnOk P w K mg base CX0 1 a.f_all_among fdA ["text", "signs"] spAmong := ok_among FA T
  refine F.ok sc_is_word (fun vs H Q E h => ?_) (fun cdv A outer s H vs Q E hr h => ?_)
  · rcases h with ⟨x, rfl, _⟩ | ⟨v, t, rfl, _⟩ <;> rfl
  · refine ⟨_, pss_one (ps_ret (pe_and (pe_callB call_isinst rfl T.b_isinstance PyProof.Rows.boot_isinstance (pac (pv 0) (pac (pe_bltn (v := .ty "str") rfl T.b_str PyProof.Rows.boot_str rfl) pa_nil)))
      (pe_and (pe_chain op_le op_le pe_int (pe_callB call_len_str rfl T.b_len PySem.boot_len (pac (pv 0) pa_nil)) (pe_gl rfl T.g_MOST_WORD))
      (pe_one (pe_call GA hr rfl T.m_all_among FA.kp bA .nil pass0 (pac (pv 0) (pac (pe_gl rfl T.g_WORD_SIGNS) pa_nil))))))), ?_⟩
    rcases h with ⟨x, rfl, hx, k⟩ | ⟨v, t, rfl, ty, hk, k⟩
    · refine ⟨_, rfl, _, _, _, _, _, rfl, rfl, TyOf.str x, kitSS, _, rfl, iteT ?_⟩
      refine ⟨_, rfl, x, rfl, Nat.le_of_lt (small1000 hx), _, _, rfl, rfl, _, rfl, ?_⟩
      have hdef : isW x = (decide (1 ≤ (x.length : Int)) && (decide ((x.length : Int) ≤ 20) && x.cps.toList.all fun c => decide (c ∈ aZ.cps.toList))) := rfl
      by_cases h1 : (1 : Int) ≤ (x.length : Int)
      · rw [decide_eq_true h1]
        rw [decide_eq_true h1, Bool.true_and] at hdef
        refine iteT ⟨_, _, rfl, rfl, _, rfl, ?_⟩
        by_cases h2 : (x.length : Int) ≤ 20
        · rw [decide_eq_true h2]
          rw [decide_eq_true h2, Bool.true_and] at hdef
          refine iteT ⟨_, rfl, x, aZ, rfl, hx, fun H' s' => ?_⟩
          rw [← hdef]
          exact k H' s'
        · rw [decide_eq_false h2]
          rw [decide_eq_false h2, Bool.false_and] at hdef
          refine iteF ?_
          rw [← hdef]
          exact k H (Same.refl H)
      · rw [decide_eq_false h1]
        rw [decide_eq_false h1, Bool.false_and] at hdef
        refine iteF ⟨_, rfl, iteF ?_⟩
        rw [← hdef]
        exact k H (Same.refl H)
    · exact ⟨_, rfl, _, _, _, _, _, rfl, rfl, ty, hk, _, rfl, iteF k⟩
end
inductive spLaw_I (K : PySem.W.Frag) (vs : List V) (H : Hp) (Q : VK) : Prop
  | mk : ∀ (a : Addr) (ns : List Int), vs = [.ref a] → SqL K H a (ns.map V.int) → ns.length ≤ 63 → (∀ H', Q (.bl true) H') → spLaw_I K vs H Q
def spLaw (K : PySem.W.Frag) : Sp := fun vs H Q _ => spLaw_I K vs H Q
inductive Dt where
  | non
  | bl (b : Bool)
  | int (i : Int)
  | str (s : Str)
  | lst
  | dct
  | tup (xs : List Dt)
mutual
inductive DR (H : Hp) : V → Dt → Prop
  | non : DR H .non .non
  | bl (b : Bool) : DR H (.bl b) (.bl b)
  | int (i : Int) : DR H (.int i) (.int i)
  | str {s : Str} (h1 : s.length ≤ 1000) (h2 : Asc s) : DR H (.str s) (.str s)
  | lst {p : Addr} {xs : List V} (e : H p = some (.lst xs)) : DR H (.ref p) .lst
  | dct {p : Addr} {kvs : List (Key × V)} (e : H p = some (.dK kvs)) : DR H (.ref p) .dct
  | tup {p : Addr} {xs : List V} {ds : List Dt} (e : H p = some (.tup xs)) (r : DRs H xs ds) : DR H (.ref p) (.tup ds)
inductive DRs (H : Hp) : List V → List Dt → Prop
  | nil : DRs H [] []
  | cons {x : V} {d : Dt} {xs : List V} {ds : List Dt} (r : DR H x d) (rs : DRs H xs ds) : DRs H (x :: xs) (d :: ds)
end
mutual
theorem DR.mono {H H' : Hp} (s : Same H H') : ∀ {x : V} {d : Dt}, DR H x d → DR H' x d
  | _, _, .non => .non
  | _, _, .bl b => .bl b
  | _, _, .int i => .int i
  | _, _, .str h1 h2 => .str h1 h2
  | _, _, .lst e => .lst (s _ _ e)
  | _, _, .dct e => .dct (s _ _ e)
  | _, _, .tup e r => .tup (s _ _ e) (DRs.mono s r)
theorem DRs.mono {H H' : Hp} (s : Same H H') : ∀ {xs : List V} {ds : List Dt}, DRs H xs ds → DRs H' xs ds
  | _, _, .nil => .nil
  | _, _, .cons r rs => .cons (DR.mono s r) (DRs.mono s rs)
end
theorem DRs.len {H : Hp} : ∀ {xs : List V} {ds : List Dt}, DRs H xs ds → xs.length = ds.length
  | _, _, .nil => rfl
  | _, _, .cons _ rs => congrArg (· + 1) (DRs.len rs)
theorem DRs.at {H : Hp} : ∀ {xs : List V} {ds : List Dt} (i : Nat) {d : Dt}, DRs H xs ds → ds[i]? = some d → ∃ x, xs[i]? = some x ∧ DR H x d
  | _, _, i, _, .nil, h => by cases i <;> cases h
  | _, _, 0, _, .cons r _, h => by cases h; exact ⟨_, rfl, r⟩
  | _, _, i + 1, _, .cons _ rs, h => DRs.at i rs h
theorem DRs.app {H : Hp} : ∀ {xs ys : List V} {ds es : List Dt}, DRs H xs ds → DRs H ys es → DRs H (xs ++ ys) (ds ++ es)
  | _, _, _, _, .nil, r => r
  | _, _, _, _, .cons q qs, r => .cons q (DRs.app qs r)
theorem DRs.take {H : Hp} : ∀ (n : Nat) {xs : List V} {ds : List Dt}, DRs H xs ds → DRs H (xs.take n) (ds.take n)
  | 0, _, _, _ => by simpa using DRs.nil
  | _ + 1, _, _, .nil => .nil
  | n + 1, _, _, .cons r rs => .cons r (DRs.take n rs)
theorem DRs.drop {H : Hp} : ∀ (n : Nat) {xs : List V} {ds : List Dt}, DRs H xs ds → DRs H (xs.drop n) (ds.drop n)
  | 0, _, _, r => r
  | _ + 1, _, _, .nil => .nil
  | n + 1, _, _, .cons _ rs => DRs.drop n rs
def tyD : Dt → Value
  | .non => .type "NoneType"
  | .bl _ => .type "bool"
  | .int _ => .type "int"
  | .str _ => .type "str"
  | .lst => .type "list"
  | .dct => .type "dict"
  | .tup _ => .type "tuple"
theorem DR.ty {K : PySem.W.Frag} {H : Hp} {v : V} {d : Dt} (r : DR H v d) : TyOf K H v (tyD d) := by
  cases r with
  | non => exact .non
  | bl b => exact .bl b
  | int i => exact .int i
  | str h1 h2 => exact .str _
  | lst e => exact .lst e
  | dct e => exact .dK e
  | tup e _ => exact .tup e
def isS : Dt → Bool | .str _ => true | _ => false
def isT : Dt → Bool | .tup _ => true | _ => false
def isI : Dt → Bool | .int _ => true | .bl _ => true | _ => false
def isB : Dt → Bool | .bl _ => true | _ => false
theorem kit_S {K : PySem.W.Frag} (d : Dt) : PySem.W.kitOne K (tyD d) (.type "str") = some (isS d) := by cases d <;> kernel_rfl
theorem kit_T {K : PySem.W.Frag} (d : Dt) : PySem.W.kitOne K (tyD d) (.type "tuple") = some (isT d) := by cases d <;> kernel_rfl
theorem kit_I {K : PySem.W.Frag} (d : Dt) : PySem.W.kitOne K (tyD d) (.type "int") = some (isI d) := by cases d <;> kernel_rfl
theorem kit_B {K : PySem.W.Frag} (d : Dt) : PySem.W.kitOne K (tyD d) (.type "bool") = some (isB d) := by cases d <;> kernel_rfl
def wordD : Dt → Bool | .str x => isW x | _ => false
def textD (m : Int) : Dt → Bool | .str x => decide ((x.length : Int) ≤ m) | _ => false
def wholeD : Dt → Bool | .int _ => true | _ => false
def answD : Dt → Bool | .str x => isW x || decide (x = "") | _ => false
def lineD : Dt → Bool | .str x => !decide (10 ∈ x.cps.toList) | _ => false
def dayD : Dt → Bool | .int i => decide (0 ≤ i) && decide (i ≤ 9999) | _ => false
def hS : Str := "abcdefghijklmnopqrstuvwxyz"
def checkD (s t b dy an : Dt) : Bool := wordD s && (textD 60 t && (lineD t && (textD 400 b && (dayD dy && answD an))))
def partsD : Dt → Bool | .tup [s, t, b, dy, an] => checkD s t b dy an | _ => false
theorem isword_call {K : PySem.W.Frag} {H : Hp} {v : V} {d : Dt} {Q : VK} {E : XK} (r : DR H v d) (k : ∀ H', Same H H' → Q (.bl (wordD d)) H') : spIsWord K [v] H Q E := by
  cases r with
  | str h1 h2 => exact .inl ⟨_, rfl, h1, k⟩
  | non => exact .inr ⟨_, _, rfl, .non, kitN, k H (Same.refl H)⟩
  | bl b => exact .inr ⟨_, _, rfl, .bl b, kitB, k H (Same.refl H)⟩
  | int i => exact .inr ⟨_, _, rfl, .int i, kitI, k H (Same.refl H)⟩
  | lst e => exact .inr ⟨_, _, rfl, .lst e, kitL, k H (Same.refl H)⟩
  | dct e => exact .inr ⟨_, _, rfl, .dK e, kitD, k H (Same.refl H)⟩
  | tup e _ => exact .inr ⟨_, _, rfl, .tup e, kitT, k H (Same.refl H)⟩
inductive spTextD_I (vs : List V) (H : Hp) (Q : VK) : Prop
  | mk : ∀ (v : V) (d : Dt) (m : Int), vs = [v, .int m] → DR H v d → Q (.bl (textD m d)) H → spTextD_I vs H Q
def spTextD : Sp := fun vs H Q _ => spTextD_I vs H Q
inductive spWholeD_I (vs : List V) (H : Hp) (Q : VK) : Prop
  | mk : ∀ (v : V) (d : Dt), vs = [v] → DR H v d → Q (.bl (wholeD d)) H → spWholeD_I vs H Q
def spWholeD : Sp := fun vs H Q _ => spWholeD_I vs H Q
inductive spAnswD_I (vs : List V) (H : Hp) (Q : VK) : Prop
  | mk : ∀ (v : V) (d : Dt), vs = [v] → DR H v d → (∀ H', Same H H' → Q (.bl (answD d)) H') → spAnswD_I vs H Q
def spAnswD : Sp := fun vs H Q _ => spAnswD_I vs H Q
section
variable {P : Program} {w : World} {K : PySem.W.Frag} {mg : Str → Option Value} {base : Heap} {a : Adr}
theorem ok_textD {fd : FuncData} (F : Fun K "is_text" "is_text" sis_text a.f_is_text fd) (T : Txt K mg a) : FnOk P w K mg base CX0 1 a.f_is_text fd ["thing", "most"] spTextD := by
  refine F.ok sc_is_text (fun vs H Q E h => ?_) (fun cdv A outer s H vs Q E hr h => ?_)
  · obtain ⟨v, d, m, rfl, _⟩ := h; rfl
  · obtain ⟨v, d, m, rfl, r, k⟩ := h
    refine ⟨_, (pss_one (ps_ret (pe_and (pe_callB call_isinst rfl T.b_isinstance PyProof.Rows.boot_isinstance (pac (pv 0) (pac (pe_bltn (v := .ty "str") rfl T.b_str PyProof.Rows.boot_str rfl) pa_nil))) (pe_one (pe_cmpR op_le (pe_callB call_len_str rfl T.b_len PySem.boot_len (pac (pv 0) pa_nil)) (pv 1) (nomark _)))))), ?_⟩
    refine ⟨_, rfl, _, _, _, _, _, rfl, rfl, r.ty, kit_S d, _, rfl, ?_⟩
    cases r with
    | str h1 h2 => exact iteT ⟨_, rfl, _, rfl, Nat.le_of_lt (small1000 h1), _, rfl, _, _, rfl, rfl, k⟩
    | _ => exact iteF k
theorem ok_wholeD {fd : FuncData} (F : Fun K "is_whole" "is_whole" sis_whole a.f_is_whole fd) (T : Txt K mg a) : FnOk P w K mg base CX0 1 a.f_is_whole fd ["thing"] spWholeD := by
  refine F.ok sc_is_whole (fun vs H Q E h => ?_) (fun cdv A outer s H vs Q E hr h => ?_)
  · obtain ⟨v, d, rfl, _⟩ := h; rfl
  · obtain ⟨v, d, rfl, r, k⟩ := h
    refine ⟨_, (pss_one (ps_ret (pe_and (pe_callB call_isinst rfl T.b_isinstance PyProof.Rows.boot_isinstance (pac (pv 0) (pac (pe_bltn (v := .ty "int") rfl T.b_int PyProof.Rows.boot_int rfl) pa_nil))) (pe_one (pe_not (pe_callB call_isinst rfl T.b_isinstance PyProof.Rows.boot_isinstance (pac (pv 0) (pac (pe_bltn (v := .ty "bool") rfl T.b_bool PyProof.Rows.boot_bool rfl) pa_nil)))))))), ?_⟩
    refine ⟨_, rfl, _, _, _, _, _, rfl, rfl, r.ty, kit_I d, _, rfl, ?_⟩
    have tb := r.ty (K := K)
    cases r with
    | int i => exact iteT ⟨_, rfl, _, _, _, _, _, rfl, rfl, tb, kit_B (.int i), _, rfl, k⟩
    | bl b => exact iteT ⟨_, rfl, _, _, _, _, _, rfl, rfl, tb, kit_B (.bl b), _, rfl, k⟩
    | _ => exact iteF k
theorem ok_answD {fd : FuncData} (F : Fun K "is_answered" "is_answered" sis_answered a.f_is_answered fd) (T : Txt K mg a) (FF : Funs K a) : FnOk P w K mg base CX0 3 a.f_is_answered fd ["thing"] spAnswD := by
  obtain ⟨fdA, F_is_word, b_is_word⟩ := FF.F_is_word
  have G_is_word : FnOk P w K mg base CX0 2 a.f_is_word fdA ["thing"] (spIsWord K) := ok_isword F_is_word T FF
  refine F.ok sc_is_answered (fun vs H Q E h => ?_) (fun cdv A outer s H vs Q E hr h => ?_)
  · obtain ⟨v, d, rfl, _⟩ := h; rfl
  · obtain ⟨v, d, rfl, r, k⟩ := h
    have hr_is_word : Room 2 _ := hr
    refine ⟨_, (pss_one (ps_ret (pe_or (pe_call G_is_word hr_is_word rfl T.m_is_word F_is_word.kp b_is_word .nil pass0 (pac (pv 0) pa_nil)) (pe_one (pe_and (pe_callB call_isinst rfl T.b_isinstance PyProof.Rows.boot_isinstance (pac (pv 0) (pac (pe_bltn (v := .ty "str") rfl T.b_str PyProof.Rows.boot_str rfl) pa_nil))) (pe_one (pe_cmpR op_eq (pv 0) pe_str (nomark _)))))))), ?_⟩
    refine ⟨_, rfl, isword_call (E := E) r fun H1 s1 => ⟨_, rfl, ?_⟩⟩
    have r1 := r.mono s1
    cases hw : wordD d with
    | true =>
      refine iteT ?_
      have : answD d = true := by
        cases r with
        | @str x h1 h2 => show (isW x || decide (x = "")) = true; rw [show isW x = true from hw]; rfl
        | _ => cases hw
      rw [← this]; exact k H1 s1
    | false =>
      refine iteF ⟨_, rfl, _, _, _, _, _, rfl, rfl, r1.ty, kit_S d, _, rfl, ?_⟩
      cases r with
      | @str x h1 h2 =>
        refine iteT ⟨_, rfl, rfl, ?_⟩
        have e : answD (.str x) = (isW x || decide (x = "")) := rfl
        rw [show isW x = false from hw, Bool.false_or] at e
        have e2 : decide (V.str x = V.str "") = decide (x = "") := by
          by_cases h : x = ""
          · rw [h, decide_eq_true rfl, decide_eq_true rfl]
          · rw [decide_eq_false h, decide_eq_false fun z => h (V.str.inj z)]
        rw [e2, ← e]
        exact k H1 s1
      | _ => exact iteF (k H1 s1)
end
inductive spCheckD_I (a : Adr) (vs : List V) (H : Hp) (Q : VK) (E : XK) : Prop
  | mk : ∀ (v1 v2 v3 v4 v5 : V) (d1 d2 d3 d4 d5 : Dt), vs = [v1, v2, v3, v4, v5] → DR H v1 d1 → DR H v2 d2 → DR H v3 d3 → DR H v4 d4 → DR H v5 d5 → (checkD d1 d2 d3 d4 d5 = true → ∀ H', Same H H' → Q .non H') → (checkD d1 d2 d3 d4 d5 = false → ∀ H', Same H H' → E (.ref a.C_NoLetter) none H') → spCheckD_I a vs H Q E
def spCheckD (a : Adr) : Sp := fun vs H Q E => spCheckD_I a vs H Q E
abbrev lfv (v1 v2 v3 v4 v5 : V) : List (Str × V) := [("sender", v1), ("title", v2), ("body", v3), ("day", v4), ("answers", v5), ("found", .non)]
inductive spInitD_I (a : Adr) (vs : List V) (H : Hp) (Q : VK) (E : XK) : Prop
  | mk : ∀ (x dx : Addr) (v1 v2 v3 v4 v5 : V) (d1 d2 d3 d4 d5 : Dt), vs = [.ref x, v1, v2, v3, v4, v5] → H x = some (.ins a.C_Letter dx []) → DR H v1 d1 → DR H v2 d2 → DR H v3 d3 → DR H v4 d4 → DR H v5 d5 → (checkD d1 d2 d3 d4 d5 = true → ∀ H', (∀ c o, c ≠ x → H c = some o → H' c = some o) → H' x = some (.ins a.C_Letter dx (lfv v1 v2 v3 v4 v5)) → Q .non H') → (checkD d1 d2 d3 d4 d5 = false → ∀ H', Same H H' → E (.ref a.C_NoLetter) none H') → spInitD_I a vs H Q E
def spInitD (a : Adr) : Sp := fun vs H Q E => spInitD_I a vs H Q E
inductive spLetD_I (a : Adr) (vs : List V) (H : Hp) (Q : VK) (E : XK) : Prop
  | mk : ∀ (v : V) (d : Dt), vs = [v] → DR H v d → (partsD d = true → ∀ (p x dx : Addr) (v1 v2 v3 v4 v5 : V) H', v = .ref p → H p = some (.tup [v1, v2, v3, v4, v5]) → Same H H' → H' x = some (.ins a.C_Letter dx (lfv v1 v2 v3 v4 v5)) → Q (.ref x) H') → (partsD d = false → ∀ H', Same H H' → E (.ref a.C_NoLetter) none H') → spLetD_I a vs H Q E
def spLetD (a : Adr) : Sp := fun vs H Q E => spLetD_I a vs H Q E
theorem nl_one : ("\n" : Str) = ⟨#[10]⟩ := by decide +kernel
section
variable {P : Program} {w : World} {K : PySem.W.Frag} {mg : Str → Option Value} {base : Heap} {a : Adr}
theorem ok_checkD {fd : FuncData} (F : Fun K "check_parts" "check_parts" scheck_parts a.f_check_parts fd) (T : Txt K mg a) (FF : Funs K a) : FnOk P w K mg base (CXF P w) 4 a.f_check_parts fd ["sender", "title", "body", "day", "answers"] (spCheckD a) := by
  obtain ⟨fdA, F_is_word, b_is_word⟩ := FF.F_is_word
  have G_is_word : FnOk P w K mg base CX0 2 a.f_is_word fdA ["thing"] (spIsWord K) := ok_isword F_is_word T FF
  obtain ⟨fdB, F_is_text, b_is_text⟩ := FF.F_is_text
  have G_is_text : FnOk P w K mg base CX0 1 a.f_is_text fdB ["thing", "most"] spTextD := ok_textD F_is_text T
  obtain ⟨fdC, F_is_whole, b_is_whole⟩ := FF.F_is_whole
  have G_is_whole : FnOk P w K mg base CX0 1 a.f_is_whole fdC ["thing"] spWholeD := ok_wholeD F_is_whole T
  obtain ⟨fdD, F_is_answered, b_is_answered⟩ := FF.F_is_answered
  have G_is_answered : FnOk P w K mg base CX0 3 a.f_is_answered fdD ["thing"] spAnswD := ok_answD F_is_answered T FF
  refine F.okX sc_check_parts (fun vs H Q E h => ?_) (fun cdv A outer s H vs Q E hr h => ?_)
  · obtain ⟨v1, v2, v3, v4, v5, d1, d2, d3, d4, d5, rfl, _⟩ := h; rfl
  · obtain ⟨v1, v2, v3, v4, v5, d1, d2, d3, d4, d5, rfl, r1, r2, r3, r4, r5, kg, kb⟩ := h
    have hr_is_word : Room 2 _ := hr.mono (by decide)
    have hr_is_text : Room 1 _ := hr.mono (by decide)
    have hr_is_whole : Room 1 _ := hr.mono (by decide)
    have hr_is_answered : Room 3 _ := hr
    refine ⟨_, (pss_cons (ps_if (pt_not (pt_val (pe_call G_is_word hr_is_word rfl T.m_is_word F_is_word.kp b_is_word .nil pass0 (pac (pv 0) pa_nil)))) (pss_one (ps_raise T.x_NoLetter T.mx_NoLetter hr.hd rfl (pac pe_str pa_nil))) pss_nil)
        (pss_cons (ps_if (PW.pt (pw_or (pt_not (pt_val (pe_call G_is_text hr_is_text rfl T.m_is_text F_is_text.kp b_is_text .nil pass0 (pac (pv 1) (pac (pe_gl rfl T.g_MOST_TITLE) pa_nil))))) (pw_or1 (pt_cmpR op_in_str pe_str (pv 1) (by with_unfolding_all rfl))))) (pss_one (ps_raise T.x_NoLetter T.mx_NoLetter hr.hd rfl (pac pe_str pa_nil))) pss_nil)
        (pss_cons (ps_if (pt_not (pt_val (pe_call G_is_text hr_is_text rfl T.m_is_text F_is_text.kp b_is_text .nil pass0 (pac (pv 2) (pac (pe_gl rfl T.g_MOST_BODY) pa_nil))))) (pss_one (ps_raise T.x_NoLetter T.mx_NoLetter hr.hd rfl (pac pe_str pa_nil))) pss_nil)
        (pss_cons (ps_if (PW.pt (pw_or (pt_not (pt_val (pe_call G_is_whole hr_is_whole rfl T.m_is_whole F_is_whole.kp b_is_whole .nil pass0 (pac (pv 3) pa_nil)))) (pw_or1 (pt_not (pt_chain op_le op_le pe_int (pv 3) (pe_gl rfl T.g_LAST_DAY)))))) (pss_one (ps_raise T.x_NoLetter T.mx_NoLetter hr.hd rfl (pac pe_str pa_nil))) pss_nil)
        (pss_one (ps_if (pt_not (pt_val (pe_call G_is_answered hr_is_answered rfl T.m_is_answered F_is_answered.kp b_is_answered .nil pass0 (pac (pv 4) pa_nil)))) (pss_one (ps_raise T.x_NoLetter T.mx_NoLetter hr.hd rfl (pac pe_str pa_nil))) pss_nil)))))), ?_⟩
    refine ⟨_, rfl, isword_call (E := E) r1 fun H1 s1 => ⟨_, rfl, ?_⟩⟩
    cases hw : wordD d1 with
    | false => exact iteT ⟨by show 1 ≤ sizeLine; decide, kb (by unfold checkD; rw [hw]; rfl) _ s1⟩
    | true =>
      refine iteF ⟨_, rfl, v2, d2, 60, rfl, r2.mono s1, _, rfl, ?_⟩
      cases ht : textD 60 d2 with
      | false => exact iteT (iteT ⟨by show 1 ≤ sizeLine; decide, kb (by unfold checkD; rw [hw, ht]; rfl) _ s1⟩)
      | true =>
        cases r2 with
        | @str t h1 h2 =>
          refine iteF ⟨_, rfl, _, _, rfl, rfl, _, rfl, ?_⟩
          rw [nl_one, StrLaws.found_one]
          by_cases hn : 10 ∈ t.cps.toList
          · rw [decide_eq_true hn]
            exact iteT ⟨by show 1 ≤ sizeLine; decide, kb (by unfold checkD; rw [hw, ht, show lineD (.str t) = false by show (!decide (10 ∈ t.cps.toList)) = _; rw [decide_eq_true hn]; rfl]; rfl) _ s1⟩
          · rw [decide_eq_false hn]
            have hl : lineD (.str t) = true := by show (!decide (10 ∈ t.cps.toList)) = _; rw [decide_eq_false hn]; rfl
            refine iteF ⟨_, rfl, v3, d3, 400, rfl, r3.mono s1, _, rfl, ?_⟩
            cases hb : textD 400 d3 with
            | false => exact iteT ⟨by show 1 ≤ sizeLine; decide, kb (by unfold checkD; rw [hw, ht, hl, hb]; rfl) _ s1⟩
            | true =>
              refine iteF ⟨_, rfl, v4, d4, rfl, r4.mono s1, _, rfl, ?_⟩
              cases r4 with
              | int i =>
                refine iteF ⟨_, rfl, _, _, rfl, rfl, _, rfl, ?_⟩
                have fin : dayD (.int i) = true → ∃ v, (L2.start n_check_parts [v1, .str t, v3, .int i, v5])[4]? = some (some v) ∧ DR H1 v d5 := fun _ => ⟨v5, rfl, r5.mono s1⟩
                by_cases h0 : 0 ≤ i
                · rw [decide_eq_true h0]
                  refine iteT ⟨_, _, rfl, rfl, _, rfl, ?_⟩
                  by_cases h9 : i ≤ 9999
                  · rw [decide_eq_true h9]
                    have hd : dayD (.int i) = true := by show (decide (0 ≤ i) && decide (i ≤ 9999)) = _; rw [decide_eq_true h0, decide_eq_true h9]; rfl
                    refine iteF ⟨_, rfl, v5, d5, rfl, r5.mono s1, fun H2 s2 => ⟨_, rfl, ?_⟩⟩
                    cases ha : answD d5 with
                    | false => exact iteT ⟨by show 1 ≤ sizeLine; decide, kb (by unfold checkD; rw [hw, ht, hl, hb, hd, ha]; rfl) _ (s1.trans s2)⟩
                    | true => exact iteF (kg (by unfold checkD; rw [hw, ht, hl, hb, hd, ha]; rfl) _ (s1.trans s2))
                  · rw [decide_eq_false h9]
                    exact iteT ⟨by show 1 ≤ sizeLine; decide, kb (by unfold checkD; rw [hw, ht, hl, hb, show dayD (.int i) = false by show (decide (0 ≤ i) && decide (i ≤ 9999)) = _; rw [decide_eq_false h9, Bool.and_false]]; rfl) _ s1⟩
                · rw [decide_eq_false h0]
                  exact iteF ⟨_, rfl, iteT ⟨by show 1 ≤ sizeLine; decide, kb (by unfold checkD; rw [hw, ht, hl, hb, show dayD (.int i) = false by show (decide (0 ≤ i) && decide (i ≤ 9999)) = _; rw [decide_eq_false h0]; rfl]; rfl) _ s1⟩⟩
              | _ => exact iteT (iteT ⟨by show 1 ≤ sizeLine; decide, kb (by unfold checkD; rw [hw, ht, hl, hb]; rfl) _ s1⟩)
        | _ => cases ht
end
section
variable {P : Program} {w : World} {K : PySem.W.Frag} {mg : Str → Option Value} {base : Heap} {a : Adr}
theorem ok_initD {fd : FuncData} (F : FunD K "__init__" "Letter.__init__" sLetter_init a.f_Letter_init fd) (T : Txt K mg a) (FF : Funs K a) : FnOk P w K mg base (CXF P w) 5 a.f_Letter_init fd ["self", "sender", "title", "body", "day", "answers"] (spInitD a) := by
  obtain ⟨fdA, F_check_parts, b_check_parts⟩ := FF.F_check_parts
  have G_check_parts : FnOk P w K mg base (CXF P w) 4 a.f_check_parts fdA ["sender", "title", "body", "day", "answers"] (spCheckD a) := ok_checkD F_check_parts T FF
  refine F.okX sc_Letter_init (fun vs H Q E h => ?_) (fun cdv A outer s H vs Q E hr h => ?_)
  · obtain ⟨x, dx, v1, v2, v3, v4, v5, d1, d2, d3, d4, d5, rfl, _⟩ := h; rfl
  · obtain ⟨x, dx, v1, v2, v3, v4, v5, d1, d2, d3, d4, d5, rfl, hx, r1, r2, r3, r4, r5, kg, kb⟩ := h
    have hr_check_parts : Room 4 _ := hr
    refine ⟨_, (pss_cons (ps_expr (pe_callX (R := fun _ => E) G_check_parts hr_check_parts rfl T.m_check_parts F_check_parts.kp b_check_parts .nil passF (pac (pv 1) (pac (pv 2) (pac (pv 3) (pac (pv 4) (pac (pv 5) pa_nil)))))))
        (pss_cons (ps_fld (pv 0) (pv 1) rfl)
        (pss_cons (ps_fld (pv 0) (pv 2) rfl)
        (pss_cons (ps_fld (pv 0) (pv 3) rfl)
        (pss_cons (ps_fld (pv 0) (pv 4) rfl)
        (pss_cons (ps_fld (pv 0) (pv 5) rfl)
        (pss_one (ps_fld (pv 0) pe_non rfl)))))))), ?_⟩
    refine ⟨_, rfl, _, rfl, _, rfl, _, rfl, _, rfl, v1, v2, v3, v4, v5, d1, d2, d3, d4, d5, rfl, r1, r2, r3, r4, r5, fun hg H1 s1 => ?_, kb⟩
    refine ⟨_, rfl, _, rfl, x, _, dx, _, rfl, s1 _ _ hx, T.c_Letter, T.n_Letter_sender, by decide, ?_⟩
    refine ⟨_, rfl, _, rfl, x, _, dx, _, rfl, upd_same, T.c_Letter, T.n_Letter_title, (by show 1 < 1000; decide), ?_⟩
    refine ⟨_, rfl, _, rfl, x, _, dx, _, rfl, upd_same, T.c_Letter, T.n_Letter_body, (by show 2 < 1000; decide), ?_⟩
    refine ⟨_, rfl, _, rfl, x, _, dx, _, rfl, upd_same, T.c_Letter, T.n_Letter_day, (by show 3 < 1000; decide), ?_⟩
    refine ⟨_, rfl, _, rfl, x, _, dx, _, rfl, upd_same, T.c_Letter, T.n_Letter_answers, (by show 4 < 1000; decide), ?_⟩
    refine ⟨_, rfl, x, _, dx, _, rfl, upd_same, T.c_Letter, T.n_Letter_found, (by show 5 < 1000; decide), ?_⟩
    refine kg hg _ (fun c o ne e => ?_) upd_same
    rw [upd_ne ne, upd_ne ne, upd_ne ne, upd_ne ne, upd_ne ne, upd_ne ne]
    exact s1 _ _ e
theorem ok_letD {fd : FuncData} (F : Fun K "letter_of" "letter_of" sletter_of a.f_letter_of fd) (T : Txt K mg a) (FF : Funs K a) : FnOk P w K mg base (CXF P w) 7 a.f_letter_of fd ["thing"] (spLetD a) := by
  obtain ⟨fdI, F_Letter_init, b_Letter_init, _⟩ := FF.F_Letter_init
  have G_Letter_init : FnOk P w K mg base (CXF P w) 5 a.f_Letter_init fdI ["self", "sender", "title", "body", "day", "answers"] (spInitD a) := ok_initD F_Letter_init T FF
  refine F.okX sc_letter_of (fun vs H Q E h => ?_) (fun cdv A outer s H vs Q E hr h => ?_)
  · obtain ⟨v, d, rfl, _⟩ := h; rfl
  · obtain ⟨v, d, rfl, r, kg, kb⟩ := h
    have hr_Letter_mk : Room 6 _ := hr
    refine ⟨_, (pss_cons (ps_if (PW.pt (pw_or (pt_not (pt_val (pe_callB call_isinst rfl T.b_isinstance PyProof.Rows.boot_isinstance (pac (pv 0) (pac (pe_bltn (v := .ty "tuple") rfl T.b_tuple PyProof.Rows.boot_tuple rfl) pa_nil))))) (pw_or1 (pt_cmpR op_ne (pe_callB call_len_seq rfl T.b_len PySem.boot_len (pac (pv 0) pa_nil)) pe_int (nomark _))))) (pss_one (ps_raise T.x_NoLetter T.mx_NoLetter hr.hd rfl (pac pe_str pa_nil))) pss_nil)
        (pss_one (ps_ret (pe_makeX (R := fun _ => E) T.k_Letter G_Letter_init hr_Letter_mk rfl T.mc_Letter b_Letter_init .nil passF (pac (pe_ix ix_tup (pv 0) pe_int (fun _ _ => rfl)) (pac (pe_ix ix_tup (pv 0) pe_int (fun _ _ => rfl)) (pac (pe_ix ix_tup (pv 0) pe_int (fun _ _ => rfl)) (pac (pe_ix ix_tup (pv 0) pe_int (fun _ _ => rfl)) (pac (pe_ix ix_tup (pv 0) pe_int (fun _ _ => rfl)) pa_nil))))))))), ?_⟩
    refine ⟨_, rfl, _, _, _, _, _, rfl, rfl, r.ty, kit_T d, _, rfl, ?_⟩
    cases r with
    | @tup p xs ds e rs =>
      refine iteF ⟨_, rfl, p, _, rfl, .inr (SqT.of e), rfl, _, rfl, ?_⟩
      have hl := rs.len
      by_cases h5 : ds.length = 5
      · rw [show (!decide (V.int ((xs.length : Nat) : Int) = V.int 5)) = false by rw [hl, h5]; rfl]
        refine iteF ?_
        match ds, h5, rs with
        | [d1, d2, d3, d4, d5], _, .cons (x := v1) r1 (.cons (x := v2) r2 (.cons (x := v3) r3 (.cons (x := v4) r4 (.cons (x := v5) r5 .nil)))) =>
          refine ⟨_, rfl, p, _, _, _, rfl, rfl, SqT.of e, rfl, _, rfl, p, _, _, _, rfl, rfl, SqT.of e, rfl, _, rfl, p, _, _, _, rfl, rfl, SqT.of e, rfl, _, rfl, p, _, _, _, rfl, rfl, SqT.of e, rfl, _, rfl, p, _, _, _, rfl, rfl, SqT.of e, rfl, ?_⟩
          intro x dx nx nd ne
          have s1 : Same H (upd (upd H dx (.own x)) x (.ins a.C_Letter dx [])) := fun c o e => by rw [upd_ne (ne_of_none e nx), upd_ne (ne_of_none e nd)]; exact e
          refine ⟨x, dx, v1, v2, v3, v4, v5, d1, d2, d3, d4, d5, rfl, upd_same, r1.mono s1, r2.mono s1, r3.mono s1, r4.mono s1, r5.mono s1, fun hg H2 k2 e2 => ⟨rfl, kg hg p x dx v1 v2 v3 v4 v5 H2 rfl e (fun c o e => k2 c o (ne_of_none e nx) (s1 _ _ e)) e2⟩, fun hb H2 s2 => kb hb _ (s1.trans s2)⟩
      · rw [show (!decide (V.int ((xs.length : Nat) : Int) = V.int 5)) = true by rw [hl, decide_eq_false fun z => h5 (by have := V.int.inj z; omega)]; rfl]
        refine iteT ⟨by show 1 ≤ sizeLine; decide, kb ?_ _ (Same.refl _)⟩
        unfold partsD
        split
        · rename_i z; cases z; exact absurd rfl h5
        · rfl
    | _ => exact iteT (iteT ⟨by show 1 ≤ sizeLine; decide, kb rfl _ (Same.refl _)⟩)
inductive spPartsV_I (a : Adr) (vs : List V) (H : Hp) (Q : VK) : Prop
  | mk : ∀ (x dx : Addr) (v1 v2 v3 v4 v5 : V), vs = [.ref x] → H x = some (.ins a.C_Letter dx (lfv v1 v2 v3 v4 v5)) → (∀ p, H p = none → Q (.ref p) (upd H p (.tup [v1, v2, v3, v4, v5]))) → spPartsV_I a vs H Q
def spPartsV (a : Adr) : Sp := fun vs H Q _ => spPartsV_I a vs H Q
theorem ok_partsV {fd : FuncData} (F : Fun K "parts" "Letter.parts" sLetter_parts a.f_Letter_parts fd) (T : Txt K mg a) : FnOk P w K mg base CX0 1 a.f_Letter_parts fd ["self"] (spPartsV a) := by
  refine F.ok sc_Letter_parts (fun vs H Q E h => ?_) (fun cdv A outer s H vs Q E hr h => ?_)
  · obtain ⟨x, dx, v1, v2, v3, v4, v5, rfl, _⟩ := h; rfl
  · obtain ⟨x, dx, v1, v2, v3, v4, v5, rfl, hx, k⟩ := h
    refine ⟨_, (pss_one (ps_ret (pe_tupS (pas_cons (pe_fld (pv 0) rfl) (pas_cons (pe_fld (pv 0) rfl) (pas_cons (pe_fld (pv 0) rfl) (pas_cons (pe_fld (pv 0) rfl) (pas_cons (pe_fld (pv 0) rfl) pas_nil)))))))), ?_⟩
    exact ⟨_, rfl, x, _, dx, _, _, rfl, hx, T.c_Letter, T.n_Letter_sender, rfl, _, rfl, x, _, dx, _, _, rfl, hx, T.c_Letter, T.n_Letter_title, rfl, _, rfl, x, _, dx, _, _, rfl, hx, T.c_Letter, T.n_Letter_body, rfl, _, rfl, x, _, dx, _, _, rfl, hx, T.c_Letter, T.n_Letter_day, rfl, _, rfl, x, _, dx, _, _, rfl, hx, T.c_Letter, T.n_Letter_answers, rfl, (by show 5 ≤ sizeLine; decide), k⟩
end
structure Good (s t b : Str) (d : Int) (an : Str) : Prop where
  s_ : WordS s
  t_ : Asc t
  tl : t.length ≤ 60
  tn : ¬ 10 ∈ t.cps.toList
  b_ : Asc b
  bl : b.length ≤ 400
  d0 : 0 ≤ d
  d1 : d ≤ 9999
  a_ : an = "" ∨ WordS an
abbrev ntS : Str := "\n\t"
theorem nt_len : ntS.cps.toList.length = 2 := by decide +kernel
theorem nt_asc : Asc ntS := asc_of (by decide +kernel)
theorem nt_small : ntS.length ≤ sizeLine := by decide +kernel
theorem tab_asc : Asc "\t" := asc_of (by decide +kernel)
theorem tab_len : ("\t" : Str).length = 1 := by decide +kernel
theorem tab_list : ("\t" : Str).cps.toList = [9] := by decide +kernel
/-- a title -/
structure Tit (t : Str) : Prop where
  a_ : Asc t
  l_ : t.length ≤ 60
  n_ : ¬ 10 ∈ t.cps.toList
structure Bod (b : Str) : Prop where
  a_ : Asc b
  l_ : b.length ≤ 400
theorem prt_tit {t : Str} (h : Prt t) (hl : t.length ≤ 60) : Tit t := ⟨h.asc, hl, fun z => absurd (h 10 z).1 (by decide)⟩
def spLParts : Sp := fun vs H Q _ => ∃ (R : Addr) (rs : List Int) (bs : Int), vs = [.ref R, .int bs] ∧ H R = some (.lst (rs.map V.int)) ∧ rs.length = 16 ∧ (∀ r ∈ rs, 0 ≤ r ∧ r < 2147483629) ∧ 0 ≤ bs ∧ bs < 2147483629 ∧
  ∀ p s t b d an H', Good s t b d an → Same H H' → H' p = some (.tup [.str s, .str t, .str b, .int d, .str an]) → Q (.ref p) H'
section
variable {P : Program} {w : World} {K : PySem.W.Frag} {mg : Str → Option Value} {base : Heap} {a : Adr}
theorem ok_lparts {fd : FuncData} (F : Fun K "_law_parts" "_law_parts" sl_parts a.f_l_parts fd) (T : Txt K mg a) (FF : Funs K a) : FnOk P w K mg base CX0 2 a.f_l_parts fd ["_law_row_here", "_law_base"] spLParts := by
  obtain ⟨fdS, F_l_signs, b_l_signs⟩ := FF.F_l_signs
  obtain ⟨fdW, F_l_word, b_l_word⟩ := FF.F_l_word
  have G_l_signs : FnOk P w K mg base CX0 1 a.f_l_signs fdS ["_law_number", "_law_many"] spSigns := ok_signs F_l_signs T
  have G_l_word : FnOk P w K mg base CX0 1 a.f_l_word fdW ["_law_base", "_law_turn"] spWord := ok_word F_l_word T
  refine F.ok sc_l_parts (fun vs H Q E h => ?_) (fun cdv A outer s H vs Q E hr h => ?_)
  · obtain ⟨R, rs, bs, rfl, _⟩ := h; rfl
  · obtain ⟨R, rs, bs, rfl, hR, hl, hb, hb0, hb1, k⟩ := h
    have hr_l_signs : Room 1 _ := hr
    have hr_l_word : Room 1 _ := hr
    have hsm : ∀ n : Nat, n ≤ 1000 → n ≤ sizeLine := fun n h => Nat.le_of_lt (small1000 h)
    obtain ⟨z0, e0, b00, b01⟩ := row_pick hb 0 (by decide) (by omega)
    obtain ⟨z1, e1, b10, b11⟩ := row_pick hb 1 (by decide) (by omega)
    obtain ⟨z2, e2, b20, b21⟩ := row_pick hb 2 (by decide) (by omega)
    obtain ⟨z3, e3, b30, b31⟩ := row_pick hb 3 (by decide) (by omega)
    obtain ⟨z4, e4, b40, b41⟩ := row_pick hb 4 (by decide) (by omega)
    obtain ⟨z5, e5, b50, b51⟩ := row_pick hb 5 (by decide) (by omega)
    obtain ⟨z6, e6, b60, b61⟩ := row_pick hb 6 (by decide) (by omega)
    obtain ⟨z7, e7, b70, b71⟩ := row_pick hb 7 (by decide) (by omega)
    obtain ⟨z8, e8, b80, b81⟩ := row_pick hb 8 (by decide) (by omega)
    obtain ⟨z9, e9, b90, b91⟩ := row_pick hb 9 (by decide) (by omega)
    obtain ⟨z10, e10, b100, b101⟩ := row_pick hb 10 (by decide) (by omega)
    have sq : ∀ {H1 : Hp}, Same H H1 → SqL K H1 R (rs.map V.int) := fun s1 => SqL.of (s1 _ _ hR)
    clear hR
    obtain ⟨t5, h5, sp5⟩ : ∃ t, PSs (cxOf CX0 P w K mg base n_l_parts "_law_parts" (defScope sl_parts) a.f_l_parts cdv A outer s H E).nox ((defBody sl_parts).drop 5) t ∧
        ∀ (H1 : Hp) (o4 : Option V) (t1 b1 : Str), Same H H1 → Tit t1 → Bod b1 →
          t { nx := fun _ H' => Q .non H', rt := Q } [some (.ref R), some (.int bs), some (.str t1), some (.str b1), o4, none, none] H1 := by
      refine ⟨_, (pss_cons (ps_set (i := 5) sc_l_parts.nd rfl (Or.inl rfl) (pe_ix ix_list (pe_lstS (pas_cons (pe_op op_mod (pe_ix ix_list (pv 0) pe_int (fun _ _ => rfl)) pe_int) (pas_cons (pe_op op_mod (pe_ix ix_list (pv 0) pe_int (fun _ _ => rfl)) pe_int) (pas_cons pe_int (pas_cons pe_int pas_nil))))) (pe_op op_mod (pe_ix ix_list (pv 0) pe_int (fun _ _ => rfl)) pe_int) (fun _ _ => rfl)))
        (pss_cons (ps_set (i := 6) sc_l_parts.nd rfl (Or.inl rfl) pe_str)
        (pss_cons (ps_if (pt_cmpR op_eq (pe_op op_mod (pe_ix ix_list (pv 0) pe_int (fun _ _ => rfl)) pe_int) pe_int (nomark _)) (pss_one (ps_set (i := 6) sc_l_parts.nd rfl (Or.inl rfl) (pe_call G_l_word hr_l_word rfl T.m_l_word F_l_word.kp b_l_word .nil pass0 (pac (pv 1) (pac (pe_op op_mod (pe_op op_fdiv (pe_ix ix_list (pv 0) pe_int (fun _ _ => rfl)) pe_int) pe_int) pa_nil))))) pss_nil)
        (pss_one (ps_ret (pe_tupS (pas_cons (pe_call G_l_word hr_l_word rfl T.m_l_word F_l_word.kp b_l_word .nil pass0 (pac (pv 1) (pac (pe_op op_add pe_int (pe_op op_mod (pe_ix ix_list (pv 0) pe_int (fun _ _ => rfl)) pe_int)) pa_nil))) (pas_cons (pv 2) (pas_cons (pv 3) (pas_cons (pv 5) (pas_cons (pv 6) pas_nil))))))))))), fun H1 o4 t1 b1 s1 ht hbd => ?_⟩
      refine ⟨_, rfl, R, _, _, _, rfl, rfl, sq s1, e7, _, _, rfl, rfl, (by show (0 : Int) < 10000; decide), _, rfl, R, _, _, _, rfl, rfl, sq s1, e7, _, _, rfl, rfl, (by show (0 : Int) < 10; decide), (by show 4 ≤ sizeLine; decide), fun l hl' => ?_⟩
      have s2 : Same H (upd H1 l (.lst [.int (z7 % 10000), .int (z7 % 10), .int 0, .int 9999])) := s1.upd_of (s1.free hl')
      obtain ⟨v, hv, hvm, _⟩ := atI_some (xs := [V.int (z7 % 10000), V.int (z7 % 10), V.int 0, V.int 9999]) (i := z8 % 4) (Int.emod_nonneg _ (by decide)) (Int.emod_lt_of_pos _ (by decide))
      obtain ⟨d, rfl, hd0, hd1⟩ : ∃ d : Int, v = .int d ∧ 0 ≤ d ∧ d ≤ 9999 := by
        have m1 : 0 ≤ z7 % 10000 := Int.emod_nonneg _ (by decide)
        have m2 : z7 % 10000 < 10000 := Int.emod_lt_of_pos _ (by decide)
        have m3 : 0 ≤ z7 % 10 := Int.emod_nonneg _ (by decide)
        have m4 : z7 % 10 < 10 := Int.emod_lt_of_pos _ (by decide)
        simp only [List.mem_cons, List.not_mem_nil, or_false] at hvm
        rcases hvm with rfl | rfl | rfl | rfl
        · exact ⟨_, rfl, by omega, by omega⟩
        · exact ⟨_, rfl, by omega, by omega⟩
        · exact ⟨_, rfl, by decide, by decide⟩
        · exact ⟨_, rfl, by decide, by decide⟩
      refine ⟨_, rfl, R, _, _, _, rfl, rfl, sq s2, e8, _, _, rfl, rfl, (by show (0 : Int) < 4; decide), l, _, _, _, rfl, rfl, SqL.of upd_same, hv, ?_⟩
      have m1 : 0 ≤ z9 / 2 % 9 := Int.emod_nonneg _ (by decide)
      have m2 : z9 / 2 % 9 < 9 := Int.emod_lt_of_pos _ (by decide)
      have m3 : 0 ≤ z10 % 9 := Int.emod_nonneg _ (by decide)
      have m4 : z10 % 9 < 9 := Int.emod_lt_of_pos _ (by decide)
      have fin : ∀ (H3 : Hp) (an : Str), Same H H3 → (an = "" ∨ WordS an) → tRet (tTup (tCons (tCall spWord [] E0 (tCons (tVar 1) (tCons (tOp (rI0 fun i j => .int (i + j)) (tC (.int 9)) (tOp (rI (fun _ j => 0 < j) fun i j => .int (i % j)) (tOp (rIxL K) (tVar 0) (tC (.int 10))) (tC (.int 9)))) tNil))) (tCons (tVar 2) (tCons (tVar 3) (tCons (tVar 5) (tCons (tVar 6) tNil)))))) { nx := fun _ H' => Q .non H', rt := Q } [some (.ref R), some (.int bs), some (.str t1), some (.str b1), o4, some (.int d), some (.str an)] H3 := fun H3 an s3 han => by
        refine ⟨_, rfl, _, rfl, R, _, _, _, rfl, rfl, sq s3, e10, _, _, rfl, rfl, (by show (0 : Int) < 9; decide), _, _, rfl, rfl, ?_⟩
        refine ⟨bs, 9 + z10 % 9, rfl, hb0, hb1, by omega, by omega, fun x H4 hx s4 => ?_⟩
        have s5 := s3.trans s4
        refine ⟨_, rfl, _, rfl, _, rfl, _, rfl, (by show 5 ≤ sizeLine; decide), fun p hp => ?_⟩
        exact k p x t1 b1 d an _ ⟨hx, ht.a_, ht.l_, ht.n_, hbd.a_, hbd.l_, hd0, hd1, han⟩ (s5.upd_of (s5.free hp)) upd_same
      refine ⟨_, rfl, R, _, _, _, rfl, rfl, sq s2, e9, _, _, rfl, rfl, (by show (0 : Int) < 2; decide), rfl, _, rfl, ?_⟩
      refine ite2 (fun _ => ?_) (fun _ => fin _ _ s2 (.inl rfl))
      refine ⟨_, rfl, _, rfl, R, _, _, _, rfl, rfl, sq s2, e9, _, _, rfl, rfl, ⟨by decide, by decide⟩, _, _, rfl, rfl, (by show (0 : Int) < 9; decide), ?_⟩
      exact ⟨bs, z9 / 2 % 9, rfl, hb0, hb1, by omega, by omega, fun x H4 hx s4 => fin _ _ (s2.trans s4) (.inr hx)⟩
    obtain ⟨t4, h4, sp4⟩ : ∃ t, PSs (cxOf CX0 P w K mg base n_l_parts "_law_parts" (defScope sl_parts) a.f_l_parts cdv A outer s H E).nox ((defBody sl_parts).drop 4) t ∧
        ∀ (H1 : Hp) (o4 : Option V) (t1 b1 : Str), Same H H1 → Tit t1 → Bod b1 →
          t { nx := fun _ H' => Q .non H', rt := Q } [some (.ref R), some (.int bs), some (.str t1), some (.str b1), o4, none, none] H1 := by
      refine ⟨_, (pss_cons (ps_if (pt_cmpR op_eq (pe_op op_mod (pe_ix ix_list (pv 0) pe_int (fun _ _ => rfl)) pe_int) pe_int (nomark _)) (pss_one (ps_set (i := 2) sc_l_parts.nd rfl (Or.inl rfl) (pe_op op_add_str (pe_op op_add_str (pe_slice sl_str (pv 2) po_none (po_some pe_int)) pe_str) (pe_slice sl_str (pv 2) (po_some pe_int) (po_some pe_int))))) pss_nil)
        h5), fun H1 o4 t1 b1 s1 ht hbd => ?_⟩
      refine ⟨_, rfl, R, _, _, _, rfl, rfl, sq s1, e5, _, _, rfl, rfl, (by show (0 : Int) < 8; decide), rfl, _, rfl, ?_⟩
      refine ite2 (fun _ => ?_) (fun _ => sp5 H1 _ t1 b1 s1 ht hbd)
      have l1 : (Txt.slice t1 none (some 30)).length ≤ 30 := cut_to_le t1 30
      have l2 : (Txt.slice t1 (some 30) (some 59)).length ≤ 29 := cut_le t1 30 59
      have hl1 := ht.l_
      have l3 : (Txt.slice t1 none (some 30) ++ ("\t" : Str)).length ≤ 31 := by rw [cat_len, tab_len]; exact Nat.add_le_add_right l1 1
      refine ⟨_, rfl, _, rfl, t1, rfl, hsm _ (by omega), _, _, rfl, rfl, hsm _ (by rw [tab_len]; omega), _, rfl, _, rfl, _, rfl, t1, rfl, hsm _ (by omega), _, _, rfl, rfl, hsm _ (by omega), ?_⟩
      refine sp5 H1 _ _ b1 s1 ⟨((slice_asc ht.a_ _ _).app tab_asc).app (slice_asc ht.a_ _ _), (by rw [cat_len]; omega), fun z => ?_⟩ hbd
      rw [cat_list, cat_list, tab_list] at z
      rcases List.mem_append.mp z with z | z
      · rcases List.mem_append.mp z with z | z
        · exact ht.n_ (slice_mem z)
        · exact absurd (List.mem_singleton.mp z) (by decide)
      · exact ht.n_ (slice_mem z)
    obtain ⟨t3, h3, sp3⟩ : ∃ t, PSs (cxOf CX0 P w K mg base n_l_parts "_law_parts" (defScope sl_parts) a.f_l_parts cdv A outer s H E).nox ((defBody sl_parts).drop 3) t ∧
        ∀ (H1 : Hp) (o4 : Option V) (t1 b1 : Str), Same H H1 → Tit t1 → Bod b1 →
          t { nx := fun _ H' => Q .non H', rt := Q } [some (.ref R), some (.int bs), some (.str t1), some (.str b1), o4, none, none] H1 := by
      refine ⟨_, (pss_cons (ps_if (pt_cmpR op_eq (pe_op op_mod (pe_ix ix_list (pv 0) pe_int (fun _ _ => rfl)) pe_int) pe_int (nomark _)) (pss_cons (ps_set (i := 2) sc_l_parts.nd rfl (Or.inl rfl) (pe_op op_add_str (pe_slice sl_str (pv 2) po_none (po_some pe_int)) (pe_slice sl_str (pv 2) po_none (po_some pe_int))))
        (pss_one (ps_set (i := 3) sc_l_parts.nd rfl (Or.inl rfl) (pe_slice sl_str (pe_op op_add_str (pe_op op_add_str (pv 2) pe_str) (pv 3)) po_none (po_some pe_int))))) pss_nil)
        h4), fun H1 o4 t1 b1 s1 ht hbd => ?_⟩
      refine ⟨_, rfl, R, _, _, _, rfl, rfl, sq s1, e5, _, _, rfl, rfl, (by show (0 : Int) < 8; decide), rfl, _, rfl, ?_⟩
      refine ite2 (fun _ => ?_) (fun _ => sp4 H1 _ t1 b1 s1 ht hbd)
      have l1 : (Txt.slice t1 none (some 20)).length ≤ 20 := cut_to_le t1 20
      have hl1 := ht.l_
      have hl2 := hbd.l_
      have l2 : (Txt.slice t1 none (some 20) ++ Txt.slice t1 none (some 20)).length ≤ 40 := by rw [cat_len]; exact Nat.add_le_add l1 l1
      have l3 : ((Txt.slice t1 none (some 20) ++ Txt.slice t1 none (some 20)) ++ (" " : Str)).length ≤ 41 := by rw [cat_len, blank_len]; omega
      refine ⟨_, rfl, _, rfl, t1, rfl, hsm _ (by omega), _, rfl, _, rfl, t1, rfl, hsm _ (by omega), _, _, rfl, rfl, hsm _ (Nat.le_trans (Nat.add_le_add l1 l1) (by decide)), ?_⟩
      have ta : Asc (Txt.slice t1 none (some 20) ++ Txt.slice t1 none (some 20)) := (slice_asc ht.a_ _ _).app (slice_asc ht.a_ _ _)
      refine ⟨_, rfl, _, _, rfl, rfl, hsm _ (by rw [blank_len]; omega), _, rfl, _, _, rfl, rfl, hsm _ (by omega), _, rfl, _, rfl, hsm _ (by rw [cat_len]; omega), ?_⟩
      refine sp4 H1 _ _ _ s1 ⟨ta, by omega, fun z => ?_⟩ ⟨slice_asc ((ta.app blank_prt.asc).app hbd.a_) _ _, cut_to_le _ 400⟩
      rw [cat_list] at z
      rcases List.mem_append.mp z with z | z
      · exact ht.n_ (slice_mem z)
      · exact ht.n_ (slice_mem z)
    obtain ⟨t2, h2, sp2⟩ : ∃ t, PSs (cxOf CX0 P w K mg base n_l_parts "_law_parts" (defScope sl_parts) a.f_l_parts cdv A outer s H E).nox ((defBody sl_parts).drop 2) t ∧
        ∀ (H1 : Hp) (t1 b1 : Str), Same H H1 → Tit t1 → Bod b1 →
          t { nx := fun _ H' => Q .non H', rt := Q } [some (.ref R), some (.int bs), some (.str t1), some (.str b1), none, none, none] H1 := by
      refine ⟨_, (pss_cons (ps_if (pt_cmpR op_eq (pe_op op_mod (pe_ix ix_list (pv 0) pe_int (fun _ _ => rfl)) pe_int) pe_int (nomark _)) (pss_cons (ps_set (i := 4) sc_l_parts.nd rfl (Or.inl rfl) (pe_op op_mod (pe_ix ix_list (pv 0) pe_int (fun _ _ => rfl)) (pe_op op_add (pe_callB call_len_str rfl T.b_len PySem.boot_len (pac (pv 3) pa_nil)) pe_int)))
        (pss_one (ps_set (i := 3) sc_l_parts.nd rfl (Or.inl rfl) (pe_slice sl_str (pe_op op_add_str (pe_op op_add_str (pe_slice sl_str (pv 3) po_none (po_some (pv 4))) (pe_ix ix_str pe_str (pe_op op_mod (pe_op op_fdiv (pe_ix ix_list (pv 0) pe_int (fun _ _ => rfl)) pe_int) pe_int) (fun _ _ => rfl))) (pe_slice sl_str (pv 3) (po_some (pv 4)) po_none)) po_none (po_some pe_int))))) pss_nil)
        h3), fun H1 t1 b1 s1 ht hbd => ?_⟩
      refine ⟨_, rfl, R, _, _, _, rfl, rfl, sq s1, e5, _, _, rfl, rfl, (by show (0 : Int) < 4; decide), rfl, _, rfl, ?_⟩
      refine ite2 (fun _ => ?_) (fun _ => sp3 H1 _ t1 b1 s1 ht hbd)
      have hl2 := hbd.l_
      refine ⟨_, rfl, R, _, _, _, rfl, rfl, sq s1, e6, _, rfl, b1, rfl, hsm _ (by omega), _, _, rfl, rfl, _, _, rfl, rfl, (by show (0 : Int) < (b1.length : Int) + 1; omega), ?_⟩
      obtain ⟨c, hc, hcm⟩ := pick_sign (z := ntS) (i := z6 / 512 % 2) (Int.emod_nonneg _ (by decide)) (by rw [nt_len]; exact Int.emod_lt_of_pos _ (by decide))
      have l1 := sl_le b1 none (some (z6 % ((b1.length : Int) + 1)))
      have l2 := sl_le b1 (some (z6 % ((b1.length : Int) + 1))) none
      have hc1 := one_len c
      refine ⟨_, rfl, _, rfl, _, rfl, b1, rfl, hsm _ (by omega), _, rfl, R, _, _, _, rfl, rfl, sq s1, e6, _, _, rfl, rfl, ⟨by decide, by decide⟩, _, _, rfl, rfl, (by show (0 : Int) < 2; decide), ntS, _, c, rfl, rfl, nt_small, hc, _, _, rfl, rfl, hsm _ (by rw [hc1]; omega), _, rfl, _, rfl, _, rfl, b1, rfl, hsm _ (by omega), _, _, rfl, rfl, hsm _ (by rw [cat_len, hc1]; omega), _, rfl, _, rfl, hsm _ (by rw [cat_len, cat_len, hc1]; omega), ?_⟩
      exact sp3 H1 _ _ _ s1 ht ⟨slice_asc (((slice_asc hbd.a_ _ _).app (nt_asc.one hcm)).app (slice_asc hbd.a_ _ _)) _ _, cut_to_le _ 400⟩
    refine ⟨_, (pss_cons (ps_set (i := 2) sc_l_parts.nd rfl (Or.inl rfl) (pe_call G_l_signs hr_l_signs rfl T.m_l_signs F_l_signs.kp b_l_signs .nil pass0 (pac (pe_ix ix_list (pv 0) pe_int (fun _ _ => rfl)) (pac (pe_op op_mod (pe_ix ix_list (pv 0) pe_int (fun _ _ => rfl)) pe_int) pa_nil))))
        (pss_cons (ps_set (i := 3) sc_l_parts.nd rfl (Or.inl rfl) (pe_call G_l_signs hr_l_signs rfl T.m_l_signs F_l_signs.kp b_l_signs .nil pass0 (pac (pe_ix ix_list (pv 0) pe_int (fun _ _ => rfl)) (pac (pe_op op_mod (pe_ix ix_list (pv 0) pe_int (fun _ _ => rfl)) (pe_ix ix_list (pe_lstS (pas_cons pe_int (pas_cons pe_int (pas_cons pe_int pas_nil)))) (pe_op op_mod (pe_ix ix_list (pv 0) pe_int (fun _ _ => rfl)) pe_int) (fun _ _ => rfl))) pa_nil))))
        h2)), ?_⟩
    have s0 : Same H H := Same.refl H
    have n0 : 0 ≤ z1 % 61 := Int.emod_nonneg _ (by decide)
    have n1 : z1 % 61 < 61 := Int.emod_lt_of_pos _ (by decide)
    refine ⟨_, rfl, R, _, _, _, rfl, rfl, sq s0, e0, _, rfl, R, _, _, _, rfl, rfl, sq s0, e1, _, _, rfl, rfl, (by show (0 : Int) < 61; decide), ?_⟩
    refine ⟨z0, (z1 % 61).toNat, (by rw [show (((z1 % 61).toNat : Nat) : Int) = z1 % 61 by omega]; rfl), b00, by omega, by omega, fun t1 pt1 lt1 => ?_⟩
    have ht : Tit t1 := prt_tit pt1 (by omega)
    obtain ⟨v, hv, hvm, _⟩ := atI_some (xs := [V.int 20, V.int 20, V.int 401]) (i := z4 % 3) (Int.emod_nonneg _ (by decide)) (Int.emod_lt_of_pos _ (by decide))
    obtain ⟨m, rfl, hm0, hm1⟩ : ∃ m : Int, v = .int m ∧ 0 < m ∧ m ≤ 401 := by
      simp only [List.mem_cons, List.not_mem_nil, or_false] at hvm
      rcases hvm with rfl | rfl | rfl
      · exact ⟨_, rfl, by decide, by decide⟩
      · exact ⟨_, rfl, by decide, by decide⟩
      · exact ⟨_, rfl, by decide, by decide⟩
    have n2 : 0 ≤ z3 % m := Int.emod_nonneg _ (by omega)
    have n3 : z3 % m < m := Int.emod_lt_of_pos _ hm0
    refine ⟨_, rfl, R, _, _, _, rfl, rfl, sq s0, e2, _, rfl, R, _, _, _, rfl, rfl, sq s0, e3, (by show 3 ≤ sizeLine; decide), fun l hl' => ?_⟩
    have s1 : Same H (upd H l (.lst [V.int 20, V.int 20, V.int 401])) := Same.upd_new hl'
    refine ⟨_, rfl, R, _, _, _, rfl, rfl, sq s1, e4, _, _, rfl, rfl, (by show (0 : Int) < 3; decide), l, _, _, _, rfl, rfl, SqL.of upd_same, hv, _, _, rfl, rfl, hm0, ?_⟩
    refine ⟨z2, (z3 % m).toNat, (by rw [show (((z3 % m).toNat : Nat) : Int) = z3 % m by omega]; rfl), b20, by omega, by omega, fun b1 pb1 lb1 => ?_⟩
    exact sp2 _ t1 b1 s1 ht ⟨pb1.asc, by omega⟩
end
inductive spOneClass_I (a : Adr) (vs : List V) (H : Hp) (Q : VK) : Prop
  | mk : ∀ (e : Addr), vs = [.ref e] → H e = some (ExcO a.C_NoLetter e) → (∀ H', Same H H' → Q (.bl true) H') → spOneClass_I a vs H Q
def spOneClass (a : Adr) : Sp := fun vs H Q _ => spOneClass_I a vs H Q
section
variable {P : Program} {w : World} {K : PySem.W.Frag} {mg : Str → Option Value} {base : Heap} {a : Adr}
theorem ok_oneclass {fd : FuncData} (F : Fun K "_law_of_one_class" "_law_of_one_class" sl_of_one_class a.f_l_of_one_class fd) (T : Txt K mg a) : FnOkU P w K mg base 1 a.f_l_of_one_class fd ["_law_e"] (spOneClass a) := by
  refine F.okU sc_l_of_one_class (fun vs H Q E h => ?_) (fun cdv A outer s H vs Q E hr h => ?_)
  · obtain ⟨e, rfl, _⟩ := h; rfl
  · obtain ⟨e, rfl, he, k⟩ := h
    refine ⟨_, (pss_cons (ps_set (i := 1) sc_l_of_one_class.nd rfl (Or.inl rfl) (pe_lstS (pas_cons (pe_callB call_isexc rfl T.b_isinstance PyProof.Rows.boot_isinstance (pac (pv 0) (pac (pe_gl (v := .ref a.C_NoWord) rfl ⟨_, T.mx_NoWord, rfl⟩) pa_nil))) (pas_cons (pe_callB call_isexc rfl T.b_isinstance PyProof.Rows.boot_isinstance (pac (pv 0) (pac (pe_gl (v := .ref a.C_NoLetter) rfl ⟨_, T.mx_NoLetter, rfl⟩) pa_nil))) (pas_cons (pe_callB call_isexc rfl T.b_isinstance PyProof.Rows.boot_isinstance (pac (pv 0) (pac (pe_gl (v := .ref a.C_NoRule) rfl ⟨_, T.mx_NoRule, rfl⟩) pa_nil))) (pas_cons (pe_callB call_isexc rfl T.b_isinstance PyProof.Rows.boot_isinstance (pac (pv 0) (pac (pe_gl (v := .ref a.C_NoName) rfl ⟨_, T.mx_NoName, rfl⟩) pa_nil))) pas_nil))))))
        (pss_cons (ps_set (i := 1) sc_l_of_one_class.nd rfl (Or.inl rfl) (pe_op op_cat (pv 1) (pe_lstS (pas_cons (pe_callB call_isexc rfl T.b_isinstance PyProof.Rows.boot_isinstance (pac (pv 0) (pac (pe_gl (v := .ref a.C_NoParcel) rfl ⟨_, T.mx_NoParcel, rfl⟩) pa_nil))) (pas_cons (pe_callB call_isexc rfl T.b_isinstance PyProof.Rows.boot_isinstance (pac (pv 0) (pac (pe_gl (v := .ref a.C_NoRow) rfl ⟨_, T.mx_NoRow, rfl⟩) pa_nil))) pas_nil)))))
        (pss_one (ps_ret (pe_and (pe_callB call_isexc rfl T.b_isinstance PyProof.Rows.boot_isinstance (pac (pv 0) (pac (pe_bltn (v := .ty "ValueError") rfl T.b_ValueError boot_VE rfl) pa_nil))) (pe_one (pe_cmpR op_eq (pe_bm PySem.F.plainAttrs_list PySem.F.slot_list_count PySem.F.type_list_count mt_countB (pv 1) (pac pe_bl pa_nil)) pe_int (nomark _)))))))), ?_⟩
    refine ⟨_, rfl, e, _, _, _, _, rfl, he, T.xg_NoLetter, rfl, T.ki_NoLetter_NoWord, _, rfl, e, _, _, _, _, rfl, he, T.xg_NoLetter, rfl, T.ki_NoLetter_NoLetter, _, rfl, e, _, _, _, _, rfl, he, T.xg_NoLetter, rfl, T.ki_NoLetter_NoRule, _, rfl, e, _, _, _, _, rfl, he, T.xg_NoLetter, rfl, T.ki_NoLetter_NoName, (by show 4 ≤ sizeLine; decide), fun l hl => ?_⟩
    have s1 : Same H (upd H l (.lst [.bl false, .bl true, .bl false, .bl false])) := Same.upd_new hl
    have e1 : (upd H l (.lst [.bl false, .bl true, .bl false, .bl false])) l = some (.lst [.bl false, .bl true, .bl false, .bl false]) := upd_same
    show tSeq _ _ _ _ (upd H l (.lst [.bl false, .bl true, .bl false, .bl false]))
    generalize upd H l (.lst [.bl false, .bl true, .bl false, .bl false]) = H1 at s1 e1
    have he1 := s1 _ _ he
    refine ⟨_, rfl, _, rfl, e, _, _, _, _, rfl, he1, T.xg_NoLetter, rfl, T.ki_NoLetter_NoParcel, _, rfl, e, _, _, _, _, rfl, he1, T.xg_NoLetter, rfl, T.ki_NoLetter_NoRow, (by show 2 ≤ sizeLine; decide), fun m hm => ?_⟩
    have s2 : Same H1 (upd H1 m (.lst [.bl false, .bl false])) := Same.upd_new hm
    have e2 : (upd H1 m (.lst [.bl false, .bl false])) m = some (.lst [.bl false, .bl false]) := upd_same
    have e12 := s2 _ _ e1
    have he2 := s2 _ _ he1
    generalize upd H1 m (.lst [.bl false, .bl false]) = H2 at s2 e2 e12 he2
    refine ⟨l, m, _, _, rfl, rfl, e12, e2, (by show 6 ≤ sizeLine; decide), fun r hr => ?_⟩
    have s3 : Same H2 (upd H2 r (.lst ([false, true, false, false, false, false].map V.bl))) := Same.upd_new hr
    have e3 : (upd H2 r (.lst ([false, true, false, false, false, false].map V.bl))) r = some (.lst ([false, true, false, false, false, false].map V.bl)) := upd_same
    show tSeq _ _ _ _ (upd H2 r (.lst ([false, true, false, false, false, false].map V.bl)))
    generalize upd H2 r (.lst ([false, true, false, false, false, false].map V.bl)) = H3 at s3 e3
    have he3 := s3 _ _ he2
    refine ⟨_, rfl, e, _, _, _, _, rfl, he3, T.xg_NoLetter, rfl, T.ki_NoLetter_ValueError, _, rfl, ?_⟩
    refine iteT ?_
    refine ⟨_, rfl, .inl ⟨rfl, _, SqL.of e3⟩, r, [false, true, false, false, false, false], true, rfl, rfl, e3, rfl, ?_⟩
    exact k _ (s1.trans (s2.trans s3))
end
theorem px_int {i : Int} {j : Nat} {pos : Pos} : PlainIx (.Constant (.int i) j pos) := fun _ _ => rfl
theorem px_bin {a b : Expr} {op : Operator} {pos : Pos} : PlainIx (.BinOp a op b pos) := fun _ _ => rfl
structure PEs (X : Cx) (e : Expr) (t : TE) : Prop where
  h : PE X e t
structure PSW (X : Cx) (ss : List Stmt) (t : TS) : Prop where
  h : PSs X ss t
theorem se_op {X : Cx} {a b : Expr} {ta tb : TE} {op : Operator} {r : R2} {pos : Pos} (ho : OpR X (binaryOp op) r) (ha : PEs X a ta) (hb : PE X b tb) : PEs X (.BinOp a op b pos) (tOp r ta tb) := ⟨pe_op ho ha.h hb⟩
theorem se_tup1 {X : Cx} {e : Expr} {te : TE} {x1 : Nat} {pos : Pos} (ha : PEs X e te) (h : plainE e = true) : PEs X (.Tuple [e] x1 pos) (tTup (tCons te tNil)) := ⟨pe_tupS (pas_cons ha.h pas_nil h)⟩
theorem se_lst {X : Cx} {es : List Expr} {t : TA} {pos : Pos} (h : PAs X es t) : PEs X (.List es pos) (tLst t) := ⟨pe_lstS h⟩
theorem se_ix {X : Cx} {a b : Expr} {ta tb : TE} {r : R2} {pos : Pos} (hr : IxR X r) (ha : PEs X a ta) (hb : PE X b tb) (hs : PlainIx b) : PEs X (.Subscript a b pos) (tOp r ta tb) := ⟨pe_ix hr ha.h hb hs⟩
theorem sw_ret {X : Cx} {e : Expr} {te : TE} {pos : Pos} (h : PEs X e te) : PSW X [.Return (some e) pos] (tRet te) := ⟨pss_one (ps_ret h.h)⟩
theorem ps_ifW {X : Cx} {c : Expr} {a b : List Stmt} {tc : TT} {t u : TS} {pos : Pos} (hc : PT X c tc) (ha : PSW X a t) (hb : PSs X b u) : PS X (.If c a b pos) (tIfS tc t u) := ps_if hc ha.h hb
theorem notW_mem {x : Str} {c : Nat} (hc : c ∈ x.cps.toList) (h : ¬ c ∈ aZ.cps.toList) : isW x = false := by
  have e : (x.cps.toList.all fun c => decide (c ∈ aZ.cps.toList)) = false := List.all_eq_false.mpr ⟨c, hc, by rw [decide_eq_false h]; decide⟩
  unfold isW
  rw [e, Bool.and_false, Bool.and_false]
theorem notW_long {x : Str} (h : 20 < x.length) : isW x = false := by
  unfold isW
  rw [decide_eq_false (show ¬ ((x.length : Int) ≤ 20) by omega), Bool.false_and, Bool.and_false]
theorem notW_nil : isW "" = false := by decide +kernel
theorem cutV_to (xs : List V) (j : Nat) (h : j ≤ xs.length) : cutV xs none (some (j : Int)) = xs.take j := by
  unfold cutV
  rw [HT.sIx_none, HT.sIx_nat, List.drop_zero, Nat.min_eq_left h, Nat.sub_zero]
theorem cutV_from (xs : List V) (j : Nat) (h : j ≤ xs.length) : cutV xs (some (j : Int)) none = xs.drop j := by
  unfold cutV
  rw [HT.sIx_none, HT.sIx_nat, Nat.min_eq_left h]
  exact List.take_of_length_le (by rw [List.length_drop]; exact Nat.le_refl _)
theorem part_to {xs : List V} {j : Nat} (h : j < xs.length) : ¬ (HT.sIx xs.length 0 none = 0 ∧ HT.sIx xs.length xs.length (some (j : Int)) = xs.length) := fun z => by
  have := z.2
  rw [HT.sIx_nat] at this
  omega
theorem part_from {xs : List V} {j : Nat} (h : 0 < j) (hx : 0 < xs.length) : ¬ (HT.sIx xs.length 0 (some (j : Int)) = 0 ∧ HT.sIx xs.length xs.length none = xs.length) := fun z => by
  have := z.1
  rw [HT.sIx_nat] at this
  omega
theorem sl_to_go {K : PySem.W.Frag} {H : Hp} {Q : VK} {a : Addr} {xs : List V} (j : Nat) (ha : H a = some (.tup xs)) (h : j < xs.length) (k : ∀ p H', Same H H' → H' p = some (.tup (xs.take j)) → Q (.ref p) H') : rSlT K (.ref a) none (some (j : Int)) H Q :=
  slT_go ha (part_to h) fun p H' s e => k p H' s (by rw [cutV_to xs j (Nat.le_of_lt h)] at e; exact e)
theorem sl_from_go {K : PySem.W.Frag} {H : Hp} {Q : VK} {a : Addr} {xs : List V} (j : Nat) (ha : H a = some (.tup xs)) (h0 : 0 < j) (h : j ≤ xs.length) (k : ∀ p H', Same H H' → H' p = some (.tup (xs.drop j)) → Q (.ref p) H') : rSlT K (.ref a) (some (j : Int)) none H Q :=
  slT_go ha (part_from h0 (by omega)) fun p H' s e => k p H' s (by rw [cutV_from xs j h] at e; exact e)
theorem asc_empty : Asc "" := by intro c hc; revert c; decide +kernel
theorem isW_of {x : Str} (h : WordS x) : isW x = true := by
  have h1 := h.lo
  have h2 := h.hi
  unfold isW
  rw [decide_eq_true (by omega), decide_eq_true (by omega), List.all_eq_true.mpr fun c hc => decide_eq_true (h.in_ c hc)]
  rfl
theorem str_len (x : Str) : x.length = x.cps.toList.length := by simp [Str.length]
def five {α : Type} (f : Nat → α) : List α := [f 0, f 1, f 2, f 3, f 4]
def updN {α : Type} (f : Nat → α) (j : Nat) (v : α) : Nat → α := fun k => if k = j then v else f k
def pV (s t b : Str) (dy : Int) (an : Str) : Nat → V
  | 0 => .str s
  | 1 => .str t
  | 2 => .str b
  | 3 => .int dy
  | _ => .str an
def pD (s t b : Str) (dy : Int) (an : Str) : Nat → Dt
  | 0 => .str s
  | 1 => .str t
  | 2 => .str b
  | 3 => .int dy
  | _ => .str an
theorem five_at {f : Nat → V} {k : Nat} (h : k < 5) : atI (five f) (k : Int) = some (f k) := by
  match k, h with
  | 0, _ => exact atI_nat (j := 0) rfl
  | 1, _ => exact atI_nat (j := 1) rfl
  | 2, _ => exact atI_nat (j := 2) rfl
  | 3, _ => exact atI_nat (j := 3) rfl
  | 4, _ => exact atI_nat (j := 4) rfl
theorem five_set {f : Nat → V} {k : Nat} (v : V) (h : k < 5) : (five f).set k v = five (updN f k v) := by
  match k, h with
  | 0, _ => rfl
  | 1, _ => rfl
  | 2, _ => rfl
  | 3, _ => rfl
  | 4, _ => rfl
theorem five_congr {α : Type} {f g : Nat → α} (h : ∀ k, k < 5 → f k = g k) : five f = five g := by
  unfold five
  rw [h 0 (by decide), h 1 (by decide), h 2 (by decide), h 3 (by decide), h 4 (by decide)]
/-- five things as data -/
def DRf (H : Hp) (f : Nat → V) (g : Nat → Dt) : Prop := ∀ k, k < 5 → DR H (f k) (g k)
theorem DRf.drs {H : Hp} {f : Nat → V} {g : Nat → Dt} (h : DRf H f g) : DRs H (five f) (five g) :=
  .cons (h 0 (by decide)) (.cons (h 1 (by decide)) (.cons (h 2 (by decide)) (.cons (h 3 (by decide)) (.cons (h 4 (by decide)) .nil))))
theorem DRf.mono {H H' : Hp} {f : Nat → V} {g : Nat → Dt} (s : Same H H') (h : DRf H f g) : DRf H' f g := fun k hk => (h k hk).mono s
theorem DRf.upd {H : Hp} {f : Nat → V} {g : Nat → Dt} {j : Nat} {v : V} {d : Dt} (h : DRf H f g) (r : DR H v d) : DRf H (updN f j v) (updN g j d) := fun k hk => by
  unfold updN
  by_cases e : k = j
  · rw [if_pos e, if_pos e]; exact r
  · rw [if_neg e, if_neg e]; exact h k hk
def OddJ : Nat → Dt → Prop
  | 0, d => wordD d = false
  | 1, d => (textD 60 d && lineD d) = false
  | 2, d => textD 400 d = false
  | 3, d => dayD d = false
  | _, d => answD d = false
theorem OddJ.no {j : Nat} {d : Dt} {g : Nat → Dt} (hj : j < 5) (h : OddJ j d) : partsD (.tup (five (updN g j d))) = false := by
  match j, hj with
  | 0, _ => show checkD d _ _ _ _ = false; unfold checkD; rw [show wordD d = false from h]; rfl
  | 1, _ => show checkD _ d _ _ _ = false; unfold checkD; rw [← Bool.and_assoc (textD 60 d), show (textD 60 d && lineD d) = false from h, Bool.false_and, Bool.and_false]
  | 2, _ => show checkD _ _ d _ _ = false; unfold checkD; rw [show textD 400 d = false from h]; simp only [Bool.and_false, Bool.false_and]
  | 3, _ => show checkD _ _ _ d _ = false; unfold checkD; rw [show dayD d = false from h]; simp only [Bool.and_false, Bool.false_and]
  | 4, _ => show checkD _ _ _ _ d = false; unfold checkD; rw [show answD d = false from h]; simp only [Bool.and_false]
theorem Good.an {s t b : Str} {dy : Int} {an : Str} (h : Good s t b dy an) : Asc an ∧ an.length ≤ 20 := h.a_.elim (fun e => by rw [e]; exact ⟨asc_empty, by decide +kernel⟩) fun w => ⟨w.asc, w.hi⟩
theorem Good.dr {s t b : Str} {dy : Int} {an : Str} (h : Good s t b dy an) (H : Hp) : DRf H (pV s t b dy an) (pD s t b dy an) := fun k hk => by
  have h1 := h.s_.hi
  have h2 := h.tl
  have h3 := h.bl
  have h4 := h.an.2
  match k, hk with
  | 0, _ => exact .str (by omega) h.s_.asc
  | 1, _ => exact .str (by omega) h.t_
  | 2, _ => exact .str (by omega) h.b_
  | 3, _ => exact .int dy
  | 4, _ => exact .str (by omega) h.an.1
theorem Good.ok {s t b : Str} {dy : Int} {an : Str} (h : Good s t b dy an) : partsD (.tup (five (pD s t b dy an))) = true := by
  show checkD (.str s) (.str t) (.str b) (.int dy) (.str an) = true
  unfold checkD
  rw [show wordD (.str s) = true from isW_of h.s_, show textD 60 (.str t) = true from decide_eq_true (by have := h.tl; omega), show lineD (.str t) = true by show (!decide _) = true; rw [decide_eq_false h.tn]; rfl, show textD 400 (.str b) = true from decide_eq_true (by have := h.bl; omega)]
  rw [show dayD (.int dy) = true by show (decide _ && decide _) = true; rw [decide_eq_true h.d0, decide_eq_true h.d1]; rfl]
  rw [show answD (.str an) = true by
    show (isW an || decide (an = "")) = true
    rcases h.a_ with e | w
    · rw [decide_eq_true e, Bool.or_true]
    · rw [isW_of w, Bool.true_or]]
  rfl
abbrev oddS : Str := " AZ_-.,\n\t~`{\x40[/:"
abbrev farS : Str := "abcdefghijklmnopqrstu"
theorem odd_all : ∀ c ∈ oddS.cps.toList, ¬ c ∈ aZ.cps.toList ∧ c < 128 := by decide +kernel
theorem odd_len : oddS.cps.toList.length = 16 := by decide +kernel
theorem far_len : farS.length = 21 := by decide +kernel
theorem far_asc : Asc farS := asc_of (by decide +kernel)
theorem cat_asc {x y : Str} (hx : Asc x) (hy : Asc y) : Asc (x ++ y) := fun c hc => by
  rw [cat_list] at hc
  exact (List.mem_append.mp hc).elim (hx c) (hy c)
theorem far_word {w : Str} (h : WordS w) : isW (Txt.slice (w ++ farS) none (some 21)) = false ∧ (Txt.slice (w ++ farS) none (some 21)).length ≤ 1000 ∧ Asc (Txt.slice (w ++ farS) none (some 21)) := by
  have e : (Txt.slice (w ++ farS) none (some 21)).length = 21 := by
    rw [str_len, show (some (21 : Int)) = some ((21 : Nat) : Int) from rfl, slice_to, List.length_take, ← str_len, cat_len, far_len]
    omega
  exact ⟨notW_long (by omega), by omega, slice_asc (cat_asc h.asc far_asc) _ _⟩
theorem one_asc {c : Nat} (h : c < 128) : Asc ⟨#[c]⟩ := fun d hd => by
  have : d ∈ [c] := hd
  rw [List.mem_singleton.mp this]; exact h
theorem odd_word {w : Str} {c z : Nat} (h : WordS w) (hc : ¬ c ∈ aZ.cps.toList) (h1 : c < 128) : isW (Txt.slice w none (some (z : Int)) ++ ⟨#[c]⟩ ++ Txt.slice w (some ((z : Int) + 1)) none) = false ∧ (Txt.slice w none (some (z : Int)) ++ ⟨#[c]⟩ ++ Txt.slice w (some ((z : Int) + 1)) none).length ≤ 1000 ∧ Asc (Txt.slice w none (some (z : Int)) ++ ⟨#[c]⟩ ++ Txt.slice w (some ((z : Int) + 1)) none) := by
  have h2 := h.hi
  have e : (Txt.slice w (some ((z : Int) + 1)) none).length ≤ 20 := by
    rw [str_len, show (some ((z : Int) + 1)) = some ((z + 1 : Nat) : Int) from rfl, slice_from, List.length_drop, ← str_len]; omega
  have e2 : (Txt.slice w none (some (z : Int))).length ≤ 20 := by
    rw [str_len, slice_to, List.length_take, ← str_len]; omega
  refine ⟨notW_mem (c := c) ?_ hc, ?_, cat_asc (cat_asc (slice_asc h.asc _ _) (one_asc h1)) (slice_asc h.asc _ _)⟩
  · rw [cat_list, cat_list]
    exact List.mem_append.mpr (.inl (List.mem_append.mpr (.inr (List.mem_singleton.mpr rfl))))
  · rw [cat_len, cat_len, one_len]; omega
inductive spOddWord_I (vs : List V) (H : Hp) (Q : VK) : Prop
  | mk : ∀ (n : Int) (w : Str), vs = [.int n, .str w] → WordS w → (∀ v d H', DR H' v d → wordD d = false → Same H H' → Q v H') → spOddWord_I vs H Q
def spOddWord : Sp := fun vs H Q _ => spOddWord_I vs H Q
theorem ow_ps {X : Cx} {e2 e3 e7 e8 : Expr} {t2 t3 t7 t8 : TE} {s1 : Str} {n : Int} {b : Bool} {j1 j4 j5 j6 : Nat} {p1 p4 p5 p6 p9 : Pos} (h2 : PE X e2 t2) (h3 : PE X e3 t3) (h7 : PE X e7 t7) (h8 : PE X e8 t8) (q2 : plainE e2 = true) (q3 : plainE e3 = true) (q7 : plainE e7 = true) (q8 : plainE e8 = true) :
    PAs X [.Constant (.str s1) j1 p1, e2, e3, .Constant .none j4 p4, .Constant (.int n) j5 p5, .Constant (.bool b) j6 p6, e7, e8, .Dict [] [] p9] (tCons (tC (.str s1)) (tCons t2 (tCons t3 (tCons (tC .non) (tCons (tC (.int n)) (tCons (tC (.bl b)) (tCons t7 (tCons t8 (tCons tDNewK tNil))))))))) := by
  refine pas_cons pe_str ?_
  refine pas_cons h2 ?_ q2
  refine pas_cons h3 ?_ q3
  refine pas_cons pe_non ?_
  refine pas_cons pe_int ?_
  refine pas_cons pe_bl ?_
  refine pas_cons h7 ?_ q7
  refine pas_cons h8 ?_ q8
  exact pas_cons pe_dnewK pas_nil
section
variable {P : Program} {w : World} {K : PySem.W.Frag} {mg : Str → Option Value} {base : Heap} {a : Adr}
theorem ok_oddword {fd : FuncData} (F : Fun K "_law_odd_word" "_law_odd_word" sl_odd_word a.f_l_odd_word fd) (T : Txt K mg a) : FnOk P w K mg base CX0 1 a.f_l_odd_word fd ["_law_number", "_law_word_here"] spOddWord := by
  refine F.ok sc_l_odd_word (fun vs H Q E h => ?_) (fun cdv A outer s H vs Q E hr h => ?_)
  · obtain ⟨n, wd, rfl, _⟩ := h; rfl
  · obtain ⟨n, wd, rfl, hw, k⟩ := h
    refine ⟨_, (pss_cons (ps_set (i := 2) sc_l_odd_word.nd rfl (Or.inl rfl) (pe_ix ix_str pe_str (pe_op op_mod (pe_op op_fdiv (pv 0) pe_int) pe_int) px_bin))
        (pss_cons (ps_set (i := 3) sc_l_odd_word.nd rfl (Or.inl rfl) (pe_op op_mod (pe_op op_fdiv (pv 0) pe_int) (pe_callB call_len_str rfl T.b_len PySem.boot_len (pac (pv 1) pa_nil))))
        (pss_cons (ps_set (i := 4) sc_l_odd_word.nd rfl (Or.inl rfl) (pe_slice sl_str (pe_op op_add_str (pv 1) pe_str) po_none (po_some pe_int)))
        (pss_cons (ps_set (i := 5) sc_l_odd_word.nd rfl (Or.inl rfl) (pe_op op_add_str (pe_op op_add_str (pe_slice sl_str (pv 1) po_none (po_some (pv 3))) (pv 2)) (pe_slice sl_str (pv 1) (po_some (pe_op op_add (pv 3) pe_int)) po_none)))
        (sw_ret (se_ix ix_list (se_lst (ow_ps (pv 4) (pv 5) (pe_lstS (pas_cons (pv 1) pas_nil)) (pe_tupS (pas_cons (pv 1) pas_nil)) rfl rfl rfl rfl)) (pe_op op_mod (pv 0) pe_int) px_bin)).h)))), ?_⟩
    have w1 := hw.lo
    have w2 := hw.hi
    obtain ⟨c, hc, hcm⟩ := pick_sign (z := oddS) (i := n / 8 % 16) (Int.emod_nonneg _ (by decide)) (by rw [odd_len]; exact Int.emod_lt_of_pos _ (by decide))
    obtain ⟨hc1, hc2⟩ := odd_all c hcm
    refine ⟨_, rfl, _, _, rfl, rfl, ⟨by decide, by decide⟩, _, _, rfl, rfl, (by show (0 : Int) < 16; decide), oddS, _, c, rfl, rfl, (by decide +kernel), hc, ?_⟩
    refine ⟨_, rfl, _, _, rfl, rfl, ⟨by decide, by decide⟩, _, rfl, wd, rfl, Nat.le_of_lt (small1000 (by omega)), _, _, rfl, rfl, (by omega), ?_⟩
    have z0 := Int.emod_nonneg (n / 128) (b := (wd.length : Int)) (by omega)
    generalize n / 128 % (wd.length : Int) = zz at z0 ⊢
    obtain ⟨z, rfl⟩ := Int.eq_ofNat_of_zero_le z0
    obtain ⟨f1, f2, f3⟩ := far_word hw
    obtain ⟨o1, o2, o3⟩ := odd_word (z := z) hw hc1 hc2
    have sl1 : (Txt.slice wd none (some (z : Int))).length ≤ 20 := by rw [str_len, slice_to, List.length_take, ← str_len]; omega
    have sl2 : (Txt.slice wd (some ((z : Int) + 1)) none).length ≤ 20 := by
      rw [str_len, show (some ((z : Int) + 1)) = some ((z + 1 : Nat) : Int) from rfl, slice_from, List.length_drop, ← str_len]; omega
    refine ⟨_, rfl, _, _, rfl, rfl, Nat.le_of_lt (small1000 (by rw [far_len]; omega)), _, rfl, _, rfl, Nat.le_of_lt (small1000 (by rw [cat_len, far_len]; omega)), ?_⟩
    refine ⟨_, rfl, _, rfl, _, rfl, wd, rfl, Nat.le_of_lt (small1000 (by omega)), _, rfl, _, _, rfl, rfl, Nat.le_of_lt (small1000 (by rw [one_len]; omega)), _, rfl, _, rfl, _, _, rfl, rfl, _, rfl, wd, rfl, Nat.le_of_lt (small1000 (by omega)), _, _, rfl, rfl, Nat.le_of_lt (small1000 (by rw [cat_len, one_len]; omega)), ?_⟩
    generalize Txt.slice (wd ++ farS) none (some 21) = fS at f1 f2 f3 ⊢
    generalize Txt.slice wd none (some (z : Int)) ++ ⟨#[c]⟩ ++ Txt.slice wd (some ((z : Int) + 1)) none = oS at o1 o2 o3 ⊢
    refine ⟨_, rfl, _, rfl, _, rfl, (by show 1 ≤ sizeLine; decide), fun q hq => ⟨_, rfl, (by show 1 ≤ sizeLine; decide), fun q2 hq2 => ?_⟩⟩
    have s1 : Same H (upd H q (.lst [.str wd])) := Same.upd_new hq
    have e1 : (upd H q (.lst [.str wd])) q = some (.lst [.str wd]) := upd_same
    generalize upd H q (.lst [.str wd]) = H1 at s1 e1 hq2 ⊢
    have s2 : Same H1 (upd H1 q2 (.tup [.str wd])) := Same.upd_new hq2
    have e2 : (upd H1 q2 (.tup [.str wd])) q2 = some (.tup [.str wd]) := upd_same
    have e12 := s2 _ _ e1
    generalize upd H1 q2 (.tup [.str wd]) = H2 at s2 e2 e12 ⊢
    intro d3 hd3
    have s3 : Same H2 (upd H2 d3 (.dK [])) := Same.upd_new hd3
    have e3 : (upd H2 d3 (.dK [])) d3 = some (.dK []) := upd_same
    have e13 := s3 _ _ e12
    have e23 := s3 _ _ e2
    generalize upd H2 d3 (.dK []) = H3 at s3 e3 e13 e23 ⊢
    refine ⟨(by show 9 ≤ sizeLine; decide), fun l hl => ?_⟩
    have s4 : Same H3 (upd H3 l (.lst [.str "", .str fS, .str oS, .non, .int 7, .bl true, .ref q, .ref q2, .ref d3])) := Same.upd_new hl
    have e4 : (upd H3 l (.lst [.str "", .str fS, .str oS, .non, .int 7, .bl true, .ref q, .ref q2, .ref d3])) l = some (.lst [.str "", .str fS, .str oS, .non, .int 7, .bl true, .ref q, .ref q2, .ref d3]) := upd_same
    generalize upd H3 l (.lst [.str "", .str fS, .str oS, .non, .int 7, .bl true, .ref q, .ref q2, .ref d3]) = H4 at s4 e4 ⊢
    obtain ⟨v, hv, hvm, _⟩ := atI_mod (xs := ([.str "", .str fS, .str oS, .non, .int 7, .bl true, .ref q, .ref q2, .ref d3] : List V)) n (by show 0 < 9; decide)
    refine ⟨_, rfl, _, _, rfl, rfl, (by show (0 : Int) < 9; decide), l, _, _, v, rfl, rfl, SqL.of e4, hv, ?_⟩
    have nb : ∃ d, DR H4 v d ∧ wordD d = false := by
      rcases List.mem_cons.mp hvm with rfl | hvm
      · exact ⟨_, .str (by decide +kernel) asc_empty, notW_nil⟩
      rcases List.mem_cons.mp hvm with rfl | hvm
      · exact ⟨_, .str f2 f3, f1⟩
      rcases List.mem_cons.mp hvm with rfl | hvm
      · exact ⟨_, .str o2 o3, o1⟩
      rcases List.mem_cons.mp hvm with rfl | hvm
      · exact ⟨_, .non, rfl⟩
      rcases List.mem_cons.mp hvm with rfl | hvm
      · exact ⟨_, .int 7, rfl⟩
      rcases List.mem_cons.mp hvm with rfl | hvm
      · exact ⟨_, .bl true, rfl⟩
      rcases List.mem_cons.mp hvm with rfl | hvm
      · exact ⟨_, .lst (s4 _ _ e13), rfl⟩
      rcases List.mem_cons.mp hvm with rfl | hvm
      · exact ⟨_, .tup (s4 _ _ e23) (.cons (.str (by omega) hw.asc) .nil), rfl⟩
      · cases List.mem_singleton.mp hvm
        exact ⟨_, .dct (s4 _ _ e3), rfl⟩
    obtain ⟨dv, dr4, hb⟩ := nb
    exact k v dv H4 dr4 hb (s1.trans (s2.trans (s3.trans s4)))
end
theorem mul_asc {x : Str} (n : Int) (h : Asc x) : Asc (Txt.mul x n) := fun c hc => h c (mul_mem hc)
theorem x_asc : Asc "x" := asc_of (by decide +kernel)
theorem y_asc : Asc "y" := asc_of (by decide +kernel)
theorem x_len : ("x" : Str).length = 1 := by decide +kernel
theorem y_len : ("y" : Str).length = 1 := by decide +kernel
theorem nl_a : Asc "\n" := asc_of (by decide +kernel)
theorem nl_l : ("\n" : Str).length = 1 := by decide +kernel
theorem cut_le (x : Str) (b : Nat) : (Txt.slice x none (some (b : Int))).length ≤ x.length := by
  rw [str_len, slice_to, List.length_take, ← str_len]; omega
theorem from_le (x : Str) (b : Nat) : (Txt.slice x (some (b : Int)) none).length ≤ x.length := by
  rw [str_len, slice_from, List.length_drop, ← str_len]; omega
theorem odd_long {x : Str} (h : 60 < x.length) : OddJ 1 (.str x) := by
  show (decide ((x.length : Int) ≤ 60) && lineD (.str x)) = false
  rw [decide_eq_false (by omega), Bool.false_and]
theorem odd_lined {x : Str} (h : 10 ∈ x.cps.toList) : OddJ 1 (.str x) := by
  show (textD 60 (.str x) && !decide (10 ∈ x.cps.toList)) = false
  rw [decide_eq_true h, Bool.not_true, Bool.and_false]
theorem far_title {t : Str} {m : Int} (ht : Asc t) (hl : t.length ≤ 60) (m0 : 0 ≤ m) (m3 : m < 3) : OddJ 1 (.str (Txt.slice (t ++ Txt.mul "x" 61) none (some 61) ++ Txt.mul "y" m)) ∧ (Txt.slice (t ++ Txt.mul "x" 61) none (some 61) ++ Txt.mul "y" m).length ≤ 1000 ∧ Asc (Txt.slice (t ++ Txt.mul "x" 61) none (some 61) ++ Txt.mul "y" m) := by
  have e : (Txt.slice (t ++ Txt.mul "x" 61) none (some 61)).length = 61 := by
    rw [str_len, show (some (61 : Int)) = some ((61 : Nat) : Int) from rfl, slice_to, List.length_take, ← str_len, cat_len, mul_len, x_len]
    show min 61 (t.length + 61 * 1) = 61
    omega
  have e2 : (Txt.mul "y" m).length ≤ 2 := by rw [mul_len, y_len]; omega
  exact ⟨odd_long (by rw [cat_len]; omega), by rw [cat_len]; omega, cat_asc (slice_asc (cat_asc ht (mul_asc _ x_asc)) _ _) (mul_asc _ y_asc)⟩
theorem lined_title {t : Str} (z : Nat) (ht : Asc t) (hl : t.length ≤ 60) : OddJ 1 (.str (Txt.slice (Txt.slice t none (some (z : Int))) none (some 59) ++ "\n" ++ Txt.slice (Txt.slice t (some (z : Int)) none) none (some 10))) ∧ (Txt.slice (Txt.slice t none (some (z : Int))) none (some 59) ++ "\n" ++ Txt.slice (Txt.slice t (some (z : Int)) none) none (some 10)).length ≤ 1000 ∧ Asc (Txt.slice (Txt.slice t none (some (z : Int))) none (some 59) ++ "\n" ++ Txt.slice (Txt.slice t (some (z : Int)) none) none (some 10)) := by
  have c1 := cut_le (Txt.slice t none (some (z : Int))) 59
  have c2 := cut_le t z
  have c3 := cut_le (Txt.slice t (some (z : Int)) none) 10
  have c4 := from_le t z
  refine ⟨odd_lined ?_, ?_, cat_asc (cat_asc (slice_asc (slice_asc ht _ _) _ _) nl_a) (slice_asc (slice_asc ht _ _) _ _)⟩
  · rw [cat_list, cat_list]
    exact List.mem_append.mpr (.inl (List.mem_append.mpr (.inr (by decide +kernel))))
  · rw [cat_len, cat_len, nl_l]
    have c1' : (Txt.slice (Txt.slice t none (some (z : Int))) none (some 59)).length ≤ _ := c1
    have c3' : (Txt.slice (Txt.slice t (some (z : Int)) none) none (some 10)).length ≤ _ := c3
    omega
inductive spOddTitle_I (vs : List V) (H : Hp) (Q : VK) : Prop
  | mk : ∀ (n : Int) (t : Str), vs = [.int n, .str t] → Asc t → t.length ≤ 60 → (∀ v d H', DR H' v d → OddJ 1 d → Same H H' → Q v H') → spOddTitle_I vs H Q
def spOddTitle : Sp := fun vs H Q _ => spOddTitle_I vs H Q
theorem ot_ps {X : Cx} {e1 e2 e5 e6 e8 : Expr} {t1 t2 t5 t6 t8 : TE} {n : Int} {j3 j4 : Nat} {p3 p4 p7 : Pos} (h1 : PE X e1 t1) (h2 : PE X e2 t2) (h5 : PE X e5 t5) (h6 : PE X e6 t6) (h8 : PE X e8 t8) (q1 : plainE e1 = true) (q2 : plainE e2 = true) (q5 : plainE e5 = true) (q6 : plainE e6 = true) (q8 : plainE e8 = true) :
    PAs X [e1, e2, .Constant .none j3 p3, .Constant (.int n) j4 p4, e5, e6, .Dict [] [] p7, e8] (tCons t1 (tCons t2 (tCons (tC .non) (tCons (tC (.int n)) (tCons t5 (tCons t6 (tCons tDNewK (tCons t8 tNil)))))))) := by
  refine pas_cons h1 ?_ q1
  refine pas_cons h2 ?_ q2
  refine pas_cons pe_non ?_
  refine pas_cons pe_int ?_
  refine pas_cons h5 ?_ q5
  refine pas_cons h6 ?_ q6
  refine pas_cons pe_dnewK ?_
  exact pas_cons h8 pas_nil q8
section
variable {P : Program} {w : World} {K : PySem.W.Frag} {mg : Str → Option Value} {base : Heap} {a : Adr}
theorem ok_oddtitle {fd : FuncData} (F : Fun K "_law_odd_title" "_law_odd_title" sl_odd_title a.f_l_odd_title fd) (T : Txt K mg a) : FnOk P w K mg base CX0 1 a.f_l_odd_title fd ["_law_number", "_law_title"] spOddTitle := by
  refine F.ok sc_l_odd_title (fun vs H Q E h => ?_) (fun cdv A outer s H vs Q E hr h => ?_)
  · obtain ⟨n, t, rfl, _⟩ := h; rfl
  · obtain ⟨n, t, rfl, ht, hl, k⟩ := h
    refine ⟨_, (pss_cons (ps_set (i := 2) sc_l_odd_title.nd rfl (Or.inl rfl) (pe_op op_mod (pe_op op_fdiv (pv 0) pe_int) (pe_op op_add (pe_callB call_len_str rfl T.b_len PySem.boot_len (pac (pv 1) pa_nil)) pe_int)))
        (pss_cons (ps_set (i := 3) sc_l_odd_title.nd rfl (Or.inl rfl) (pe_op op_add_str (pe_slice sl_str (pe_op op_add_str (pv 1) (pe_op op_mul_str pe_str pe_int)) po_none (po_some pe_int)) (pe_op op_mul_str pe_str (pe_op op_mod (pe_op op_fdiv (pv 0) pe_int) pe_int))))
        (pss_cons (ps_set (i := 4) sc_l_odd_title.nd rfl (Or.inl rfl) (pe_op op_add_str (pe_op op_add_str (pe_slice sl_str (pe_slice sl_str (pv 1) po_none (po_some (pv 2))) po_none (po_some pe_int)) pe_str) (pe_slice sl_str (pe_slice sl_str (pv 1) (po_some (pv 2)) po_none) po_none (po_some pe_int))))
        (sw_ret (se_ix ix_list (se_lst (ot_ps (pv 3) (pv 4) (pe_lstS pas_nil) (pe_tupS (pas_cons pe_str pas_nil)) (pe_lstS (pas_cons pe_str pas_nil)) rfl rfl rfl rfl rfl)) (pe_op op_mod (pv 0) pe_int) px_bin)).h))), ?_⟩
    refine ⟨_, rfl, _, _, rfl, rfl, ⟨by decide, by decide⟩, _, rfl, t, rfl, Nat.le_of_lt (small1000 (by omega)), _, _, rfl, rfl, _, _, rfl, rfl, (by omega), ?_⟩
    have z0 := Int.emod_nonneg (n / 4) (b := (t.length : Int) + 1) (by omega)
    generalize n / 4 % ((t.length : Int) + 1) = zz at z0 ⊢
    obtain ⟨z, rfl⟩ := Int.eq_ofNat_of_zero_le z0
    have m0 := Int.emod_nonneg (n / 64) (b := 3) (by decide)
    have m1 := Int.emod_lt_of_pos (n / 64) (b := 3) (by decide)
    obtain ⟨f1, f2, f3⟩ := far_title ht hl m0 m1
    obtain ⟨o1, o2, o3⟩ := lined_title z ht hl
    have lx : (Txt.mul "x" 61).length = 61 := by rw [mul_len, x_len]; rfl
    have ly : (Txt.mul "y" (n / 64 % 3)).length ≤ 2 := by rw [mul_len, y_len]; omega
    have l61 : (Txt.slice (t ++ Txt.mul "x" 61) none (some 61)).length ≤ 121 := by
      have := cut_le (t ++ Txt.mul "x" 61) 61
      rw [cat_len, lx] at this
      have : (Txt.slice (t ++ Txt.mul "x" 61) none (some 61)).length ≤ t.length + 61 := this
      omega
    refine ⟨_, rfl, _, _, rfl, rfl, (by rw [x_len]; decide), (by decide), (by decide), _, _, rfl, rfl, Nat.le_of_lt (small1000 (by omega)), _, rfl, _, rfl, Nat.le_of_lt (small1000 (by rw [cat_len]; omega)), _, rfl, _, _, rfl, rfl, ⟨by decide, by decide⟩, _, _, rfl, rfl, (by show (0 : Int) < 3; decide), _, _, rfl, rfl, (by rw [y_len]; decide), by omega, by omega, _, _, rfl, rfl, Nat.le_of_lt (small1000 (by omega)), ?_⟩
    have c1 := cut_le (Txt.slice t none (some (z : Int))) 59
    have c2 := cut_le t z
    have c3 := cut_le (Txt.slice t (some (z : Int)) none) 10
    have c4 := from_le t z
    have c1' : (Txt.slice (Txt.slice t none (some (z : Int))) none (some 59)).length ≤ _ := c1
    have c3' : (Txt.slice (Txt.slice t (some (z : Int)) none) none (some 10)).length ≤ _ := c3
    refine ⟨_, rfl, _, rfl, _, rfl, _, rfl, Nat.le_of_lt (small1000 (by omega)), _, rfl, _, rfl, Nat.le_of_lt (small1000 (by omega)), _, _, rfl, rfl, Nat.le_of_lt (small1000 (by rw [nl_l]; omega)), _, rfl, _, rfl, _, rfl, _, rfl, Nat.le_of_lt (small1000 (by omega)), _, rfl, _, rfl, Nat.le_of_lt (small1000 (by omega)), _, _, rfl, rfl, Nat.le_of_lt (small1000 (by rw [cat_len, nl_l]; omega)), ?_⟩
    generalize Txt.slice (t ++ Txt.mul "x" 61) none (some 61) ++ Txt.mul "y" (n / 64 % 3) = fS at f1 f2 f3 ⊢
    generalize Txt.slice (Txt.slice t none (some (z : Int))) none (some 59) ++ "\n" ++ Txt.slice (Txt.slice t (some (z : Int)) none) none (some 10) = oS at o1 o2 o3 ⊢
    refine ⟨_, rfl, _, rfl, Nat.zero_le _, fun q hq => ⟨(by show 1 ≤ sizeLine; decide), fun q2 hq2 => ?_⟩⟩
    have s1 : Same H (upd H q (.lst [])) := Same.upd_new hq
    have e1 : (upd H q (.lst [])) q = some (.lst []) := upd_same
    generalize upd H q (.lst []) = H1 at s1 e1 hq2 ⊢
    have s2 : Same H1 (upd H1 q2 (.tup [.str "x"])) := Same.upd_new hq2
    have e2 : (upd H1 q2 (.tup [.str "x"])) q2 = some (.tup [.str "x"]) := upd_same
    have e12 := s2 _ _ e1
    generalize upd H1 q2 (.tup [.str "x"]) = H2 at s2 e2 e12 ⊢
    intro d3 hd3
    have s3 : Same H2 (upd H2 d3 (.dK [])) := Same.upd_new hd3
    have e3 : (upd H2 d3 (.dK [])) d3 = some (.dK []) := upd_same
    have e13 := s3 _ _ e12
    have e23 := s3 _ _ e2
    generalize upd H2 d3 (.dK []) = H3 at s3 e3 e13 e23 ⊢
    refine ⟨(by show 1 ≤ sizeLine; decide), fun q5 hq5 => ⟨(by show 8 ≤ sizeLine; decide), fun l hl4 => ?_⟩⟩
    have s5 : Same H3 (upd H3 q5 (.lst [.str "x"])) := Same.upd_new hq5
    have e5 : (upd H3 q5 (.lst [.str "x"])) q5 = some (.lst [.str "x"]) := upd_same
    have e15 := s5 _ _ e13
    have e25 := s5 _ _ e23
    have e35 := s5 _ _ e3
    generalize upd H3 q5 (.lst [.str "x"]) = H5 at s5 e5 e15 e25 e35 hl4 ⊢
    have s4 : Same H5 (upd H5 l (.lst [.str fS, .str oS, .non, .int 5, .ref q, .ref q2, .ref d3, .ref q5])) := Same.upd_new hl4
    have e4 : (upd H5 l (.lst [.str fS, .str oS, .non, .int 5, .ref q, .ref q2, .ref d3, .ref q5])) l = some (.lst [.str fS, .str oS, .non, .int 5, .ref q, .ref q2, .ref d3, .ref q5]) := upd_same
    generalize upd H5 l (.lst [.str fS, .str oS, .non, .int 5, .ref q, .ref q2, .ref d3, .ref q5]) = H4 at s4 e4 ⊢
    obtain ⟨v, hv, hvm, _⟩ := atI_mod (xs := ([.str fS, .str oS, .non, .int 5, .ref q, .ref q2, .ref d3, .ref q5] : List V)) n (by show 0 < 8; decide)
    refine ⟨_, rfl, _, _, rfl, rfl, (by show (0 : Int) < 8; decide), l, _, _, v, rfl, rfl, SqL.of e4, hv, ?_⟩
    have nb : ∃ d, DR H4 v d ∧ OddJ 1 d := by
      rcases List.mem_cons.mp hvm with rfl | hvm
      · exact ⟨_, .str f2 f3, f1⟩
      rcases List.mem_cons.mp hvm with rfl | hvm
      · exact ⟨_, .str o2 o3, o1⟩
      rcases List.mem_cons.mp hvm with rfl | hvm
      · exact ⟨_, .non, rfl⟩
      rcases List.mem_cons.mp hvm with rfl | hvm
      · exact ⟨_, .int 5, rfl⟩
      rcases List.mem_cons.mp hvm with rfl | hvm
      · exact ⟨_, .lst (s4 _ _ e15), rfl⟩
      rcases List.mem_cons.mp hvm with rfl | hvm
      · exact ⟨_, .tup (s4 _ _ e25) (.cons (.str (by decide +kernel) x_asc) .nil), rfl⟩
      rcases List.mem_cons.mp hvm with rfl | hvm
      · exact ⟨_, .dct (s4 _ _ e35), rfl⟩
      · cases List.mem_singleton.mp hvm
        exact ⟨_, .lst (s4 _ _ e5), rfl⟩
    obtain ⟨dv, dr4, hb⟩ := nb
    exact k v dv H4 dr4 hb (s1.trans (s2.trans (s3.trans (s5.trans s4))))
end
theorem se_opR {X : Cx} {a b : Expr} {ta tb : TE} {op : Operator} {r : R2} {pos : Pos} (ho : OpR X (binaryOp op) r) (ha : PE X a ta) (hb : PEs X b tb) : PEs X (.BinOp a op b pos) (tOp r ta tb) := ⟨pe_op ho ha hb.h⟩
theorem bp_ps {X : Cx} {e1 e4 e5 e6 e8 : Expr} {t1 t4 t5 t6 t8 : TE} {n : Int} {j2 j3 : Nat} {p2 p3 p7 : Pos} (h1 : PE X e1 t1) (h4 : PE X e4 t4) (h5 : PE X e5 t5) (h6 : PE X e6 t6) (h8 : PE X e8 t8) (q1 : plainE e1 = true) (q4 : plainE e4 = true) (q5 : plainE e5 = true) (q6 : plainE e6 = true) (q8 : plainE e8 = true) :
    PAs X [e1, .Constant .none j2 p2, .Constant (.int n) j3 p3, e4, e5, e6, .Dict [] [] p7, e8] (tCons t1 (tCons (tC .non) (tCons (tC (.int n)) (tCons t4 (tCons t5 (tCons t6 (tCons tDNewK (tCons t8 tNil)))))))) := by
  refine pas_cons h1 ?_ q1
  refine pas_cons pe_non ?_
  refine pas_cons pe_int ?_
  refine pas_cons h4 ?_ q4
  refine pas_cons h5 ?_ q5
  refine pas_cons h6 ?_ q6
  refine pas_cons pe_dnewK ?_
  exact pas_cons h8 pas_nil q8
theorem dp_ps {X : Cx} {e1 e6 e7 e8 e9 e11 : Expr} {t1 t6 t7 t8 t9 t11 : TE} {n : Int} {b : Bool} {s : Str} {j2 j3 j4 j5 : Nat} {p2 p3 p4 p5 p10 : Pos} (h1 : PE X e1 t1) (h6 : PE X e6 t6) (h7 : PE X e7 t7) (h8 : PE X e8 t8) (h9 : PE X e9 t9) (h11 : PE X e11 t11) (q1 : plainE e1 = true) (q6 : plainE e6 = true) (q7 : plainE e7 = true) (q8 : plainE e8 = true) (q9 : plainE e9 = true) (q11 : plainE e11 = true) :
    PAs X [e1, .Constant (.int n) j2 p2, .Constant (.bool b) j3 p3, .Constant (.str s) j4 p4, .Constant .none j5 p5, e6, e7, e8, e9, .Dict [] [] p10, e11] (tCons t1 (tCons (tC (.int n)) (tCons (tC (.bl b)) (tCons (tC (.str s)) (tCons (tC .non) (tCons t6 (tCons t7 (tCons t8 (tCons t9 (tCons tDNewK (tCons t11 tNil))))))))))) := by
  refine pas_cons h1 ?_ q1
  refine pas_cons pe_int ?_
  refine pas_cons pe_bl ?_
  refine pas_cons pe_str ?_
  refine pas_cons pe_non ?_
  refine pas_cons h6 ?_ q6
  refine pas_cons h7 ?_ q7
  refine pas_cons h8 ?_ q8
  refine pas_cons h9 ?_ q9
  refine pas_cons pe_dnewK ?_
  exact pas_cons h11 pas_nil q11
inductive spOddParts_I (vs : List V) (H : Hp) (Q : VK) : Prop
  | mk : ∀ (n : Int) (p : Addr) (s t b : Str) (dy : Int) (an : Str), vs = [.int n, .ref p] → 0 ≤ n → H p = some (.tup (five (pV s t b dy an))) → Good s t b dy an → (∀ (q : Addr) (j : Nat) (v : V) (d : Dt) H', j < 5 → H' q = some (.tup (five (updN (pV s t b dy an) j v))) → DR H' v d → OddJ j d → Same H H' → Q (.ref q) H') → spOddParts_I vs H Q
def spOddParts : Sp := fun vs H Q _ => spOddParts_I vs H Q
theorem abc_word : WordS "abc" := ⟨by decide +kernel, by decide +kernel, by decide +kernel⟩
theorem sp_answ {d : Dt} (h : wordD d = false) (hn : d ≠ .str "") : answD d = false := by
  cases d with
  | str x =>
    show (isW x || decide (x = "")) = false
    rw [show isW x = false from h, decide_eq_false fun z => hn (by rw [z])]
    rfl
  | _ => rfl
theorem DR.xok {H : Hp} {v : V} {d : Dt} (r : DR H v d) : XOk H v := by
  cases r with
  | non => exact .non
  | bl b => exact .bl b
  | int i => exact .int i
  | str _ _ => exact .str _
  | lst e => exact .lst e
  | dct e => exact .dct e
  | tup e _ => exact .tup e
section
variable {P : Program} {w : World} {K : PySem.W.Frag} {mg : Str → Option Value} {base : Heap} {a : Adr}
theorem op6 (T : Txt K mg a) (FF : Funs K a) {cdv : Value} {A : Around} {outer : List Env} {s0 : Shared} {H : Hp} {Q : VK} {E : XK} {p : Addr} {s t b : Str} {dy : Int} {an : Str} (hr : Room 1 (A.deeper (PyProof.Rows.envOfC "_law_odd_parts" (defScope sl_odd_parts) s0.heap.objs.size a.f_l_odd_parts cdv)))
    (hp : H p = some (.tup (five (pV s t b dy an)))) (k : ∀ (q : Addr) (j : Nat) (v : V) (d : Dt) H', j < 5 → H' q = some (.tup (five (updN (pV s t b dy an) j v))) → DR H' v d → OddJ j d → Same H H' → Q (.ref q) H') :
    ∃ tt, PSs (cxOf CX0 P w K mg base n_l_odd_parts "_law_odd_parts" (defScope sl_odd_parts) a.f_l_odd_parts cdv A outer s0 H E).nox ((defBody sl_odd_parts).drop 6) tt ∧
      ∀ (m : Int) (o0 o2 o4 o5 o6 : Option V), tt { nx := fun _ H' => Q .non H', rt := Q } [o0, some (.ref p), o2, some (.int m), o4, o5, o6] H := by
  obtain ⟨fdW, F_l_odd_word, b_l_odd_word⟩ := FF.F_l_odd_word
  have G_l_odd_word : FnOk P w K mg base CX0 1 a.f_l_odd_word fdW ["_law_number", "_law_word_here"] spOddWord := ok_oddword F_l_odd_word T
  have hr_l_odd_word : Room 1 _ := hr
  have hu64 := hr.units
  refine ⟨_, (pss_cons (ps_set (i := 6) sc_l_odd_parts.nd rfl (Or.inl rfl) (pe_call G_l_odd_word hr_l_odd_word rfl T.m_l_odd_word F_l_odd_word.kp b_l_odd_word .nil pass0 (pac (pv 3) (pac pe_str pa_nil))))
        (pss_cons (ps_if (pt_cmpR (op_eqX hu64) (pv 6) pe_str (nomark _)) (pss_one (ps_set (i := 6) sc_l_odd_parts.nd rfl (Or.inl rfl) pe_str)) pss_nil)
        (pss_one (ps_ret (pe_op op_catA (pe_slice sl_tup (pv 1) po_none (po_some pe_int)) (pe_tupS (pas_cons (pv 6) pas_nil))))))), ?_⟩
  intro m o0 o2 o4 o5 o6
  refine ⟨_, rfl, m, "abc", rfl, abc_word, fun v d H1 r1 no s1 => ?_⟩
  have ep1 := s1 _ _ hp
  unfold gName
  dsimp only
  refine seq_open (t := tIfS _ _ _) fun N hN => ?_
  have fin : ∀ (v : V) (d : Dt), DR H1 v d → answD d = false → N [o0, some (.ref p), o2, some (.int m), o4, o5, some v] H1 := fun v d r no => by
    subst hN
    refine ⟨_, rfl, _, rfl, sl_to_go 4 ep1 (by show 4 < 5; decide) fun q2 H2 s2 e2 => ⟨_, rfl, (by show 1 ≤ sizeLine; decide), fun q3 hq3 => ?_⟩⟩
    have s3 : Same H2 (upd H2 q3 (.tup [v])) := Same.upd_new hq3
    have e3 : (upd H2 q3 (.tup [v])) q3 = some (.tup [v]) := upd_same
    have e23 := s3 _ _ e2
    generalize upd H2 q3 (.tup [v]) = H3 at s3 e3 e23 ⊢
    refine catA_go e23 e3 (by show 5 ≤ sizeLine; decide) fun q4 H4 s4 e4 => ?_
    have s14 := s2.trans (s3.trans s4)
    exact k q4 4 v d H4 (by decide) e4 (r.mono s14) no (s1.trans s14)
  refine ⟨_, rfl, r1.xok, .str "", _, rfl, ?_⟩
  cases hb : eqV v (.str "") with
  | true => exact iteT (fin (.str "a b") (.str "a b") (.str (by decide +kernel) (asc_of (by decide +kernel))) (by decide +kernel))
  | false =>
    refine iteF (fin v d r1 (sp_answ no fun z => ?_))
    cases r1 with
    | str _ _ => cases z; exact absurd hb (by decide +kernel)
    | _ => cases z
end
theorem z_asc : Asc "z" := asc_of (by decide +kernel)
theorem q_asc : Asc "q" := asc_of (by decide +kernel)
theorem z_len : ("z" : Str).length = 1 := by decide +kernel
theorem q_len : ("q" : Str).length = 1 := by decide +kernel
theorem odd_body {x : Str} (h : 400 < x.length) : OddJ 2 (.str x) := by
  show decide ((x.length : Int) ≤ 400) = false
  exact decide_eq_false (by omega)
theorem odd_day {i : Int} (h : i < 0 ∨ 9999 < i) : OddJ 3 (.int i) := by
  show (decide (0 ≤ i) && decide (i ≤ 9999)) = false
  rcases h with h | h
  · rw [decide_eq_false (by omega), Bool.false_and]
  · rw [decide_eq_false (show ¬ i ≤ 9999 by omega), Bool.and_false]
theorem far_body {b : Str} (hb : Asc b) (hl : b.length ≤ 400) : OddJ 2 (.str (Txt.slice (b ++ Txt.mul "z" 401) none (some 401))) ∧ (Txt.slice (b ++ Txt.mul "z" 401) none (some 401)).length ≤ 1000 ∧ Asc (Txt.slice (b ++ Txt.mul "z" 401) none (some 401)) := by
  have e : (Txt.slice (b ++ Txt.mul "z" 401) none (some 401)).length = 401 := by
    rw [str_len, show (some (401 : Int)) = some ((401 : Nat) : Int) from rfl, slice_to, List.length_take, ← str_len, cat_len, mul_len, z_len]
    show min 401 (b.length + 401 * 1) = 401
    omega
  exact ⟨odd_body (by omega), by omega, slice_asc (cat_asc hb (mul_asc _ z_asc)) _ _⟩
section
variable {P : Program} {w : World} {K : PySem.W.Frag} {mg : Str → Option Value} {base : Heap} {a : Adr}
theorem op5 (T : Txt K mg a) (FF : Funs K a) {cdv : Value} {A : Around} {outer : List Env} {s0 : Shared} {H : Hp} {Q : VK} {E : XK} {p : Addr} {s t b : Str} {dy : Int} {an : Str} (hr : Room 1 (A.deeper (PyProof.Rows.envOfC "_law_odd_parts" (defScope sl_odd_parts) s0.heap.objs.size a.f_l_odd_parts cdv)))
    (hp : H p = some (.tup (five (pV s t b dy an)))) (k : ∀ (q : Addr) (j : Nat) (v : V) (d : Dt) H', j < 5 → H' q = some (.tup (five (updN (pV s t b dy an) j v))) → DR H' v d → OddJ j d → Same H H' → Q (.ref q) H') :
    ∃ tt, PSs (cxOf CX0 P w K mg base n_l_odd_parts "_law_odd_parts" (defScope sl_odd_parts) a.f_l_odd_parts cdv A outer s0 H E).nox ((defBody sl_odd_parts).drop 5) tt ∧
      ∀ (n m : Int) (o0 o4 o5 o6 : Option V), 0 ≤ m → tt { nx := fun _ H' => Q .non H', rt := Q } [o0, some (.ref p), some (.int n), some (.int m), o4, o5, o6] H := by
  obtain ⟨t6, h6, sp6⟩ := op6 (P := P) (w := w) (base := base) (outer := outer) (E := E) T FF hr hp k
  refine ⟨_, (pss_cons (ps_ifW (pt_cmpR op_eq (pv 2) pe_int (nomark _)) ⟨pss_cons (ps_set (i := 5) sc_l_odd_parts.nd rfl (Or.inl rfl) (se_lst (dp_ps (pe_un un_neg pe_int) (pe_op op_sub (pe_un un_neg pe_int) (pe_op op_mod (pe_op op_fdiv (pv 3) pe_int) pe_int)) (pe_op op_add pe_int (pv 3)) (pe_lstS (pas_cons pe_int pas_nil)) (pe_tupS (pas_cons pe_int pas_nil)) (pe_lstS pas_nil) rfl rfl rfl rfl rfl rfl)).h)
        (sw_ret (se_op op_catA (se_opR op_catA (pe_slice sl_tup (pv 1) po_none (po_some pe_int)) (se_tup1 (se_ix ix_list ⟨pv 5⟩ (pe_op op_mod (pv 3) pe_int) px_bin) rfl)) (pe_slice sl_tup (pv 1) (po_some pe_int) po_none))).h⟩ pss_nil)
        h6), ?_⟩
  intro n m o0 o4 o5 o6 m0
  refine ⟨_, rfl, rfl, _, rfl, ite2 (fun _ => ?_) (fun _ => sp6 m _ _ _ _ _)⟩
  refine ⟨_, rfl, _, rfl, _, rfl, _, _, rfl, rfl, ⟨by decide, by decide⟩, _, _, rfl, rfl, (by show (0 : Int) < 999; decide), _, _, rfl, rfl, _, rfl, _, _, rfl, rfl, (by show 1 ≤ sizeLine; decide), fun q1 hq1 => ⟨(by show 1 ≤ sizeLine; decide), fun q2 hq2 => ?_⟩⟩
  have s1 : Same H (upd H q1 (.lst [.int 7])) := Same.upd_new hq1
  have e1 : (upd H q1 (.lst [.int 7])) q1 = some (.lst [.int 7]) := upd_same
  generalize upd H q1 (.lst [.int 7]) = H1 at s1 e1 hq2 ⊢
  have s2 : Same H1 (upd H1 q2 (.tup [.int 7])) := Same.upd_new hq2
  have e2 : (upd H1 q2 (.tup [.int 7])) q2 = some (.tup [.int 7]) := upd_same
  have e12 := s2 _ _ e1
  generalize upd H1 q2 (.tup [.int 7]) = H2 at s2 e2 e12 ⊢
  intro d3 hd3
  have s3 : Same H2 (upd H2 d3 (.dK [])) := Same.upd_new hd3
  have e3 : (upd H2 d3 (.dK [])) d3 = some (.dK []) := upd_same
  have e13 := s3 _ _ e12
  have e23 := s3 _ _ e2
  generalize upd H2 d3 (.dK []) = H3 at s3 e3 e13 e23 ⊢
  refine ⟨Nat.zero_le _, fun q4 hq4 => ⟨(by show 11 ≤ sizeLine; decide), fun l hl => ?_⟩⟩
  have s4 : Same H3 (upd H3 q4 (.lst [])) := Same.upd_new hq4
  have e4 : (upd H3 q4 (.lst [])) q4 = some (.lst []) := upd_same
  have e14 := s4 _ _ e13
  have e24 := s4 _ _ e23
  have e34 := s4 _ _ e3
  generalize upd H3 q4 (.lst []) = H4 at s4 e4 e14 e24 e34 hl ⊢
  have i0 := Int.emod_nonneg (m / 6) (b := 999) (by decide)
  generalize m / 6 % 999 = ii at i0 hl ⊢
  have sl : Same H4 (upd H4 l (.lst [.int (-1), .int 10000, .bl true, .str "7", .non, .int (-1 - ii), .int (10000 + m), .ref q1, .ref q2, .ref d3, .ref q4])) := Same.upd_new hl
  have el : (upd H4 l (.lst [.int (-1), .int 10000, .bl true, .str "7", .non, .int (-1 - ii), .int (10000 + m), .ref q1, .ref q2, .ref d3, .ref q4])) l = some (.lst [.int (-1), .int 10000, .bl true, .str "7", .non, .int (-1 - ii), .int (10000 + m), .ref q1, .ref q2, .ref d3, .ref q4]) := upd_same
  generalize upd H4 l (.lst [.int (-1), .int 10000, .bl true, .str "7", .non, .int (-1 - ii), .int (10000 + m), .ref q1, .ref q2, .ref d3, .ref q4]) = HL at sl el ⊢
  have s0L := s1.trans (s2.trans (s3.trans (s4.trans sl)))
  obtain ⟨v, hv, hvm, _⟩ := atI_mod (xs := ([.int (-1), .int 10000, .bl true, .str "7", .non, .int (-1 - ii), .int (10000 + m), .ref q1, .ref q2, .ref d3, .ref q4] : List V)) m (by show 0 < 11; decide)
  refine ⟨_, rfl, _, rfl, sl_to_go 3 (s0L _ _ hp) (by show 3 < 5; decide) fun q5 H5 s5 e5 => ?_⟩
  refine ⟨_, rfl, _, rfl, _, _, rfl, rfl, (by show (0 : Int) < 11; decide), l, _, _, v, rfl, rfl, SqL.of (s5 _ _ el), hv, (by show 1 ≤ sizeLine; decide), fun q6 hq6 => ?_⟩
  have s6 : Same H5 (upd H5 q6 (.tup [v])) := Same.upd_new hq6
  have e6 : (upd H5 q6 (.tup [v])) q6 = some (.tup [v]) := upd_same
  have e56 := s6 _ _ e5
  generalize upd H5 q6 (.tup [v]) = H6 at s6 e6 e56 ⊢
  refine catA_go e56 e6 (by show 4 ≤ sizeLine; decide) fun q7 H7 s7 e7 => ?_
  have nb : ∃ d, DR HL v d ∧ OddJ 3 d := by
    rcases List.mem_cons.mp hvm with rfl | hvm
    · exact ⟨_, .int (-1), odd_day (.inl (by decide))⟩
    rcases List.mem_cons.mp hvm with rfl | hvm
    · exact ⟨_, .int 10000, odd_day (.inr (by decide))⟩
    rcases List.mem_cons.mp hvm with rfl | hvm
    · exact ⟨_, .bl true, rfl⟩
    rcases List.mem_cons.mp hvm with rfl | hvm
    · exact ⟨_, .str (by decide +kernel) (asc_of (by decide +kernel)), rfl⟩
    rcases List.mem_cons.mp hvm with rfl | hvm
    · exact ⟨_, .non, rfl⟩
    rcases List.mem_cons.mp hvm with rfl | hvm
    · exact ⟨_, .int _, odd_day (.inl (by omega))⟩
    rcases List.mem_cons.mp hvm with rfl | hvm
    · exact ⟨_, .int _, odd_day (.inr (by omega))⟩
    rcases List.mem_cons.mp hvm with rfl | hvm
    · exact ⟨_, .lst (sl _ _ e14), rfl⟩
    rcases List.mem_cons.mp hvm with rfl | hvm
    · exact ⟨_, .tup (sl _ _ e24) (.cons (.int 7) .nil), rfl⟩
    rcases List.mem_cons.mp hvm with rfl | hvm
    · exact ⟨_, .dct (sl _ _ e34), rfl⟩
    · cases List.mem_singleton.mp hvm
      exact ⟨_, .lst (sl _ _ e4), rfl⟩
  obtain ⟨d, rd, od⟩ := nb
  have sL7 := s5.trans (s6.trans s7)
  refine ⟨_, rfl, _, rfl, sl_from_go 4 ((s0L.trans sL7) _ _ hp) (by decide) (by show 4 ≤ 5; decide) fun q8 H8 s8 e8 => ?_⟩
  refine catA_go (s8 _ _ e7) e8 (by show 5 ≤ sizeLine; decide) fun q9 H9 s9 e9 => ?_
  have sL9 := sL7.trans (s8.trans s9)
  exact k q9 3 v d H9 (by decide) e9 (rd.mono sL9) od (s0L.trans sL9)
theorem op4 (T : Txt K mg a) (FF : Funs K a) {cdv : Value} {A : Around} {outer : List Env} {s0 : Shared} {H : Hp} {Q : VK} {E : XK} {p : Addr} {s t b : Str} {dy : Int} {an : Str} (hr : Room 1 (A.deeper (PyProof.Rows.envOfC "_law_odd_parts" (defScope sl_odd_parts) s0.heap.objs.size a.f_l_odd_parts cdv)))
    (g : Good s t b dy an) (hp : H p = some (.tup (five (pV s t b dy an)))) (k : ∀ (q : Addr) (j : Nat) (v : V) (d : Dt) H', j < 5 → H' q = some (.tup (five (updN (pV s t b dy an) j v))) → DR H' v d → OddJ j d → Same H H' → Q (.ref q) H') :
    ∃ tt, PSs (cxOf CX0 P w K mg base n_l_odd_parts "_law_odd_parts" (defScope sl_odd_parts) a.f_l_odd_parts cdv A outer s0 H E).nox ((defBody sl_odd_parts).drop 4) tt ∧
      ∀ (n m : Int) (o0 o4 o5 o6 : Option V), 0 ≤ m → tt { nx := fun _ H' => Q .non H', rt := Q } [o0, some (.ref p), some (.int n), some (.int m), o4, o5, o6] H := by
  obtain ⟨t5, h5, sp5⟩ := op5 (P := P) (w := w) (base := base) (outer := outer) (E := E) T FF hr hp k
  refine ⟨_, (pss_cons (ps_ifW (pt_cmpR op_eq (pv 2) pe_int (nomark _)) ⟨pss_cons (ps_set (i := 4) sc_l_odd_parts.nd rfl (Or.inl rfl) (pe_slice sl_str (pe_op op_add_str (pe_ix ix_tup (pv 1) pe_int px_int) (pe_op op_mul_str pe_str pe_int)) po_none (po_some pe_int)))
        (sw_ret (se_op op_catA (se_opR op_catA (pe_slice sl_tup (pv 1) po_none (po_some pe_int)) (se_tup1 (se_ix ix_list (se_lst (bp_ps (pv 4) (pe_op op_mul_str pe_str pe_int) (pe_lstS pas_nil) (pe_tupS (pas_cons pe_str pas_nil)) (pe_lstS (pas_cons pe_str pas_nil)) rfl rfl rfl rfl rfl)) (pe_op op_mod (pv 3) pe_int) px_bin) rfl)) (pe_slice sl_tup (pv 1) (po_some pe_int) po_none))).h⟩ pss_nil)
        h5), ?_⟩
  intro n m o0 o4 o5 o6 m0
  refine ⟨_, rfl, rfl, _, rfl, ite2 (fun _ => ?_) (fun _ => sp5 n m _ _ _ _ m0)⟩
  obtain ⟨f1, f2, f3⟩ := far_body g.b_ g.bl
  have gl := g.bl
  have lz : (Txt.mul "z" 401).length = 401 := by rw [mul_len, z_len]; rfl
  have lq : (Txt.mul "q" 500).length = 500 := by rw [mul_len, q_len]; rfl
  have aq : Asc (Txt.mul "q" 500) := mul_asc _ q_asc
  refine ⟨_, rfl, p, _, _, _, rfl, rfl, SqT.of hp, five_at (k := 2) (by decide), _, _, rfl, rfl, (by rw [z_len]; decide), (by decide), (by decide), b, _, rfl, rfl, Nat.le_of_lt (small1000 (by omega)), _, rfl, _, rfl, Nat.le_of_lt (small1000 (by rw [cat_len]; omega)), ?_⟩
  generalize Txt.slice (b ++ Txt.mul "z" 401) none (some 401) = fS at f1 f2 f3 ⊢
  refine ⟨_, rfl, _, rfl, sl_to_go 2 hp (by show 2 < 5; decide) fun q1 H1 s1 e1 => ?_⟩
  refine ⟨_, rfl, _, _, rfl, rfl, (by rw [q_len]; decide), (by decide), (by decide), Nat.zero_le _, fun q2 hq2 => ⟨(by show 1 ≤ sizeLine; decide), fun q3 hq3 => ?_⟩⟩
  generalize Txt.mul "q" 500 = qS at lq aq ⊢
  have s2 : Same H1 (upd H1 q2 (.lst [])) := Same.upd_new hq2
  have e2 : (upd H1 q2 (.lst [])) q2 = some (.lst []) := upd_same
  generalize upd H1 q2 (.lst []) = H2 at s2 e2 hq3 ⊢
  have s3 : Same H2 (upd H2 q3 (.tup [.str "x"])) := Same.upd_new hq3
  have e3 : (upd H2 q3 (.tup [.str "x"])) q3 = some (.tup [.str "x"]) := upd_same
  have e23 := s3 _ _ e2
  generalize upd H2 q3 (.tup [.str "x"]) = H3 at s3 e3 e23 ⊢
  intro d4 hd4
  have s4 : Same H3 (upd H3 d4 (.dK [])) := Same.upd_new hd4
  have e4 : (upd H3 d4 (.dK [])) d4 = some (.dK []) := upd_same
  have e24 := s4 _ _ e23
  have e34 := s4 _ _ e3
  generalize upd H3 d4 (.dK []) = H4 at s4 e4 e24 e34 ⊢
  refine ⟨(by show 1 ≤ sizeLine; decide), fun q5 hq5 => ⟨(by show 8 ≤ sizeLine; decide), fun l hl => ?_⟩⟩
  have s5 : Same H4 (upd H4 q5 (.lst [.str "x"])) := Same.upd_new hq5
  have e5 : (upd H4 q5 (.lst [.str "x"])) q5 = some (.lst [.str "x"]) := upd_same
  have e25 := s5 _ _ e24
  have e35 := s5 _ _ e34
  have e45 := s5 _ _ e4
  generalize upd H4 q5 (.lst [.str "x"]) = H5 at s5 e5 e25 e35 e45 hl ⊢
  have sl : Same H5 (upd H5 l (.lst [.str fS, .non, .int 9, .str qS, .ref q2, .ref q3, .ref d4, .ref q5])) := Same.upd_new hl
  have el : (upd H5 l (.lst [.str fS, .non, .int 9, .str qS, .ref q2, .ref q3, .ref d4, .ref q5])) l = some (.lst [.str fS, .non, .int 9, .str qS, .ref q2, .ref q3, .ref d4, .ref q5]) := upd_same
  generalize upd H5 l (.lst [.str fS, .non, .int 9, .str qS, .ref q2, .ref q3, .ref d4, .ref q5]) = HL at sl el ⊢
  have s1L := s2.trans (s3.trans (s4.trans (s5.trans sl)))
  obtain ⟨v, hv, hvm, _⟩ := atI_mod (xs := ([.str fS, .non, .int 9, .str qS, .ref q2, .ref q3, .ref d4, .ref q5] : List V)) m (by show 0 < 8; decide)
  refine ⟨_, rfl, _, _, rfl, rfl, (by show (0 : Int) < 8; decide), l, _, _, v, rfl, rfl, SqL.of el, hv, (by show 1 ≤ sizeLine; decide), fun q6 hq6 => ?_⟩
  have nb : ∃ d, DR HL v d ∧ OddJ 2 d := by
    rcases List.mem_cons.mp hvm with rfl | hvm
    · exact ⟨_, .str f2 f3, f1⟩
    rcases List.mem_cons.mp hvm with rfl | hvm
    · exact ⟨_, .non, rfl⟩
    rcases List.mem_cons.mp hvm with rfl | hvm
    · exact ⟨_, .int 9, rfl⟩
    rcases List.mem_cons.mp hvm with rfl | hvm
    · exact ⟨_, .str (by omega) aq, odd_body (by omega)⟩
    rcases List.mem_cons.mp hvm with rfl | hvm
    · exact ⟨_, .lst (sl _ _ e25), rfl⟩
    rcases List.mem_cons.mp hvm with rfl | hvm
    · exact ⟨_, .tup (sl _ _ e35) (.cons (.str (by decide +kernel) x_asc) .nil), rfl⟩
    rcases List.mem_cons.mp hvm with rfl | hvm
    · exact ⟨_, .dct (sl _ _ e45), rfl⟩
    · cases List.mem_singleton.mp hvm
      exact ⟨_, .lst (sl _ _ e5), rfl⟩
  obtain ⟨d, rd, od⟩ := nb
  have s6 : Same HL (upd HL q6 (.tup [v])) := Same.upd_new hq6
  have e6 : (upd HL q6 (.tup [v])) q6 = some (.tup [v]) := upd_same
  have e16 := s6 _ _ (s1L _ _ e1)
  generalize upd HL q6 (.tup [v]) = H6 at s6 e6 e16 ⊢
  refine catA_go e16 e6 (by show 3 ≤ sizeLine; decide) fun q7 H7 s7 e7 => ?_
  have sL7 := s6.trans s7
  have s07 := s1.trans (s1L.trans sL7)
  refine ⟨_, rfl, _, rfl, sl_from_go 3 (s07 _ _ hp) (by decide) (by show 3 ≤ 5; decide) fun q8 H8 s8 e8 => ?_⟩
  refine catA_go (s8 _ _ e7) e8 (by show 5 ≤ sizeLine; decide) fun q9 H9 s9 e9 => ?_
  have s79 := s8.trans s9
  exact k q9 2 v d H9 (by decide) e9 (rd.mono (sL7.trans s79)) od (s07.trans s79)
end
section
variable {P : Program} {w : World} {K : PySem.W.Frag} {mg : Str → Option Value} {base : Heap} {a : Adr}
theorem ok_oddparts {fd : FuncData} (F : Fun K "_law_odd_parts" "_law_odd_parts" sl_odd_parts a.f_l_odd_parts fd) (T : Txt K mg a) (FF : Funs K a) : FnOk P w K mg base CX0 2 a.f_l_odd_parts fd ["_law_number", "_law_parts_here"] spOddParts := by
  obtain ⟨fdW, F_l_odd_word, b_l_odd_word⟩ := FF.F_l_odd_word
  obtain ⟨fdT, F_l_odd_title, b_l_odd_title⟩ := FF.F_l_odd_title
  have G_l_odd_word : FnOk P w K mg base CX0 1 a.f_l_odd_word fdW ["_law_number", "_law_word_here"] spOddWord := ok_oddword F_l_odd_word T
  have G_l_odd_title : FnOk P w K mg base CX0 1 a.f_l_odd_title fdT ["_law_number", "_law_title"] spOddTitle := ok_oddtitle F_l_odd_title T
  refine F.ok sc_l_odd_parts (fun vs H Q E h => ?_) (fun cdv A outer s0 H vs Q E hr h => ?_)
  · obtain ⟨n, p, s, t, b, dy, an, rfl, _⟩ := h; rfl
  · obtain ⟨n, p, s, t, b, dy, an, rfl, n0, hp, g, k⟩ := h
    obtain ⟨t4, h4, sp4⟩ := op4 (P := P) (w := w) (base := base) (outer := outer) (E := E) T FF hr g hp k
    have hr_l_odd_word : Room 1 _ := hr
    have hr_l_odd_title : Room 1 _ := hr
    refine ⟨_, (pss_cons (ps_set (i := 2) sc_l_odd_parts.nd rfl (Or.inl rfl) (pe_op op_mod (pv 0) pe_int))
        (pss_cons (ps_set (i := 3) sc_l_odd_parts.nd rfl (Or.inl rfl) (pe_op op_fdiv (pv 0) pe_int))
        (pss_cons (ps_ifW (pt_cmpR op_eq (pv 2) pe_int (nomark _)) (sw_ret (se_op op_catA (se_tup1 ⟨pe_call G_l_odd_word hr_l_odd_word rfl T.m_l_odd_word F_l_odd_word.kp b_l_odd_word .nil pass0 (pac (pv 3) (pac (pe_ix ix_tup (pv 1) pe_int px_int) pa_nil))⟩ rfl) (pe_slice sl_tup (pv 1) (po_some pe_int) po_none))) pss_nil)
        (pss_cons (ps_ifW (pt_cmpR op_eq (pv 2) pe_int (nomark _)) (sw_ret (se_op op_catA (se_opR op_catA (pe_slice sl_tup (pv 1) po_none (po_some pe_int)) (se_tup1 ⟨pe_call G_l_odd_title hr_l_odd_title rfl T.m_l_odd_title F_l_odd_title.kp b_l_odd_title .nil pass0 (pac (pv 3) (pac (pe_ix ix_tup (pv 1) pe_int px_int) pa_nil))⟩ rfl)) (pe_slice sl_tup (pv 1) (po_some pe_int) po_none))) pss_nil)
        h4)))), ?_⟩
    have m0 : 0 ≤ n / 5 := Int.ediv_nonneg n0 (by decide)
    refine ⟨_, rfl, _, _, rfl, rfl, (by show (0 : Int) < 5; decide), ?_⟩
    refine ⟨_, rfl, _, _, rfl, rfl, ⟨by decide, by decide⟩, ?_⟩
    refine ⟨_, rfl, rfl, _, rfl, ite2 (fun _ => ?_) (fun _ => ⟨_, rfl, rfl, _, rfl, ite2 (fun _ => ?_) (fun _ => sp4 (n % 5) (n / 5) _ _ _ _ m0)⟩)⟩
    · refine ⟨_, rfl, _, rfl, p, _, _, _, rfl, rfl, SqT.of hp, five_at (k := 0) (by decide), n / 5, s, rfl, g.s_, fun v d H1 r1 no s1 => ⟨(by show 1 ≤ sizeLine; decide), fun q2 hq2 => ?_⟩⟩
      have s2 : Same H1 (upd H1 q2 (.tup [v])) := Same.upd_new hq2
      have e2 : (upd H1 q2 (.tup [v])) q2 = some (.tup [v]) := upd_same
      generalize upd H1 q2 (.tup [v]) = H2 at s2 e2 ⊢
      refine ⟨_, rfl, _, rfl, sl_from_go 1 ((s1.trans s2) _ _ hp) (by decide) (by show 1 ≤ 5; decide) fun q3 H3 s3 e3 => ?_⟩
      refine catA_go (s3 _ _ e2) e3 (by show 5 ≤ sizeLine; decide) fun q4 H4 s4 e4 => ?_
      have s14 := s2.trans (s3.trans s4)
      exact k q4 0 v d H4 (by decide) e4 (r1.mono s14) no (s1.trans s14)
    · refine ⟨_, rfl, _, rfl, sl_to_go 1 hp (by show 1 < 5; decide) fun q1 H1 s1 e1 => ?_⟩
      refine ⟨_, rfl, _, rfl, p, _, _, _, rfl, rfl, SqT.of (s1 _ _ hp), five_at (k := 1) (by decide), n / 5, t, rfl, g.t_, g.tl, fun v d H2 r2 no s2 => ⟨(by show 1 ≤ sizeLine; decide), fun q3 hq3 => ?_⟩⟩
      have s3 : Same H2 (upd H2 q3 (.tup [v])) := Same.upd_new hq3
      have e3 : (upd H2 q3 (.tup [v])) q3 = some (.tup [v]) := upd_same
      have e13 := s3 _ _ (s2 _ _ e1)
      generalize upd H2 q3 (.tup [v]) = H3 at s3 e3 e13 ⊢
      refine catA_go e13 e3 (by show 2 ≤ sizeLine; decide) fun q4 H4 s4 e4 => ?_
      have s04 := s1.trans (s2.trans (s3.trans s4))
      refine ⟨_, rfl, _, rfl, sl_from_go 2 (s04 _ _ hp) (by decide) (by show 2 ≤ 5; decide) fun q5 H5 s5 e5 => ?_⟩
      refine catA_go (s5 _ _ e4) e5 (by show 5 ≤ sizeLine; decide) fun q6 H6 s6 e6 => ?_
      have s26 := s3.trans (s4.trans (s5.trans s6))
      exact k q6 1 v d H6 (by decide) e6 (r2.mono s26) no (s1.trans (s2.trans s26))
end
inductive spRefused_I (vs : List V) (H : Hp) (Q : VK) : Prop
  | mk : ∀ (v : V) (d : Dt) (wy : Int), vs = [v, .int wy] → DR H v d → (wy = 0 → ∃ (q : Addr) (f : Nat → V) (g : Nat → Dt), v = .ref q ∧ H q = some (.tup (five f)) ∧ d = .tup (five g) ∧ DRf H f g) → (∀ H', Same H H' → Q (.bl (!partsD d)) H') → spRefused_I vs H Q
def spRefused : Sp := fun vs H Q _ => spRefused_I vs H Q
section
variable {P : Program} {w : World} {K : PySem.W.Frag} {mg : Str → Option Value} {base : Heap} {a : Adr}
theorem ok_refused {fd : FuncData} (F : Fun K "_law_refused" "_law_refused" sl_refused a.f_l_refused fd) (T : Txt K mg a) (FF : Funs K a) : FnOk P w K mg base CX0 8 a.f_l_refused fd ["_law_parts_here", "_law_way"] spRefused := by
  obtain ⟨fdI, F_Letter_init, b_Letter_init, _⟩ := FF.F_Letter_init
  have G_Letter_init : FnOk P w K mg base (CXF P w) 5 a.f_Letter_init fdI ["self", "sender", "title", "body", "day", "answers"] (spInitD a) := ok_initD F_Letter_init T FF
  obtain ⟨fdL, F_letter_of, b_letter_of⟩ := FF.F_letter_of
  have G_letter_of : FnOk P w K mg base (CXF P w) 7 a.f_letter_of fdL ["thing"] (spLetD a) := ok_letD F_letter_of T FF
  obtain ⟨fdO, F_l_one, b_l_one⟩ := FF.F_l_of_one_class
  have G_l_one : FnOkU P w K mg base 1 a.f_l_of_one_class fdO ["_law_e"] (spOneClass a) := ok_oneclass F_l_one T
  refine F.ok sc_l_refused (fun vs H Q E h => ?_) (fun cdv A outer s H vs Q E hr h => ?_)
  · obtain ⟨v, d, wy, rfl, _⟩ := h; rfl
  · obtain ⟨v, d, wy, rfl, r, hw, k⟩ := h
    have hr7 : Room 7 _ := hr
    have hr6 : Room 6 _ := hr.mono (by decide)
    refine ⟨_, (pss_cons (ps_tryAs (i := 2) (R := fun σ c _ H' => c = .ref a.C_NoLetter ∧ σ = L2.start n_l_refused [v, .int wy] ∧ partsD d = false ∧ Same H H') rfl T.mx_MailError T.x_MailError rfl rfl rfl sc_l_refused.nd rfl rfl (fun σ C H' q => by obtain ⟨e, _⟩ := q; cases e; exact ⟨T.x_NoLetter, T.s_NoLetter_MailError⟩)
        (fun pn => pss_one (ps_if (pt_cmpR op_eq (pv 1) pe_int (nomark _))
          (pss_one (ps_expr (pe_makeX (R := fun σ c _ H' => c = .ref a.C_NoLetter ∧ σ = L2.start n_l_refused [v, .int wy] ∧ partsD d = false ∧ Same H H') T.k_Letter G_Letter_init hr6 rfl T.mc_Letter b_Letter_init .nil passT (pac (pe_ix (ix_tupK K) (pv 0) pe_int px_int) (pac (pe_ix (ix_tupK K) (pv 0) pe_int px_int) (pac (pe_ix (ix_tupK K) (pv 0) pe_int px_int) (pac (pe_ix (ix_tupK K) (pv 0) pe_int px_int) (pac (pe_ix (ix_tupK K) (pv 0) pe_int px_int) pa_nil))))))))
          (pss_one (ps_expr (pe_callX (R := fun σ c _ H' => c = .ref a.C_NoLetter ∧ σ = L2.start n_l_refused [v, .int wy] ∧ partsD d = false ∧ Same H H') G_letter_of hr7 rfl T.m_letter_of F_letter_of.kp b_letter_of .nil passT (pac (pv 0) pa_nil))))))
        (fun ev => pss_one (ps_ret (pe_and (pe_callB (call_isexcK K) rfl T.b_isinstance PyProof.Rows.boot_isinstance (pac (pv 2) (pac (pe_gl (v := .ref a.C_NoLetter) rfl ⟨_, T.mx_NoLetter, rfl⟩) pa_nil))) (pe_one (pe_callU (E := E) G_l_one ((hr.mono (by decide)).toU.mark _) rfl T.m_l_of_one_class F_l_one.kp b_l_one .nil (pac (pv 2) pa_nil)))))))
        (pss_one (ps_ret pe_bl))), ?_⟩
    have kb : partsD d = false → ∀ H', Same H H' → Q (.bl true) H' := fun hb H' sH => by have := k H' sH; rw [hb] at this; exact this
    have kg : partsD d = true → ∀ H', Same H H' → Q (.bl false) H' := fun hb H' sH => by have := k H' sH; rw [hb] at this; exact this
    refine ⟨fun σ' C H' e hq he => ?_, ?_⟩
    · obtain ⟨hC, rfl, hb, sH⟩ := hq
      cases hC
      exact ⟨_, rfl, e, _, _, _, _, rfl, upd_same, T.xg_NoLetter, rfl, T.ki_NoLetter_NoLetter, _, rfl, iteT ⟨_, rfl, e, rfl, upd_same, fun H2 s2 => kb hb _ (sH.trans ((Same.upd_new he).trans s2))⟩⟩
    · refine ⟨_, rfl, rfl, _, rfl, ite2 (fun h0 => ?_) (fun _ => ?_)⟩
      · obtain ⟨q, f, g, rfl, e, rfl, df⟩ := hw (V.int.inj (of_decide_eq_true h0))
        refine ⟨_, rfl, q, _, _, _, rfl, rfl, SqT.of e, five_at (k := 0) (by decide), _, rfl, q, _, _, _, rfl, rfl, SqT.of e, five_at (k := 1) (by decide), _, rfl, q, _, _, _, rfl, rfl, SqT.of e, five_at (k := 2) (by decide), _, rfl, q, _, _, _, rfl, rfl, SqT.of e, five_at (k := 3) (by decide), _, rfl, q, _, _, _, rfl, rfl, SqT.of e, five_at (k := 4) (by decide), ?_⟩
        intro x dx nx nd ne
        have s1 : Same H (upd (upd H dx (.own x)) x (.ins a.C_Letter dx [])) := fun c o e => by rw [upd_ne (ne_of_none e nx), upd_ne (ne_of_none e nd)]; exact e
        have dg := df.mono s1
        exact ⟨x, dx, f 0, f 1, f 2, f 3, f 4, g 0, g 1, g 2, g 3, g 4, rfl, upd_same, dg 0 (by decide), dg 1 (by decide), dg 2 (by decide), dg 3 (by decide), dg 4 (by decide), fun hg H2 k2 _ => ⟨rfl, kg hg _ fun c o e => k2 c o (ne_of_none e nx) (s1 _ _ e)⟩, fun hb H2 s2 => ⟨rfl, rfl, hb, s1.trans s2⟩⟩
      · exact ⟨_, rfl, v, d, rfl, r, fun hg p x dx v1 v2 v3 v4 v5 H' _ _ sH _ => kg hg _ sH, fun hb H' sH => ⟨rfl, rfl, hb, sH⟩⟩
end
theorem shaped_parts {s t b : Str} {d : Int} {an : Str} (g : Good s t b d an) : SeqAt.shaped (.tuple [.str s, .str t, .str b, .int d, .str an]) = true := by
  simp [SeqAt.shaped, PyData.canLay0, PyData.canLayAll0, PyData.depth, PyData.depthAll, g.s_.asc.ok, g.t_.ok, g.b_.ok, g.an.1.ok]
theorem ref_go {H : Hp} {v : V} {d : Dt} {wy : Int} {b : Bool} {Q : VK} {E : XK} (r : DR H v d) (hw : wy = 0 → ∃ (q : Addr) (f : Nat → V) (g : Nat → Dt), v = .ref q ∧ H q = some (.tup (five f)) ∧ d = .tup (five g) ∧ DRf H f g) (e : (!partsD d) = b) (k : ∀ H', Same H H' → Q (.bl b) H') : spRefused [v, .int wy] H Q E := by subst e; exact ⟨v, d, wy, rfl, r, hw, k⟩
theorem pV_refl {s t b : Str} {dy : Int} {an : Str} {k : Nat} (h : k < 5) : eqV (pV s t b dy an k) (pV s t b dy an k) = true := by
  match k, h with
  | 0, _ => exact beq_self_eq_true s
  | 1, _ => exact beq_self_eq_true t
  | 2, _ => exact beq_self_eq_true b
  | 3, _ => exact beq_self_eq_true dy
  | 4, _ => exact beq_self_eq_true an
theorem pV_y {s t b : Str} {dy : Int} {an : Str} {k : Nat} (h : k < 5) : YOk (pV s t b dy an k) := by
  match k, h with
  | 0, _ => exact .str s
  | 1, _ => exact .str t
  | 2, _ => exact .str b
  | 3, _ => exact .int dy
  | 4, _ => exact .str an
theorem updN_at {α : Type} {f : Nat → α} {j : Nat} {v : α} : updN f j v j = v := if_pos rfl
theorem updN_ne {α : Type} {f : Nat → α} {j k : Nat} {v : α} (h : k ≠ j) : updN f j v k = f k := if_neg h
def mgd (f p x : Nat → V) : Nat → V := fun k => if eqV (f k) (p k) = true then x k else f k
def mgi (i : Nat) (f p x : Nat → V) : Nat → V := fun k => if k < i then mgd f p x k else f k
theorem merged {H : Hp} {s t b : Str} {dy : Int} {an : Str} {j j' : Nat} {v v' : V} {d d' : Dt} (g : Good s t b dy an) (hj : j < 5) (hj' : j' < 5) (r : DR H v d) (r' : DR H v' d') (o : OddJ j d) (o' : OddJ j' d') :
    ∃ g', DRf H (mgd (updN (pV s t b dy an) j v) (pV s t b dy an) (updN (pV s t b dy an) j' v')) g' ∧ partsD (.tup (five g')) = false := by
  have dx : DRf H (updN (pV s t b dy an) j' v') (updN (pD s t b dy an) j' d') := (g.dr H).upd r'
  by_cases e : eqV v (pV s t b dy an j) = true
  · refine ⟨_, fun k hk => ?_, o'.no (g := pD s t b dy an) hj'⟩
    have : mgd (updN (pV s t b dy an) j v) (pV s t b dy an) (updN (pV s t b dy an) j' v') k = updN (pV s t b dy an) j' v' k := by
      refine if_pos ?_
      by_cases h : k = j
      · subst h; rw [updN_at]; exact e
      · rw [updN_ne h]; exact pV_refl hk
    rw [this]; exact dx k hk
  · refine ⟨_, fun k hk => ?_, o.no (g := updN (pD s t b dy an) j' d') hj⟩
    by_cases h : k = j
    · subst h
      rw [show mgd (updN (pV s t b dy an) k v) (pV s t b dy an) (updN (pV s t b dy an) j' v') k = v by
        unfold mgd; rw [updN_at, if_neg e], updN_at]
      exact r
    · rw [show mgd (updN (pV s t b dy an) j v) (pV s t b dy an) (updN (pV s t b dy an) j' v') k = updN (pV s t b dy an) j' v' k by
        unfold mgd; rw [updN_ne h, if_pos (pV_refl hk)], updN_ne h]
      exact dx k hk
theorem mgi_on {f p x : Nat → V} {i : Nat} (hi : i < 5) (e : eqV (f i) (p i) = true) : five (updN (mgi i f p x) i (x i)) = five (mgi (i + 1) f p x) := five_congr fun k hk => by
  unfold mgi
  by_cases h : k = i
  · subst h; rw [updN_at, if_pos (by omega)]; exact (if_pos e).symm
  · rw [updN_ne h]
    by_cases h2 : k < i
    · rw [if_pos h2, if_pos (by omega)]
    · rw [if_neg h2, if_neg (by omega)]
theorem mgi_off {f p x : Nat → V} {i : Nat} (hi : i < 5) (e : eqV (f i) (p i) = false) : five (mgi i f p x) = five (mgi (i + 1) f p x) := five_congr fun k hk => by
  unfold mgi
  by_cases h : k = i
  · subst h
    rw [if_neg (by omega), if_pos (by omega)]
    unfold mgd
    rw [e]
    rfl
  · by_cases h2 : k < i
    · rw [if_pos h2, if_pos (by omega)]
    · rw [if_neg h2, if_neg (by omega)]
theorem mgi_0 {f p x : Nat → V} : five (mgi 0 f p x) = five f := five_congr fun k hk => if_neg (by omega)
theorem mgi_5 {f p x : Nat → V} : five (mgi 5 f p x) = five (mgd f p x) := five_congr fun k hk => if_pos hk
theorem ix_i {f : Nat → V} {i : Nat} (h : i < 5) : ixN (five f).length (0 + (i : Int)) = some i := by
  rw [Int.zero_add, show (five f).length = 5 from rfl]
  match i, h with
  | 0, _ => rfl
  | 1, _ => rfl
  | 2, _ => rfl
  | 3, _ => rfl
  | 4, _ => rfl
structure LH (H : Hp) (D p : Addr) (rs : List Int) (s t b : Str) (dy : Int) (an : Str) : Prop where
  hD : H D = some (.lst (rs.map V.int))
  hl : rs.length = 16
  hb : ∀ r ∈ rs, 0 ≤ r ∧ r < 2147483629
  hp : H p = some (.tup (five (pV s t b dy an)))
  g : Good s t b dy an
theorem LH.of {H H' : Hp} {D p : Addr} {rs : List Int} {s t b : Str} {dy : Int} {an : Str} (l : LH H D p rs s t b dy an) (k : Same H H') : LH H' D p rs s t b dy an := ⟨k _ _ l.hD, l.hl, l.hb, k _ _ l.hp, l.g⟩
theorem th_ps {X : Cx} {e2 e3 e4 e5 : Expr} {t2 t3 t4 t5 : TE} {n : Int} {s : Str} {j1 j6 j7 : Nat} {p1 p6 p7 : Pos} (h2 : PE X e2 t2) (h3 : PE X e3 t3) (h4 : PE X e4 t4) (h5 : PE X e5 t5) (q2 : plainE e2 = true) (q3 : plainE e3 = true) (q4 : plainE e4 = true) (q5 : plainE e5 = true) :
    PAs X [.Constant .none j1 p1, e2, e3, e4, e5, .Constant (.str s) j6 p6, .Constant (.int n) j7 p7] (tCons (tC .non) (tCons t2 (tCons t3 (tCons t4 (tCons t5 (tCons (tC (.str s)) (tCons (tC (.int n)) tNil))))))) := by
  refine pas_cons pe_non ?_
  refine pas_cons h2 ?_ q2
  refine pas_cons h3 ?_ q3
  refine pas_cons h4 ?_ q4
  refine pas_cons h5 ?_ q5
  refine pas_cons pe_str ?_
  exact pas_cons pe_int pas_nil
section
variable {P : Program} {w : World} {K : PySem.W.Frag} {mg : Str → Option Value} {base : Heap} {a : Adr}
theorem lb6 (T : Txt K mg a) (FF : Funs K a) {cdv : Value} {A : Around} {outer : List Env} {s0 : Shared} {H : Hp} {Q : VK} {E : XK} (hr : Room 13 (A.deeper (PyProof.Rows.envOfC "law" (defScope slaw) s0.heap.objs.size a.f_law cdv))) (k : ∀ H', Q (.bl true) H') :
    ∃ tt, PSs (cxOf CX0 P w K mg base n_law "law" (defScope slaw) a.f_law cdv A outer s0 H E).nox ((defBody slaw).drop 6) tt ∧
      ∀ (H3 : Hp) (D p : Addr) (rs : List Int) (s t b : Str) (dy : Int) (an : Str) (o0 o3 o4 o5 o6 o7 : Option V), LH H3 D p rs s t b dy an →
        tt { nx := fun _ H' => Q .non H', rt := Q } [o0, some (.ref D), some (.ref p), o3, o4, o5, o6, o7] H3 := by
  obtain ⟨fdL, F_letter_of, b_letter_of⟩ := FF.F_letter_of
  have G_letter_of : FnOk P w K mg base (CXF P w) 7 a.f_letter_of fdL ["thing"] (spLetD a) := ok_letD F_letter_of T FF
  obtain ⟨fdA, F_Letter_parts, b_Letter_parts⟩ := FF.F_Letter_parts
  have G_Letter_parts : FnOk P w K mg base CX0 1 a.f_Letter_parts fdA ["self"] (spPartsV a) := ok_partsV F_Letter_parts T
  obtain ⟨fdR, F_l_refused, b_l_refused⟩ := FF.F_l_refused
  have G_l_refused : FnOk P w K mg base CX0 8 a.f_l_refused fdR ["_law_parts_here", "_law_way"] spRefused := ok_refused F_l_refused T FF
  have hr_letter_of : Room 7 _ := hr.mono (by decide)
  have hr_Letter_parts : Room 1 _ := hr.mono (by decide)
  have hr_l_refused : Room 8 _ := hr.mono (by decide)
  have hu64 := hr.units
  refine ⟨_, (pss_one (ps_ret (pe_and (pe_cmpR (op_eqD hu64) (pe_meth0 (pe_call G_letter_of hr_letter_of rfl T.m_letter_of F_letter_of.kp b_letter_of .nil passN (pac (pv 2) pa_nil)) T.c_Letter T.M_Letter_parts G_Letter_parts hr_Letter_parts b_Letter_parts .nil pass0) (pv 2) (nomark _)) (pe_one (pe_not (pe_call G_l_refused hr_l_refused rfl T.m_l_refused F_l_refused.kp b_l_refused .nil pass0 (pac (pv 2) (pac pe_int pa_nil)))))))), ?_⟩
  intro H3 D p rs s t b dy an o0 o3 o4 o5 o6 o7 L
  have g := L.g
  have dr : DR H3 (.ref p) (.tup (five (pD s t b dy an))) := .tup L.hp (g.dr H3).drs
  refine ⟨_, rfl, .ref p, _, rfl, dr, fun hg p' x dx v1 v2 v3 v4 v5 H4 ev ep sH ex => ?_, fun hb => absurd (g.ok.symm.trans hb) (by decide)⟩
  cases ev
  have e5 := L.hp.symm.trans ep
  cases e5
  refine ⟨x, dx, _, rfl, ex, rfl, x, dx, _, _, _, _, _, rfl, ex, fun q hq => ?_⟩
  have s5 : Same H4 (upd H4 q (.tup [.str s, .str t, .str b, .int dy, .str an])) := Same.upd_new hq
  have L5 := L.of (sH.trans s5)
  have rp : RDs K (upd H4 q (.tup [.str s, .str t, .str b, .int dy, .str an])) [.str s, .str t, .str b, .int dy, .str an] [.str s, .str t, .str b, .int dy, .str an] := .cons (.str _) (.cons (.str _) (.cons (.str _) (.cons (.int _) (.cons (.str _) .nil))))
  refine ⟨_, rfl, eq_refl (.tup (SqT.of upd_same) rp) (.tup (SqT.of L5.hp) rp) (shaped_parts g) ⟨_, rfl, iteT ?_⟩⟩
  exact ⟨_, rfl, ref_go (E := E0) (.tup L5.hp (g.dr _).drs) (fun _ => ⟨p, _, _, rfl, L5.hp, rfl, g.dr _⟩) (b := false) (by rw [g.ok]; rfl) fun H6 s6 => ⟨_, rfl, k _⟩⟩
end
section
variable {P : Program} {w : World} {K : PySem.W.Frag} {mg : Str → Option Value} {base : Heap} {a : Adr}
theorem lb5 (T : Txt K mg a) (FF : Funs K a) {cdv : Value} {A : Around} {outer : List Env} {s0 : Shared} {H : Hp} {Q : VK} {E : XK} (hr : Room 13 (A.deeper (PyProof.Rows.envOfC "law" (defScope slaw) s0.heap.objs.size a.f_law cdv))) (k : ∀ H', Q (.bl true) H') :
    ∃ tt, PSs (cxOf CX0 P w K mg base n_law "law" (defScope slaw) a.f_law cdv A outer s0 H E).nox ((defBody slaw).drop 5) tt ∧
      ∀ (H3 : Hp) (D p : Addr) (rs : List Int) (s t b : Str) (dy : Int) (an : Str) (o0 o3 o4 o5 o6 o7 : Option V), LH H3 D p rs s t b dy an →
        tt { nx := fun _ H' => Q .non H', rt := Q } [o0, some (.ref D), some (.ref p), o3, o4, o5, o6, o7] H3 := by
  obtain ⟨t6, h6, sp6⟩ := lb6 (P := P) (w := w) (base := base) (outer := outer) (H := H) (E := E) T FF hr k
  obtain ⟨fdR, F_l_refused, b_l_refused⟩ := FF.F_l_refused
  have G_l_refused : FnOk P w K mg base CX0 8 a.f_l_refused fdR ["_law_parts_here", "_law_way"] spRefused := ok_refused F_l_refused T FF
  have hr_l_refused : Room 8 _ := hr.mono (by decide)
  refine ⟨_, (pss_cons (ps_ifW (pt_cmpR op_eq (pe_op op_mod (pe_ix ix_list (pv 1) pe_int px_int) pe_int) pe_int (nomark _)) ⟨pss_cons (ps_set (i := 7) sc_law.nd rfl (Or.inl rfl) (PEs.h (X := (cxOf CX0 P w K mg base n_law "law" (defScope slaw) a.f_law cdv A outer s0 H E).nox) (se_lst (th_ps (pe_callTy call_list_of rfl T.b_list PyProof.Rows.boot_list (pac (pv 2) pa_nil)) (pe_slice sl_tup (pv 2) po_none (po_some pe_int)) (pe_op op_catA (pv 2) (pe_tupS (pas_cons pe_str pas_nil))) (pe_tupS pas_nil) rfl rfl rfl rfl))))
        (pss_one (ps_if (pt_not (pt_val (pe_call G_l_refused hr_l_refused rfl T.m_l_refused F_l_refused.kp b_l_refused .nil pass0 (pac (pe_ix ix_list (pv 7) (pe_op op_mod (pe_op op_fdiv (pe_ix ix_list (pv 1) pe_int px_int) pe_int) pe_int) px_bin) (pac pe_int pa_nil))))) (pss_one (ps_ret pe_bl)) pss_nil))⟩ pss_nil)
        h6), ?_⟩
  intro H3 D p rs s t b dy an o0 o3 o4 o5 o6 o7 L
  have hl := L.hl
  obtain ⟨z, ez, _, _⟩ := row_pick L.hb 15 (by decide) (by omega)
  refine ⟨_, rfl, D, _, _, _, rfl, rfl, SqL.of L.hD, ez, _, _, rfl, rfl, (by show (0 : Int) < 5; decide), rfl, _, rfl, ite2 (fun _ => ?_) (fun _ => sp6 H3 D p rs s t b dy an _ _ _ _ _ _ L)⟩
  refine ⟨_, rfl, p, _, rfl, .inr (SqT.of L.hp), fun q1 hq1 => ?_⟩
  have s1 : Same H3 (upd H3 q1 (.lst (five (pV s t b dy an)))) := Same.upd_new hq1
  have e1 : (upd H3 q1 (.lst (five (pV s t b dy an)))) q1 = some (.lst (five (pV s t b dy an))) := upd_same
  have L1 := L.of s1
  generalize upd H3 q1 (.lst (five (pV s t b dy an))) = H1 at s1 e1 L1 ⊢
  refine ⟨_, rfl, _, rfl, sl_to_go 4 L1.hp (by show 4 < 5; decide) fun q2 H2 s2 e2 => ?_⟩
  have L2 := L1.of s2
  refine ⟨_, rfl, (by show 1 ≤ sizeLine; decide), fun q4 hq4 => ?_⟩
  have s4 : Same H2 (upd H2 q4 (.tup [.str ""])) := Same.upd_new hq4
  have e4 : (upd H2 q4 (.tup [.str ""])) q4 = some (.tup [.str ""]) := upd_same
  have L4 := L2.of s4
  have e14 := s4 _ _ (s2 _ _ e1)
  have e24 := s4 _ _ e2
  generalize upd H2 q4 (.tup [.str ""]) = H4 at s4 e4 L4 e14 e24 ⊢
  refine catA_go L4.hp e4 (by show 6 ≤ sizeLine; decide) fun q5 H5 s5 e5 => ?_
  have L5 := L4.of s5
  have e15 := s5 _ _ e14
  have e25 := s5 _ _ e24
  refine ⟨Nat.zero_le _, fun q6 hq6 => ⟨(by show 7 ≤ sizeLine; decide), fun l hl7 => ?_⟩⟩
  have s6 : Same H5 (upd H5 q6 (.tup [])) := Same.upd_new hq6
  have e6 : (upd H5 q6 (.tup [])) q6 = some (.tup []) := upd_same
  have L6 := L5.of s6
  have e16 := s6 _ _ e15
  have e26 := s6 _ _ e25
  have e56 := s6 _ _ e5
  generalize upd H5 q6 (.tup []) = H6 at s6 e6 L6 e16 e26 e56 hl7 ⊢
  have s7 : Same H6 (upd H6 l (.lst [.non, .ref q1, .ref q2, .ref q5, .ref q6, .str "abcde", .int 5])) := Same.upd_new hl7
  have e7 : (upd H6 l (.lst [.non, .ref q1, .ref q2, .ref q5, .ref q6, .str "abcde", .int 5])) l = some (.lst [.non, .ref q1, .ref q2, .ref q5, .ref q6, .str "abcde", .int 5]) := upd_same
  have L7 := L6.of s7
  generalize upd H6 l (.lst [.non, .ref q1, .ref q2, .ref q5, .ref q6, .str "abcde", .int 5]) = H7 at s7 e7 L7 ⊢
  obtain ⟨v, hv, hvm, _⟩ := atI_mod (xs := ([.non, .ref q1, .ref q2, .ref q5, .ref q6, .str "abcde", .int 5] : List V)) (z / 5) (by show 0 < 7; decide)
  refine ⟨_, rfl, _, rfl, D, _, _, _, rfl, rfl, SqL.of L7.hD, ez, _, _, rfl, rfl, ⟨by decide, by decide⟩, _, _, rfl, rfl, (by show (0 : Int) < 7; decide), l, _, _, v, rfl, rfl, SqL.of e7, hv, ?_⟩
  have dp := ((L7.g.dr H7).drs)
  have nb : ∃ d, DR H7 v d ∧ partsD d = false := by
    rcases List.mem_cons.mp hvm with rfl | hvm
    · exact ⟨_, .non, rfl⟩
    rcases List.mem_cons.mp hvm with rfl | hvm
    · exact ⟨_, .lst (s7 _ _ e16), rfl⟩
    rcases List.mem_cons.mp hvm with rfl | hvm
    · exact ⟨_, .tup (s7 _ _ e26) (dp.take 4), rfl⟩
    rcases List.mem_cons.mp hvm with rfl | hvm
    · exact ⟨_, .tup (s7 _ _ e56) (dp.app (.cons (.str (by decide +kernel) asc_empty) .nil)), rfl⟩
    rcases List.mem_cons.mp hvm with rfl | hvm
    · exact ⟨_, .tup (s7 _ _ e6) .nil, rfl⟩
    rcases List.mem_cons.mp hvm with rfl | hvm
    · exact ⟨_, .str (by decide +kernel) (asc_of (by decide +kernel)), rfl⟩
    · cases List.mem_singleton.mp hvm
      exact ⟨_, .int 5, rfl⟩
  obtain ⟨d, rd, bad⟩ := nb
  exact ref_go (E := E0) rd (fun z => absurd z (by decide)) (b := true) (by rw [bad]; rfl) fun H8 s8 => ⟨_, rfl, iteF (sp6 H8 D p rs s t b dy an _ _ _ _ _ _ (L7.of s8))⟩
theorem lb4 (T : Txt K mg a) (FF : Funs K a) {cdv : Value} {A : Around} {outer : List Env} {s0 : Shared} {H : Hp} {Q : VK} {E : XK} (hr : Room 13 (A.deeper (PyProof.Rows.envOfC "law" (defScope slaw) s0.heap.objs.size a.f_law cdv))) (k : ∀ H', Q (.bl true) H') :
    ∃ tt, PSs (cxOf CX0 P w K mg base n_law "law" (defScope slaw) a.f_law cdv A outer s0 H E).nox ((defBody slaw).drop 4) tt ∧
      ∀ (H3 : Hp) (D p q : Addr) (rs : List Int) (s t b : Str) (dy : Int) (an : Str) (f : Nat → V) (g : Nat → Dt) (o0 o4 o5 o6 o7 : Option V), LH H3 D p rs s t b dy an → H3 q = some (.tup (five f)) → DRf H3 f g → partsD (.tup (five g)) = false →
        tt { nx := fun _ H' => Q .non H', rt := Q } [o0, some (.ref D), some (.ref p), some (.ref q), o4, o5, o6, o7] H3 := by
  obtain ⟨t5, h5, sp5⟩ := lb5 (P := P) (w := w) (base := base) (outer := outer) (H := H) (E := E) T FF hr k
  obtain ⟨fdR, F_l_refused, b_l_refused⟩ := FF.F_l_refused
  have G_l_refused : FnOk P w K mg base CX0 8 a.f_l_refused fdR ["_law_parts_here", "_law_way"] spRefused := ok_refused F_l_refused T FF
  have hr_l_refused : Room 8 _ := hr.mono (by decide)
  refine ⟨_, (pss_cons (ps_if (PW.pt (pw_or (pt_not (pt_val (pe_call G_l_refused hr_l_refused rfl T.m_l_refused F_l_refused.kp b_l_refused .nil pass0 (pac (pv 3) (pac pe_int pa_nil))))) (pw_or1 (pt_not (pt_val (pe_call G_l_refused hr_l_refused rfl T.m_l_refused F_l_refused.kp b_l_refused .nil pass0 (pac (pv 3) (pac pe_int pa_nil)))))))) (pss_one (ps_ret pe_bl)) pss_nil)
        h5), ?_⟩
  intro H3 D p q rs s t b dy an f g o0 o4 o5 o6 o7 L hq df bad
  refine ⟨_, rfl, ref_go (E := E0) (.tup hq df.drs) (fun _ => ⟨q, f, g, rfl, hq, rfl, df⟩) (b := true) (by rw [bad]; rfl) fun H4 s4 => ⟨_, rfl, iteF ?_⟩⟩
  refine ⟨_, rfl, ref_go (E := E0) (.tup (s4 _ _ hq) (df.mono s4).drs) (fun z => absurd z (by decide)) (b := true) (by rw [bad]; rfl) fun H5 s5 => ⟨_, rfl, iteF ?_⟩⟩
  exact sp5 H5 D p rs s t b dy an _ _ _ _ _ _ (L.of (s4.trans s5))
end
section
variable {P : Program} {w : World} {K : PySem.W.Frag} {mg : Str → Option Value} {base : Heap} {a : Adr}
theorem lb3 (T : Txt K mg a) (FF : Funs K a) {cdv : Value} {A : Around} {outer : List Env} {s0 : Shared} {H : Hp} {Q : VK} {E : XK} (hr : Room 13 (A.deeper (PyProof.Rows.envOfC "law" (defScope slaw) s0.heap.objs.size a.f_law cdv))) (k : ∀ H', Q (.bl true) H') :
    ∃ tt, PSs (cxOf CX0 P w K mg base n_law "law" (defScope slaw) a.f_law cdv A outer s0 H E).nox ((defBody slaw).drop 3) tt ∧
      ∀ (H3 : Hp) (D p q : Addr) (rs : List Int) (s t b : Str) (dy : Int) (an : Str) (j : Nat) (v : V) (d : Dt) (o0 : Option V), LH H3 D p rs s t b dy an → j < 5 → H3 q = some (.tup (five (updN (pV s t b dy an) j v))) → DR H3 v d → OddJ j d →
        tt { nx := fun _ H' => Q .non H', rt := Q } [o0, some (.ref D), some (.ref p), some (.ref q), none, none, none, none] H3 := by
  obtain ⟨t4, h4, sp4⟩ := lb4 (P := P) (w := w) (base := base) (outer := outer) (H := H) (E := E) T FF hr k
  obtain ⟨fdO, F_l_odd_parts, b_l_odd_parts⟩ := FF.F_l_odd_parts
  have G_l_odd_parts : FnOk P w K mg base CX0 2 a.f_l_odd_parts fdO ["_law_number", "_law_parts_here"] spOddParts := ok_oddparts F_l_odd_parts T FF
  have hr_l_odd_parts : Room 2 _ := hr.mono (by decide)
  have hu64 := hr.units
  refine ⟨_, (pss_cons (ps_if (pt_cmpR op_eq (pe_op op_mod (pe_ix ix_list (pv 1) pe_int px_int) pe_int) pe_int (nomark _)) (pss_cons (ps_set (i := 4) sc_law.nd rfl (Or.inl rfl) (pe_call G_l_odd_parts hr_l_odd_parts rfl T.m_l_odd_parts F_l_odd_parts.kp b_l_odd_parts .nil pass0 (pac (pe_ix ix_list (pv 1) pe_int px_int) (pac (pv 2) pa_nil))))
        (pss_cons (ps_set (i := 5) sc_law.nd rfl (Or.inl rfl) (pe_callTy call_list_of rfl T.b_list PyProof.Rows.boot_list (pac (pv 3) pa_nil)))
        (pss_cons (ps_for PassesOwn.never rfl (pi_range1 rfl T.b_range (pac pe_int pa_nil)) (pg_name (i := 6) sc_law.nd rfl (Or.inl rfl)) (pss_one (ps_if (pt_cmpR (op_eqX hu64) (pe_ix ix_tup (pv 3) (pv 6) (fun _ _ => rfl)) (pe_ix ix_tup (pv 2) (pv 6) (fun _ _ => rfl)) (nomark _)) (pss_one (ps_asg (pe_ix ix_tup (pv 4) (pv 6) (fun _ _ => rfl)) (pg_sub (pv 5) (pv 6) set_list))) pss_nil)))
        (pss_one (ps_set (i := 3) sc_law.nd rfl (Or.inl rfl) (pe_callTy call_tuple_of rfl T.b_tuple PyProof.Rows.boot_tuple (pac (pv 5) pa_nil))))))) pss_nil)
        h4), ?_⟩
  intro H3 D p q rs s t b dy an j v d o0 L hj hq rv ov
  have hl := L.hl
  obtain ⟨z, ez, _, _⟩ := row_pick L.hb 13 (by decide) (by omega)
  obtain ⟨z4, ez4, z40, _⟩ := row_pick L.hb 14 (by decide) (by omega)
  refine ⟨_, rfl, D, _, _, _, rfl, rfl, SqL.of L.hD, ez, _, _, rfl, rfl, (by show (0 : Int) < 3; decide), rfl, _, rfl, ite2 (fun _ => ?_) (fun _ => ?_)⟩
  · refine ⟨_, rfl, D, _, _, _, rfl, rfl, SqL.of L.hD, ez4, _, rfl, z4, p, s, t, b, dy, an, rfl, z40, L.hp, L.g, fun x j' v' d' H4 hj' ex rv' ov' s4 => ?_⟩
    have L4 := L.of s4
    have hq4 := s4 _ _ hq
    refine ⟨_, rfl, q, _, rfl, .inr (SqT.of hq4), fun l hl4 => ?_⟩
    have s5 : Same H4 (upd H4 l (.lst (five (updN (pV s t b dy an) j v)))) := Same.upd_new hl4
    have e5 : (upd H4 l (.lst (five (updN (pV s t b dy an) j v)))) l = some (.lst (five (updN (pV s t b dy an) j v))) := upd_same
    have df4 : DRf H4 (updN (pV s t b dy an) j v) (updN (pD s t b dy an) j d) := (L.g.dr H4).upd (rv.mono s4)
    generalize upd H4 l (.lst (five (updN (pV s t b dy an) j v))) = H5 at s5 e5 ⊢
    refine ⟨_, rfl, by decide, by decide, for_range (n := 5) (fun i σ G => ∃ o6 : Option V, σ = [o0, some (.ref D), some (.ref p), some (.ref q), some (.ref x), some (.ref l), o6, none] ∧ Same H4 G ∧ G l = some (.lst (five (mgi i (updN (pV s t b dy an) j v) (pV s t b dy an) (updN (pV s t b dy an) j' v'))))) ⟨none, rfl, s5, by rw [mgi_0]; exact e5⟩ ?_ ?_⟩
    · rintro i σ G hi ⟨o6, rfl, sG, eG⟩
      have a0 : ∀ f : Nat → V, atI (five f) (0 + (i : Int)) = some (f i) := fun f => by rw [Int.zero_add]; exact five_at hi
      refine ⟨_, rfl, _, rfl, q, _, _, _, rfl, rfl, SqT.of (sG _ _ hq4), a0 _, _, rfl, _, rfl, p, _, _, _, rfl, rfl, SqT.of (sG _ _ L4.hp), a0 _, ((df4 i hi).mono sG).xok, pV_y hi, _, rfl, ?_⟩
      cases he : eqV (updN (pV s t b dy an) j v i) (pV s t b dy an i) with
      | true =>
        refine iteT ⟨_, rfl, _, rfl, x, _, _, _, rfl, rfl, SqT.of (sG _ _ ex), a0 _, _, rfl, _, rfl, l, _, _, _, rfl, rfl, eG, ix_i hi, ?_⟩
        refine ⟨_, rfl, fun c o e => ?_, ?_⟩
        · rw [upd_ne (ne_of_none e hl4)]; exact sG _ _ e
        · rw [upd_same, five_set _ hi, mgi_on hi he]
      | false => exact iteF ⟨_, rfl, sG, by rw [← mgi_off hi he]; exact eG⟩
    · rintro σ G ⟨o6, rfl, sG, eG⟩
      rw [mgi_5] at eG
      refine ⟨_, rfl, l, _, rfl, .inl ⟨SqL.of eG, fun q6 hq6 => ?_⟩⟩
      have s6 : Same G (upd G q6 (.tup (five (mgd (updN (pV s t b dy an) j v) (pV s t b dy an) (updN (pV s t b dy an) j' v'))))) := Same.upd_new hq6
      obtain ⟨g', dg, bad⟩ := merged L.g hj hj' (rv.mono s4) rv' ov ov'
      have s46 := sG.trans s6
      exact sp4 _ D p q6 rs s t b dy an _ g' _ _ _ _ _ (L4.of s46) upd_same (dg.mono s46) bad
  · exact sp4 H3 D p q rs s t b dy an _ _ _ _ _ _ _ L hq ((L.g.dr H3).upd rv) (ov.no hj)
theorem ok_law {fd : FuncData} (F : Fun K "law" "law" slaw a.f_law fd) (T : Txt K mg a) (FF : Funs K a) : FnOk P w K mg base CX0 14 a.f_law fd ["_law_script"] (spLaw K) := by
  obtain ⟨fdR, F_l_row, b_l_row⟩ := FF.F_l_row
  obtain ⟨fdP, F_l_parts, b_l_parts⟩ := FF.F_l_parts
  obtain ⟨fdO, F_l_odd_parts, b_l_odd_parts⟩ := FF.F_l_odd_parts
  have G_l_row : FnOk P w K mg base CX0 1 a.f_l_row fdR ["_law_script", "_law_many"] (spRow K) := ok_row F_l_row T
  have G_l_parts : FnOk P w K mg base CX0 2 a.f_l_parts fdP ["_law_row_here", "_law_base"] spLParts := ok_lparts F_l_parts T FF
  have G_l_odd_parts : FnOk P w K mg base CX0 2 a.f_l_odd_parts fdO ["_law_number", "_law_parts_here"] spOddParts := ok_oddparts F_l_odd_parts T FF
  refine F.ok sc_law (fun vs H Q E h => ?_) (fun cdv A outer s0 H vs Q E hr h => ?_)
  · obtain ⟨x, ns, rfl, _⟩ := h; rfl
  · obtain ⟨q, ls, rfl, hS, hlen, k⟩ := h
    obtain ⟨t3, h3, sp3⟩ := lb3 (P := P) (w := w) (base := base) (outer := outer) (H := H) (E := E) T FF hr k
    have hr_l_row : Room 1 _ := hr.mono (by decide)
    have hr_l_parts : Room 2 _ := hr.mono (by decide)
    have hr_l_odd_parts : Room 2 _ := hr.mono (by decide)
    refine ⟨_, (pss_cons (ps_set (i := 1) sc_law.nd rfl (Or.inl rfl) (pe_call G_l_row hr_l_row rfl T.m_l_row F_l_row.kp b_l_row .nil pass0 (pac (pv 0) (pac pe_int pa_nil))))
        (pss_cons (ps_set (i := 2) sc_law.nd rfl (Or.inl rfl) (pe_call G_l_parts hr_l_parts rfl T.m_l_parts F_l_parts.kp b_l_parts .nil pass0 (pac (pv 1) (pac (pe_ix ix_list (pv 1) pe_int px_int) pa_nil))))
        (pss_cons (ps_set (i := 3) sc_law.nd rfl (Or.inl rfl) (pe_call G_l_odd_parts hr_l_odd_parts rfl T.m_l_odd_parts F_l_odd_parts.kp b_l_odd_parts .nil pass0 (pac (pe_ix ix_list (pv 1) pe_int px_int) (pac (pv 2) pa_nil))))
        h3))), ?_⟩
    refine ⟨_, rfl, q, ls, 16, rfl, hS, by decide, fun D rs H1 hrl hrb s1 hD => ?_⟩
    obtain ⟨z11, e11, b0, b1⟩ := row_pick hrb 11 (by decide) (by omega)
    obtain ⟨z12, e12, c0, c1⟩ := row_pick hrb 12 (by decide) (by omega)
    refine ⟨_, rfl, _, rfl, D, _, _, _, rfl, rfl, SqL.of hD, e11, D, rs, z11, rfl, hD, hrl, hrb, b0, b1, fun p s t b dy an H2 g s2 hp => ?_⟩
    have L2 : LH H2 D p rs s t b dy an := ⟨s2 _ _ hD, hrl, hrb, hp, g⟩
    refine ⟨_, rfl, D, _, _, _, rfl, rfl, SqL.of L2.hD, e12, _, rfl, z12, p, s, t, b, dy, an, rfl, c0, hp, g, fun x j v d H3 hj ex rv ov s3 => ?_⟩
    exact sp3 H3 D p x rs s t b dy an j v d _ (L2.of s3) hj ex rv ov
end
theorem all_mk {l : PySem.W.OpenLaw} {w : World} {K : PySem.W.Frag} {h : Heap} {mg : Str → Option Value} {fa : Addr} (X : K.In h) (G : h.Ns mainGlobals mg) (hfa : mg "law" = some (.ref fa))
    {f1 : Addr} {od1 an1 : Option Addr} {sl1 : Array (Option Value)} {oc1 kV1 dc1 pm1 cd1 ct1 : Value}
    {f2 : Addr} {od2 an2 : Option Addr} {sl2 : Array (Option Value)} {oc2 kV2 dc2 pm2 cd2 ct2 : Value}
    {f3 : Addr} {od3 an3 : Option Addr} {sl3 : Array (Option Value)} {oc3 kV3 dc3 pm3 cd3 ct3 : Value}
    {f4 : Addr} {od4 an4 : Option Addr} {sl4 : Array (Option Value)} {oc4 kV4 dc4 pm4 cd4 ct4 : Value}
    {f5 : Addr} {od5 an5 : Option Addr} {sl5 : Array (Option Value)} {oc5 kV5 dc5 pm5 cd5 ct5 : Value}
    {f6 : Addr} {od6 an6 : Option Addr} {sl6 : Array (Option Value)} {oc6 kV6 dc6 pm6 cd6 ct6 : Value}
    {f7 : Addr} {od7 an7 : Option Addr} {sl7 : Array (Option Value)} {oc7 kV7 dc7 pm7 cd7 ct7 : Value}
    {f8 : Addr} {od8 an8 : Option Addr} {sl8 : Array (Option Value)} {oc8 kV8 dc8 pm8 cd8 ct8 : Value}
    {f9 : Addr} {od9 an9 : Option Addr} {sl9 : Array (Option Value)} {oc9 kV9 dc9 pm9 cd9 ct9 : Value}
    {f10 : Addr} {od10 an10 : Option Addr} {sl10 : Array (Option Value)} {oc10 kV10 dc10 pm10 cd10 ct10 : Value}
    {f11 : Addr} {od11 an11 : Option Addr} {sl11 : Array (Option Value)} {oc11 kV11 dc11 pm11 cd11 ct11 : Value}
    {f12 : Addr} {od12 an12 : Option Addr} {sl12 : Array (Option Value)} {oc12 kV12 dc12 pm12 cd12 ct12 : Value}
    {f13 : Addr} {od13 an13 : Option Addr} {sl13 : Array (Option Value)} {oc13 kV13 dc13 pm13 cd13 ct13 : Value}
    {f14 : Addr} {od14 an14 : Option Addr} {sl14 : Array (Option Value)} {oc14 kV14 dc14 pm14 cd14 ct14 : Value}
    {f15 : Addr} {od15 an15 : Option Addr} {sl15 : Array (Option Value)} {oc15 kV15 dc15 pm15 cd15 ct15 : Value}
    {f16 : Addr} {od16 an16 : Option Addr} {sl16 : Array (Option Value)} {oc16 kV16 dc16 pm16 cd16 ct16 : Value}
    {f17 : Addr} {od17 an17 : Option Addr} {sl17 : Array (Option Value)} {oc17 kV17 dc17 pm17 cd17 ct17 : Value}
    {f18 : Addr} {od18 an18 : Option Addr} {sl18 : Array (Option Value)} {oc18 kV18 dc18 pm18 cd18 ct18 : Value}
    {f19 : Addr} {od19 an19 : Option Addr} {sl19 : Array (Option Value)} {oc19 kV19 dc19 pm19 cd19 ct19 : Value}
    {f20 : Addr} {od20 an20 : Option Addr} {sl20 : Array (Option Value)} {oc20 kV20 dc20 pm20 cd20 ct20 : Value}
    {f21 : Addr} {od21 an21 : Option Addr} {sl21 : Array (Option Value)} {oc21 kV21 dc21 pm21 cd21 ct21 : Value}
    {f22 : Addr} {od22 an22 : Option Addr} {sl22 : Array (Option Value)} {oc22 kV22 dc22 pm22 cd22 ct22 : Value}
    {f23 : Addr} {od23 an23 : Option Addr} {sl23 : Array (Option Value)} {oc23 kV23 dc23 pm23 cd23 ct23 : Value}
    {f24 : Addr} {od24 an24 : Option Addr} {sl24 : Array (Option Value)} {oc24 kV24 dc24 pm24 cd24 ct24 : Value}
    {f25 : Addr} {od25 an25 : Option Addr} {sl25 : Array (Option Value)} {oc25 kV25 dc25 pm25 cd25 ct25 : Value}
    {gv1 : Value}
    {gv2 : Value}
    {gv3 : Value}
    {gv4 : Value}
    {gv5 : Value}
    {gv6 : Value}
    {C_Letter : Addr}
    {C_MailError : Addr}
    {C_NoLetter : Addr}
    {C_NoWord : Addr}
    {C_NoRule : Addr}
    {C_NoName : Addr}
    {C_NoParcel : Addr}
    {C_NoRow : Addr}
    {D20 : Addr} {Do20 : Value} {Dd20 : Option Addr} {Dn20 : Nat} {Ds20 : Array (Option Value)} {dv20_0 : Value}
    (q_Letter : PySem.W.nsIn K mainGlobals "Letter" = some (some (.ref C_Letter)))
    (q_MailError : PySem.W.nsIn K mainGlobals "MailError" = some (some (.ref C_MailError)))
    (q_NoLetter : PySem.W.nsIn K mainGlobals "NoLetter" = some (some (.ref C_NoLetter)))
    (q_NoWord : PySem.W.nsIn K mainGlobals "NoWord" = some (some (.ref C_NoWord)))
    (q_NoRule : PySem.W.nsIn K mainGlobals "NoRule" = some (some (.ref C_NoRule)))
    (q_NoName : PySem.W.nsIn K mainGlobals "NoName" = some (some (.ref C_NoName)))
    (q_NoParcel : PySem.W.nsIn K mainGlobals "NoParcel" = some (some (.ref C_NoParcel)))
    (q_NoRow : PySem.W.nsIn K mainGlobals "NoRow" = some (some (.ref C_NoRow)))
    (a1 : PySem.W.nsIn K mainGlobals "_wall" = some (some (.ref f1)))
    (l1 : K.lookup f1 = some ⟨oc1, od1, .func (PySem.W.fnOf "_wall" "_wall" (defArgs swall) (defBody swall) (defScope swall) .none kV1 dc1 pm1 an1 cd1 ct1), sl1⟩)
    (c1 : PySem.W.codeIn K cd1 "_wall" = true)
    (k1 : PySem.W.keepIn K (.ref f1) = true)
    (a2 : PySem.W.nsIn K mainGlobals "all_among" = some (some (.ref f2)))
    (l2 : K.lookup f2 = some ⟨oc2, od2, .func (PySem.W.fnOf "all_among" "all_among" (defArgs sall_among) (defBody sall_among) (defScope sall_among) .none kV2 dc2 pm2 an2 cd2 ct2), sl2⟩)
    (c2 : PySem.W.codeIn K cd2 "all_among" = true)
    (k2 : PySem.W.keepIn K (.ref f2) = true)
    (a3 : PySem.W.nsIn K mainGlobals "is_word" = some (some (.ref f3)))
    (l3 : K.lookup f3 = some ⟨oc3, od3, .func (PySem.W.fnOf "is_word" "is_word" (defArgs sis_word) (defBody sis_word) (defScope sis_word) .none kV3 dc3 pm3 an3 cd3 ct3), sl3⟩)
    (c3 : PySem.W.codeIn K cd3 "is_word" = true)
    (k3 : PySem.W.keepIn K (.ref f3) = true)
    (a4 : PySem.W.nsIn K mainGlobals "words_of" = some (some (.ref f4)))
    (l4 : K.lookup f4 = some ⟨oc4, od4, .func (PySem.W.fnOf "words_of" "words_of" (defArgs swords_of) (defBody swords_of) (defScope swords_of) .none kV4 dc4 pm4 an4 cd4 ct4), sl4⟩)
    (c4 : PySem.W.codeIn K cd4 "words_of" = true)
    (k4 : PySem.W.keepIn K (.ref f4) = true)
    (a5 : PySem.W.nsIn K mainGlobals "is_text" = some (some (.ref f5)))
    (l5 : K.lookup f5 = some ⟨oc5, od5, .func (PySem.W.fnOf "is_text" "is_text" (defArgs sis_text) (defBody sis_text) (defScope sis_text) .none kV5 dc5 pm5 an5 cd5 ct5), sl5⟩)
    (c5 : PySem.W.codeIn K cd5 "is_text" = true)
    (k5 : PySem.W.keepIn K (.ref f5) = true)
    (a6 : PySem.W.nsIn K mainGlobals "is_whole" = some (some (.ref f6)))
    (l6 : K.lookup f6 = some ⟨oc6, od6, .func (PySem.W.fnOf "is_whole" "is_whole" (defArgs sis_whole) (defBody sis_whole) (defScope sis_whole) .none kV6 dc6 pm6 an6 cd6 ct6), sl6⟩)
    (c6 : PySem.W.codeIn K cd6 "is_whole" = true)
    (k6 : PySem.W.keepIn K (.ref f6) = true)
    (a7 : PySem.W.nsIn K mainGlobals "is_answered" = some (some (.ref f7)))
    (l7 : K.lookup f7 = some ⟨oc7, od7, .func (PySem.W.fnOf "is_answered" "is_answered" (defArgs sis_answered) (defBody sis_answered) (defScope sis_answered) .none kV7 dc7 pm7 an7 cd7 ct7), sl7⟩)
    (c7 : PySem.W.codeIn K cd7 "is_answered" = true)
    (k7 : PySem.W.keepIn K (.ref f7) = true)
    (a8 : PySem.W.nsIn K mainGlobals "check_parts" = some (some (.ref f8)))
    (l8 : K.lookup f8 = some ⟨oc8, od8, .func (PySem.W.fnOf "check_parts" "check_parts" (defArgs scheck_parts) (defBody scheck_parts) (defScope scheck_parts) .none kV8 dc8 pm8 an8 cd8 ct8), sl8⟩)
    (c8 : PySem.W.codeIn K cd8 "check_parts" = true)
    (k8 : PySem.W.keepIn K (.ref f8) = true)
    (a9 : PySem.W.nsIn K mainGlobals "letter_of" = some (some (.ref f9)))
    (l9 : K.lookup f9 = some ⟨oc9, od9, .func (PySem.W.fnOf "letter_of" "letter_of" (defArgs sletter_of) (defBody sletter_of) (defScope sletter_of) .none kV9 dc9 pm9 an9 cd9 ct9), sl9⟩)
    (c9 : PySem.W.codeIn K cd9 "letter_of" = true)
    (k9 : PySem.W.keepIn K (.ref f9) = true)
    (a10 : PySem.W.nsIn K mainGlobals "_law_row" = some (some (.ref f10)))
    (l10 : K.lookup f10 = some ⟨oc10, od10, .func (PySem.W.fnOf "_law_row" "_law_row" (defArgs sl_row) (defBody sl_row) (defScope sl_row) .none kV10 dc10 pm10 an10 cd10 ct10), sl10⟩)
    (c10 : PySem.W.codeIn K cd10 "_law_row" = true)
    (k10 : PySem.W.keepIn K (.ref f10) = true)
    (a11 : PySem.W.nsIn K mainGlobals "_law_word" = some (some (.ref f11)))
    (l11 : K.lookup f11 = some ⟨oc11, od11, .func (PySem.W.fnOf "_law_word" "_law_word" (defArgs sl_word) (defBody sl_word) (defScope sl_word) .none kV11 dc11 pm11 an11 cd11 ct11), sl11⟩)
    (c11 : PySem.W.codeIn K cd11 "_law_word" = true)
    (k11 : PySem.W.keepIn K (.ref f11) = true)
    (a12 : PySem.W.nsIn K mainGlobals "_law_signs" = some (some (.ref f12)))
    (l12 : K.lookup f12 = some ⟨oc12, od12, .func (PySem.W.fnOf "_law_signs" "_law_signs" (defArgs sl_signs) (defBody sl_signs) (defScope sl_signs) .none kV12 dc12 pm12 an12 cd12 ct12), sl12⟩)
    (c12 : PySem.W.codeIn K cd12 "_law_signs" = true)
    (k12 : PySem.W.keepIn K (.ref f12) = true)
    (a13 : PySem.W.nsIn K mainGlobals "_law_parts" = some (some (.ref f13)))
    (l13 : K.lookup f13 = some ⟨oc13, od13, .func (PySem.W.fnOf "_law_parts" "_law_parts" (defArgs sl_parts) (defBody sl_parts) (defScope sl_parts) .none kV13 dc13 pm13 an13 cd13 ct13), sl13⟩)
    (c13 : PySem.W.codeIn K cd13 "_law_parts" = true)
    (k13 : PySem.W.keepIn K (.ref f13) = true)
    (a14 : PySem.W.nsIn K mainGlobals "_law_of_one_class" = some (some (.ref f14)))
    (l14 : K.lookup f14 = some ⟨oc14, od14, .func (PySem.W.fnOf "_law_of_one_class" "_law_of_one_class" (defArgs sl_of_one_class) (defBody sl_of_one_class) (defScope sl_of_one_class) .none kV14 dc14 pm14 an14 cd14 ct14), sl14⟩)
    (c14 : PySem.W.codeIn K cd14 "_law_of_one_class" = true)
    (k14 : PySem.W.keepIn K (.ref f14) = true)
    (a15 : PySem.W.nsIn K mainGlobals "_law_odd_word" = some (some (.ref f15)))
    (l15 : K.lookup f15 = some ⟨oc15, od15, .func (PySem.W.fnOf "_law_odd_word" "_law_odd_word" (defArgs sl_odd_word) (defBody sl_odd_word) (defScope sl_odd_word) .none kV15 dc15 pm15 an15 cd15 ct15), sl15⟩)
    (c15 : PySem.W.codeIn K cd15 "_law_odd_word" = true)
    (k15 : PySem.W.keepIn K (.ref f15) = true)
    (a16 : PySem.W.nsIn K mainGlobals "_law_odd_title" = some (some (.ref f16)))
    (l16 : K.lookup f16 = some ⟨oc16, od16, .func (PySem.W.fnOf "_law_odd_title" "_law_odd_title" (defArgs sl_odd_title) (defBody sl_odd_title) (defScope sl_odd_title) .none kV16 dc16 pm16 an16 cd16 ct16), sl16⟩)
    (c16 : PySem.W.codeIn K cd16 "_law_odd_title" = true)
    (k16 : PySem.W.keepIn K (.ref f16) = true)
    (a17 : PySem.W.nsIn K mainGlobals "_law_odd_parts" = some (some (.ref f17)))
    (l17 : K.lookup f17 = some ⟨oc17, od17, .func (PySem.W.fnOf "_law_odd_parts" "_law_odd_parts" (defArgs sl_odd_parts) (defBody sl_odd_parts) (defScope sl_odd_parts) .none kV17 dc17 pm17 an17 cd17 ct17), sl17⟩)
    (c17 : PySem.W.codeIn K cd17 "_law_odd_parts" = true)
    (k17 : PySem.W.keepIn K (.ref f17) = true)
    (a18 : PySem.W.nsIn K mainGlobals "_law_refused" = some (some (.ref f18)))
    (l18 : K.lookup f18 = some ⟨oc18, od18, .func (PySem.W.fnOf "_law_refused" "_law_refused" (defArgs sl_refused) (defBody sl_refused) (defScope sl_refused) .none kV18 dc18 pm18 an18 cd18 ct18), sl18⟩)
    (c18 : PySem.W.codeIn K cd18 "_law_refused" = true)
    (k18 : PySem.W.keepIn K (.ref f18) = true)
    (a19 : PySem.W.nsIn K mainGlobals "law" = some (some (.ref f19)))
    (l19 : K.lookup f19 = some ⟨oc19, od19, .func (PySem.W.fnOf "law" "law" (defArgs slaw) (defBody slaw) (defScope slaw) .none kV19 dc19 pm19 an19 cd19 ct19), sl19⟩)
    (c19 : PySem.W.codeIn K cd19 "law" = true)
    (k19 : PySem.W.keepIn K (.ref f19) = true)
    (a20 : PySem.W.findIn K (.ref C_Letter) "__init__" = some (some (.ref f20)))
    (i20 : PySem.W.isFn K (.ref f20) = true)
    (l20 : K.lookup f20 = some ⟨oc20, od20, .func (PySem.W.fnOf "__init__" "Letter.__init__" (defArgs sLetter_init) (defBody sLetter_init) (defScope sLetter_init) (.ref D20) kV20 dc20 pm20 an20 cd20 ct20), sl20⟩)
    (t20 : K.lookup D20 = some ⟨Do20, Dd20, .seq #[dv20_0] Dn20, Ds20⟩)
    (rd20_0 : RelV (.str "") dv20_0)
    (c20 : PySem.W.codeIn K cd20 "Letter.__init__" = true)
    (k20 : PySem.W.keepIn K (.ref f20) = true)
    (a21 : PySem.W.findIn K (.ref C_Letter) "twin" = some (some (.ref f21)))
    (i21 : PySem.W.isFn K (.ref f21) = true)
    (l21 : K.lookup f21 = some ⟨oc21, od21, .func (PySem.W.fnOf "twin" "Letter.twin" (defArgs sLetter_twin) (defBody sLetter_twin) (defScope sLetter_twin) .none kV21 dc21 pm21 an21 cd21 ct21), sl21⟩)
    (c21 : PySem.W.codeIn K cd21 "Letter.twin" = true)
    (k21 : PySem.W.keepIn K (.ref f21) = true)
    (a22 : PySem.W.findIn K (.ref C_Letter) "parts" = some (some (.ref f22)))
    (i22 : PySem.W.isFn K (.ref f22) = true)
    (l22 : K.lookup f22 = some ⟨oc22, od22, .func (PySem.W.fnOf "parts" "Letter.parts" (defArgs sLetter_parts) (defBody sLetter_parts) (defScope sLetter_parts) .none kV22 dc22 pm22 an22 cd22 ct22), sl22⟩)
    (c22 : PySem.W.codeIn K cd22 "Letter.parts" = true)
    (k22 : PySem.W.keepIn K (.ref f22) = true)
    (a23 : PySem.W.findIn K (.ref C_Letter) "known" = some (some (.ref f23)))
    (i23 : PySem.W.isFn K (.ref f23) = true)
    (l23 : K.lookup f23 = some ⟨oc23, od23, .func (PySem.W.fnOf "known" "Letter.known" (defArgs sLetter_known) (defBody sLetter_known) (defScope sLetter_known) .none kV23 dc23 pm23 an23 cd23 ct23), sl23⟩)
    (c23 : PySem.W.codeIn K cd23 "Letter.known" = true)
    (k23 : PySem.W.keepIn K (.ref f23) = true)
    (a24 : PySem.W.findIn K (.ref C_Letter) "words" = some (some (.ref f24)))
    (i24 : PySem.W.isFn K (.ref f24) = true)
    (l24 : K.lookup f24 = some ⟨oc24, od24, .func (PySem.W.fnOf "words" "Letter.words" (defArgs sLetter_words) (defBody sLetter_words) (defScope sLetter_words) .none kV24 dc24 pm24 an24 cd24 ct24), sl24⟩)
    (c24 : PySem.W.codeIn K cd24 "Letter.words" = true)
    (k24 : PySem.W.keepIn K (.ref f24) = true)
    (a25 : PySem.W.findIn K (.ref C_Letter) "title_words" = some (some (.ref f25)))
    (i25 : PySem.W.isFn K (.ref f25) = true)
    (l25 : K.lookup f25 = some ⟨oc25, od25, .func (PySem.W.fnOf "title_words" "Letter.title_words" (defArgs sLetter_title_words) (defBody sLetter_title_words) (defScope sLetter_title_words) .none kV25 dc25 pm25 an25 cd25 ct25), sl25⟩)
    (c25 : PySem.W.codeIn K cd25 "Letter.title_words" = true)
    (k25 : PySem.W.keepIn K (.ref f25) = true)
    (g1 : PySem.W.nsIn K mainGlobals "WORD_SIGNS" = some (some gv1))
    (r1 : RelV (.str "abcdefghijklmnopqrstuvwxyz0123456789") gv1)
    (g2 : PySem.W.nsIn K mainGlobals "RUN_SIGNS" = some (some gv2))
    (r2 : RelV (.str "abcdefghijklmnopqrstuvwxyzABCDEFGHIJKLMNOPQRSTUVWXYZ0123456789") gv2)
    (g3 : PySem.W.nsIn K mainGlobals "MOST_WORD" = some (some gv3))
    (r3 : RelV (.int 20) gv3)
    (g4 : PySem.W.nsIn K mainGlobals "MOST_TITLE" = some (some gv4))
    (r4 : RelV (.int 60) gv4)
    (g5 : PySem.W.nsIn K mainGlobals "MOST_BODY" = some (some gv5))
    (r5 : RelV (.int 400) gv5)
    (g6 : PySem.W.nsIn K mainGlobals "LAST_DAY" = some (some gv6))
    (r6 : RelV (.int 9999) gv6)
    (pg_Letter : PySem.W.plainGet K C_Letter Str.empty = true)
    (hd_Letter : PySem.W.hasDictIn K C_Letter = true)
    (po_Letter : PySem.W.plainOver K C_Letter = true)
    (sa_Letter : PySem.W.findIn K (.ref C_Letter) "__setattr__" = some (some (.builtin "object.__setattr__")))
    (kc_Letter : PySem.W.keepIn K (.ref C_Letter) = true)
    (mk_Letter : PySem.W.makesIn K C_Letter = true)
    (n_Letter_sender : PySem.W.findIn K (.ref C_Letter) "sender" = some none)
    (n_Letter_title : PySem.W.findIn K (.ref C_Letter) "title" = some none)
    (n_Letter_body : PySem.W.findIn K (.ref C_Letter) "body" = some none)
    (n_Letter_day : PySem.W.findIn K (.ref C_Letter) "day" = some none)
    (n_Letter_answers : PySem.W.findIn K (.ref C_Letter) "answers" = some none)
    (n_Letter_found : PySem.W.findIn K (.ref C_Letter) "found" = some none)
    (x_MailError : PySem.W.excIn K C_MailError mroVE "ValueError.__new__" = true)
    (x_NoLetter : PySem.W.excIn K C_NoLetter mroVE "ValueError.__new__" = true)
    (s_NoLetter_MailError : PySem.W.mroIn K C_NoLetter (.ref C_MailError) = some true)
    (gx_hn : PySem.W.specialIn K (.builtin "object.__class__") "__get__" = some (some (.builtin "getset_descriptor.__get__")))
    (gx_tk : PySem.W.takesIn K (.builtin "object.__class__") = some true)
    (xga_NoLetter : PySem.W.findIn K (.ref C_NoLetter) "__getattribute__" = some (some (.builtin "BaseException.__getattribute__")))
    (xgt_NoLetter : PySem.W.findIn K (.ref C_NoLetter) "__getattr__" = some none)
    (xcl_NoLetter : PySem.W.hasDictIn K C_NoLetter = true)
    (xca_NoLetter : PySem.W.findIn K (.ref C_NoLetter) "__class__" = some (some (.builtin "object.__class__")))
    (xmo_NoLetter : PySem.W.mroIn K C_NoLetter (.type "object") = some true)
    (xmb_NoLetter : PySem.W.mroIn K C_NoLetter (.type "BaseException") = some true)
    (ki_NoLetter_NoWord : PySem.W.kitOne K (.ref C_NoLetter) (.ref C_NoWord) = some false)
    (ki_NoLetter_NoLetter : PySem.W.kitOne K (.ref C_NoLetter) (.ref C_NoLetter) = some true)
    (ki_NoLetter_NoRule : PySem.W.kitOne K (.ref C_NoLetter) (.ref C_NoRule) = some false)
    (ki_NoLetter_NoName : PySem.W.kitOne K (.ref C_NoLetter) (.ref C_NoName) = some false)
    (ki_NoLetter_ValueError : PySem.W.kitOne K (.ref C_NoLetter) (.type "ValueError") = some true)
    (ki_NoLetter_NoParcel : PySem.W.kitOne K (.ref C_NoLetter) (.ref C_NoParcel) = some false)
    (ki_NoLetter_NoRow : PySem.W.kitOne K (.ref C_NoLetter) (.ref C_NoRow) = some false)
    (zVE : PySem.W.nsIn K mainGlobals "ValueError" = some none)
    (z1 : PySem.W.nsIn K mainGlobals "len" = some none)
    (z2 : PySem.W.nsIn K mainGlobals "range" = some none)
    (z3 : PySem.W.nsIn K mainGlobals "isinstance" = some none)
    (z4 : PySem.W.nsIn K mainGlobals "str" = some none)
    (z5 : PySem.W.nsIn K mainGlobals "int" = some none)
    (z6 : PySem.W.nsIn K mainGlobals "bool" = some none)
    (z7 : PySem.W.nsIn K mainGlobals "list" = some none)
    (z8 : PySem.W.nsIn K mainGlobals "tuple" = some none)
    (z9 : PySem.W.nsIn K mainGlobals "all" = some none) :
    ∃ fd : FuncData, (∀ (s : Shared) (v : Value), BindsTo s fd ⟨[v], []⟩ [("_law_script", v)]) ∧ ∀ base : Heap, K.In base → base.Ns mainGlobals mg → FnOk l.prog w K mg base CX0 14 fa fd ["_law_script"] (spLaw K) := by
  have e := hfa.symm.trans (PySem.W.mg_of X G a19)
  cases e
  have F1 := fun_mk (st := swall) l1 c1 k1
  have b1 := F1.binds (ps := ["k"]) fun _ _ _ _ _ _ => by refine us_1 ?_; intros; rfl
  have F2 := fun_mk (st := sall_among) l2 c2 k2
  have b2 := F2.binds (ps := ["text", "signs"]) fun _ _ _ _ _ _ => by refine us_2 ?_; intros; rfl
  have F3 := fun_mk (st := sis_word) l3 c3 k3
  have b3 := F3.binds (ps := ["thing"]) fun _ _ _ _ _ _ => by refine us_1 ?_; intros; rfl
  have F4 := fun_mk (st := swords_of) l4 c4 k4
  have b4 := F4.binds (ps := ["text"]) fun _ _ _ _ _ _ => by refine us_1 ?_; intros; rfl
  have F5 := fun_mk (st := sis_text) l5 c5 k5
  have b5 := F5.binds (ps := ["thing", "most"]) fun _ _ _ _ _ _ => by refine us_2 ?_; intros; rfl
  have F6 := fun_mk (st := sis_whole) l6 c6 k6
  have b6 := F6.binds (ps := ["thing"]) fun _ _ _ _ _ _ => by refine us_1 ?_; intros; rfl
  have F7 := fun_mk (st := sis_answered) l7 c7 k7
  have b7 := F7.binds (ps := ["thing"]) fun _ _ _ _ _ _ => by refine us_1 ?_; intros; rfl
  have F8 := fun_mk (st := scheck_parts) l8 c8 k8
  have b8 := F8.binds (ps := ["sender", "title", "body", "day", "answers"]) fun _ _ _ _ _ _ => by refine us_5 ?_; intros; rfl
  have F9 := fun_mk (st := sletter_of) l9 c9 k9
  have b9 := F9.binds (ps := ["thing"]) fun _ _ _ _ _ _ => by refine us_1 ?_; intros; rfl
  have F10 := fun_mk (st := sl_row) l10 c10 k10
  have b10 := F10.binds (ps := ["_law_script", "_law_many"]) fun _ _ _ _ _ _ => by refine us_2 ?_; intros; rfl
  have F11 := fun_mk (st := sl_word) l11 c11 k11
  have b11 := F11.binds (ps := ["_law_base", "_law_turn"]) fun _ _ _ _ _ _ => by refine us_2 ?_; intros; rfl
  have F12 := fun_mk (st := sl_signs) l12 c12 k12
  have b12 := F12.binds (ps := ["_law_number", "_law_many"]) fun _ _ _ _ _ _ => by refine us_2 ?_; intros; rfl
  have F13 := fun_mk (st := sl_parts) l13 c13 k13
  have b13 := F13.binds (ps := ["_law_row_here", "_law_base"]) fun _ _ _ _ _ _ => by refine us_2 ?_; intros; rfl
  have F14 := fun_mk (st := sl_of_one_class) l14 c14 k14
  have b14 := F14.binds (ps := ["_law_e"]) fun _ _ _ _ _ _ => by refine us_1 ?_; intros; rfl
  have F15 := fun_mk (st := sl_odd_word) l15 c15 k15
  have b15 := F15.binds (ps := ["_law_number", "_law_word_here"]) fun _ _ _ _ _ _ => by refine us_2 ?_; intros; rfl
  have F16 := fun_mk (st := sl_odd_title) l16 c16 k16
  have b16 := F16.binds (ps := ["_law_number", "_law_title"]) fun _ _ _ _ _ _ => by refine us_2 ?_; intros; rfl
  have F17 := fun_mk (st := sl_odd_parts) l17 c17 k17
  have b17 := F17.binds (ps := ["_law_number", "_law_parts_here"]) fun _ _ _ _ _ _ => by refine us_2 ?_; intros; rfl
  have F18 := fun_mk (st := sl_refused) l18 c18 k18
  have b18 := F18.binds (ps := ["_law_parts_here", "_law_way"]) fun _ _ _ _ _ _ => by refine us_2 ?_; intros; rfl
  have F19 := fun_mk (st := slaw) l19 c19 k19
  have b19 := F19.binds (ps := ["_law_script"]) fun _ _ _ _ _ _ => by refine us_1 ?_; intros; rfl
  have F20 := fun_mkD (st := sLetter_init) l20 c20 k20
  have b20_0 : Binds K (PySem.W.fnOf "__init__" "Letter.__init__" (defArgs sLetter_init) (defBody sLetter_init) (defScope sLetter_init) (.ref D20) kV20 dc20 pm20 an20 cd20 ct20) ["self", "sender", "title", "body", "day", "answers"] [dv20_0] := fun s us X' hl => have hl' : us.length = 5 := (by simpa using hl); (by clear hl; revert hl'; revert us; refine us_5 ?_; intros; exact PySem.W.binds_K (fd := PySem.W.fnOf "__init__" "Letter.__init__" (defArgs sLetter_init) (defBody sLetter_init) (defScope sLetter_init) (.ref D20) kV20 dc20 pm20 an20 cd20 ct20) X' rfl t20 rfl rfl rfl)
  have b20_1 : Binds K (PySem.W.fnOf "__init__" "Letter.__init__" (defArgs sLetter_init) (defBody sLetter_init) (defScope sLetter_init) (.ref D20) kV20 dc20 pm20 an20 cd20 ct20) ["self", "sender", "title", "body", "day", "answers"] [] := fun s us X' hl => have hl' : us.length = 6 := (by simpa using hl); (by clear hl; revert hl'; revert us; refine us_6 ?_; intros; exact PySem.W.binds_K (fd := PySem.W.fnOf "__init__" "Letter.__init__" (defArgs sLetter_init) (defBody sLetter_init) (defScope sLetter_init) (.ref D20) kV20 dc20 pm20 an20 cd20 ct20) X' rfl t20 rfl rfl rfl)
  have F21 := fun_mk (st := sLetter_twin) l21 c21 k21
  have b21 := F21.binds (ps := ["self"]) fun _ _ _ _ _ _ => by refine us_1 ?_; intros; rfl
  have F22 := fun_mk (st := sLetter_parts) l22 c22 k22
  have b22 := F22.binds (ps := ["self"]) fun _ _ _ _ _ _ => by refine us_1 ?_; intros; rfl
  have F23 := fun_mk (st := sLetter_known) l23 c23 k23
  have b23 := F23.binds (ps := ["self"]) fun _ _ _ _ _ _ => by refine us_1 ?_; intros; rfl
  have F24 := fun_mk (st := sLetter_words) l24 c24 k24
  have b24 := F24.binds (ps := ["self"]) fun _ _ _ _ _ _ => by refine us_1 ?_; intros; rfl
  have F25 := fun_mk (st := sLetter_title_words) l25 c25 k25
  have b25 := F25.binds (ps := ["self"]) fun _ _ _ _ _ _ => by refine us_1 ?_; intros; rfl
  let A : Adr := { f_wall := f1, f_all_among := f2, f_is_word := f3, f_words_of := f4, f_is_text := f5, f_is_whole := f6, f_is_answered := f7, f_check_parts := f8, f_letter_of := f9, f_l_row := f10, f_l_word := f11, f_l_signs := f12, f_l_parts := f13, f_l_of_one_class := f14, f_l_odd_word := f15, f_l_odd_title := f16, f_l_odd_parts := f17, f_l_refused := f18, f_law := fa, f_Letter_init := f20, f_Letter_twin := f21, f_Letter_parts := f22, f_Letter_known := f23, f_Letter_words := f24, f_Letter_title_words := f25, C_Letter := C_Letter, C_MailError := C_MailError, C_NoLetter := C_NoLetter, C_NoWord := C_NoWord, C_NoRule := C_NoRule, C_NoName := C_NoName, C_NoParcel := C_NoParcel, C_NoRow := C_NoRow }
  have T : Txt K mg A := ⟨PySem.W.mg_of X G a1, PySem.W.mg_of X G a2, PySem.W.mg_of X G a3, PySem.W.mg_of X G a4, PySem.W.mg_of X G a5, PySem.W.mg_of X G a6, PySem.W.mg_of X G a7, PySem.W.mg_of X G a8, PySem.W.mg_of X G a9, PySem.W.mg_of X G a10, PySem.W.mg_of X G a11, PySem.W.mg_of X G a12, PySem.W.mg_of X G a13, PySem.W.mg_of X G a14, PySem.W.mg_of X G a15, PySem.W.mg_of X G a16, PySem.W.mg_of X G a17, PySem.W.mg_of X G a18, PySem.W.mg_of X G a19, ⟨_, PySem.W.mg_of X G g1, r1⟩, ⟨_, PySem.W.mg_of X G g2, r2⟩, ⟨_, PySem.W.mg_of X G g3, r3⟩, ⟨_, PySem.W.mg_of X G g4, r4⟩, ⟨_, PySem.W.mg_of X G g5, r5⟩, ⟨_, PySem.W.mg_of X G g6, r6⟩, PySem.W.mg_none_of X G z1, PySem.W.mg_none_of X G z2, PySem.W.mg_none_of X G z3, PySem.W.mg_none_of X G z4, PySem.W.mg_none_of X G z5, PySem.W.mg_none_of X G z6, PySem.W.mg_none_of X G z7, PySem.W.mg_none_of X G z8, PySem.W.mg_none_of X G z9, PySem.W.mg_of X G q_Letter, ⟨pg_Letter, hd_Letter, po_Letter, sa_Letter⟩, ⟨mk_Letter, a20, i20, kc_Letter⟩, ⟨a21, i21, k21⟩, ⟨a22, i22, k22⟩, ⟨a23, i23, k23⟩, ⟨a24, i24, k24⟩, ⟨a25, i25, k25⟩, n_Letter_sender, n_Letter_title, n_Letter_body, n_Letter_day, n_Letter_answers, n_Letter_found, PySem.W.mg_of X G q_MailError, ⟨x_MailError⟩, PySem.W.mg_of X G q_NoLetter, ⟨x_NoLetter⟩, mro_of s_NoLetter_MailError, PySem.W.mg_of X G q_NoWord, PySem.W.mg_of X G q_NoRule, PySem.W.mg_of X G q_NoName, PySem.W.mg_of X G q_NoParcel, PySem.W.mg_of X G q_NoRow, ⟨xga_NoLetter, xgt_NoLetter, xcl_NoLetter, xca_NoLetter, gx_hn, gx_tk, xmo_NoLetter, xmb_NoLetter⟩, ki_NoLetter_NoWord, ki_NoLetter_NoLetter, ki_NoLetter_NoRule, ki_NoLetter_NoName, ki_NoLetter_ValueError, ki_NoLetter_NoParcel, ki_NoLetter_NoRow, PySem.W.mg_none_of X G zVE, trivial⟩
  have FF : Funs K A := ⟨⟨_, F1, b1⟩, ⟨_, F2, b2⟩, ⟨_, F3, b3⟩, ⟨_, F4, b4⟩, ⟨_, F5, b5⟩, ⟨_, F6, b6⟩, ⟨_, F7, b7⟩, ⟨_, F8, b8⟩, ⟨_, F9, b9⟩, ⟨_, F10, b10⟩, ⟨_, F11, b11⟩, ⟨_, F12, b12⟩, ⟨_, F13, b13⟩, ⟨_, F14, b14⟩, ⟨_, F15, b15⟩, ⟨_, F16, b16⟩, ⟨_, F17, b17⟩, ⟨_, F18, b18⟩, ⟨_, F19, b19⟩, ⟨_, F20, b20_1, ⟨_, (.cons rd20_0 .nil), b20_0⟩⟩, ⟨_, F21, b21⟩, ⟨_, F22, b22⟩, ⟨_, F23, b23⟩, ⟨_, F24, b24⟩, ⟨_, F25, b25⟩⟩
  exact ⟨PySem.W.fnOf "law" "law" (defArgs slaw) (defBody slaw) (defScope slaw) .none kV19 dc19 pm19 an19 cd19 ct19, fun s v => .of_eq rfl, fun base _ _ => ok_law F19 T FF⟩
theorem walk {l : PySem.W.OpenLaw} {q : Program} {loose : List Str} {XP : (Str → Option Value) → Heap → Prop} {YP : World → Heap → Prop} {d : DefRec} {K : Params → PySem.W.Frag} (hn : l.most = some 63) (hdf : d.params.defaults = [])
    (hY : ∀ (w : World) (h : Heap), YP w h → (K w.params).In h)
    (F : ∀ (w : World) (mg : Str → Option Value) (fa : Addr) (h : Heap), (K w.params).In h → h.Ns mainGlobals mg → mg d.name = some (.ref fa) →
      ∃ fd : FuncData, (∀ (s : Shared) (u : Value), BindsTo s fd ⟨[u], []⟩ [("_law_script", u)]) ∧ ∀ base : Heap, (K w.params).In base → base.Ns mainGlobals mg → FnOk l.prog w (K w.params) mg base CX0 14 fa fd ["_law_script"] (spLaw (K w.params))) :
    PySem.W.WalkO q loose XP YP l.row.toRowW d [] (fun f vs => PySem.call f vs) :=
  L2.walk_of (n := 63) (k := 14) (x := "_law_script") (CX := fun _ => CX0) (sp := fun w => spLaw (K w.params)) hn (by decide) hdf ⟨rfl, by decide, by decide, rfl⟩ hY F (fun _ _ a ns hl _ hS => ⟨a, ns, rfl, hS, hl, fun _ => rfl⟩) fun _ _ _ _ _ z => z
end K05
open PySem PySem.W PyProof.Rows
set_option maxRecDepth 100000 in
set_option maxHeartbeats 0 in
theorem PySem.Challenge.cw_mailroom_k05_letters_refused_holds : PySem.Challenge.rw_mailroom_k05_letters_refused.Holds := by
  w_on; o_law; k_head; (case hw => w_witness2)
  k_fill
  refine K05.walk (l := PySem.Challenge.rw_mailroom_k05_letters_refused) rfl rfl (fun w h Y => PySem.W.kIn_of Y) ?F
  case F =>
    intro w mg fa h KX G hmg
    refine' K05.all_mk KX G hmg ?q_Letter ?q_MailError ?q_NoLetter ?q_NoWord ?q_NoRule ?q_NoName ?q_NoParcel ?q_NoRow ?a1 ?l1 ?c1 ?k1 ?a2 ?l2 ?c2 ?k2 ?a3 ?l3 ?c3 ?k3 ?a4 ?l4 ?c4 ?k4 ?a5 ?l5 ?c5 ?k5 ?a6 ?l6 ?c6 ?k6 ?a7 ?l7 ?c7 ?k7 ?a8 ?l8 ?c8 ?k8 ?a9 ?l9 ?c9 ?k9 ?a10 ?l10 ?c10 ?k10 ?a11 ?l11 ?c11 ?k11 ?a12 ?l12 ?c12 ?k12 ?a13 ?l13 ?c13 ?k13 ?a14 ?l14 ?c14 ?k14 ?a15 ?l15 ?c15 ?k15 ?a16 ?l16 ?c16 ?k16 ?a17 ?l17 ?c17 ?k17 ?a18 ?l18 ?c18 ?k18 ?a19 ?l19 ?c19 ?k19 ?a20 ?i20 ?l20 ?t20 ?rd20_0 ?c20 ?k20 ?a21 ?i21 ?l21 ?c21 ?k21 ?a22 ?i22 ?l22 ?c22 ?k22 ?a23 ?i23 ?l23 ?c23 ?k23 ?a24 ?i24 ?l24 ?c24 ?k24 ?a25 ?i25 ?l25 ?c25 ?k25 ?g1 ?r1 ?g2 ?r2 ?g3 ?r3 ?g4 ?r4 ?g5 ?r5 ?g6 ?r6 ?pg_Letter ?hd_Letter ?po_Letter ?sa_Letter ?kc_Letter ?mk_Letter ?n_Letter_sender ?n_Letter_title ?n_Letter_body ?n_Letter_day ?n_Letter_answers ?n_Letter_found ?x_MailError ?x_NoLetter ?s_NoLetter_MailError ?gx_hn ?gx_tk ?xga_NoLetter ?xgt_NoLetter ?xcl_NoLetter ?xca_NoLetter ?xmo_NoLetter ?xmb_NoLetter ?ki_NoLetter_NoWord ?ki_NoLetter_NoLetter ?ki_NoLetter_NoRule ?ki_NoLetter_NoName ?ki_NoLetter_ValueError ?ki_NoLetter_NoParcel ?ki_NoLetter_NoRow ?zVE ?z1 ?z2 ?z3 ?z4 ?z5 ?z6 ?z7 ?z8 ?z9
    (case q_Letter => k_is)
    (case q_MailError => k_is)
    (case q_NoLetter => k_is)
    (case q_NoWord => k_is)
    (case q_NoRule => k_is)
    (case q_NoName => k_is)
    (case q_NoParcel => k_is)
    (case q_NoRow => k_is)
    (case a1 => k_is)
    (case l1 => k_is)
    (case c1 => k_is)
    (case k1 => k_is)
    (case a2 => k_is)
    (case l2 => k_is)
    (case c2 => k_is)
    (case k2 => k_is)
    (case a3 => k_is)
    (case l3 => k_is)
    (case c3 => k_is)
    (case k3 => k_is)
    (case a4 => k_is)
    (case l4 => k_is)
    (case c4 => k_is)
    (case k4 => k_is)
    (case a5 => k_is)
    (case l5 => k_is)
    (case c5 => k_is)
    (case k5 => k_is)
    (case a6 => k_is)
    (case l6 => k_is)
    (case c6 => k_is)
    (case k6 => k_is)
    (case a7 => k_is)
    (case l7 => k_is)
    (case c7 => k_is)
    (case k7 => k_is)
    (case a8 => k_is)
    (case l8 => k_is)
    (case c8 => k_is)
    (case k8 => k_is)
    (case a9 => k_is)
    (case l9 => k_is)
    (case c9 => k_is)
    (case k9 => k_is)
    (case a10 => k_is)
    (case l10 => k_is)
    (case c10 => k_is)
    (case k10 => k_is)
    (case a11 => k_is)
    (case l11 => k_is)
    (case c11 => k_is)
    (case k11 => k_is)
    (case a12 => k_is)
    (case l12 => k_is)
    (case c12 => k_is)
    (case k12 => k_is)
    (case a13 => k_is)
    (case l13 => k_is)
    (case c13 => k_is)
    (case k13 => k_is)
    (case a14 => k_is)
    (case l14 => k_is)
    (case c14 => k_is)
    (case k14 => k_is)
    (case a15 => k_is)
    (case l15 => k_is)
    (case c15 => k_is)
    (case k15 => k_is)
    (case a16 => k_is)
    (case l16 => k_is)
    (case c16 => k_is)
    (case k16 => k_is)
    (case a17 => k_is)
    (case l17 => k_is)
    (case c17 => k_is)
    (case k17 => k_is)
    (case a18 => k_is)
    (case l18 => k_is)
    (case c18 => k_is)
    (case k18 => k_is)
    (case a19 => k_is)
    (case l19 => k_is)
    (case c19 => k_is)
    (case k19 => k_is)
    (case a20 => k_is)
    (case i20 => k_is)
    (case l20 => k_is)
    (case t20 => k_is)
    (case rd20_0 => exact ⟨_, rfl⟩)
    (case c20 => k_is)
    (case k20 => k_is)
    (case a21 => k_is)
    (case i21 => k_is)
    (case l21 => k_is)
    (case c21 => k_is)
    (case k21 => k_is)
    (case a22 => k_is)
    (case i22 => k_is)
    (case l22 => k_is)
    (case c22 => k_is)
    (case k22 => k_is)
    (case a23 => k_is)
    (case i23 => k_is)
    (case l23 => k_is)
    (case c23 => k_is)
    (case k23 => k_is)
    (case a24 => k_is)
    (case i24 => k_is)
    (case l24 => k_is)
    (case c24 => k_is)
    (case k24 => k_is)
    (case a25 => k_is)
    (case i25 => k_is)
    (case l25 => k_is)
    (case c25 => k_is)
    (case k25 => k_is)
    (case g1 => k_is)
    (case r1 => exact ⟨_, rfl⟩)
    (case g2 => k_is)
    (case r2 => exact ⟨_, rfl⟩)
    (case g3 => k_is)
    (case r3 => exact ⟨_, rfl⟩)
    (case g4 => k_is)
    (case r4 => exact ⟨_, rfl⟩)
    (case g5 => k_is)
    (case r5 => exact ⟨_, rfl⟩)
    (case g6 => k_is)
    (case r6 => exact ⟨_, rfl⟩)
    (case pg_Letter => k_is)
    (case hd_Letter => k_is)
    (case po_Letter => k_is)
    (case sa_Letter => k_is)
    (case kc_Letter => k_is)
    (case mk_Letter => k_is)
    (case n_Letter_sender => k_is)
    (case n_Letter_title => k_is)
    (case n_Letter_body => k_is)
    (case n_Letter_day => k_is)
    (case n_Letter_answers => k_is)
    (case n_Letter_found => k_is)
    (case x_MailError => k_exc)
    (case x_NoLetter => k_exc)
    (case s_NoLetter_MailError => k_is)
    (case gx_hn => k_is)
    (case gx_tk => k_is)
    (case xga_NoLetter => k_is)
    (case xgt_NoLetter => k_is)
    (case xcl_NoLetter => k_is)
    (case xca_NoLetter => k_is)
    (case xmo_NoLetter => k_is)
    (case xmb_NoLetter => k_is)
    (case ki_NoLetter_NoWord => kit_is)
    (case ki_NoLetter_NoLetter => kit_is)
    (case ki_NoLetter_NoRule => kit_is)
    (case ki_NoLetter_NoName => kit_is)
    (case ki_NoLetter_ValueError => kit_is)
    (case ki_NoLetter_NoParcel => kit_is)
    (case ki_NoLetter_NoRow => kit_is)
    (case zVE => k_is)
    (case z1 => k_is)
    (case z2 => k_is)
    (case z3 => k_is)
    (case z4 => k_is)
    (case z5 => k_is)
    (case z6 => k_is)
    (case z7 => k_is)
    (case z8 => k_is)
    (case z9 => k_is)
#print axioms PySem.Challenge.cw_mailroom_k05_letters_refused_holds
