import PyProof.Rows.All
import Wide.All
import OpenK.AllK
import Wide.FinOn
import Lean
import PyProof.EqAt
import PyProof.EqKinds
import PyProof.TupleCall
import PyProof.P3In
import KE.KDictLaws
import PyProof.Rows.SetFrom
import KE.KRevSl
import PySem.Challenge.RW_mailroom_k25_words_of_names
set_option Elab.async false
set_option linter.all false
set_option maxRecDepth 100000
namespace L2
open PySem PySem.Spec PyProof.Rows
/-- a key: an int or a str -/
abbrev Key := Sum Int Str
def keyIs : Key → Value → Bool
  | .inl k, v => Value.isInt k v
  | .inr x, v => Value.isStrOf x v
def keyH (w : World) : Key → Int
  | .inl k => hashInt k
  | .inr x => hashStr w x
theorem keyIs_shape : ∀ {k : Key} {v : Value}, keyIs k v = true → (∃ i t, k = Sum.inl i ∧ v = Value.int i t) ∨ (∃ x t, k = Sum.inr x ∧ v = Value.str x t)
  | .inl i, v, h => by
    obtain ⟨t, e⟩ := Value.isInt_shape (k := i) (v := v) h
    exact .inl ⟨i, t, rfl, e⟩
  | .inr x, v, h => by
    obtain ⟨t, e⟩ := Value.isStrOf_shape (x := x) (v := v) h
    exact .inr ⟨x, t, rfl, e⟩
theorem keyIs_int (i : Int) (t : Tok) : keyIs (.inl i) (.int i t) = true := by simp [keyIs, Value.isInt]
theorem keyIs_str (x : Str) (t : Tok) : keyIs (.inr x) (.str x t) = true := by simp [keyIs, Value.isStrOf]
theorem key_ll (a b : Int) : decide ((Sum.inl a : Key) = Sum.inl b) = (a == b) := by
  by_cases e : a = b
  · subst e; simp
  · have h : ¬ (Sum.inl a : Key) = Sum.inl b := fun q => e (Sum.inl.inj q)
    rw [decide_eq_false h]
    exact (beq_eq_false_iff_ne.mpr e).symm
theorem key_rr (a b : Str) : decide ((Sum.inr a : Key) = Sum.inr b) = decide (a = b) := by
  by_cases e : a = b
  · subst e; simp
  · have h : ¬ (Sum.inr a : Key) = Sum.inr b := fun q => e (Sum.inr.inj q)
    rw [decide_eq_false h, decide_eq_false e]
theorem key_lr (a : Int) (b : Str) : decide ((Sum.inl a : Key) = Sum.inr b) = false := decide_eq_false (fun q => nomatch q)
theorem key_rl (a : Str) (b : Int) : decide ((Sum.inr a : Key) = Sum.inl b) = false := decide_eq_false (fun q => nomatch q)
def mixKind (prog : Program) (w : World) : PySem.KeyKind prog w Key where
  is := keyIs
  hash := keyH w
  inj := fun v a b ha hb => by
    rcases keyIs_shape ha with ⟨i, t, rfl, rfl⟩ | ⟨x, t, rfl, rfl⟩
    · rcases keyIs_shape hb with ⟨j, u, rfl, e⟩ | ⟨y, u, rfl, e⟩
      · injection e with e1 _; rw [e1]
      · exact nomatch e
    · rcases keyIs_shape hb with ⟨j, u, rfl, e⟩ | ⟨y, u, rfl, e⟩
      · exact nomatch e
      · injection e with e1 _; rw [e1]
  byValue := fun k v h => by
    rcases keyIs_shape h with ⟨i, t, rfl, rfl⟩ | ⟨x, t, rfl, rfl⟩ <;> rfl
  pyHash := fun hv h => by
    rcases keyIs_shape hv with ⟨i, t, rfl, rfl⟩ | ⟨x, t, rfl, rfl⟩
    · exact wpAny_pyHash_int h
    · exact wpAny_pyHash_str h
  eqBool := fun hu hv h => by
    rcases keyIs_shape hu with ⟨i, t, rfl, rfl⟩ | ⟨x, t, rfl, rfl⟩
    · rcases keyIs_shape hv with ⟨j, u, rfl, rfl⟩ | ⟨y, u, rfl, rfl⟩
      · rw [key_ll] at h; exact wpAny_eqBool_int h
      · rw [key_lr] at h; exact SeqAt.EqAt.int_str i t y u _ _ _ _ h
    · rcases keyIs_shape hv with ⟨j, u, rfl, rfl⟩ | ⟨y, u, rfl, rfl⟩
      · rw [key_rl] at h; exact SeqAt.EqAt.str_int x t j u _ _ _ _ h
      · rw [key_rr] at h; exact wpAny_eqBool_str h
  «strs» := fun k x t v h => by
    rcases keyIs_shape h with ⟨i, u, rfl, e⟩ | ⟨y, u, rfl, e⟩
    · exact nomatch e
    · injection e with e1 _
      subst e1
      cases v <;> rfl
theorem mixKind_int (prog : Program) (w : World) (i : Int) (t : Tok) : (mixKind prog w).is (.inl i) (.int i t) = true := keyIs_int i t
theorem mixKind_str (prog : Program) (w : World) (x : Str) (t : Tok) : (mixKind prog w).is (.inr x) (.str x t) = true := keyIs_str x t
end L2
namespace L2
open PySem PySem.Spec PyProof.Rows
/-- a value, without the heap -/
inductive V where
  | non | bl (b : Bool) | int (i : Int) | str (x : Str) | byt (b : Array UInt8) | flt (b : UInt64) | ref (a : Addr) | ty (n : String)
  deriving DecidableEq
def RelV : V → Value → Prop
  | .non, u => u = Value.none
  | .bl b, u => u = Value.bool b
  | .int i, u => ∃ t, u = Value.int i t
  | .str x, u => ∃ t, u = Value.str x t
  | .byt b, u => ∃ t, u = Value.bytes b t
  | .flt b, u => ∃ t, u = Value.float b t
  | .ref a, u => u = Value.ref a
  | .ty n, u => u = Value.type n
abbrev Vals : List V → List Value → Prop := Paired RelV
theorem Vals.length {xs : List V} {us : List Value} (r : Vals xs us) : xs.length = us.length := Paired.length r
theorem Vals.get : ∀ {xs : List V} {us : List Value} {i : Nat} {x : V}, Vals xs us → xs[i]? = some x → ∃ u, us[i]? = some u ∧ RelV x u
  | _, _, _, _, .nil, e => by simp at e
  | _, _, 0, _, .cons r _, e => by simp at e; subst e; exact ⟨_, rfl, r⟩
  | _, _, i + 1, x, .cons _ t, e => by
    obtain ⟨u, h1, h2⟩ := Vals.get (i := i) (x := x) t (by simpa using e)
    exact ⟨u, by simpa using h1, h2⟩
theorem Vals.set {x : V} {u : Value} (r : RelV x u) : ∀ {xs : List V} {us : List Value} (i : Nat), Vals xs us → Vals (xs.set i x) (us.set i u)
  | _, _, _, .nil => .nil
  | _, _, 0, .cons _ t => .cons r t
  | _, _, i + 1, .cons q t => .cons q (Vals.set r i t)
theorem Vals.append : ∀ {xs ys : List V} {us ws : List Value}, Vals xs us → Vals ys ws → Vals (xs ++ ys) (us ++ ws)
  | _, _, _, _, .nil, s => s
  | _, _, _, _, .cons r t, s => .cons r (Vals.append t s)
theorem Vals.take : ∀ {xs : List V} {us : List Value} (n : Nat), Vals xs us → Vals (xs.take n) (us.take n)
  | _, _, 0, _ => .nil
  | _, _, _ + 1, .nil => .nil
  | _, _, n + 1, .cons r t => .cons r (Vals.take n t)
theorem Vals.drop : ∀ {xs : List V} {us : List Value} (n : Nat), Vals xs us → Vals (xs.drop n) (us.drop n)
  | _, _, 0, r => r
  | _, _, _ + 1, .nil => .nil
  | _, _, n + 1, .cons _ t => Vals.drop n t
theorem Vals.none_of : ∀ {xs : List V} {us : List Value} {i : Nat}, Vals xs us → xs[i]? = none → us[i]? = none := fun {xs us i} r e => by
  have h1 := r.length
  have h2 : xs.length ≤ i := List.getElem?_eq_none_iff.mp e
  exact List.getElem?_eq_none_iff.mpr (by omega)
def RelO : Option V → Option Value → Prop
  | some v, some u => RelV v u
  | none, none => True
  | _, _ => False
def KV {κ : Type} : List (κ × V) → List (κ × Value) → Prop := Paired fun (p : κ × V) (q : κ × Value) => p.1 = q.1 ∧ RelV p.2 q.2
/-- a key of a dict (00_mix): an int or a text -/
def kV : Key → V
  | .inl i => .int i
  | .inr x => .str x
/-- what stands at a tracked address -/
inductive HO where
  /-- a list -/
  | lst (xs : List V)
  /-- a tuple (never changes) -/
  | tup (xs : List V)
  /-- a dict whose keys are ints and texts; one whose keys are tuples of ints and texts (the empty one is both) -/
  | dK (kvs : List (Key × V)) | dT (kvs : List (List Key × V))
  /-- a set of ints: its members, its size -/
  | set (S : Int → Bool) (n : Nat)
  /-- an instance of the class at C, its dict at dx, its attributes -/
  | ins (C dx : Addr) (fs : List (Str × V))
  /-- the dict of the instance at x -/
  | own (x : Addr)
  /-- the dict of an exception -/
  | xd (fs : List (Str × V))
  /-- a bound method, f of x -/
  | met (f x : Addr)
  /-- a range object lo, lo + 1, .. below hi -/
  | rng (lo hi : Int)
  /-- a thing that is known to the object (the script; a dict while a loop walks it): read, never written while it is so -/
  | frz (o : Obj) (u : HO)
  /-- a code object's table -/
  | tbl (ps : Array Value)
  /-- any other thing, by what is true of its one object (a def of one's own: SetO a S n := HO.ext fun h => ..) -/
  | ext (φ : Heap → Prop)
abbrev Hp := Addr → Option HO
def upd (H : Hp) (a : Addr) (o : HO) : Hp := fun b => if b = a then some o else H b
theorem upd_same {H : Hp} {a : Addr} {o : HO} : upd H a o a = some o := by unfold upd; rw [if_pos rfl]
theorem upd_ne {H : Hp} {a b : Addr} {o : HO} (h : b ≠ a) : upd H a o b = H b := by unfold upd; rw [if_neg h]
theorem upd_upd {H : Hp} {a : Addr} {o u : HO} : upd (upd H a o) a u = upd H a u := by
  funext b; unfold upd; split <;> rfl
/-- two objects of different content stand apart -/
theorem ne_of {H : Hp} {a b : Addr} {o u : HO} (h : H a = some o) (h' : H b = some u) (d : o ≠ u) : a ≠ b := by
  intro e; subst e; rw [h] at h'; exact d (Option.some.inj h')
theorem ne_of_none {H : Hp} {a b : Addr} {o : HO} (h : H a = some o) (h' : H b = none) : a ≠ b := by
  intro e; subst e; rw [h] at h'; cases h'
section
variable (P : Program) (w : World)
def ObjOk (H : Hp) (h : Heap) (a : Addr) : HO → Prop
  | .lst xs => xs.length ≤ sizeLine ∧ ∃ (its : List Value) (n : Nat), Vals xs its ∧ h.get? a = some { cls := .type "list", data := .seq its.toArray n }
  | .tup xs => xs.length ≤ sizeLine ∧ ∃ its : List Value, Vals xs its ∧ IsTup h a its.toArray
  | .dK kvs => kvs.length ≤ sizeLine ∧ (a == sysModules) = false ∧ ∃ vs, KV kvs vs ∧ h.DictOf (mixKind P w) a vs
  | .dT kvs => kvs.length ≤ sizeLine ∧ (a == sysModules) = false ∧ ∃ xs : List (List Key × Addr × Value),
      Paired (fun (p : List Key × V) (q : List Key × Addr × Value) => p.1 = q.1 ∧ H q.2.1 = some (.tup (p.1.map kV)) ∧ RelV p.2 q.2.2) kvs xs ∧
      ∃ o es ep, h.get? a = some o ∧ o.ExactDict ∧ o.data = .dict es ep ∧ es.toList = xs.map (entryOfKey (tupleKind (mixKind P w))) ∧ (xs.map (·.1)).Nodup
  | .set S n => h.SetOf (intKind P w) a S n
  | .ins C dx fs => H dx = some (.own a) ∧ fs.length ≤ 1000 ∧ dx ≠ a ∧ h.get? a = some (PySem.W.instObj C dx) ∧
      ∃ mA, h.Ns1 dx mA ∧ (∀ f, RelO (fs.lookup f) (mA f)) ∧ PySem.Within mA (fs.map (·.1))
  | .own _ => ∃ o, h.get? a = some o
  | .xd fs => ∃ mA, h.Ns1 a mA ∧ ∀ f, RelO (fs.lookup f) (mA f)
  | .rng lo hi => ∃ t u v, h.get? a = some { cls := .type "range", data := .fields #[.int lo t, .int hi u, .int 1 v] }
  | .frz o u => h.get? a = some o ∧ ObjOk H h a u
  | .tbl ps => h.get? a = some { cls := .none, data := .fields ps }
  | .met f x => h.get? a = some (PySem.W.methodObj (.ref f) (.ref x))
  | .ext φ => φ h ∧ (∃ o, h.get? a = some o) ∧ ∀ h1 h2 : Heap, φ h1 → (∀ o, h1.get? a = some o → h2.get? a = some o) → φ h2
/-- the abstract heap is held -/
def HOk (H : Hp) (h : Heap) : Prop := ∀ a o, H a = some o → ObjOk P w H h a o
end
section
variable {P : Program} {w : World} {H H' : Hp} {h h' : Heap} {a : Addr} {o : HO}
theorem ObjOk.lt (x : ObjOk P w H h a o) : a < h.objs.size := by
  cases o with
  | lst xs => obtain ⟨_, _, _, _, e⟩ := x; exact Heap.lt_size e
  | tup xs => obtain ⟨_, _, _, p⟩ := x; exact p.lt
  | dK kvs => obtain ⟨_, _, _, _, o, _, _, e, _⟩ := x; exact Heap.lt_size e
  | dT kvs => obtain ⟨_, _, _, _, o, _, _, e, _⟩ := x; exact Heap.lt_size e
  | set S n => obtain ⟨o, _, _, _, e, _⟩ := x; exact Heap.lt_size e
  | ins C dx fs => obtain ⟨_, _, _, e, _⟩ := x; exact Heap.lt_size e
  | own y => obtain ⟨_, e⟩ := x; exact Heap.lt_size e
  | xd fs => obtain ⟨_, ⟨_, _, _, e, _⟩, _⟩ := x; exact Heap.lt_size e
  | rng lo hi => obtain ⟨_, _, _, e⟩ := x; exact Heap.lt_size e
  | frz ob u => obtain ⟨e, _⟩ := x; exact Heap.lt_size e
  | tbl ps => exact Heap.lt_size (show h.get? a = some _ from x)
  | met f y => exact Heap.lt_size (show h.get? a = some _ from x)
  | ext φ => obtain ⟨_, ⟨_, e⟩, _⟩ := x; exact Heap.lt_size e
theorem Paired.mapP {α β : Type} {F G : α → β → Prop} : ∀ {l₁ : List α} {l₂ : List β}, Paired F l₁ l₂ → (∀ a b, F a b → G a b) → Paired G l₁ l₂
  | _, _, .nil, _ => .nil
  | _, _, .cons r t, f => .cons (f _ _ r) (Paired.mapP t f)
/-- what an object's description leans on: its own object, its own dict, the tuples -/
theorem ObjOk.stay (x : ObjOk P w H h a o) (k : ∀ b u, (b = a ∨ H b = some (.own a)) → h.get? b = some u → h'.get? b = some u)
    (ho : ∀ b, H b = some (.own a) → H' b = some (.own a)) (ht : ∀ b xs, H b = some (.tup xs) → H' b = some (.tup xs)) : ObjOk P w H' h' a o := by
  induction o with
  | lst xs => obtain ⟨z, its, n, r, e⟩ := x; exact ⟨z, its, n, r, k _ _ (.inl rfl) e⟩
  | tup xs => obtain ⟨z, its, r, ob, e, c⟩ := x; exact ⟨z, its, r, ob, k _ _ (.inl rfl) e, c⟩
  | dK kvs => obtain ⟨z, y, vs, r, ob, es, ep, e, c⟩ := x; exact ⟨z, y, vs, r, ob, es, ep, k _ _ (.inl rfl) e, c⟩
  | dT kvs =>
    obtain ⟨z, y, xs, r, ob, es, ep, e, c⟩ := x
    exact ⟨z, y, xs, Paired.mapP r fun p q z => ⟨z.1, ht _ _ z.2.1, z.2.2⟩, ob, es, ep, k _ _ (.inl rfl) e, c⟩
  | set S n => obtain ⟨ob, es, ep, t, e, c⟩ := x; exact ⟨ob, es, ep, t, k _ _ (.inl rfl) e, c⟩
  | ins C dx fs =>
    obtain ⟨d, z, ne, e, mA, ⟨od, es, ep, e2, c⟩, r⟩ := x
    exact ⟨ho _ d, z, ne, k _ _ (.inl rfl) e, mA, ⟨od, es, ep, k _ _ (.inr d) e2, c⟩, r⟩
  | own y => obtain ⟨ob, e⟩ := x; exact ⟨ob, k _ _ (.inl rfl) e⟩
  | xd fs => obtain ⟨mA, ⟨od, es, ep, e, c⟩, r⟩ := x; exact ⟨mA, ⟨od, es, ep, k _ _ (.inl rfl) e, c⟩, r⟩
  | rng lo hi => obtain ⟨t, u, v, e⟩ := x; exact ⟨t, u, v, k _ _ (.inl rfl) e⟩
  | frz ob u ih => obtain ⟨e, q⟩ := x; exact ⟨k _ _ (.inl rfl) e, ih q⟩
  | tbl ps =>
    have e : h.get? a = some { cls := .none, data := .fields ps } := x
    show h'.get? a = some { cls := .none, data := .fields ps }
    exact k a _ (.inl rfl) e
  | met f y =>
    have e : h.get? a = some (PySem.W.methodObj (.ref f) (.ref y)) := x
    show h'.get? a = some (PySem.W.methodObj (.ref f) (.ref y))
    exact k a _ (.inl rfl) e
  | ext φ => obtain ⟨p, ⟨o, e⟩, st⟩ := x; exact ⟨st _ _ p fun o q => k _ _ (.inl rfl) q, ⟨o, k _ _ (.inl rfl) e⟩, st⟩
theorem HOk.lt (x : HOk P w H h) (e : H a = some o) : a < h.objs.size := (x a o e).lt
theorem HOk.fresh (x : HOk P w H h) (e : h.objs.size ≤ a) : H a = none := by
  cases q : H a with
  | none => rfl
  | some u => exact absurd (Nat.lt_of_lt_of_le (x.lt q) e) (Nat.lt_irrefl _)
/-- every object of the heap is kept -/
theorem HOk.kept (x : HOk P w H h) (k : ∀ b u, h.get? b = some u → h'.get? b = some u) : HOk P w H h' := fun a o e =>
  (x a o e).stay (fun b u _ q => k b u q) (fun _ q => q) fun _ _ q => q
/-- a new object is laid and tracked -/
theorem HOk.laid (x : HOk P w H h) (k : ∀ b u, h.get? b = some u → h'.get? b = some u) (hp : h.objs.size ≤ a) (new : ObjOk P w (upd H a o) h' a o) : HOk P w (upd H a o) h' := fun b u e => by
  have hn := x.fresh hp
  by_cases hb : b = a
  · subst hb; rw [upd_same] at e; cases e; exact new
  · rw [upd_ne hb] at e
    exact (x b u e).stay (fun c v _ q => k c v q) (fun c q => by rw [upd_ne (ne_of_none q hn)]; exact q) fun c xs q => by rw [upd_ne (ne_of_none q hn)]; exact q
end
/-- what may be read as u: it is u, or a known u -/
def Rd (H : Hp) (a : Addr) (u : HO) : Prop := H a = some u ∨ ∃ o, H a = some (.frz o u)
theorem Rd.of {H : Hp} {a : Addr} {u : HO} (h : H a = some u) : Rd H a u := .inl h
theorem Rd.ok {P : Program} {w : World} {H : Hp} {h : Heap} {a : Addr} {u : HO} (r : Rd H a u) (x : HOk P w H h) : ObjOk P w H h a u := by
  rcases r with r | ⟨o, r⟩
  · exact x a u r
  · obtain ⟨_, q⟩ := x a _ r
    exact q
/-- what may be written -/
def Mut : Option HO → Prop
  | some (.lst _) => True
  | some (.dK _) => True
  | some (.dT _) => True
  | some (.set _ _) => True
  | some (.ins _ _ _) => True
  | some (.ext _) => True
  | _ => False
section
variable {P : Program} {w : World} {H : Hp} {h h' : Heap} {x e : Addr} {o' : HO}
/-- the object at e is changed: x itself, or the dict of the instance x -/
theorem HOk.write (ok : HOk P w H h) (mu : Mut (H x)) (he : e = x ∨ H e = some (.own x)) (k : ∀ b u, b ≠ e → h.get? b = some u → h'.get? b = some u) (heo : ∃ u, h'.get? e = some u)
    (new : ObjOk P w (upd H x o') h' x o') : HOk P w (upd H x o') h' := fun b u q => by
  have nown : ∀ c y, H c = some (.own y) → c ≠ x := fun c y r z => by subst z; rw [r] at mu; exact mu
  have ntup : ∀ c xs, H c = some (.tup xs) → c ≠ x := fun c xs r z => by subst z; rw [r] at mu; exact mu
  by_cases hb : b = x
  · subst hb; rw [upd_same] at q; cases q; exact new
  · rw [upd_ne hb] at q
    by_cases hbe : b = e
    · have q' : H b = some (.own x) := by
        rcases he with z | z
        · exact absurd (hbe.trans z) hb
        · rw [hbe]; exact z
      rw [q] at q'; cases q'
      obtain ⟨v, hv⟩ := heo
      exact ⟨v, by rw [hbe]; exact hv⟩
    · refine (ok b u q).stay (fun c v hc r => k c v ?_ r) (fun c r => by rw [upd_ne (nown c b r)]; exact r) fun c xs r => by rw [upd_ne (ntup c xs r)]; exact r
      rcases hc with rfl | hc
      · exact hbe
      · rintro rfl
        rcases he with z | z
        · exact nown c b hc z
        · rw [hc] at z; cases z; exact hb rfl
end
structure Un (fs ex : List Addr) (H H' : Hp) (h h' : Heap) : Prop where
  keep : ∀ b o, h.get? b = some o → H b = none → b ∉ fs → b ∉ ex → h'.get? b = some o
  slot : ∀ b o, h.get? b = some o → H b = none → b ∈ fs → b ∉ ex → ∃ sl, h'.get? b = some { o with slots := sl }
  free : ∀ b o, h.get? b = some o → H b = none → b ∉ ex → H' b = none
  there : ∀ b o, h.get? b = some o → b ∉ ex → ∃ o', h'.get? b = some o'
  tups : ∀ b xs, H b = some (.tup xs) → H' b = some (.tup xs)
  frzs : ∀ b o u, H b = some (.frz o u) → H' b = some (.frz o u)
  tbls : ∀ b ps, H b = some (.tbl ps) → ∃ more, H' b = some (.tbl (ps ++ more))
section
variable {fs fs' ex ex' : List Addr} {H H1 H2 : Hp} {h h1 h2 h' : Heap} {a x e : Addr} {o : HO}
theorem Un.any (u : Un fs ex H H1 h h1) {b : Addr} {ob : Obj} (q : h.get? b = some ob) (n : H b = none) (hx : b ∉ ex) : ∃ sl, h1.get? b = some { ob with slots := sl } := by
  by_cases hb : b ∈ fs
  · exact u.slot b ob q n hb hx
  · exact ⟨ob.slots, u.keep b ob q n hb hx⟩
theorem Un.trans (a : Un fs ex H H1 h h1) (b : Un fs ex H1 H2 h1 h2) : Un fs ex H H2 h h2 where
  keep := fun c ob q n hc hx => b.keep c ob (a.keep c ob q n hc hx) (a.free c ob q n hx) hc hx
  slot := fun c ob q n hc hx => by
    obtain ⟨sl, e1⟩ := a.slot c ob q n hc hx
    obtain ⟨sl', e2⟩ := b.slot c _ e1 (a.free c ob q n hx) hc hx
    exact ⟨sl', e2⟩
  free := fun c ob q n hx => by
    obtain ⟨o', e1⟩ := a.there c ob q hx
    exact b.free c o' e1 (a.free c ob q n hx) hx
  there := fun c ob q hx => by
    obtain ⟨o', e1⟩ := a.there c ob q hx
    exact b.there c o' e1 hx
  tups := fun c xs q => b.tups c xs (a.tups c xs q)
  frzs := fun c ob xs q => b.frzs c ob xs (a.frzs c ob xs q)
  tbls := fun c ps q => by
    obtain ⟨m1, e1⟩ := a.tbls c ps q
    obtain ⟨m2, e2⟩ := b.tbls c _ e1
    exact ⟨m1 ++ m2, by rw [e2, Array.append_assoc]⟩
theorem Un.kept (k : ∀ b u, h.get? b = some u → h'.get? b = some u) : Un fs ex H H h h' :=
  ⟨fun b ob q _ _ _ => k b ob q, fun b ob q _ _ _ => ⟨ob.slots, k b ob q⟩, fun _ _ _ n _ => n, fun b ob q _ => ⟨ob, k b ob q⟩, fun _ _ q => q, fun _ _ _ q => q, fun _ ps q => ⟨#[], by rw [q]; simp⟩⟩
theorem Un.refl : Un fs ex H H h h := Un.kept fun _ _ q => q
theorem Un.laid (k : ∀ b u, h.get? b = some u → h'.get? b = some u) (hp : h.objs.size ≤ a) (hn : H a = none) : Un fs ex H (upd H a o) h h' where
  keep := fun b u q _ _ _ => k b u q
  slot := fun b u q _ _ _ => ⟨u.slots, k b u q⟩
  free := fun b u q n _ => by rw [upd_ne (Nat.ne_of_lt (Nat.lt_of_lt_of_le (Heap.lt_size q) hp))]; exact n
  there := fun b u q _ => ⟨u, k b u q⟩
  tups := fun b xs q => by rw [upd_ne (ne_of_none q hn)]; exact q
  frzs := fun b u xs q => by rw [upd_ne (ne_of_none q hn)]; exact q
  tbls := fun b ps q => ⟨#[], by rw [upd_ne (ne_of_none q hn), q]; simp⟩
theorem Un.write (mu : Mut (H x)) (he : e = x ∨ H e = some (.own x)) (k : ∀ b u, b ≠ e → h.get? b = some u → h'.get? b = some u) (heo : ∃ u, h'.get? e = some u) : Un fs ex H (upd H x o) h h' := by
  have hx : ∀ b, H b = none → b ≠ x := fun b n z => by subst z; rw [n] at mu; exact mu
  have hb : ∀ b, H b = none → b ≠ e := fun b n z => by
    subst z
    rcases he with r | r
    · exact hx b n r
    · rw [n] at r; cases r
  have hm : ∀ b u, H b = some u → ¬ Mut (some u) → b ≠ x := fun b u q nm z => by subst z; rw [q] at mu; exact nm mu
  refine ⟨fun b u q n _ _ => k b u (hb b n) q, fun b u q n _ _ => ⟨u.slots, k b u (hb b n) q⟩, fun b u q n _ => by rw [upd_ne (hx b n)]; exact n, fun b u q _ => ?_,
    fun b xs q => by rw [upd_ne (hm b _ q fun z => z)]; exact q, fun b u xs q => by rw [upd_ne (hm b _ q fun z => z)]; exact q, fun b ps q => ⟨#[], by rw [upd_ne (hm b _ q fun z => z), q]; simp⟩⟩
  by_cases hbe : b = e
  · subst hbe; exact heo
  · exact ⟨u, k b u hbe q⟩
theorem Un.mono (u : Un fs ex H H1 h h1) (hs : ∀ b ∈ fs, b ∈ fs') (hx : ∀ b ∈ ex, b ∈ ex') : Un fs' ex' H H1 h h1 :=
  ⟨fun b ob q n hb he => u.keep b ob q n (fun z => hb (hs b z)) fun z => he (hx b z), fun _ _ q n _ he => u.any q n fun z => he (hx _ z), fun b ob q n he => u.free b ob q n fun z => he (hx b z), fun b ob q he => u.there b ob q fun z => he (hx b z), u.tups, u.frzs, u.tbls⟩
end
def trk (h : Heap) (H : Hp) : List Addr := (List.range h.objs.size).filter fun a => (H a).isSome
def hidT (h : Heap) (H : Hp) : Heap := PySem.W.hideAll h (trk h H)
theorem hidT_size (h : Heap) (H : Hp) : (hidT h H).objs.size = h.objs.size := PySem.W.hideAll_size _ _
theorem hidT_get {h : Heap} {H : Hp} {b : Addr} {o : Obj} (e : h.get? b = some o) (n : H b = none) : (hidT h H).get? b = some o :=
  PySem.W.hideAll_get _ e fun hm => by
    have q : (H b).isSome = true := (List.mem_filter.mp hm).2
    rw [n] at q; simp at q
theorem of_hidT {h : Heap} {H : Hp} {b : Addr} {o : Obj} (e : (hidT h H).get? b = some o) : h.get? b = some o ∧ H b = none := by
  have e' : h.get? b = some o := PySem.W.of_hideAll (trk h H) e
  refine ⟨e', ?_⟩
  cases q : H b with
  | none => rfl
  | some x =>
    have hm : b ∈ trk h H := List.mem_filter.mpr ⟨List.mem_range.mpr (Heap.lt_size e'), by simp [q]⟩
    have z : (hidT h H).get? b = none := PySem.W.hideAll_none (trk h H) hm
    rw [z] at e; cases e
def allNews (g h : Heap) (L : Addr) : List (Addr × Obj) := (List.range h.objs.size).filterMap fun a => if a = L ∨ (g.get? a).isSome = true then none else (h.get? a).map fun o => (a, o)
def rest (g h : Heap) (L d : Addr) : List (Addr × Obj) := (allNews g h L).filter fun p => decide (p.1 ≠ d)
end L2
namespace L2
open PySem PySem.Spec PyProof.Rows
/-- the module's facts, over the base: the heap at the law's entry without what is tracked there -/
structure Mod (K : PySem.W.Frag) (mg : Str → Option Value) (base : Heap) : Prop where
  kin : K.In base
  glob : base.Ns mainGlobals mg
  blt : ∃ mb, base.Ns builtinsNs mb ∧ ∀ x : Str, x ≠ "__name__" → mb x = bootBuiltins x
  nolimit : base.NoLimit
/-- the context: a def's body (or a comprehension's block) running. base: fixed through the whole law; s₀, H₀: the entry; outer: the frames whose slots others may change (a def's callers); stack: all frames that run;
   ex: iterators that were made ahead of the entry and are walked here (a comprehension's); fn: the names whose cells were made at the entry (a def: all; a comprehension's block: its own); calm: not within an except suite; pn: pins that every state bears; xe: what is wanted of an exception that leaves the code -/
structure Cx where
  prog : Program
  w : World
  K : PySem.W.Frag
  mg : Str → Option Value
  base : Heap
  A : Around
  N : List Str
  s₀ : Shared
  H₀ : Hp
  env : Env
  outer : List Env
  stack : List Env
  ex : List Addr
  fn : Str → Bool
  calm : Bool
  pn : List (Addr × Obj)
  xe : Value → Shared → Prop
/-- the callers' frames -/
def frs (l : List Env) : List Addr := l.filterMap (·.frame)
abbrev Cx.fs (X : Cx) : List Addr := frs X.outer
def Vis (sc : Scope) (x : Str) : Prop := sc.names.lookup x = some .local ∨ sc.names.lookup x = some .cell ∨ sc.names.lookup x = some .free
def Loc (sc : Scope) (x : Str) : Prop := sc.names.lookup x = some .local ∨ sc.names.lookup x = some .cell
def Look (env : Env) (h : Heap) (m : Str → Option Value) (x : Str) (u : Value) : Prop :=
  (env.kindOf x = some .local ∧ m x = some u) ∨ ((env.kindOf x = some .cell ∨ env.kindOf x = some .free) ∧ ∃ c, env.cells.lookup x = some c ∧ h.IsCell c (some u))
structure Cx.Ok (X : Cx) : Prop where
  mod : Mod X.K X.mg X.base
  kind : X.env.scope.kind = .function
  glob : X.env.globals = mainGlobals
  blt : X.env.builtins = builtinsNs
  above : X.s₀.heap.objs.size ≤ X.env.locals
  inj : ∀ x y c, X.env.cells.lookup x = some c → X.env.cells.lookup y = some c → x = y
  has : ∀ x, (X.env.kindOf x = some .cell ∨ X.env.kindOf x = some .free) → ∃ c, X.env.cells.lookup x = some c
  cab : ∀ x c, X.fn x = true → X.env.cells.lookup x = some c → X.s₀.heap.objs.size ≤ c
  hd : X.calm = true → X.A.handled = none
  frames : X.A.frames = some X.stack
  stk : X.stack = X.outer ∨ (X.stack = X.env :: X.outer ∧ X.env.frame = some X.env.locals)
  exf : ∀ b ∈ X.ex, b ≠ X.env.locals ∧ ∀ x c, X.env.cells.lookup x = some c → c ≠ b
  bs : ∀ b o, X.base.get? b = some o → X.s₀.heap.get? b = some o ∧ X.H₀ b = none
  bsz : X.base.objs.size ≤ X.s₀.heap.objs.size
  noex : ∀ b o, X.base.get? b = some o → b ∉ X.ex
  exfs : ∀ b ∈ X.ex, b ∉ X.fs
  funs : X.s₀.heap.FunFrames X.base X.outer
  frf : ∀ b ∈ X.fs, X.H₀ b = none
structure Inv (X : Cx) (pins : List (Addr × Obj)) (σ : List (Option V)) (H : Hp) (s : Shared) : Prop where
  ok : X.Ok
  os : s.os = X.s₀.os
  bare : AllBare s.gens
  base : Un X.fs X.ex X.H₀ H X.s₀.heap s.heap
  loc : ∃ m, s.heap.Ns X.env.locals m ∧ ∀ (i : Nat) (x : Str) (v : V), X.N[i]? = some x → σ[i]? = some (some v) → Vis X.env.scope x → ∃ u, RelV v u ∧ Look X.env s.heap m x u
  cell : ∀ x c, X.env.cells.lookup x = some c → ∃ v, s.heap.IsCell c v
  free : H X.env.locals = none
  freeC : ∀ x c, X.env.cells.lookup x = some c → H c = none
  pin : ∀ p ∈ X.pn ++ pins, s.heap.get? p.1 = some p.2 ∧ H p.1 = none ∧ p.1 ≠ X.env.locals ∧ p.1 ∉ X.fs ∧ ∀ v, p.2.data ≠ .cell v
  hok : HOk X.prog X.w H s.heap
  len : σ.length = X.N.length
section
variable {X : Cx} {pins : List (Addr × Obj)} {σ : List (Option V)} {H H' : Hp} {s : Shared} {h' : Heap}
theorem Cx.Ok.nofr (ok : X.Ok) {b : Addr} {o : Obj} (e : X.base.get? b = some o) : b ∉ X.fs := fun hb => by
  have := (ok.funs.mem hb).1
  rw [e] at this; cases this
theorem Inv.bs (I : Inv X pins σ H s) : ∀ b o, X.base.get? b = some o → s.heap.get? b = some o ∧ H b = none := fun b o e =>
  ⟨I.base.keep b o (I.ok.bs b o e).1 (I.ok.bs b o e).2 (I.ok.nofr e) (I.ok.noex b o e), I.base.free b o (I.ok.bs b o e).1 (I.ok.bs b o e).2 (I.ok.noex b o e)⟩
theorem Inv.bk (I : Inv X pins σ H s) : ∀ b o, X.base.get? b = some o → s.heap.get? b = some o := fun b o e => (I.bs b o e).1
theorem Inv.mod (I : Inv X pins σ H s) : Mod X.K X.mg X.base := I.ok.mod
theorem Inv.kIn (I : Inv X pins σ H s) : X.K.In s.heap := I.ok.mod.kin.keeps I.bk
theorem Inv.nolimit (I : Inv X pins σ H s) : s.heap.NoLimit := I.ok.mod.nolimit.keeps I.bk
/-- the frame over the base: for OpenK's rules (K.In X.base is I.mod.kin) -/
theorem Inv.fr (I : Inv X pins σ H s) : ∃ m, Fr X.base X.env.locals s.heap m :=
  let ⟨m, hn, _⟩ := I.loc
  ⟨m, hn, I.bk, Nat.le_trans I.ok.bsz I.ok.above⟩
theorem Inv.lt (I : Inv X pins σ H s) : X.env.locals < s.heap.objs.size := let ⟨_, hn, _⟩ := I.loc; hn.lt
theorem Inv.sz (I : Inv X pins σ H s) : X.s₀.heap.objs.size ≤ s.heap.objs.size := Nat.le_trans I.ok.above (Nat.le_of_lt I.lt)
theorem Inv.nofs (I : Inv X pins σ H s) {a : Addr} (h : s.heap.objs.size ≤ a) : a ∉ X.fs := fun hb => by
  obtain ⟨_, o, ho, _⟩ := I.ok.funs.mem hb
  exact absurd (Nat.lt_of_lt_of_le (Heap.lt_size ho) (Nat.le_trans I.sz h)) (Nat.lt_irrefl _)
theorem Inv.cne (I : Inv X pins σ H s) : ∀ x c, X.env.cells.lookup x = some c → c ≠ X.env.locals := fun x c e z => by
  obtain ⟨v, o, ho, hd⟩ := I.cell x c e
  obtain ⟨m, ⟨o', es, ep, ho', hd', _⟩, _⟩ := I.loc
  rw [z, ho'] at ho; cases ho; rw [hd'] at hd; cases hd
theorem Inv.funs (I : Inv X pins σ H s) : s.heap.FunFrames X.base X.outer := by
  have all : ∀ (l : List Env), (∀ b ∈ frs l, b ∈ X.fs) → X.s₀.heap.FunFrames X.base l → s.heap.FunFrames X.base l := by
    intro l
    induction l with
    | nil => intro _ _; trivial
    | cons env r ih =>
      intro hs hl
      obtain ⟨hk, ⟨L, o, hf, hn, ho, hd⟩, hr⟩ := hl
      have hL : L ∈ X.fs := hs L (by unfold frs; rw [List.filterMap_cons, hf]; exact List.mem_cons_self)
      obtain ⟨sl, e⟩ := I.base.slot L o ho (I.ok.frf L hL) hL fun z => I.ok.exfs L z hL
      exact ⟨hk, ⟨L, _, hf, hn, e, hd⟩, ih (fun b hb => hs b (by unfold frs; rw [List.filterMap_cons, hf]; exact List.mem_cons_of_mem _ hb)) hr⟩
  exact all X.outer (fun _ hb => hb) I.ok.funs
/-- the frames that run, for a call -/
theorem Inv.stack (I : Inv X pins σ H s) : s.heap.FunFrames X.base X.stack := by
  rcases I.ok.stk with e | ⟨e, hf⟩
  · rw [e]; exact I.funs
  · rw [e]
    obtain ⟨m, hn, _⟩ := I.loc
    refine .cons (by rw [I.ok.kind]; decide) hf hn ?_ I.funs
    exact Heap.get?_none_of_le (Nat.le_trans I.ok.bsz I.ok.above)
theorem Inv.stkSub (I : Inv X pins σ H s) : ∀ b ∈ frs X.stack, b ∈ X.env.locals :: X.fs := fun b hb => by
  rcases I.ok.stk with e | ⟨e, hf⟩
  · rw [e] at hb; exact List.mem_cons_of_mem _ hb
  · rw [e] at hb
    unfold frs at hb
    rw [List.filterMap_cons, hf] at hb
    exact hb
theorem Inv.stkFree (I : Inv X pins σ H s) : ∀ b ∈ frs X.stack, H b = none := fun b hb => by
  rcases List.mem_cons.mp (I.stkSub b hb) with e | hb
  · rw [e]; exact I.free
  · obtain ⟨_, o, ho, _⟩ := I.ok.funs.mem hb
    exact I.base.free b o ho (I.ok.frf b hb) fun z => I.ok.exfs b z hb
/-- THE STEP: the untracked objects but the frame and the records at ch are kept (the callers' frames up to slots), the frame's map is kept, the new abstract heap is held -/
theorem Inv.step {g' : Array GenState} {t' : Nat} {d' : Drawn} {ch : List Addr} (I : Inv X pins σ H s)
    (hch : ∀ b ∈ ch, (b ∈ X.ex ∨ X.s₀.heap.objs.size ≤ b) ∧ b ≠ X.env.locals ∧ (∀ x c, X.env.cells.lookup x = some c → c ≠ b) ∧ ∀ p ∈ X.pn ++ pins, p.1 ≠ b)
    (keep : ∀ b o, b ≠ X.env.locals → b ∉ X.fs → b ∉ ch → s.heap.get? b = some o → H b = none → h'.get? b = some o)
    (slot : ∀ b o, b ≠ X.env.locals → b ∈ X.fs → b ∉ ch → s.heap.get? b = some o → H b = none → ∃ sl, h'.get? b = some { o with slots := sl }) (free : ∀ b o, b ∉ ch → s.heap.get? b = some o → H b = none → H' b = none)
    (there : ∀ b o, b ∉ ch → s.heap.get? b = some o → ∃ o', h'.get? b = some o')
    (tups : ∀ b xs, H b = some (.tup xs) → H' b = some (.tup xs)) (frzs : ∀ b o u, H b = some (.frz o u) → H' b = some (.frz o u)) (tbls : ∀ b ps, H b = some (.tbl ps) → ∃ more, H' b = some (.tbl (ps ++ more)))
    (ns : ∀ m, s.heap.Ns X.env.locals m → h'.Ns X.env.locals m) (hok : HOk X.prog X.w H' h') (hg : AllBare g') :
    Inv X pins σ H' { s with heap := h', gens := g', drawn := d', toks := t' } := by
  have neL : ∀ b o, X.s₀.heap.get? b = some o → b ≠ X.env.locals := fun b o e => Nat.ne_of_lt (Nat.lt_of_lt_of_le (Heap.lt_size e) I.ok.above)
  have neC : ∀ b o, X.s₀.heap.get? b = some o → b ∉ X.ex → b ∉ ch := fun b o e hx hb => by
    rcases (hch b hb).1 with z | z
    · exact hx z
    · exact absurd (Nat.lt_of_lt_of_le (Heap.lt_size e) z) (Nat.lt_irrefl _)
  have cellK : ∀ x c, X.env.cells.lookup x = some c → ∀ v, s.heap.IsCell c v → h'.IsCell c v := fun x c e v ⟨o, ho, hd⟩ => by
    have nch : c ∉ ch := fun z => (hch c z).2.2.1 x c e rfl
    by_cases hc : c ∈ X.fs
    · obtain ⟨sl, q⟩ := slot c o (I.cne x c e) hc nch ho (I.freeC x c e)
      exact ⟨_, q, hd⟩
    · exact ⟨o, keep c o (I.cne x c e) hc nch ho (I.freeC x c e), hd⟩
  refine ⟨I.ok, I.os, hg, ⟨fun b o e n hb hx => ?_, fun b o e n hb hx => ?_, fun b o e n hx => ?_, fun b o e hx => ?_, fun b xs e => tups b xs (I.base.tups b xs e), fun b o xs e => frzs b o xs (I.base.frzs b o xs e), fun b ps e => ?_⟩, ?_, fun x c e => ?_, ?_, fun x c e => ?_, fun p hp => ?_, hok, I.len⟩
  · exact keep b o (neL b o e) hb (neC b o e hx) (I.base.keep b o e n hb hx) (I.base.free b o e n hx)
  · obtain ⟨sl, e1⟩ := I.base.slot b o e n hb hx
    obtain ⟨sl', e2⟩ := slot b _ (neL b o e) hb (neC b o e hx) e1 (I.base.free b o e n hx)
    exact ⟨sl', e2⟩
  · obtain ⟨o', e1⟩ := I.base.there b o e hx
    exact free b o' (neC b o e hx) e1 (I.base.free b o e n hx)
  · obtain ⟨o', e1⟩ := I.base.there b o e hx
    exact there b o' (neC b o e hx) e1
  · obtain ⟨m1, e1⟩ := I.base.tbls b ps e
    obtain ⟨m2, e2⟩ := tbls b _ e1
    exact ⟨m1 ++ m2, by rw [e2, Array.append_assoc]⟩
  · obtain ⟨m, hn, hl⟩ := I.loc
    refine ⟨m, ns m hn, fun i x v e1 e2 e3 => ?_⟩
    obtain ⟨u, r, l⟩ := hl i x v e1 e2 e3
    refine ⟨u, r, ?_⟩
    rcases l with l | ⟨k, c, e, z⟩
    · exact .inl l
    · exact .inr ⟨k, c, e, cellK x c e _ z⟩
  · obtain ⟨v, z⟩ := I.cell x c e
    exact ⟨v, cellK x c e v z⟩
  · obtain ⟨m, ⟨o, _, _, ho, _⟩, _⟩ := I.loc
    exact free _ o (fun z => (hch _ z).2.1 rfl) ho I.free
  · obtain ⟨v, o, ho, hd⟩ := I.cell x c e
    exact free c o (fun z => (hch c z).2.2.1 x c e rfl) ho (I.freeC x c e)
  · obtain ⟨e, n, ne, nf, d⟩ := I.pin p hp
    have nch : p.1 ∉ ch := fun z => (hch p.1 z).2.2.2 p hp rfl
    exact ⟨keep p.1 p.2 ne nf nch e n, free p.1 p.2 nch e n, ne, nf, d⟩
/-- .. where the frame's own object is kept too -/
theorem Inv.un {t' : Nat} (I : Inv X pins σ H s) (u : Un X.fs [] H H' s.heap h') (hok : HOk X.prog X.w H' h') : Inv X pins σ H' { s with heap := h', toks := t' } := by
  obtain ⟨m, ⟨o, es, ep, ho, r⟩, _⟩ := id I.loc
  obtain ⟨sl, hL⟩ := u.any ho I.free (by simp)
  exact I.step (g' := s.gens) (d' := s.drawn) (ch := []) (fun _ z => nomatch z) (fun b o _ hb _ e n => u.keep b o e n hb (by simp)) (fun b o _ hb _ e n => u.slot b o e n hb (by simp)) (fun b o _ e n => u.free b o e n (by simp)) (fun b o _ e => u.there b o e (by simp)) u.tups u.frzs u.tbls (fun m' hm => by
    obtain ⟨o', es', ep', ho', r'⟩ := hm
    rw [ho] at ho'; cases ho'
    exact ⟨_, es', ep', hL, r'⟩) hok I.bare
/-- behind a call (or a comprehension's block): the slots of this frame may have changed too, the records at ch may have turned -/
theorem Inv.call {g' : Array GenState} {t' : Nat} {d' : Drawn} {ch : List Addr} (I : Inv X pins σ H s) (u : Un (frs X.stack) ch H H' s.heap h') (hok : HOk X.prog X.w H' h') (hg : AllBare g')
    (hch : ∀ b ∈ ch, (b ∈ X.ex ∨ X.s₀.heap.objs.size ≤ b) ∧ b ≠ X.env.locals ∧ (∀ x c, X.env.cells.lookup x = some c → c ≠ b) ∧ ∀ p ∈ X.pn ++ pins, p.1 ≠ b) :
    Inv X pins σ H' { s with heap := h', gens := g', drawn := d', toks := t' } := by
  obtain ⟨m, ⟨o, es, ep, ho, r⟩, _⟩ := id I.loc
  obtain ⟨sl, hL⟩ := u.any ho I.free fun z => (hch _ z).2.1 rfl
  exact I.step (ch := ch) hch (fun b o hL hb hc e n => u.keep b o e n (fun z => (List.mem_cons.mp (I.stkSub b z)).elim hL hb) hc) (fun b o _ _ hc e n => u.any e n hc) (fun b o hc e n => u.free b o e n hc) (fun b o hc e => u.there b o e hc) u.tups u.frzs u.tbls (fun m' hm => by
    obtain ⟨o', es', ep', ho', r'⟩ := hm
    rw [ho] at ho'; cases ho'
    exact ⟨_, es', ep', hL, r'⟩) hok hg
/-- an untracked record of ours (an iterator) has turned -/
theorem Inv.turned {t' : Nat} {it : Addr} (I : Inv X pins σ H s) (k : ∀ b o, b ≠ it → s.heap.get? b = some o → h'.get? b = some o) (hn : H it = none) (hL : it ≠ X.env.locals)
    (h1 : it ∈ X.ex ∨ X.s₀.heap.objs.size ≤ it) (h2 : ∀ x c, X.env.cells.lookup x = some c → c ≠ it) (h3 : ∀ p ∈ X.pn ++ pins, p.1 ≠ it) : Inv X pins σ H { s with heap := h', toks := t' } := by
  have nit : ∀ b u, H b = some u → b ≠ it := fun b u e z => by rw [z, hn] at e; cases e
  refine I.step (g' := s.gens) (d' := s.drawn) (ch := [it]) (fun b hb => ?_) (fun b o _ _ hc e _ => k b o (fun z => hc (by simp [z])) e) (fun b o _ _ hc e _ => ⟨o.slots, k b o (fun z => hc (by simp [z])) e⟩) (fun _ _ _ _ n => n)
    (fun b o hc e => ⟨o, k b o (fun z => hc (by simp [z])) e⟩) (fun _ _ e => e) (fun _ _ _ e => e) (fun b ps e => ⟨#[], by rw [e]; simp⟩) (fun m hm => ?_) (fun b u e => ?_) I.bare
  · have e : b = it := by simpa using hb
    subst e
    exact ⟨h1, hL, h2, h3⟩
  · obtain ⟨o, es, ep, ho, r⟩ := hm
    exact ⟨o, es, ep, k _ o (Ne.symm hL) ho, r⟩
  · refine (I.hok b u e).stay (fun c v hc q => k c v ?_ q) (fun _ q => q) fun _ _ q => q
    rcases hc with z | z
    · rw [z]; exact nit b u e
    · exact nit c _ z
theorem Inv.tok (I : Inv X pins σ H s) (t : Nat) : Inv X pins σ H { s with toks := t } := I.un (h' := s.heap) (t' := t) Un.refl I.hok
/-- all objects kept -/
theorem Inv.kept {t' : Nat} (I : Inv X pins σ H s) (k : ∀ b u, s.heap.get? b = some u → h'.get? b = some u) : Inv X pins σ H { s with heap := h', toks := t' } := I.un (Un.kept k) (I.hok.kept k)
/-- a new object laid and tracked -/
theorem Inv.laid {a : Addr} {o : HO} {t' : Nat} (I : Inv X pins σ H s) (k : ∀ b u, s.heap.get? b = some u → h'.get? b = some u) (hp : s.heap.objs.size ≤ a) (new : ObjOk X.prog X.w (upd H a o) h' a o) :
    Inv X pins σ (upd H a o) { s with heap := h', toks := t' } := I.un (Un.laid k hp (I.hok.fresh hp)) (I.hok.laid k hp new)
/-- an object written -/
theorem Inv.write {x e : Addr} {o : HO} {t' : Nat} (I : Inv X pins σ H s) (mu : Mut (H x)) (he : e = x ∨ H e = some (.own x)) (k : ∀ b u, b ≠ e → s.heap.get? b = some u → h'.get? b = some u) (heo : ∃ u, h'.get? e = some u)
    (new : ObjOk X.prog X.w (upd H x o) h' x o) : Inv X pins σ (upd H x o) { s with heap := h', toks := t' } := I.un (Un.write mu he k heo) (I.hok.write mu he k heo new)
theorem Inv.pins_of {pins' : List (Addr × Obj)} (I : Inv X pins σ H s) (h : ∀ p ∈ pins', s.heap.get? p.1 = some p.2 ∧ H p.1 = none ∧ p.1 ≠ X.env.locals ∧ p.1 ∉ X.fs ∧ ∀ v, p.2.data ≠ .cell v) : Inv X pins' σ H s :=
  ⟨I.ok, I.os, I.bare, I.base, I.loc, I.cell, I.free, I.freeC, fun p hp => (List.mem_append.mp hp).elim (fun z => I.pin p (List.mem_append_left _ z)) (h p), I.hok, I.len⟩
theorem nodup_ix {N : List Str} (hN : N.Nodup) {i j : Nat} {x : Str} (a : N[i]? = some x) (b : N[j]? = some x) : i = j := by
  obtain ⟨h1, e1⟩ := List.getElem?_eq_some_iff.mp a
  obtain ⟨h2, e2⟩ := List.getElem?_eq_some_iff.mp b
  exact (List.getElem_inj hN).mp (e1.trans e2.symm)
/-- a name is stored; what changed -/
theorem store_ok2 {M : Model} {A : Around} {E : Value → Shared → Prop} {i : Nat} {x : Str} {v : V} {u : Value} {Q : Unit → Shared → Prop} (I : Inv X pins σ H s) (hN : X.N.Nodup) (hi : X.N[i]? = some x) (hx : Loc X.env.scope x) (r : RelV v u)
    (h : ∀ s', Inv X pins (σ.set i (some v)) H s' → (∃ a, Heap.SameBut a s.heap s'.heap ∧ (a = X.env.locals ∨ X.env.cells.lookup x = some a)) → Q () s') (hf : X.fn x = true ∨ X.env.scope.names.lookup x = some .local := by first | exact .inl rfl | exact .inr rfl | assumption) : wpAny M A (storeName X.env x u) Q E s := by
  obtain ⟨m, hn, hl⟩ := id I.loc
  have hcls : (X.env.scope.kind == .class || (X.env.scope.kind == .module && X.env.locals != X.env.globals)) = false := by rw [I.ok.kind]; rfl
  have hiσ : i < σ.length := by rw [I.len]; exact (List.getElem?_eq_some_iff.mp hi).1
  have cne := I.cne
  have tracked : ∀ {a : Addr} {h' : Heap}, (∃ o, s.heap.get? a = some o ∧ H a = none) → Heap.SameBut a s.heap h' → HOk X.prog X.w H h' := fun {a h'} ha hs b ob e => by
    obtain ⟨_, _, hfree⟩ := ha
    refine (I.hok b ob e).stay (fun c w' hc q => (hs.2 c ?_).trans q) (fun _ q => q) fun _ _ q => q
    rintro rfl
    rcases hc with rfl | hc
    · rw [hfree] at e; cases e
    · rw [hfree] at hc; cases hc
  rcases hx with hk | hk
  · refine wpAny_storeName_local hk hn (fun h' hn' hs => ?_) hcls
    obtain ⟨oL, _, _, hoL, _⟩ := id hn
    refine h _ ⟨I.ok, I.os, I.bare, ⟨fun b o e n hb hx => ?_, fun b o e n hb hx => ?_, I.base.free, fun b o e hx => ?_, I.base.tups, I.base.frzs, I.base.tbls⟩, ⟨_, hn', fun j y v' e1 e2 e3 => ?_⟩, fun y c e => ?_, I.free, I.freeC, fun p hp => ?_, tracked ⟨oL, hoL, I.free⟩ hs, by simpa using I.len⟩ ⟨_, hs, .inl rfl⟩
    · exact (hs.2 b (Nat.ne_of_lt (Nat.lt_of_lt_of_le (Heap.lt_size e) I.ok.above))).trans (I.base.keep b o e n hb hx)
    · obtain ⟨sl, e1⟩ := I.base.slot b o e n hb hx
      exact ⟨sl, (hs.2 b (Nat.ne_of_lt (Nat.lt_of_lt_of_le (Heap.lt_size e) I.ok.above))).trans e1⟩
    · obtain ⟨o', e1⟩ := I.base.there b o e hx
      exact ⟨o', (hs.2 b (Nat.ne_of_lt (Nat.lt_of_lt_of_le (Heap.lt_size e) I.ok.above))).trans e1⟩
    · by_cases hj : j = i
      · subst hj
        rw [hi] at e1; cases e1
        rw [List.getElem?_set_self hiσ] at e2
        cases e2
        exact ⟨u, r, .inl ⟨hk, by simp⟩⟩
      · rw [List.getElem?_set_ne (Ne.symm hj)] at e2
        obtain ⟨u', r', q⟩ := hl j y v' e1 e2 e3
        refine ⟨u', r', ?_⟩
        rcases q with ⟨k, e⟩ | ⟨k, c, e, z⟩
        · refine .inl ⟨k, ?_⟩
          have : y ≠ x := fun e => hj (nodup_ix hN e1 (e ▸ hi))
          simp [this, e]
        · exact .inr ⟨k, c, e, z.sameBut hs (cne y c e)⟩
    · obtain ⟨w', z⟩ := I.cell y c e
      exact ⟨w', z.sameBut hs (cne y c e)⟩
    · obtain ⟨e, n, ne, nf, d⟩ := I.pin p hp
      exact ⟨(hs.2 p.1 ne).trans e, n, ne, nf, d⟩
  · have hfn : X.fn x = true := by
      rcases hf with z | z
      · exact z
      · rw [z] at hk; cases hk
    obtain ⟨c, hc⟩ := I.ok.has x (.inl hk)
    obtain ⟨w', z⟩ := I.cell x c hc
    refine wpAny_storeName_cell I.ok.kind hk hc z (fun h' hc' hs => ?_)
    obtain ⟨oc, hoc, hocd⟩ := id z
    refine h { s with heap := h' } ⟨I.ok, I.os, I.bare, ⟨fun b o e n hb hx => ?_, fun b o e n hb hx => ?_, I.base.free, fun b o e hx => ?_, I.base.tups, I.base.frzs, I.base.tbls⟩, ⟨m, hn.sameBut hs (Ne.symm (cne x c hc)), fun j y v' e1 e2 e3 => ?_⟩, fun y c' e => ?_, I.free, I.freeC, fun p hp => ?_, tracked ⟨oc, hoc, I.freeC x c hc⟩ hs, by simpa using I.len⟩ ⟨c, hs, .inr hc⟩
    · exact (hs.2 b (Nat.ne_of_lt (Nat.lt_of_lt_of_le (Heap.lt_size e) (I.ok.cab x c hfn hc)))).trans (I.base.keep b o e n hb hx)
    · obtain ⟨sl, e1⟩ := I.base.slot b o e n hb hx
      exact ⟨sl, (hs.2 b (Nat.ne_of_lt (Nat.lt_of_lt_of_le (Heap.lt_size e) (I.ok.cab x c hfn hc)))).trans e1⟩
    · obtain ⟨o', e1⟩ := I.base.there b o e hx
      exact ⟨o', (hs.2 b (Nat.ne_of_lt (Nat.lt_of_lt_of_le (Heap.lt_size e) (I.ok.cab x c hfn hc)))).trans e1⟩
    · by_cases hj : j = i
      · subst hj
        rw [hi] at e1; cases e1
        rw [List.getElem?_set_self hiσ] at e2
        cases e2
        exact ⟨u, r, .inr ⟨.inl hk, c, hc, hc'⟩⟩
      · rw [List.getElem?_set_ne (Ne.symm hj)] at e2
        obtain ⟨u', r', q⟩ := hl j y v' e1 e2 e3
        refine ⟨u', r', ?_⟩
        rcases q with q | ⟨k, c', e, z'⟩
        · exact .inl q
        · refine .inr ⟨k, c', e, z'.sameBut hs ?_⟩
          rintro rfl
          exact hj (nodup_ix hN e1 (I.ok.inj _ _ _ e hc ▸ hi))
    · by_cases hcc : c' = c
      · subst hcc; exact ⟨_, hc'⟩
      · obtain ⟨w2, z2⟩ := I.cell y c' e
        exact ⟨w2, z2.sameBut hs hcc⟩
    · obtain ⟨e, n, ne, nf, d⟩ := I.pin p hp
      refine ⟨(hs.2 p.1 ?_).trans e, n, ne, nf, d⟩
      intro q
      rw [q, hoc] at e
      have q' : oc = p.2 := Option.some.inj e
      exact d w' (by rw [← q']; exact hocd)
theorem store_ok {M : Model} {A : Around} {E : Value → Shared → Prop} {i : Nat} {x : Str} {v : V} {u : Value} {Q : Unit → Shared → Prop} (I : Inv X pins σ H s) (hN : X.N.Nodup) (hi : X.N[i]? = some x) (hx : Loc X.env.scope x) (r : RelV v u)
    (h : ∀ s', Inv X pins (σ.set i (some v)) H s' → Q () s') (hf : X.fn x = true ∨ X.env.scope.names.lookup x = some .local := by first | exact .inl rfl | exact .inr rfl | assumption) : wpAny M A (storeName X.env x u) Q E s :=
  store_ok2 I hN hi hx r (fun s' I' _ => h s' I') hf
/-- behind a call or a block, the state as it is -/
theorem Inv.call' {s' : Shared} {ch : List Addr} (I : Inv X pins σ H s) (ho : s'.os = s.os) (u : Un (frs X.stack) ch H H' s.heap s'.heap) (hok : HOk X.prog X.w H' s'.heap) (hg : AllBare s'.gens)
    (hch : ∀ b ∈ ch, (b ∈ X.ex ∨ X.s₀.heap.objs.size ≤ b) ∧ b ≠ X.env.locals ∧ (∀ x c, X.env.cells.lookup x = some c → c ≠ b) ∧ ∀ p ∈ X.pn ++ pins, p.1 ≠ b) : Inv X pins σ H' s' := by
  obtain ⟨h', g', d', t', o'⟩ := s'
  have e : o' = s.os := ho
  subst e
  exact I.call (g' := g') (t' := t') (d' := d') u hok hg hch
end
/-- an exception: its class, its own dict's address (where it has one), the abstract heap behind it -/
abbrev XK := Value → Option Addr → Hp → Prop
abbrev St := List (Option V)
abbrev VK := V → Hp → Prop
/-- an expression's reading; a test's; an argument list's -/
abbrev TE := St → Hp → VK → Prop
abbrev TT := St → Hp → (Bool → Hp → Prop) → Prop
abbrev TA := St → Hp → (List V → Hp → Prop) → Prop
/-- what is wanted behind a statement -/
structure Ends where
  nx : St → Hp → Prop
  rt : VK
  bk : St → Hp → Prop := fun _ _ => False
  ct : St → Hp → Prop := fun _ _ => False
abbrev TS := Ends → St → Hp → Prop
def EP (X : Cx) (pins : List (Addr × Obj)) (σ : St) (Q : VK) (u : Value) (s' : Shared) : Prop := ∃ v H', Inv X pins σ H' s' ∧ RelV v u ∧ Q v H'
def TP (X : Cx) (pins : List (Addr × Obj)) (σ : St) (Q : Bool → Hp → Prop) (b : Bool) (s' : Shared) : Prop := ∃ H', Inv X pins σ H' s' ∧ Q b H'
def AP (X : Cx) (pins : List (Addr × Obj)) (σ : St) (Q : List V → Hp → Prop) (us : List Value) (s' : Shared) : Prop := ∃ vs H', Inv X pins σ H' s' ∧ Vals vs us ∧ Q vs H'
def SP (X : Cx) (pins : List (Addr × Obj)) (D : Ends) (f : Flow) (s' : Shared) : Prop :=
  match f with
  | .next => ∃ σ' H', Inv X pins σ' H' s' ∧ D.nx σ' H'
  | .brk => ∃ σ' H', Inv X pins σ' H' s' ∧ D.bk σ' H'
  | .cont => ∃ σ' H', Inv X pins σ' H' s' ∧ D.ct σ' H'
  | .ret u => ∃ v σ' H', Inv X pins σ' H' s' ∧ RelV v u ∧ D.rt v H'
def PE (X : Cx) (e : Expr) (t : TE) : Prop :=
  ∀ (pins : List (Addr × Obj)) (s : Shared) (σ : St) (H : Hp) (Q : VK), Inv X pins σ H s → t σ H Q → wpAny (model X.prog X.w) X.A (eval e X.env) (EP X pins σ Q) X.xe s
def PT (X : Cx) (e : Expr) (t : TT) : Prop :=
  ∀ (pins : List (Addr × Obj)) (s : Shared) (σ : St) (H : Hp) (Q : Bool → Hp → Prop), Inv X pins σ H s → t σ H Q → wpAny (model X.prog X.w) X.A (isTrue e X.env (eval e X.env)) (TP X pins σ Q) X.xe s
/-- a test whatever its 'whole' is (and, or) -/
def PW (X : Cx) (e : Expr) (t : TT) : Prop :=
  ∀ (whole : Sem Value) (pins : List (Addr × Obj)) (s : Shared) (σ : St) (H : Hp) (Q : Bool → Hp → Prop), Inv X pins σ H s → t σ H Q → wpAny (model X.prog X.w) X.A (isTrue e X.env whole) (TP X pins σ Q) X.xe s
theorem PW.pt {X : Cx} {e : Expr} {t : TT} (h : PW X e t) : PT X e t := h _
/-- an argument list (no star), from the left -/
def PA (X : Cx) (es : List Expr) (t : TA) : Prop :=
  ∀ (pos : Pos) (pins : List (Addr × Obj)) (s : Shared) (σ : St) (H : Hp) (Q : List V → Hp → Prop), Inv X pins σ H s → t σ H Q → wpAny (model X.prog X.w) X.A (spliced (backTo pos (starEach es X.env))) (AP X pins σ Q) X.xe s
def PS (X : Cx) (st : Stmt) (t : TS) : Prop :=
  ∀ (pins : List (Addr × Obj)) (s : Shared) (σ : St) (H : Hp) (D : Ends), Inv X pins σ H s → t D σ H → wpAny (model X.prog X.w) X.A (exec st X.env) (SP X pins D) X.xe s
def PSs (X : Cx) (st : List Stmt) (t : TS) : Prop :=
  ∀ (pins : List (Addr × Obj)) (s : Shared) (σ : St) (H : Hp) (D : Ends), Inv X pins σ H s → t D σ H → wpAny (model X.prog X.w) X.A (execs st X.env) (SP X pins D) X.xe s
/-- weaken the end -/
theorem thn {α : Type} {t : Sem α} {Q Q' : α → Shared → Prop} {M : Model} {A : Around} {E : Value → Shared → Prop} {s : Shared} (h : wpAny M A t Q E s) (hQ : ∀ a s, Q a s → Q' a s) : wpAny M A t Q' E s := wpAny_mono h hQ fun _ _ x => x
end L2
namespace L2
open PySem PySem.Spec PyProof.Rows
section
variable {X : Cx}
def tVar (i : Nat) : TE := fun σ H Q => ∃ v, σ[i]? = some (some v) ∧ Q v H
def tC (v : V) : TE := fun _ H Q => Q v H
theorem pe_var {i : Nat} {x : Str} {pos : Pos} (hN : X.N[i]? = some x) (hv : Vis X.env.scope x) (hd : (x == ("__debug__" : Str)) = false := by decide) (hcd : (x == ("__classdict__" : Str)) = false := by decide) : PE X (.Name x pos) (tVar i) := by
  intro pins s σ H Q I h
  obtain ⟨v, e, h⟩ := h
  obtain ⟨m, hn, hl⟩ := I.loc
  obtain ⟨u, r, l⟩ := hl i x v hN e hv
  have fin : EP X pins σ Q u s := ⟨v, H, I, r, h⟩
  rcases l with ⟨hk, hm⟩ | ⟨hk, c, hc, hcell⟩
  · exact wpAny_Name (wpAny_loadName_local I.ok.kind hk hn hm fin) hd
  · rcases hk with hk | hk
    · exact wpAny_Name (wpAny_loadName_cell I.ok.kind hk hc hcell fin) hd
    · exact wpAny_Name (wpAny_loadName_free I.ok.kind hk hc hcell fin hcd) hd
theorem pe_int {i j pos} : PE X (.Constant (.int i) j pos) (tC (.int i)) := fun _ _ _ H _ I h => wpAny_Constant_int ⟨.int i, H, I.tok _, ⟨_, rfl⟩, h⟩
theorem pe_bl {b j pos} : PE X (.Constant (.bool b) j pos) (tC (.bl b)) := fun _ _ _ H _ I h => Constant_bool ⟨.bl b, H, I, rfl, h⟩
theorem pe_non {j pos} : PE X (.Constant .none j pos) (tC .non) := fun _ _ _ H _ I h => Constant_none ⟨.non, H, I, rfl, h⟩
theorem pe_str {x j pos} : PE X (.Constant (.str x) j pos) (tC (.str x)) := fun _ _ _ H _ I h => Calls.Constant_str ⟨.str x, H, I.tok _, ⟨_, rfl⟩, h⟩
/-- a global name of the def -/
def Gl (X : Cx) (x : Str) : Prop := X.env.kindOf x = some .globalImplicit
theorem ld_glob {E : Value → Shared → Prop} {pins : List (Addr × Obj)} {s : Shared} {σ : St} {H : Hp} {x : Str} {u : Value} {pos : Pos} {Q : Value → Shared → Prop} (I : Inv X pins σ H s) (hg : Gl X x) (hm : X.mg x = some u) (h : Q u s)
    (hd : (x == ("__debug__" : Str)) = false := by decide) : wpAny (model X.prog X.w) X.A (eval (.Name x pos) X.env) Q E s :=
  Calls.Name_function_global I.ok.kind hg (Calls.loadGlobal_global (by rw [I.ok.glob]; exact I.mod.glob.keeps I.bk) hm h) hd
theorem ld_blt {E : Value → Shared → Prop} {pins : List (Addr × Obj)} {s : Shared} {σ : St} {H : Hp} {x : Str} {u : Value} {pos : Pos} {Q : Value → Shared → Prop} (I : Inv X pins σ H s) (hg : Gl X x) (hm : X.mg x = none) (hv : bootBuiltins x = some u) (h : Q u s)
    (hn : x ≠ "__name__" := by decide) (hd : (x == ("__debug__" : Str)) = false := by decide) : wpAny (model X.prog X.w) X.A (eval (.Name x pos) X.env) Q E s := by
  obtain ⟨mb, h1, h2⟩ := I.mod.blt
  exact Calls.Name_function_global I.ok.kind hg (Calls.loadGlobal_builtin (by rw [I.ok.glob]; exact I.mod.glob.keeps I.bk) hm (by rw [I.ok.blt]; exact h1.keeps I.bk) ((h2 x hn).trans hv) h) hd
theorem pe_bltn {x : Str} {v : V} {u : Value} {pos : Pos} (hg : Gl X x) (hm : X.mg x = none) (hv : bootBuiltins x = some u) (r : RelV v u) (hn : x ≠ "__name__" := by decide) (hd : (x == ("__debug__" : Str)) = false := by decide) : PE X (.Name x pos) (tC v) :=
  fun _ _ _ H _ I h => ld_blt I hg hm hv ⟨v, H, I, r, h⟩ hn hd
variable {a b : Expr} {ta tb : TE} {pos : Pos}
def PC (X : Cx) (op : CmpOp) (a b : Expr) (t : TE) : Prop :=
  ∀ (pins : List (Addr × Obj)) (s : Shared) (σ : St) (H : Hp) (Q : VK), Inv X pins σ H s → t σ H Q →
    wpAny (model X.prog X.w) X.A (eval a X.env) (fun v s₁ => wpAny (model X.prog X.w) X.A (eval b X.env) (fun u s₂ => wpAny (model X.prog X.w) X.A (compareOp op v u) (EP X pins σ Q) X.xe s₂) X.xe s₁) X.xe s
theorem nobehind (b : Expr) {op : CmpOp} (h : op ≠ .In) (h2 : op ≠ .NotIn) : behindInMarks op b = false := by
  have e1 : (op == CmpOp.In) = false := by cases op <;> first | rfl | exact absurd rfl h
  have e2 : (op == CmpOp.NotIn) = false := by cases op <;> first | rfl | exact absurd rfl h2
  cases b <;> simp [behindInMarks, e1, e2]
/-- a comparison as a value, as a test -/
def tB (t : TE) : TT := fun σ H Q => t σ H fun x H1 => ∃ c, x = .bl c ∧ Q c H1
theorem pt_cmp {op : CmpOp} {t : TE} (h : PC X op a b t) (h1 : behindInMarks op b = false := by first | exact nobehind _ (by decide) (by decide) | rfl) : PT X (.Compare a [op] [b] pos) (tB t) := by
  intro pins s σ H Q I hw
  refine wpAny_isTrue_Compare1 (thn (h pins s σ H _ I hw) fun v s1 h1 => thn h1 fun u s2 h2 => thn h2 fun c s3 ⟨x, H1, I1, r1, q1⟩ => ?_) h1
  obtain ⟨d, rfl, q⟩ := q1
  cases r1
  exact wpAny_truthy_bool ⟨H1, I1, q⟩
/-- an expression whose value is a bool, as a test -/
theorem pt_val {e : Expr} {t : TE} (h : PE X e t) (he : ∀ whole, isTrue e X.env whole = (do let v ← whole; standAt e.pos; holding [v] (truthy v)) := by intro _; rfl) : PT X e (tB t) := by
  intro pins s σ H Q I hw
  refine isTrue_plain (thn (h pins s σ H _ I hw) fun v s1 ⟨x, H1, I1, r1, q1⟩ => ?_) (he _)
  obtain ⟨d, rfl, q⟩ := q1
  cases r1
  exact wpAny_truthy_bool ⟨H1, I1, q⟩
variable {tA tB' : TT} {rest : List Expr}
def tAnd (t u : TT) : TT := fun σ H Q => t σ H fun c H1 => if c = true then u σ H1 Q else Q false H1
def tOr (t u : TT) : TT := fun σ H Q => t σ H fun c H1 => if c = true then Q true H1 else u σ H1 Q
def tNot (t : TT) : TT := fun σ H Q => t σ H fun c H1 => Q (!c) H1
theorem pw_and1 (ha : PT X a tA) : PW X (.BoolOp .And [a] pos) tA := by
  intro wh pins s σ H Q I h
  refine isTrue_and (thn (ha pins s σ H Q I h) fun c s1 e => ?_)
  cases c with
  | true => exact isTrue_and_nil e
  | false => exact e
theorem pw_or1 (ha : PT X a tA) : PW X (.BoolOp .Or [a] pos) tA := by
  intro wh pins s σ H Q I h
  refine isTrue_or (thn (ha pins s σ H Q I h) fun c s1 e => ?_)
  cases c with
  | false => exact isTrue_or_nil e
  | true => exact e
theorem pw_and (ha : PT X a tA) (hb : PW X (.BoolOp .And (b :: rest) pos) tB') : PW X (.BoolOp .And (a :: b :: rest) pos) (tAnd tA tB') := by
  intro wh pins s σ H Q I h
  refine isTrue_and (thn (ha pins s σ H _ I h) fun c s1 ⟨H1, I1, q1⟩ => ?_)
  cases c with
  | true => exact hb wh pins s1 σ H1 Q I1 q1
  | false => exact ⟨H1, I1, q1⟩
theorem pw_or (ha : PT X a tA) (hb : PW X (.BoolOp .Or (b :: rest) pos) tB') : PW X (.BoolOp .Or (a :: b :: rest) pos) (tOr tA tB') := by
  intro wh pins s σ H Q I h
  refine isTrue_or (thn (ha pins s σ H _ I h) fun c s1 ⟨H1, I1, q1⟩ => ?_)
  cases c with
  | true => exact ⟨H1, I1, q1⟩
  | false => exact hb wh pins s1 σ H1 Q I1 q1
theorem pt_not (ha : PT X a tA) : PT X (.UnaryOp .Not a pos) (tNot tA) := by
  intro pins s σ H Q I h
  exact isTrue_not (ha pins s σ H (fun c H1 => Q (!c) H1) I h)
end
end L2
namespace L2
open PySem PySem.Spec PyProof.Rows
def SqL (K : PySem.W.Frag) (H : Hp) (a : Addr) (xs : List V) : Prop :=
  Rd H a (.lst xs) ∨
    ∃ (o : Obj) (its : Array Value) (n : Nat), K.lookup a = some o ∧ o.cls = .type "list" ∧ o.dict = none ∧ o.data = .seq its n ∧ its.size ≤ sizeLine ∧ Vals xs its.toList
def SqT (K : PySem.W.Frag) (H : Hp) (a : Addr) (xs : List V) : Prop :=
  Rd H a (.tup xs) ∨
    ∃ (o : Obj) (its : Array Value) (n : Nat), K.lookup a = some o ∧ o.cls = .type "tuple" ∧ o.data = .seq its n ∧ its.size ≤ sizeLine ∧ Vals xs its.toList
def absV : Value → Option V
  | .none => some .non
  | .bool b => some (.bl b)
  | .int i _ => some (.int i)
  | .str x _ => some (.str x)
  | .bytes b _ => some (.byt b)
  | .float b _ => some (.flt b)
  | .ref a => some (.ref a)
  | .type n => some (.ty n)
  | _ => none
theorem RelV.abs {x : V} {u : Value} (r : RelV x u) : absV u = some x := by
  cases x with
  | non => cases r; rfl
  | bl _ => cases r; rfl
  | int _ => obtain ⟨t, rfl⟩ := r; rfl
  | str _ => obtain ⟨t, rfl⟩ := r; rfl
  | byt _ => obtain ⟨t, rfl⟩ := r; rfl
  | flt _ => obtain ⟨t, rfl⟩ := r; rfl
  | ref _ => cases r; rfl
  | ty _ => cases r; rfl
theorem RelV.inj {x y : V} {u : Value} (r : RelV x u) (q : RelV y u) : x = y := Option.some.inj (r.abs.symm.trans q.abs)
theorem Vals.inj : ∀ {xs ys : List V} {us : List Value}, Vals xs us → Vals ys us → xs = ys
  | _, _, _, .nil, .nil => rfl
  | _, _, _, .cons r t, .cons r' t' => by rw [r.inj r', Vals.inj t t']
section
variable {X : Cx} {pins : List (Addr × Obj)} {σ : St} {H : Hp} {s : Shared} {a : Addr} {xs ys : List V}
theorem SqL.of {K : PySem.W.Frag} (h : H a = some (.lst xs)) : SqL K H a xs := .inl (.inl h)
theorem SqT.of {K : PySem.W.Frag} (h : H a = some (.tup xs)) : SqT K H a xs := .inl (.inl h)
theorem Inv.list (I : Inv X pins σ H s) (h : SqL X.K H a xs) : ∃ its : List Value, Vals xs its ∧ PlainL s.heap a its.toArray ∧ xs.length ≤ sizeLine := by
  rcases h with h | ⟨o, its, n, hk, hc, hd, hs, hz, r⟩
  · obtain ⟨z, its, n, r, e⟩ := h.ok I.hok
    exact ⟨its, r, ⟨_, n, e, rfl, rfl, rfl⟩, z⟩
  · refine ⟨its.toList, r, ⟨o, n, I.kIn a o hk, hc, hd, by simpa using hs⟩, ?_⟩
    have e := r.length
    simp only [Array.length_toList] at e
    omega
theorem Inv.tuple (I : Inv X pins σ H s) (h : SqT X.K H a xs) : ∃ its : List Value, Vals xs its ∧ IsTup s.heap a its.toArray ∧ xs.length ≤ sizeLine := by
  rcases h with h | ⟨o, its, n, hk, hc, hs, hz, r⟩
  · obtain ⟨z, its, r, p⟩ := h.ok I.hok
    exact ⟨its, r, p, z⟩
  · refine ⟨its.toList, r, ⟨o, I.kIn a o hk, hc, n, by simpa using hs⟩, ?_⟩
    have e := r.length
    simp only [Array.length_toList] at e
    omega
theorem Inv.list_inj (I : Inv X pins σ H s) (h : SqL X.K H a xs) (h' : SqL X.K H a ys) : xs = ys := by
  obtain ⟨its, r, ⟨o, n, e, _, _, d⟩, _⟩ := I.list h
  obtain ⟨its', r', ⟨o', n', e', _, _, d'⟩, _⟩ := I.list h'
  rw [e] at e'; cases e'
  rw [d] at d'
  injection d' with d1 _
  have : its = its' := by simpa using congrArg Array.toList d1
  subst this
  exact r.inj r'
end
abbrev Cx.wish (X : Cx) (E : Value → Shared → Prop) : Cx := { X with xe := E }
/-- no exception leaves -/
abbrev Cx.nox (X : Cx) : Cx := X.wish fun _ _ => False
theorem Cx.Ok.wish {X : Cx} (ok : X.Ok) (E : Value → Shared → Prop) : (X.wish E).Ok :=
  ⟨ok.mod, ok.kind, ok.glob, ok.blt, ok.above, ok.inj, ok.has, ok.cab, ok.hd, ok.frames, ok.stk, ok.exf, ok.bs, ok.bsz, ok.noex, ok.exfs, ok.funs, ok.frf⟩
theorem Cx.Ok.unwish {X : Cx} {E : Value → Shared → Prop} (ok : (X.wish E).Ok) : X.Ok :=
  ⟨ok.mod, ok.kind, ok.glob, ok.blt, ok.above, ok.inj, ok.has, ok.cab, ok.hd, ok.frames, ok.stk, ok.exf, ok.bs, ok.bsz, ok.noex, ok.exfs, ok.funs, ok.frf⟩
section
variable {X : Cx} {pins : List (Addr × Obj)} {σ : St} {H : Hp} {s : Shared} {E : Value → Shared → Prop}
theorem Inv.wish (I : Inv X pins σ H s) (E : Value → Shared → Prop) : Inv (X.wish E) pins σ H s := ⟨I.ok.wish E, I.os, I.bare, I.base, I.loc, I.cell, I.free, I.freeC, I.pin, I.hok, I.len⟩
theorem Inv.unwish (I : Inv (X.wish E) pins σ H s) : Inv X pins σ H s := ⟨I.ok.unwish, I.os, I.bare, I.base, I.loc, I.cell, I.free, I.freeC, I.pin, I.hok, I.len⟩
theorem SP.unwish {D : Ends} {f : Flow} {s' : Shared} (h : SP (X.wish E) pins D f s') : SP X pins D f s' := by
  cases f with
  | next => obtain ⟨σ', H', I, q⟩ := h; exact ⟨σ', H', I.unwish, q⟩
  | brk => obtain ⟨σ', H', I, q⟩ := h; exact ⟨σ', H', I.unwish, q⟩
  | cont => obtain ⟨σ', H', I, q⟩ := h; exact ⟨σ', H', I.unwish, q⟩
  | ret u => obtain ⟨v, σ', H', I, r, q⟩ := h; exact ⟨v, σ', H', I.unwish, r, q⟩
theorem PE.nox {e : Expr} {t : TE} (h : PE X.nox e t) : PE X e t := fun pins s σ H Q I hw =>
  wpAny_mono (h pins s σ H Q (I.wish _) hw) (fun _ _ ⟨v, H', I', r, q⟩ => ⟨v, H', I'.unwish, r, q⟩) fun _ _ z => False.elim z
theorem PT.nox {e : Expr} {t : TT} (h : PT X.nox e t) : PT X e t := fun pins s σ H Q I hw =>
  wpAny_mono (h pins s σ H Q (I.wish _) hw) (fun _ _ ⟨H', I', q⟩ => ⟨H', I'.unwish, q⟩) fun _ _ z => False.elim z
theorem PSs.nox {st : List Stmt} {t : TS} (h : PSs X.nox st t) : PSs X st t := fun pins s σ H D I hw =>
  wpAny_mono (h pins s σ H D (I.wish _) hw) (fun _ _ q => q.unwish) fun _ _ z => False.elim z
end
section
variable {X : Cx} {st : Stmt} {rest : List Stmt} {t u : TS} {e : Expr} {te : TE} {pos : Pos}
def tNext : TS := fun D σ H => D.nx σ H
def tSeq (t u : TS) : TS := fun D σ H => t { D with nx := u D } σ H
theorem pss_nil : PSs X [] tNext := fun _ _ σ H _ I h => wpAny_execs_nil ⟨σ, H, I, h⟩
theorem pss_cons (h1 : PS X st t) (h2 : PSs X rest u) : PSs X (st :: rest) (tSeq t u) := by
  intro pins s σ H D I h
  refine wpAny_execs_cons (thn (h1 pins s σ H { D with nx := u D } I h) fun f s1 q => ?_)
  cases f with
  | next =>
    obtain ⟨σ', H', I', q⟩ := q
    exact h2 pins s1 σ' H' D I' q
  | ret v => exact q
  | brk => exact q
  | cont => exact q
theorem pss_one (h1 : PS X st t) : PSs X [st] t := by
  intro pins s σ H D I h
  refine wpAny_execs_cons (thn (h1 pins s σ H D I h) fun f s1 q => ?_)
  cases f with
  | next => exact wpAny_execs_nil q
  | ret v => exact q
  | brk => exact q
  | cont => exact q
/-- in a def's body nothing is shown -/
theorem Inv.quiet {pins : List (Addr × Obj)} {σ : St} {H : Hp} {s : Shared} (I : Inv X pins σ H s) : interactive X.env = false := by simp [interactive, I.ok.kind]
/-- an expression whose value is dropped -/
def tDrop (te : TE) : TS := fun D σ H => te σ H fun _ H1 => D.nx σ H1
theorem ps_expr (he : PE X e te) (hs : swapsWith e none pos.line X.env = pure false := by rfl) : PS X (.Expr e pos) (tDrop te) := by
  intro pins s σ H D I h
  exact wpAny_Expr_any (thn (he pins s σ H _ I h) fun v s1 ⟨x, H1, I1, r1, q1⟩ => ⟨σ, H1, I1, q1⟩) I.quiet hs
def tRet (te : TE) : TS := fun D σ H => te σ H D.rt
theorem ps_ret (he : PE X e te) : PS X (.Return (some e) pos) (tRet te) := by
  intro pins s σ H D I h
  exact wpAny_Return_some (thn (he pins s σ H _ I h) fun v s1 ⟨x, H1, I1, r1, q1⟩ => ⟨x, σ, H1, I1, r1, q1⟩)
def tIfS (c : TT) (t u : TS) : TS := fun D σ H => c σ H fun b H1 => if b = true then t D σ H1 else u D σ H1
theorem ps_if {c : Expr} {a b : List Stmt} {tc : TT} (hc : PT X c tc) (ha : PSs X a t) (hb : PSs X b u) : PS X (.If c a b pos) (tIfS tc t u) := by
  intro pins s σ H D I h
  refine wpAny_If (thn (hc pins s σ H _ I h) fun d s1 ⟨H1, I1, q1⟩ => ?_)
  cases d with
  | true => exact ha pins s1 σ H1 D I1 q1
  | false => exact hb pins s1 σ H1 D I1 q1
/-- code that the proof never comes to -/
def tNever : TS := fun _ _ _ => False
theorem ps_never : PS X st tNever := fun _ _ _ _ _ _ h => h.elim
end
abbrev TG := V → St → Hp → (St → Hp → Prop) → Prop
abbrev TGs := List V → St → Hp → (St → Hp → Prop) → Prop
def PG (X : Cx) (target : Expr) (t : TG) : Prop :=
  ∀ (pins : List (Addr × Obj)) (s : Shared) (σ : St) (H : Hp) (v : V) (u : Value) (Q : St → Hp → Prop), Inv X pins σ H s → RelV v u → t v σ H Q →
    wpAny (model X.prog X.w) X.A (assign target X.env u) (fun _ s' => ∃ σ' H', Inv X pins σ' H' s' ∧ Q σ' H') X.xe s
/-- several targets, one after another -/
def PGs (X : Cx) (ts : List Expr) (t : TGs) : Prop :=
  ∀ (pins : List (Addr × Obj)) (s : Shared) (σ : St) (H : Hp) (vs : List V) (us : List Value) (Q : St → Hp → Prop), Inv X pins σ H s → Vals vs us → t vs σ H Q →
    wpAny (model X.prog X.w) X.A (assignInOrder ((assignEach ts X.env).map (·.2)) us) (fun _ s' => ∃ σ' H', Inv X pins σ' H' s' ∧ Q σ' H') X.xe s
/-- o[i] = v, by values -/
abbrev TSet := V → V → V → Hp → (Hp → Prop) → Prop
def PSet (X : Cx) (t : TSet) : Prop :=
  ∀ (pins : List (Addr × Obj)) (s : Shared) (σ : St) (H : Hp) (o i v : V) (ov iv u : Value) (Q : Hp → Prop), Inv X pins σ H s → RelV o ov → RelV i iv → RelV v u → t o i v H Q →
    wpAny (model X.prog X.w) X.A (setItem ov iv u) (fun _ s' => ∃ H', Inv X pins σ H' s' ∧ Q H') X.xe s
section
variable {X : Cx} {pos : Pos}
def gName (i : Nat) : TG := fun v σ H Q => Q (σ.set i (some v)) H
theorem pg_name {i : Nat} {x : Str} (hN : X.N.Nodup) (hi : X.N[i]? = some x) (hx : Loc X.env.scope x) (hf : X.fn x = true ∨ X.env.scope.names.lookup x = some .local := by first | exact .inl rfl | exact .inr rfl | assumption) : PG X (.Name x pos) (gName i) := by
  intro pins s σ H v u Q I r h
  exact wpAny_assign_Name (store_ok I hN hi hx r (fun s' I' => ⟨_, H, I', h⟩) hf)
def gNil : TGs := fun vs σ H Q => vs = [] ∧ Q σ H
def gCons (t : TG) (u : TGs) : TGs := fun vs σ H Q => ∃ v r, vs = v :: r ∧ t v σ H fun σ' H' => u r σ' H' Q
theorem pgs_nil : PGs X [] gNil := by
  intro pins s σ H vs us Q I r h
  obtain ⟨e, h⟩ := h
  subst e
  cases r
  exact assignInOrder_nil ⟨σ, H, I, h⟩
theorem pgs_cons {e : Expr} {es : List Expr} {t : TG} {u : TGs} (h1 : PG X e t) (h2 : PGs X es u)
    (hs : (assignEach (e :: es) X.env).map (·.2) = assign e X.env :: (assignEach es X.env).map (·.2) := by rfl) : PGs X (e :: es) (gCons t u) := by
  intro pins s σ H vs us Q I r h
  obtain ⟨v, vr, e1, h⟩ := h
  subst e1
  cases r with
  | cons r rr =>
    rw [hs]
    refine assignInOrder_cons (thn (h1 pins s σ H _ _ _ I r h) fun _ s1 ⟨σ1, H1, I1, q1⟩ => ?_)
    exact h2 pins s1 σ1 H1 _ _ Q I1 rr q1
/-- (a, b, ..) = a tuple of that length -/
def gTup (K : PySem.W.Frag) (n : Nat) (t : TGs) : TG := fun v σ H Q => ∃ a xs, v = .ref a ∧ SqT K H a xs ∧ xs.length = n ∧ t xs σ H Q
theorem pg_tup {es : List Expr} {k : Nat} {t : TGs} {n : Nat} (hc : X.calm = true) (h : PGs X es t)
    (hn : (assignEach es X.env).length = n := by rfl) (hst : (assignEach es X.env).findIdx? (·.1) = none := by rfl) : PG X (.Tuple es k pos) (gTup X.K n t) := by
  intro pins s σ H v u Q I r hw
  obtain ⟨a, xs, e1, hq, hl, hw⟩ := hw
  subst e1
  cases r
  obtain ⟨its, rv, ht, hz⟩ := I.tuple hq
  refine assign_Tuple_tuple (I.ok.hd hc) ht (by simp [hn, ← hl, rv.length]) hst fun h' hx => ?_
  have I1 : Inv X pins σ H { s with heap := h' } := I.kept (t' := s.toks) fun b o e => hx b o (Nat.ne_of_lt (Heap.lt_size e)) e
  exact h pins _ σ H xs _ Q I1 (by simpa using rv) hw
/-- o[i] = .. -/
def gSub (to ti : TE) (t : TSet) : TG := fun v σ H Q => to σ H fun o H1 => ti σ H1 fun i H2 => t o i v H2 fun H3 => Q σ H3
theorem pg_sub {o i : Expr} {to ti : TE} {t : TSet} (ho : PE X o to) (hi : PE X i ti) (hs : PSet X t)
    (ha : ∀ v, assign (.Subscript o i pos) X.env v = (do
      let ov ← holding [v] (eval o X.env)
      let iv ← holding [v, ov] (eval i X.env)
      standAt pos
      holding [v, ov, iv] (setItem ov iv v)
      release [v, ov, iv] []) := by intro _; rfl) : PG X (.Subscript o i pos) (gSub to ti t) := by
  intro pins s σ H v u Q I r h
  rw [ha]
  refine wpAny_bind (wpAny_holding (thn (ho pins s σ H _ I h) fun ov s1 ⟨x, H1, I1, r1, q1⟩ => ?_))
  refine wpAny_bind (wpAny_holding (thn (hi pins s1 σ H1 _ I1 q1) fun iv s2 ⟨y, H2, I2, r2, q2⟩ => ?_))
  refine wpAny_bind (wpAny_standAt (wpAny_bind (wpAny_holding (thn (hs pins s2 σ H2 x y v ov iv u _ I2 r1 r2 r q2) fun _ s3 ⟨H3, I3, q3⟩ => ?_))))
  exact wpAny_release ⟨σ, H3, I3, q3⟩
/-- target = value -/
def tAsg (te : TE) (g : TG) : TS := fun D σ H => te σ H fun x H1 => g x σ H1 D.nx
theorem ps_asg {tg e : Expr} {te : TE} {g : TG} (he : PE X e te) (hg : PG X tg g) (hs : swapsWithSole [tg] e pos.line X.env = pure false := by rfl) (hw : swappedStores [tg] e X.env = pure none := by rfl)
    (h1 : (assignEach [tg] X.env).map (·.2) = [assign tg X.env] := by rfl) : PS X (.Assign [tg] e pos) (tAsg te g) := by
  intro pins s σ H D I h
  refine wpAny_Assign_stores (thn (he pins s σ H _ I h) fun v s1 ⟨x, H1, I1, r1, q1⟩ => ?_) hs hw
  rw [h1]
  exact thn (hg pins s1 σ H1 x v _ I1 r1 q1) fun _ s2 q => q
/-- name = value -/
theorem ps_set {i : Nat} {x : Str} {e : Expr} {te : TE} {pos' : Pos} (hN : X.N.Nodup) (hi : X.N[i]? = some x) (hx : Loc X.env.scope x) (he : PE X e te) (hs : swapsWith e (some (.Name x pos')) pos.line X.env = pure false := by rfl) (hf : X.fn x = true ∨ X.env.scope.names.lookup x = some .local := by first | exact .inl rfl | exact .inr rfl | assumption) :
    PS X (.Assign [.Name x pos'] e pos) (tAsg te (gName i)) := by
  intro pins s σ H D I h
  refine wpAny_Assign_Name (thn (he pins s σ H _ I h) fun v s1 ⟨y, H1, I1, r1, q1⟩ => ?_) hs
  exact store_ok I1 hN hi hx r1 (fun s2 I2 => ⟨_, H1, I2, q1⟩) hf
end
section
variable {X : Cx} {pos : Pos}
end
/-- at turn i: it yields x (the heap may grow), or it stops -/
structure It where
  go : Nat → Hp → Prop
  yld : Nat → Hp → V → Hp → Prop
  stop : Nat → Hp → Prop
/-- the iterator's own objects may turn: they are not the frame's, not pinned, younger than the entry (or a comprehension's own) -/
def FpOk (X : Cx) (pins : List (Addr × Obj)) (H : Hp) (b : Addr) : Prop :=
  H b = none ∧ b ≠ X.env.locals ∧ b ∉ X.fs ∧ (b ∈ X.ex ∨ X.s₀.heap.objs.size ≤ b) ∧ (∀ x c, X.env.cells.lookup x = some c → c ≠ b) ∧ ∀ p ∈ X.pn ++ pins, p.1 ≠ b
theorem Inv.fpOk {X : Cx} {pins : List (Addr × Obj)} {σ : St} {H H' : Hp} {s : Shared} {b : Addr} (I : Inv X pins σ H s) (hb : s.heap.objs.size ≤ b) (hn : H' b = none) : FpOk X pins H' b := by
  refine ⟨hn, Nat.ne_of_gt (Nat.lt_of_lt_of_le I.lt hb), I.nofs hb, .inr (Nat.le_trans I.sz hb), fun x c e z => ?_, fun p hp z => ?_⟩
  · obtain ⟨v, q⟩ := I.cell x c e
    exact absurd (Nat.lt_of_lt_of_le q.lt (by rw [z]; exact hb)) (Nat.lt_irrefl _)
  · exact absurd (Nat.lt_of_lt_of_le (Heap.lt_size (I.pin p hp).1) (by rw [z]; exact hb)) (Nat.lt_irrefl _)
structure Turn (P : Program) (w : World) (K : PySem.W.Frag) (tg : Expr) (J : It) (fp : List Addr) (it : Addr) (tn : Nat → Heap → Prop) : Prop where
  mem : it ∈ fp
  obj : ∀ i h, tn i h → ∀ b ∈ fp, ∃ o, h.get? b = some o ∧ ∀ v, o.data ≠ .cell v
  keep : ∀ i h h', tn i h → (∀ b ∈ fp, ∀ o, h.get? b = some o → h'.get? b = some o) → tn i h'
  item : ∀ (X : Cx), X.prog = P → X.w = w → X.K = K → X.calm = true → ∀ (i : Nat) (pins : List (Addr × Obj)) (s : Shared) (σ : St) (H : Hp) (E : Value → Shared → Prop), Inv X pins σ H s → (∀ b ∈ fp, FpOk X pins H b) → tn i s.heap → J.go i H →
    wpAny (model P w) X.A (pyNext (.ref it)) (fun r s1 => ∃ u, r = some u ∧
      wpAny (model P w) X.A (letOwnedTupleGo tg (.ref it) u) (fun _ s2 => ∃ x H', Inv X pins σ H' s2 ∧ RelV x u ∧ J.yld i H x H' ∧ tn (i + 1) s2.heap ∧ ∀ b ∈ fp, H' b = none) E s1) E s
  done : ∀ (X : Cx), X.prog = P → X.w = w → X.K = K → X.calm = true → ∀ (i : Nat) (pins : List (Addr × Obj)) (s : Shared) (σ : St) (H : Hp) (E : Value → Shared → Prop), Inv X pins σ H s → (∀ b ∈ fp, FpOk X pins H b) → tn i s.heap → J.stop i H →
    wpAny (model P w) X.A (pyNext (.ref it)) (fun r s1 => r = none ∧ Inv X pins σ H s1) E s
  self : ∀ (A : Around) (i : Nat) (s : Shared) (Q : Value → Shared → Prop) (E : Value → Shared → Prop), tn i s.heap → Q (.ref it) s → wpAny (model P w) A (pyIter (.ref it)) Q E s
abbrev TI := St → Hp → (It → Hp → Prop) → Prop
/-- an iterator has come -/
def PIE (X : Cx) (pins : List (Addr × Obj)) (σ : St) (tg : Expr) (R : It → Hp → Prop) (itv : Value) (s2 : Shared) : Prop :=
  ∃ (it : Addr) (fp : List Addr) (tn : Nat → Heap → Prop) (J : It) (H' : Hp), itv = .ref it ∧ Inv X pins σ H' s2 ∧ Turn X.prog X.w X.K tg J fp it tn ∧ tn 0 s2.heap ∧ (∀ b ∈ fp, FpOk X pins H' b) ∧ R J H'
def PI (X : Cx) (tg iter : Expr) (wi : TI) : Prop :=
  ∀ (pins : List (Addr × Obj)) (s : Shared) (σ : St) (H : Hp) (R : It → Hp → Prop), Inv X pins σ H s → wi σ H R →
    wpAny (model X.prog X.w) X.A (eval iter X.env) (fun v s1 => wpAny (model X.prog X.w) X.A (pyIter v) (PIE X pins σ tg R) X.xe s1) X.xe s
/-- the step ahead of the store is nothing for an iterator that keeps no tuple -/
theorem go_of {M : Model} {A : Around} {E : Value → Shared → Prop} {s : Shared} {tg : Expr} {it : Addr} {u : Value} {o : Obj} {n : String} {vs : Array Value} {Q : Unit → Shared → Prop} (ho : s.heap.get? it = some o) (hc : o.cls = .type n) (hd : o.data = .fields vs)
    (hn : ["enumerate", "zip", "dict_itemiterator", "dict_reverseitemiterator", "odict_iterator", "itertools.zip_longest", "itertools.pairwise"].contains n = false) (hQ : Q () s) : wpAny M A (letOwnedTupleGo tg (.ref it) u) Q E s := by
  unfold letOwnedTupleGo
  cases tg <;> first
    | exact wpAny_pure hQ
    | (cases u <;> first
        | exact wpAny_pure hQ
        | (refine wpAny_bind (wpAny_load ho ?_)
           rw [hc, hd]
           show wpAny M A (if (["enumerate", "zip", "dict_itemiterator", "dict_reverseitemiterator", "odict_iterator", "itertools.zip_longest", "itertools.pairwise"].contains n && vs[0]? == some (rawInt _)) = true then _ else _) Q E s
           rw [if_neg (by intro h; rw [hn, Bool.false_and] at h; cases h)]
           exact wpAny_pure hQ))
/-- the list at a, as it stands at each turn (a loop may append to it) -/
def Itl (K : PySem.W.Frag) (a : Addr) : It :=
  ⟨fun i H => ∃ xs x, SqL K H a xs ∧ xs[i]? = some x, fun i H x H' => H' = H ∧ ∀ xs, SqL K H a xs → xs[i]? = some x, fun i H => ∃ xs, SqL K H a xs ∧ xs.length ≤ i⟩
/-- lo, lo + 1, .. (n of them) -/
def Itr (lo : Int) (n : Nat) : It := ⟨fun i _ => i < n, fun i H x H' => H' = H ∧ x = .int (lo + i), fun i _ => n ≤ i⟩
theorem turn_list {P : Program} {w : World} {K : PySem.W.Frag} {tg : Expr} (a it : Addr) : Turn P w K tg (Itl K a) [it] it (fun i h => h.IsListIter it a i) where
  mem := by simp
  obj := fun i h st b hb => by
    have e : b = it := by simpa using hb
    subst e
    obtain ⟨o, e, c, d⟩ := st
    exact ⟨o, e, fun v z => by rw [d] at z; cases z⟩
  keep := fun i h h' st k => st.at fun o e => k it (by simp) o e
  item := by
    intro X hP hw hK hc i pins s σ H E I hf st hg
    subst hP hw hK
    obtain ⟨xs, x, hq, hx⟩ := hg
    obtain ⟨its, rv, p, hz⟩ := I.list hq
    obtain ⟨u, hu, ru⟩ := rv.get hx
    obtain ⟨f0, f1, f2, f3, f4, f5⟩ := hf it (by simp)
    refine wpAny_pyNext_list_item st p.isList (x := u) (by simpa using hu) fun h' st' sb => ?_
    have I1 : Inv X pins σ H { s with heap := h' } := I.turned (t' := s.toks) (fun b o hb e => (sb.2 b hb).trans e) f0 f1 f3 f4 f5
    obtain ⟨o, e, c, d⟩ := id st'
    exact ⟨u, rfl, go_of (s := { s with heap := h' }) e c d (by decide) ⟨x, H, I1, ru, ⟨rfl, fun ys hy => by rw [I.list_inj hy hq]; exact hx⟩, st', fun b hb => (hf b hb).1⟩⟩
  done := by
    intro X hP hw hK hc i pins s σ H E I hf st hg
    subst hP hw hK
    obtain ⟨xs, hq, hx⟩ := hg
    obtain ⟨its, rv, p, hz⟩ := I.list hq
    obtain ⟨f0, f1, f2, f3, f4, f5⟩ := hf it (by simp)
    have hl := rv.length
    exact wpAny_pyNext_list_end (I.ok.hd hc) st p.isList (by simp; omega) fun h' eb => ⟨rfl, I.turned (t' := s.toks) (fun b o hb e => eb b o hb e) f0 f1 f3 f4 f5⟩
  self := fun _ _ _ _ _ st h => wpAny_pyIter_listiter st h
theorem turn_range {P : Program} {w : World} {K : PySem.W.Frag} {tg : Expr} (it : Addr) (lo : Int) (n : Nat) : Turn P w K tg (Itr lo n) [it] it (fun i h => IsRangeIter h it (lo + (i : Nat) * 1) ((n : Int) - (i : Nat)) 1) where
  mem := by simp
  obj := fun i h st b hb => by
    have e : b = it := by simpa using hb
    subst e
    exact ⟨_, st, fun v z => by
      have z' : Data.fields _ = Data.cell v := z
      cases z'⟩
  keep := fun i h h' st k => k it (by simp) _ st
  item := by
    intro X hP hw hK hc i pins s σ H E I hf st hg
    subst hP hw hK
    obtain ⟨f0, f1, f2, f3, f4, f5⟩ := hf it (by simp)
    have W := Walks.range (prog := X.prog) (w := X.w) (I.ok.hd hc) it lo 1 n
    refine W.item i s _ _ hg st fun v h' tk hv st' kk => ?_
    obtain ⟨t, rfl⟩ := hv
    have I1 : Inv X pins σ H { s with heap := h', toks := tk } := I.turned (fun b o hb e => kk b o (by simpa using hb) e) f0 f1 f3 f4 f5
    refine ⟨_, rfl, go_of (s := { s with heap := h', toks := tk }) (n := "range_iterator") st' rfl rfl (by decide) ⟨.int (lo + i), H, I1, ⟨t, ?_⟩, ⟨rfl, rfl⟩, st', fun b hb => (hf b hb).1⟩⟩
    rw [Int.mul_one]
  done := by
    intro X hP hw hK hc i pins s σ H E I hf st hg
    subst hP hw hK
    obtain ⟨f0, f1, f2, f3, f4, f5⟩ := hf it (by simp)
    exact wpAny_pyNext_range_end (I.ok.hd hc) st (by have : n ≤ i := hg; omega) fun h' eb => ⟨rfl, I.turned (t' := s.toks) (fun b o hb e => eb b o hb e) f0 f1 f3 f4 f5⟩
  self := fun _ _ _ _ _ st h => wpAny_pyIter_rangeiter st h
end L2
namespace L2
open PySem PySem.Spec PyProof.Rows
section
variable {X : Cx} {tg : Expr}
def iList (K : PySem.W.Frag) (tl : TE) : TI := fun σ H R => tl σ H fun x H1 => ∃ a, x = .ref a ∧ (∃ xs, SqL K H1 a xs) ∧ R (Itl K a) H1
theorem pi_list {l : Expr} {tl : TE} (hl : PE X l tl) : PI X tg l (iList X.K tl) := by
  intro pins s σ H R I h
  refine thn (hl pins s σ H _ I h) fun v s1 ⟨x, H1, I1, r1, q1⟩ => ?_
  obtain ⟨a, e, ⟨xs, hq⟩, q⟩ := q1
  subst e
  cases r1
  obtain ⟨its, rv, p, hz⟩ := I1.list hq
  refine wpAny_pyIter_list p.isList ?_
  refine ⟨s1.heap.objs.size, [s1.heap.objs.size], _, _, H1, rfl, I1.kept (t' := s1.toks) fun b o e => Heap.get?_push_of_some _ e, turn_list a _, ⟨_, Heap.get?_push_size _ rfl, rfl, rfl⟩, fun b hb => ?_, q⟩
  have e : b = s1.heap.objs.size := by simpa using hb
  subst e
  exact I1.fpOk (Nat.le_refl _) (I1.hok.fresh (Nat.le_refl _))
/-- a range object just made, walked -/
theorem range_it {pins : List (Addr × Obj)} {σ : St} {H : Hp} {s : Shared} {R : It → Hp → Prop} {E : Value → Shared → Prop} {lo hi : Int} {t u v : Tok} {tk : Nat} (I : Inv X pins σ H s) (h1 : -(2 ^ 62) ≤ lo) (h2 : lo < 2 ^ 62) (h3 : -(2 ^ 62) ≤ hi) (h4 : hi < 2 ^ 62)
    (q : R (Itr lo (hi - lo).toNat) H) : wpAny (model X.prog X.w) X.A (pyIter (.ref s.heap.objs.size)) (PIE X pins σ tg R) E { s with heap := s.heap.push { cls := .type "range", data := .fields #[.int lo t, .int hi u, .int 1 v] }, toks := tk } := by
  refine wpAny_pyIter_range (IsRange.new ..) (small_one h1 h2 h3 h4) ?_
  have I1 : Inv X pins σ H { s with heap := s.heap.push { cls := .type "range", data := .fields #[.int lo t, .int hi u, .int 1 v] }, toks := tk } := I.kept fun b o e => Heap.get?_push_of_some _ e
  refine ⟨(s.heap.push { cls := .type "range", data := .fields #[.int lo t, .int hi u, .int 1 v] }).objs.size, [(s.heap.push { cls := .type "range", data := .fields #[.int lo t, .int hi u, .int 1 v] }).objs.size], _, _, H, rfl,
    I1.kept (t' := tk) fun b o e => Heap.get?_push_of_some _ e, turn_range _ lo (hi - lo).toNat, ?_, fun b hb => ?_, q⟩
  · have e1 : lo + ((0 : Nat) : Int) * 1 = lo := by simp
    have e2 : (((hi - lo).toNat : Nat) : Int) - ((0 : Nat) : Int) = Builtin.Range.rangeSize lo hi 1 := by rw [rangeSize_one]; split <;> omega
    show IsRangeIter _ _ (lo + ((0 : Nat) : Int) * 1) ((((hi - lo).toNat : Nat) : Int) - ((0 : Nat) : Int)) 1
    rw [e1, e2]
    exact Heap.get?_push_size _ rfl
  · have e : b = (s.heap.push { cls := .type "range", data := .fields #[.int lo t, .int hi u, .int 1 v] }).objs.size := by simpa using hb
    subst e
    exact I1.fpOk (Nat.le_refl _) (I1.hok.fresh (Nat.le_refl _))
def iRng1 (ta : TA) : TI := fun σ H R => ta σ H fun vs H1 => ∃ j : Int, vs = [.int j] ∧ -(2 ^ 62) ≤ j ∧ j < 2 ^ 62 ∧ R (Itr 0 j.toNat) H1
theorem pi_range1 {a : Expr} {ta : TA} {p pos : Pos} (hg : Gl X "range") (hm : X.mg "range" = none) (ha : PA X [a] ta) (hs : starEach [a] X.env = [(false, eval a X.env)] := by rfl) : PI X tg (.Call (.Name "range" p) [a] [] pos) (iRng1 ta) := by
  intro pins s σ H R I h
  refine Call_ (ld_blt I hg hm boot_range (PyProof.Rows.callWith_type1 (thn (ha pos pins s σ H _ I h) fun us s1 ⟨vs, H1, I1, r1, q1⟩ => ?_) hs rfl))
  obtain ⟨j, e, q1, q2, q⟩ := q1
  subst e
  cases r1 with
  | cons r rr =>
    cases rr
    obtain ⟨t, rfl⟩ := r
    exact call_range_1 (range_it I1 (by omega) (by omega) q1 q2 (by simpa using q))
/-- W: the invariant by the turn and a measure; N: what the body is to reach -/
def tFor (wi : TI) (g : TG) (tb : TS) : TS := fun D σ H => wi σ H fun J H1 => ∃ W : Nat → Nat → St → Hp → Prop, (∃ m, W 0 m σ H1) ∧ ∀ i m σ H, W i m σ H →
  (J.stop i H ∧ D.nx σ H) ∨ (J.go i H ∧ ∃ N : St → Hp → Prop, (∀ σ' H', N σ' H' → ∃ m', m' < m ∧ W (i + 1) m' σ' H') ∧ ∀ x H', J.yld i H x H' → g x σ H' fun σ2 H2 => tb { D with nx := N, ct := N, bk := D.nx } σ2 H2)
/-- the records at fp as they stand -/
def pinsAt (fp : List Addr) (h : Heap) : List (Addr × Obj) := fp.filterMap fun b => (h.get? b).map fun o => (b, o)
theorem mem_pinsAt {fp : List Addr} {h : Heap} {b : Addr} {o : Obj} (hb : b ∈ fp) (e : h.get? b = some o) : (b, o) ∈ pinsAt fp h := List.mem_filterMap.mpr ⟨b, hb, by rw [e]; rfl⟩
theorem of_pinsAt {fp : List Addr} {h : Heap} {p : Addr × Obj} (hp : p ∈ pinsAt fp h) : p.1 ∈ fp ∧ h.get? p.1 = some p.2 := by
  obtain ⟨b, hb, e⟩ := List.mem_filterMap.mp hp
  cases q : h.get? b with
  | none => rw [q] at e; cases e
  | some o =>
    rw [q] at e
    have e' : (b, o) = p := Option.some.inj e
    subst e'
    exact ⟨hb, q⟩
theorem Inv.pinned {pins : List (Addr × Obj)} {σ : St} {H : Hp} {s : Shared} {fp : List Addr} (I : Inv X pins σ H s) (hf : ∀ b ∈ fp, FpOk X pins H b) (ho : ∀ b ∈ fp, ∃ o, s.heap.get? b = some o ∧ ∀ v, o.data ≠ .cell v) : Inv X (pins ++ pinsAt fp s.heap) σ H s :=
  I.pins_of fun p hp => (List.mem_append.mp hp).elim (fun z => I.pin p (List.mem_append_right _ z)) fun z => by
    obtain ⟨hb, e⟩ := of_pinsAt z
    obtain ⟨f0, f1, f2, _⟩ := hf p.1 hb
    obtain ⟨o, e', d⟩ := ho p.1 hb
    rw [e] at e'; cases e'
    exact ⟨e, f0, f1, f2, d⟩
theorem Inv.unpinned {pins pl : List (Addr × Obj)} {σ : St} {H : Hp} {s : Shared} (I : Inv X (pins ++ pl) σ H s) : Inv X pins σ H s := I.pins_of fun p hp => I.pin p (List.mem_append_right _ (List.mem_append_left _ hp))
theorem ps_for {iter : Expr} {body : List Stmt} {wi : TI} {g : TG} {tb : TS} {pos : Pos} (hp : PassesOwn (model X.prog X.w) X.A X.env X.xe) (hc : X.calm = true) (hi : PI X tg iter wi) (hg : PG X tg g) (hb : PSs X body tb)
    (hs : ∀ x, foldedSetIterable iter X.env x = pure x := by intro _; rfl) : PS X (.For tg iter body [] pos) (tFor wi g tb) := by
  intro pins s σ H D I h
  refine wpAny_For (thn (hi pins s σ H _ I h) fun v s1 h1 => thn h1 fun itv s2 h2 => ?_) hs
  obtain ⟨it, fp, tn, J, H2, e, I2, T, st2, f2, W, ⟨m0, w0⟩, turn⟩ := h2
  subst e
  -- what stays true of the iterator's objects through the loop
  have stat : ∀ {H' : Hp}, (∀ b ∈ fp, H' b = none) → ∀ b ∈ fp, FpOk X pins H' b := fun hn b hb => ⟨hn b hb, (f2 b hb).2⟩
  refine codeAny_forLoop_any (fun n s' => ∃ i σ' H', Inv X pins σ' H' s' ∧ tn i s'.heap ∧ (∀ b ∈ fp, H' b = none) ∧ W i n σ' H') ?_ m0 ⟨0, σ, H2, I2, st2, fun b hb => (f2 b hb).1, w0⟩
  rintro n s3 ⟨i, σ3, H3, I3, st3, fr3, w3⟩
  rcases turn i n σ3 H3 w3 with ⟨stop, qn⟩ | ⟨go, N, hN, step⟩
  · refine wpAny_passesOwn hp (thn (T.done X rfl rfl rfl hc i pins s3 σ3 H3 X.xe I3 (stat fr3) st3 stop) fun r s4 ⟨hr, I4⟩ => ?_)
    subst hr
    exact wpAny_execs_nil ⟨σ3, H3, I4, qn⟩
  · refine wpAny_passesOwn hp (thn (T.item X rfl rfl rfl hc i pins s3 σ3 H3 X.xe I3 (stat fr3) st3 go) fun r s4 ⟨u, hr, h4⟩ => ?_)
    subst hr
    refine wpAny_passesOwn hp (thn h4 fun _ s5 ⟨x, H5, I5, r5, y5, st5, fr5⟩ => ?_)
    have I5' := I5.pinned (stat fr5) (T.obj _ _ st5)
    refine wpAny_passesOwn hp (thn (hg _ s5 σ3 H5 x u _ I5' r5 (step x H5 y5)) fun _ s6 ⟨σ6, H6, I6, q6⟩ => ?_)
    refine wpAny_passesOwn hp (thn (hb _ s6 σ6 H6 _ I6 q6) fun f s7 q7 => ?_)
    have again : ∀ {σ7 : St} {H7 : Hp}, Inv X (pins ++ pinsAt fp s5.heap) σ7 H7 s7 → N σ7 H7 → ∃ m, m < n ∧ ∃ i σ' H', Inv X pins σ' H' s7 ∧ tn i s7.heap ∧ (∀ b ∈ fp, H' b = none) ∧ W i m σ' H' := fun {σ7 H7} I7 n7 => by
      obtain ⟨m', hm, w7⟩ := hN σ7 H7 n7
      refine ⟨m', hm, i + 1, σ7, H7, I7.unpinned, T.keep _ _ _ st5 fun b hb o e => (I7.pin (b, o) (List.mem_append_right _ (List.mem_append_right _ (mem_pinsAt hb e)))).1, fun b hb => ?_, w7⟩
      obtain ⟨o, e, d⟩ := T.obj _ _ st5 b hb
      exact (I7.pin (b, o) (List.mem_append_right _ (List.mem_append_right _ (mem_pinsAt hb e)))).2.1
    cases f with
    | next => obtain ⟨σ7, H7, I7, n7⟩ := q7; exact again I7 n7
    | cont => obtain ⟨σ7, H7, I7, n7⟩ := q7; exact again I7 n7
    | brk => obtain ⟨σ7, H7, I7, q7⟩ := q7; exact ⟨σ7, H7, I7.unpinned, q7⟩
    | ret v => obtain ⟨x7, σ7, H7, I7, r7, q7⟩ := q7; exact ⟨x7, σ7, H7, I7.unpinned, r7, q7⟩
end
/-- over a list that the body leaves as it is -/
theorem for_list {K : PySem.W.Frag} {a : Addr} {xs : List V} {g : TG} {tb : TS} {D : Ends} {σ : St} {H : Hp} (Pv : Nat → St → Hp → Prop) (h0 : Pv 0 σ H) (hl : ∀ i σ H, i ≤ xs.length → Pv i σ H → SqL K H a xs)
    (hs : ∀ i x σ H, xs[i]? = some x → Pv i σ H → g x σ H fun σ2 H2 => tb { D with nx := Pv (i + 1), ct := Pv (i + 1), bk := D.nx } σ2 H2) (hd : ∀ σ H, Pv xs.length σ H → D.nx σ H) :
    ∃ W : Nat → Nat → St → Hp → Prop, (∃ m, W 0 m σ H) ∧ ∀ i m σ H, W i m σ H →
      ((Itl K a).stop i H ∧ D.nx σ H) ∨ ((Itl K a).go i H ∧ ∃ N : St → Hp → Prop, (∀ σ' H', N σ' H' → ∃ m', m' < m ∧ W (i + 1) m' σ' H') ∧ ∀ x H', (Itl K a).yld i H x H' → g x σ H' fun σ2 H2 => tb { D with nx := N, ct := N, bk := D.nx } σ2 H2) := by
  refine ⟨fun i m σ H => m = xs.length - i ∧ i ≤ xs.length ∧ Pv i σ H, ⟨xs.length, by simp, Nat.zero_le _, h0⟩, ?_⟩
  rintro i m σ H ⟨rfl, hi, p⟩
  have q := hl i σ H hi p
  by_cases hlt : i < xs.length
  · refine .inr ⟨⟨xs, xs[i], q, by simp [hlt]⟩, Pv (i + 1), fun σ' H' p' => ⟨xs.length - (i + 1), by omega, rfl, hlt, p'⟩, fun x H' y => ?_⟩
    obtain ⟨e, y⟩ := y
    subst e
    exact hs i x σ _ (y xs q) p
  · have e : i = xs.length := by omega
    subst e
    exact .inl ⟨⟨xs, q, Nat.le_refl _⟩, hd σ H p⟩
theorem for_range {lo : Int} {n : Nat} {g : TG} {tb : TS} {D : Ends} {σ : St} {H : Hp} (Pv : Nat → St → Hp → Prop) (h0 : Pv 0 σ H)
    (hs : ∀ i σ H, i < n → Pv i σ H → g (.int (lo + i)) σ H fun σ2 H2 => tb { D with nx := Pv (i + 1), ct := Pv (i + 1), bk := D.nx } σ2 H2) (hd : ∀ σ H, Pv n σ H → D.nx σ H) :
    ∃ W : Nat → Nat → St → Hp → Prop, (∃ m, W 0 m σ H) ∧ ∀ i m σ H, W i m σ H →
      ((Itr lo n).stop i H ∧ D.nx σ H) ∨ ((Itr lo n).go i H ∧ ∃ N : St → Hp → Prop, (∀ σ' H', N σ' H' → ∃ m', m' < m ∧ W (i + 1) m' σ' H') ∧ ∀ x H', (Itr lo n).yld i H x H' → g x σ H' fun σ2 H2 => tb { D with nx := N, ct := N, bk := D.nx } σ2 H2) := by
  refine ⟨fun i m σ H => m = n - i ∧ i ≤ n ∧ Pv i σ H, ⟨n, by simp, Nat.zero_le _, h0⟩, ?_⟩
  rintro i m σ H ⟨rfl, hi, p⟩
  by_cases hlt : i < n
  · refine .inr ⟨hlt, Pv (i + 1), fun σ' H' p' => ⟨n - (i + 1), by omega, rfl, hlt, p'⟩, fun x H' y => ?_⟩
    obtain ⟨e, y⟩ := y
    subst e y
    exact hs i σ _ hlt p
  · have e : i = n := by omega
    subst e
    exact .inl ⟨Nat.le_refl _, hd σ H p⟩
end L2
namespace L2
open PySem PySem.Spec PyProof.Rows
abbrev R2 := V → V → Hp → VK → Prop
/-- a two-place operation on values: f is binaryOp op, inplaceOp op or compareOp op -/
def OpR (X : Cx) (f : Value → Value → Sem Value) (r : R2) : Prop :=
  ∀ (pins : List (Addr × Obj)) (s : Shared) (σ : St) (H : Hp) (x y : V) (v u : Value) (Q : VK), Inv X pins σ H s → RelV x v → RelV y u → r x y H Q →
    wpAny (model X.prog X.w) X.A (f v u) (EP X pins σ Q) X.xe s
/-- a call of a value that is known (a builtin, a type) with values -/
def CallR (X : Cx) (f : Value) (r : List V → Hp → VK → Prop) : Prop :=
  ∀ (pins : List (Addr × Obj)) (s : Shared) (σ : St) (H : Hp) (xs : List V) (us : List Value) (Q : VK), Inv X pins σ H s → Vals xs us → r xs H Q →
    wpAny (model X.prog X.w) X.A (call f us) (EP X pins σ Q) X.xe s
/-- a value's truth -/
def TruR (X : Cx) (r : V → Hp → (Bool → Hp → Prop) → Prop) : Prop :=
  ∀ (pins : List (Addr × Obj)) (s : Shared) (σ : St) (H : Hp) (x : V) (v : Value) (Q : Bool → Hp → Prop), Inv X pins σ H s → RelV x v → r x H Q →
    wpAny (model X.prog X.w) X.A (truthy v) (TP X pins σ Q) X.xe s
def tOp (r : R2) (ta tb : TE) : TE := fun σ H Q => ta σ H fun x H1 => tb σ H1 fun y H2 => r x y H2 Q
/-- ints in, under C, and a value out -/
def rI (C : Int → Int → Prop) (g : Int → Int → V) : R2 := fun x y H Q => ∃ i j, x = .int i ∧ y = .int j ∧ C i j ∧ Q (g i j) H
def rI0 (g : Int → Int → V) : R2 := fun x y H Q => ∃ i j, x = .int i ∧ y = .int j ∧ Q (g i j) H
section
variable {X : Cx} {a b c : Expr} {ta tb tc : TE} {pos : Pos}
theorem binT (ha : PE X a ta) (hb : PE X b tb) {pins : List (Addr × Obj)} {s : Shared} {σ : St} {H : Hp} {R : V → V → Hp → Prop} (I : Inv X pins σ H s)
    (h : ta σ H fun x H1 => tb σ H1 fun y H2 => R x y H2) {Q : Value → Shared → Prop} {f : Value → Value → Sem Value}
    (hf : ∀ v u s2 x y H2, Inv X pins σ H2 s2 → RelV x v → RelV y u → R x y H2 → wpAny (model X.prog X.w) X.A (f v u) Q X.xe s2) :
    wpAny (model X.prog X.w) X.A (eval a X.env) (fun v s₁ => wpAny (model X.prog X.w) X.A (eval b X.env) (fun u s₂ => wpAny (model X.prog X.w) X.A (f v u) Q X.xe s₂) X.xe s₁) X.xe s := by
  refine thn (ha pins s σ H _ I h) fun v s1 ⟨x, H1, I1, r1, q1⟩ => ?_
  refine thn (hb pins s1 σ H1 _ I1 q1) fun u s2 ⟨y, H2, I2, r2, q2⟩ => ?_
  exact hf v u s2 x y H2 I2 r1 r2 q2
theorem pe_op {op : Operator} {r : R2} (ho : OpR X (binaryOp op) r) (ha : PE X a ta) (hb : PE X b tb) : PE X (.BinOp a op b pos) (tOp r ta tb) := by
  intro pins s σ H Q I h
  exact wpAny_BinOp (binT ha hb I h fun v u s2 x y H2 I2 rx ry q => ho pins s2 σ H2 x y v u Q I2 rx ry q)
theorem opI {f : Value → Value → Sem Value} {C : Int → Int → Prop} {g : Int → Int → Int}
    (rule : ∀ (i j : Int) (t u : Tok) (s : Shared) (Q : Value → Shared → Prop) (E : Value → Shared → Prop), C i j → Q (.int (g i j) s.toks) { s with toks := s.toks + 1 } → wpAny (model X.prog X.w) X.A (f (.int i t) (.int j u)) Q E s) :
    OpR X f (rI C fun i j => .int (g i j)) := by
  intro pins s σ H x y v u Q I rx ry h
  obtain ⟨i, j, rfl, rfl, hc, q⟩ := h
  obtain ⟨t, rfl⟩ := rx
  obtain ⟨t', rfl⟩ := ry
  exact rule i j t t' s _ _ hc ⟨.int (g i j), H, I.tok _, ⟨_, rfl⟩, q⟩
theorem opI0 {f : Value → Value → Sem Value} {g : Int → Int → Int}
    (rule : ∀ (i j : Int) (t u : Tok) (s : Shared) (Q : Value → Shared → Prop) (E : Value → Shared → Prop), Q (.int (g i j) s.toks) { s with toks := s.toks + 1 } → wpAny (model X.prog X.w) X.A (f (.int i t) (.int j u)) Q E s) :
    OpR X f (rI0 fun i j => .int (g i j)) := by
  intro pins s σ H x y v u Q I rx ry h
  obtain ⟨i, j, rfl, rfl, q⟩ := h
  obtain ⟨t, rfl⟩ := rx
  obtain ⟨t', rfl⟩ := ry
  exact rule i j t t' s _ _ ⟨.int (g i j), H, I.tok _, ⟨_, rfl⟩, q⟩
theorem opB0 {f : Value → Value → Sem Value} {g : Int → Int → Bool}
    (rule : ∀ (i j : Int) (t u : Tok) (s : Shared) (Q : Value → Shared → Prop) (E : Value → Shared → Prop), Q (.bool (g i j)) s → wpAny (model X.prog X.w) X.A (f (.int i t) (.int j u)) Q E s) :
    OpR X f (rI0 fun i j => .bl (g i j)) := by
  intro pins s σ H x y v u Q I rx ry h
  obtain ⟨i, j, rfl, rfl, q⟩ := h
  obtain ⟨t, rfl⟩ := rx
  obtain ⟨t', rfl⟩ := ry
  exact rule i j t t' s _ _ ⟨.bl (g i j), H, I, rfl, q⟩
def CDiv (i j : Int) : Prop := 0 < j ∧ j < 1073741824
def CMul (i j : Int) : Prop := (-(2 ^ 64) < i ∧ i < 2 ^ 64) ∨ (-(2 ^ 64) < j ∧ j < 2 ^ 64)
theorem CMul.ok {i j : Int} (h : CMul i j) : IntMulOk i j := by
  rcases h with ⟨h1, h2⟩ | ⟨h1, h2⟩
  · exact .of_left (intBits_le_64 h1 h2)
  · exact .of_right (intBits_le_64 h1 h2)
theorem op_add : OpR X (binaryOp .Add) (rI0 fun i j => .int (i + j)) := opI0 fun _ _ _ _ _ _ _ q => add_int q
theorem op_sub : OpR X (binaryOp .Sub) (rI0 fun i j => .int (i - j)) := opI0 fun _ _ _ _ _ _ _ q => sub_int q
theorem op_mul : OpR X (binaryOp .Mult) (rI CMul fun i j => .int (i * j)) := opI fun _ _ _ _ _ _ _ hc q => mul_int q hc.ok
/-- // by a positive divisor -/
theorem op_fdiv : OpR X (binaryOp .FloorDiv) (rI CDiv fun i j => .int (i / j)) := opI fun i j _ _ _ _ _ hc q => by
  have h1 : (0 : Int) < j := hc.1
  have h2 : j < 1073741824 := hc.2
  exact floordiv_int (by omega) (by rw [Int.fdiv_eq_ediv_of_nonneg i (by omega)]; exact q) (.inl (PyProof.noPylong_small (by omega)))
/-- % by a positive divisor of any size -/
theorem op_mod : OpR X (binaryOp .Mod) (rI (fun _ j => 0 < j) fun i j => .int (i % j)) := opI fun i j _ _ _ _ _ hc q => by
  have h1 : (0 : Int) < j := hc
  exact mod_int' (by omega) (by rw [Int.fmod_eq_emod_of_nonneg i (by omega)]; exact q)
end
/-- the scalars that == tells apart as data does -/
def scal : V → V → Bool
  | .non, .non => true | .non, .int _ => true | .int _, .non => true | .non, .bl _ => true | .bl _, .non => true | .non, .str _ => true | .str _, .non => true
  | .int _, .int _ => true | .bl _, .bl _ => true | .str _, .str _ => true | .byt _, .byt _ => true
  | .int _, .str _ => true | .str _, .int _ => true | .bl _, .str _ => true | .str _, .bl _ => true
  | _, _ => false
def rEq : R2 := fun x y H Q => scal x y = true ∧ Q (.bl (decide (x = y))) H
def rNe : R2 := fun x y H Q => scal x y = true ∧ Q (.bl (!decide (x = y))) H
theorem dec_int {i j : Int} : decide (V.int i = V.int j) = (i == j) := by
  rw [Bool.eq_iff_iff]
  simp
theorem dec_bl {i j : Bool} : decide (V.bl i = V.bl j) = (i == j) := by
  rw [Bool.eq_iff_iff]
  simp
theorem dec_str {i j : Str} : decide (V.str i = V.str j) = (i == j) := by
  rw [Bool.eq_iff_iff]
  simp
theorem dec_byt {i j : Array UInt8} : decide (V.byt i = V.byt j) = (i.toList == j.toList) := by
  rw [Bool.eq_iff_iff]
  cases i
  cases j
  simp
section
variable {X : Cx} {a b c : Expr} {ta tb tc : TE} {pos : Pos}
theorem fin_bl {pins : List (Addr × Obj)} {σ : St} {H : Hp} {s : Shared} {Q : VK} {k k' : Bool} (I : Inv X pins σ H s) (q : Q (.bl k) H) (e : k = k') : EP X pins σ Q (.bool k') s := by
  subst e
  exact ⟨.bl k, H, I, rfl, q⟩
theorem op_eq : OpR X (compareOp .Eq) rEq := by
  intro pins s σ H x y v u Q I rx ry h
  obtain ⟨hs, q⟩ := h
  cases x with
  | non =>
    cases rx
    cases y with
    | non => cases ry; exact PySem.EqNone.eq_none_none (fin_bl I q (by simp))
    | bl j => cases ry; exact PySem.EqNone.eq_none_bool (fin_bl I q (by simp))
    | int j => obtain ⟨t', rfl⟩ := ry; exact PySem.EqNone.eq_none_int (fin_bl I q (by simp))
    | str j => obtain ⟨t', rfl⟩ := ry; exact PySem.EqNone.eq_none_str (fin_bl I q (by simp))
    | _ => exact absurd (show false = true from hs) Bool.false_ne_true
  | bl i =>
    cases rx
    cases y with
    | non => cases ry; exact PySem.EqNone.eq_bool_none (fin_bl I q (by simp))
    | bl j => cases ry; exact eq_bool (fin_bl I q dec_bl)
    | str j => obtain ⟨t', rfl⟩ := ry; exact PySem.EqMixed.eq_bool_str (fin_bl I q (by simp))
    | _ => exact absurd (show false = true from hs) Bool.false_ne_true
  | int i =>
    obtain ⟨t, rfl⟩ := rx
    cases y with
    | non => cases ry; exact PySem.EqNone.eq_int_none (fin_bl I q (by simp))
    | int j => obtain ⟨t', rfl⟩ := ry; exact eq_int (fin_bl I q dec_int)
    | str j => obtain ⟨t', rfl⟩ := ry; exact PySem.EqMixed.eq_int_str (fin_bl I q (by simp))
    | _ => exact absurd (show false = true from hs) Bool.false_ne_true
  | str i =>
    obtain ⟨t, rfl⟩ := rx
    cases y with
    | non => cases ry; exact PySem.EqNone.eq_str_none (fin_bl I q (by simp))
    | bl j => cases ry; exact PySem.EqMixed.eq_str_bool (fin_bl I q (by simp))
    | int j => obtain ⟨t', rfl⟩ := ry; exact PySem.EqMixed.eq_str_int (fin_bl I q (by simp))
    | str j => obtain ⟨t', rfl⟩ := ry; exact eq_str (fin_bl I q dec_str)
    | _ => exact absurd (show false = true from hs) Bool.false_ne_true
  | byt i =>
    obtain ⟨t, rfl⟩ := rx
    cases y with
    | byt j => obtain ⟨t', rfl⟩ := ry; exact PySem.W.eq_bytes (fin_bl I q dec_byt)
    | _ => exact absurd (show false = true from hs) Bool.false_ne_true
  | _ => cases y <;> exact absurd (show false = true from hs) Bool.false_ne_true
theorem op_ne : OpR X (compareOp .NotEq) rNe := by
  intro pins s σ H x y v u Q I rx ry h
  obtain ⟨hs, q⟩ := h
  cases x with
  | non =>
    cases rx
    cases y with
    | non => cases ry; exact PySem.EqNone.ne_none_none (fin_bl I q (by simp))
    | bl j => cases ry; exact PySem.EqNone.ne_none_bool (fin_bl I q (by simp))
    | int j => obtain ⟨t', rfl⟩ := ry; exact PySem.EqNone.ne_none_int (fin_bl I q (by simp))
    | str j => obtain ⟨t', rfl⟩ := ry; exact PySem.EqNone.ne_none_str (fin_bl I q (by simp))
    | _ => exact absurd (show false = true from hs) Bool.false_ne_true
  | bl i =>
    cases rx
    cases y with
    | non => cases ry; exact PySem.EqNone.ne_bool_none (fin_bl I q (by simp))
    | bl j => cases ry; exact ne_bool (fin_bl I q (congrArg not dec_bl))
    | str j => obtain ⟨t', rfl⟩ := ry; exact PySem.EqMixed.ne_bool_str (fin_bl I q (by simp))
    | _ => exact absurd (show false = true from hs) Bool.false_ne_true
  | int i =>
    obtain ⟨t, rfl⟩ := rx
    cases y with
    | non => cases ry; exact PySem.EqNone.ne_int_none (fin_bl I q (by simp))
    | int j => obtain ⟨t', rfl⟩ := ry; exact ne_int (fin_bl I q (congrArg not dec_int))
    | str j => obtain ⟨t', rfl⟩ := ry; exact PySem.EqMixed.ne_int_str (fin_bl I q (by simp))
    | _ => exact absurd (show false = true from hs) Bool.false_ne_true
  | str i =>
    obtain ⟨t, rfl⟩ := rx
    cases y with
    | non => cases ry; exact PySem.EqNone.ne_str_none (fin_bl I q (by simp))
    | bl j => cases ry; exact PySem.EqMixed.ne_str_bool (fin_bl I q (by simp))
    | int j => obtain ⟨t', rfl⟩ := ry; exact PySem.EqMixed.ne_str_int (fin_bl I q (by simp))
    | str j => obtain ⟨t', rfl⟩ := ry; exact ne_str (fin_bl I q (congrArg not dec_str))
    | _ => exact absurd (show false = true from hs) Bool.false_ne_true
  | byt i =>
    obtain ⟨t, rfl⟩ := rx
    cases y with
    | byt j => obtain ⟨t', rfl⟩ := ry; exact PySem.W.ne_bytes (fin_bl I q (congrArg not dec_byt))
    | _ => exact absurd (show false = true from hs) Bool.false_ne_true
  | _ => cases y <;> exact absurd (show false = true from hs) Bool.false_ne_true
theorem op_gt : OpR X (compareOp .Gt) (rI0 fun i j => .bl (decide (j < i))) := opB0 fun _ _ _ _ _ _ _ q => gt_int q
/-- is None, is not None: the right side a value none -/
theorem op_isN : OpR X (compareOp .Is) (fun x y H Q => y = .non ∧ Q (.bl (decide (x = .non))) H) := by
  intro pins s σ H x y v u Q I rx ry h
  obtain ⟨rfl, q⟩ := h
  cases ry
  refine is_none_gen (fin_bl I q ?_)
  cases x <;> first
    | (cases rx; rfl)
    | (obtain ⟨t, rfl⟩ := rx; rfl)
theorem nomark (b : Expr) {op : CmpOp} (h : op ≠ .In := by decide) (h2 : op ≠ .NotIn := by decide) : behindInMarks op b = false := by
  have e1 : (op == CmpOp.In) = false := by cases op <;> first | rfl | exact absurd rfl h
  have e2 : (op == CmpOp.NotIn) = false := by cases op <;> first | rfl | exact absurd rfl h2
  cases b <;> simp [behindInMarks, e1, e2]
/-- a comparison as a value; hm: nomark b, or (for in, not in) by with_unfolding_all rfl -/
theorem pe_cmpR {op : CmpOp} {r : R2} (ho : OpR X (compareOp op) r) (ha : PE X a ta) (hb : PE X b tb) (hm : behindInMarks op b = false) : PE X (.Compare a [op] [b] pos) (tOp r ta tb) := by
  intro pins s σ H Q I h
  exact wpAny_Compare1 (binT ha hb I h fun v u s2 x y H2 I2 rx ry q => ho pins s2 σ H2 x y v u Q I2 rx ry q) hm
/-- a reading of a value as a test -/
def tTest (t : TE) : TT := fun σ H Q => t σ H fun x H' => ∃ k, x = .bl k ∧ Q k H'
theorem pt_cmpR {op : CmpOp} {r : R2} (ho : OpR X (compareOp op) r) (ha : PE X a ta) (hb : PE X b tb) (hm : behindInMarks op b = false) : PT X (.Compare a [op] [b] pos) (tTest (tOp r ta tb)) := by
  intro pins s σ H Q I h
  refine wpAny_isTrue_Compare1 (thn (ha pins s σ H _ I h) fun v s1 ⟨x, H1, I1, r1, q1⟩ => thn (hb pins s1 σ H1 _ I1 q1) fun u s2 ⟨y, H2, I2, r2, q2⟩ =>
    thn (ho pins s2 σ H2 x y v u _ I2 r1 r2 q2) fun c s3 ⟨z, H3, I3, r3, k, e, q3⟩ => ?_) hm
  subst e
  cases r3
  exact wpAny_truthy_bool ⟨H3, I3, q3⟩
/-- a value's truth by the abstract heap -/
def TruV (K : PySem.W.Frag) (x : V) (H : Hp) (k : Bool) : Prop :=
  match x with
  | .non => k = false
  | .bl b => k = b
  | .int i => k = (i != 0)
  | .str y => y.length ≤ sizeLine ∧ k = ((y.length : Int) != 0)
  | .byt y => y.size ≤ sizeLine ∧ k = ((y.size : Int) != 0)
  | .ref p => (∃ xs, SqL K H p xs ∧ k = !xs.isEmpty) ∨ (∃ xs, SqT K H p xs ∧ k = !xs.isEmpty) ∨ ∃ kvs, H p = some (.dK kvs) ∧ k = !kvs.isEmpty
  | _ => False
theorem isEmpty_kv {κ : Type} {kvs : List (κ × V)} {vs : List (κ × Value)} (r : KV kvs vs) : (!vs.isEmpty) = !kvs.isEmpty := by
  cases r <;> rfl
theorem isEmpty_of {xs : List V} {its : List Value} (r : Vals xs its) : (!its.toArray.isEmpty) = !xs.isEmpty := by
  cases r <;> simp
theorem line63 : (sizeLine : Nat) < 2 ^ 63 := by rw [sizeLine_eq]; decide
theorem tru_ok : TruR X (fun x H Q => ∃ k, TruV X.K x H k ∧ Q k H) := by
  intro pins s σ H x v Q I rx h
  obtain ⟨k, e, q⟩ := h
  have hl := line63
  have hs : sizeLine = 16777216 := sizeLine_eq
  cases x with
  | non =>
    cases rx
    have e' : k = false := e
    subst e'
    exact truthy_none ⟨H, I, q⟩
  | bl b =>
    cases rx
    have e' : k = b := e
    subst e'
    exact wpAny_truthy_bool ⟨H, I, q⟩
  | int i =>
    obtain ⟨t, rfl⟩ := rx
    have e' : k = (i != 0) := e
    subst e'
    exact PySem.P.truthy_int ⟨H, I, q⟩
  | str y =>
    obtain ⟨t, rfl⟩ := rx
    obtain ⟨hy, e'⟩ : y.length ≤ sizeLine ∧ k = ((y.length : Int) != 0) := e
    subst e'
    exact PySem.P.truthy_str (by omega) ⟨H, I.tok _, q⟩
  | byt y =>
    obtain ⟨t, rfl⟩ := rx
    obtain ⟨hy, e'⟩ : y.size ≤ sizeLine ∧ k = ((y.size : Int) != 0) := e
    subst e'
    exact PySem.W.truthy_bytes (by omega) ⟨H, I.tok _, q⟩
  | ref p =>
    cases rx
    have e' : (∃ xs, SqL X.K H p xs ∧ k = !xs.isEmpty) ∨ (∃ xs, SqT X.K H p xs ∧ k = !xs.isEmpty) ∨ ∃ kvs, H p = some (.dK kvs) ∧ k = !kvs.isEmpty := e
    rcases e' with ⟨xs, hx, e'⟩ | ⟨xs, hx, e'⟩ | ⟨kvs, hx, e'⟩
    · subst e'
      obtain ⟨its, r, pl, hz⟩ := I.list hx
      have hlen := r.length
      exact wpAny_truthy_list pl.isList (by simp only [List.size_toArray]; omega) ⟨H, I.tok _, by rw [isEmpty_of r]; exact q⟩
    · subst e'
      obtain ⟨its, r, pl, hz⟩ := I.tuple hx
      have hlen := r.length
      exact truthy_tuple pl (by simp only [List.size_toArray]; omega) ⟨H, I.tok _, by rw [isEmpty_of r]; exact q⟩
    · subst e'
      obtain ⟨hz, hS, vs, r, m⟩ : kvs.length ≤ sizeLine ∧ (p == sysModules) = false ∧ ∃ vs, KV kvs vs ∧ s.heap.DictOf (mixKind X.prog X.w) p vs := I.hok p _ hx
      have hlen : kvs.length = vs.length := Paired.length r
      exact wpAny_truthy_dict hS m (by omega) ⟨H, I.tok _, by rw [isEmpty_kv r]; exact q⟩
  | _ => exact (show False from e).elim
/-- any expression whose test is its value's truth (a name, a call, a subscript, a field ..: he by fun _ => rfl) -/
theorem pt_truth (ha : PE X a ta) (he : ∀ whole, isTrue a X.env whole = (do let v ← whole; standAt a.pos; holding [v] (truthy v))) :
    PT X a (fun σ H Q => ta σ H fun x H' => ∃ k, TruV X.K x H' k ∧ Q k H') := by
  intro pins s σ H Q I h
  exact isTrue_plain (thn (ha pins s σ H _ I h) fun v s1 ⟨x, H1, I1, r1, q1⟩ => tru_ok pins s1 σ H1 x v Q I1 r1 q1) (he _)
theorem op_add_str : OpR X (binaryOp .Add) (fun x y H Q => ∃ i j, x = .str i ∧ y = .str j ∧ i.length + j.length ≤ sizeLine ∧ Q (.str (i ++ j)) H) := by
  intro pins s σ H x y v u Q I rx ry h
  obtain ⟨i, j, rfl, rfl, hz, q⟩ := h
  obtain ⟨t, rfl⟩ := rx
  obtain ⟨t', rfl⟩ := ry
  exact add_str (fun t' tk => ⟨.str (i ++ j), H, I.tok _, ⟨_, rfl⟩, q⟩) hz
theorem vals1 {x : V} {us : List Value} (r : Vals [x] us) : ∃ u, us = [u] ∧ RelV x u := by
  cases r with
  | cons r1 r2 => cases r2; exact ⟨_, rfl, r1⟩
theorem vals2 {x y : V} {us : List Value} (r : Vals [x, y] us) : ∃ u w', us = [u, w'] ∧ RelV x u ∧ RelV y w' := by
  cases r with
  | cons r1 r2 =>
    cases r2 with
    | cons r3 r4 => cases r4; exact ⟨_, _, rfl, r1, r3⟩
end
end L2
namespace L2
open PySem PySem.Spec PyProof.Rows
structure ObjM (h : Heap) (x dx C : Addr) (mA : Str → Option Value) : Prop where
  obj : h.get? x = some (PySem.W.instObj C dx)
  ns : h.Ns1 dx mA
  ne : dx ≠ x
theorem lookIn_ns {h : Heap} {dx : Addr} {mA : Str → Option Value} (n : h.Ns1 dx mA) : ∃ od, h.get? dx = some od ∧ ∀ name, PySem.W.lookIn name od = some (mA name) := by
  obtain ⟨o, es, ep, ho, hd, hk, _, hm⟩ := n
  refine ⟨o, ho, fun name => ?_⟩
  have e := hm name
  unfold nsFind findBy at e
  rw [← Array.find?_toList] at e
  unfold PySem.W.lookIn
  rw [hd]
  dsimp only
  split
  · rename_i y q
    rw [q] at e
    exact congrArg some e
  · rename_i q
    rw [q] at e
    have a : es.toList.any (·.refKey) = false := by
      rw [List.any_eq_false]
      intro y hy
      obtain ⟨z, t, hkey⟩ := hk y (Array.mem_toList_iff.mp hy)
      simp [DictEntry.refKey, hkey]
    have a' : ¬ es.toList.any (·.refKey) = true := by rw [a]; exact Bool.false_ne_true
    rw [if_neg a']
    exact congrArg some e
theorem ObjM.look {h : Heap} {x dx C : Addr} {mA : Str → Option Value} (I : ObjM h x dx C mA) : ∃ od, PySem.W.InstAt h x (PySem.W.instObj C dx) C (some od) ∧ ∀ name, PySem.W.lookIn name od = some (mA name) :=
  let ⟨od, ho, hl⟩ := lookIn_ns I.ns
  ⟨od, ⟨I.obj, rfl, rfl, ho⟩, hl⟩
section
variable {prog : Program} {w : World} {A : Around} {E : Value → Shared → Prop} {s : Shared} {K : PySem.W.Frag} {x dx C f : Addr} {mA : Str → Option Value} {name : Str} {v : Value}
theorem get_map {expr : Bool} {Q : Value → Shared → Prop} (X : K.In s.heap) (I : ObjM s.heap x dx C mA) (hg : PySem.W.plainGet K C name = true) (hh : PySem.W.hasDictIn K C = true)
    (ha : PySem.W.findIn K (.ref C) name = some none) (hv : mA name = some v) (hv' : PySem.W.handedIn v = true) (h : Q v { s with toks := s.toks + 1 }) :
    wpAny (model prog w) A (getAttr (.ref x) name expr) Q E s := by
  obtain ⟨od, J, hl⟩ := I.look
  exact PySem.W.get_value X J (PySem.W.plainGet_of hg).1 (PySem.W.findObj_own hh ha rfl (by rw [hl, hv])) hv' h
theorem get_meth {pl : Sem Bool} {Q : Value × List Value → Shared → Prop} (X : K.In s.heap) (I : ObjM s.heap x dx C mA) (hg : PySem.W.plainGet K C name = true)
    (hf : PySem.W.findIn K (.ref C) name = some (some (.ref f))) (ht : PySem.W.isFn K (.ref f) = true) (hv : mA name = none) (h : Q (.ref f, [.ref x]) s) :
    wpAny (model prog w) A (getMethod (.ref x) name pl) Q E s := by
  obtain ⟨od, J, hl⟩ := I.look
  exact PySem.W.method_fn X J (PySem.W.plainGet_of hg).1 (PySem.W.plainGet_of hg).2 hf (beq_iff_eq.mp ht) (by show (PySem.W.lookIn name od).map (·.isSome) = some false; rw [hl, hv]; rfl) h
theorem set_map {ns : List Str} {Q : Unit → Shared → Prop} (X : K.In s.heap) (I : ObjM s.heap x dx C mA)
    (hs : PySem.W.findIn K (.ref C) "__setattr__" = some (some (.builtin "object.__setattr__"))) (hp : PySem.W.plainOver K C = true) (ht : PySem.W.takerIn K C name = some none) (hh : PySem.W.hasDictIn K C = true)
    (hw : PySem.Within mA ns) (hsz : ns.length ≤ sizeLine)
    (h : ∀ h', ObjM h' x dx C (fun y => if y = name then some v else mA y) → Heap.SameBut dx s.heap h' → Q () { s with heap := h', toks := s.toks + 2 }) :
    wpAny (model prog w) A (setAttr (.ref x) name v) Q E s := by
  obtain ⟨od, J, hl⟩ := I.look
  refine PySem.W.set_plain X J hs (PySem.W.osa_open (s := { s with toks := s.toks + 1 }) (r := none) X J hp ht fun b => ?_)
  obtain ⟨cd, hc, hd'⟩ := PySem.W.any_some hh
  have hx : s.heap.get? x = some ⟨.ref C, some dx, .plain, #[]⟩ := I.obj
  refine wpAny_bind (wpAny_pure (wpAny_bind (wpAny_bind (wpAny_loadPart hx (wpAny_bind (PySem.W.Looks.here (s := { s with toks := s.toks + 1 }) (PySem.W.looks_clsIn X hc) ?_))))))
  rw [hd']
  refine wpAny_pure (a := some dx) (wpAny_bind (wpAny_pure (wpAny_bind ?_)))
  refine wpAny_nsSet1 (s := { s with toks := s.toks + 1 }) I.ns fun h' hn2 hs2 => ?_
  obtain ⟨oD, esD, epD, hoD, hdD, hcD⟩ := hn2.count (PySem.Within.cons name v hw)
  refine wpAny_bind (wpAny_lookBehind hoD (by rw [hdD]; exact pastItsLine_dict (Nat.le_trans hcD (by rw [List.length_cons]; omega))) ?_)
  exact wpAny_pure (h _ ⟨(hs2.2 _ (Ne.symm I.ne)).trans I.obj, hn2, I.ne⟩ hs2)
/-- C(..): the dict at the heap's end, the instance behind it; then its __init__ -/
theorem make_map {R : Result → Shared → Prop} {vs : List Value} {kw : List (Str × Value)} (X : K.In s.heap) (hm : PySem.W.makesIn K C = true)
    (hi : PySem.W.findIn K (.ref C) "__init__" = some (some (.ref f))) (hf : PySem.W.typeIn K (.ref f) = some (.type "function"))
    (h : codeAny (model prog w) (A.under (.builtin "type.__call__" ⟨.ref C :: vs, kw⟩)) (.call (.ref f) ⟨.ref (s.heap.objs.size + 1) :: vs, kw⟩) (PySem.W.InitBack (s.heap.objs.size + 1) R)
      { s with heap := (s.heap.push PySem.W.emptyDict).push (PySem.W.instObj C s.heap.objs.size) }) :
    codeAny (model prog w) A (.call (.ref C) ⟨vs, kw⟩) R s := by
  obtain ⟨hh, g, d, t, os⟩ := s
  exact PySem.W.make_core (PySem.W.makes_of X hm) (PySem.W.looks_findIn X hi) (fun self => PySem.W.bind_fn X self hf) (.inl rfl) h
end
def putF (f : Str) (v : V) : List (Str × V) → List (Str × V)
  | [] => [(f, v)]
  | (g, x) :: r => if g = f then (g, v) :: r else (g, x) :: putF f v r
theorem lookup_putF (f g : Str) (v : V) : ∀ fs : List (Str × V), (putF f v fs).lookup g = if g = f then some v else fs.lookup g
  | [] => by
    show List.lookup g [(f, v)] = _
    by_cases h : g = f
    · have hb : (g == f) = true := beq_iff_eq.mpr h
      simp only [List.lookup, hb, if_pos h]
    · have hb : (g == f) = false := beq_eq_false_iff_ne.mpr h
      simp only [List.lookup, hb, if_neg h]
  | (k, x) :: r => by
    have ih := lookup_putF f g v r
    rw [show putF f v ((k, x) :: r) = (if k = f then (k, v) :: r else (k, x) :: putF f v r) from rfl]
    by_cases hk : k = f
    · rw [if_pos hk]
      by_cases h : g = k
      · have hb : (g == k) = true := beq_iff_eq.mpr h
        simp only [List.lookup, hb, if_pos (h.trans hk)]
      · have hb : (g == k) = false := beq_eq_false_iff_ne.mpr h
        simp only [List.lookup, hb, if_neg (fun e : g = f => h (e.trans hk.symm))]
    · rw [if_neg hk]
      by_cases h : g = k
      · have hb : (g == k) = true := beq_iff_eq.mpr h
        simp only [List.lookup, hb, if_neg (fun e : g = f => hk (h.symm.trans e))]
      · have hb : (g == k) = false := beq_eq_false_iff_ne.mpr h
        simp only [List.lookup, hb]
        exact ih
theorem keys_putF (f : Str) (v : V) : ∀ fs : List (Str × V), f ∈ (putF f v fs).map (·.1) ∧ ∀ g, g ∈ fs.map (·.1) → g ∈ (putF f v fs).map (·.1)
  | [] => ⟨by simp [putF], fun g h => by simp at h⟩
  | (k, x) :: r => by
    obtain ⟨i1, i2⟩ := keys_putF f v r
    rw [show putF f v ((k, x) :: r) = (if k = f then (k, v) :: r else (k, x) :: putF f v r) from rfl]
    by_cases hk : k = f
    · rw [if_pos hk]
      subst hk
      exact ⟨by simp, fun g h => by simpa using h⟩
    · rw [if_neg hk]
      refine ⟨?_, fun g h => ?_⟩
      · rw [List.map_cons]
        exact List.mem_cons_of_mem _ i1
      · rw [List.map_cons] at h ⊢
        rcases List.mem_cons.mp h with e | e
        · exact List.mem_cons.mpr (.inl e)
        · exact List.mem_cons_of_mem _ (i2 g e)
theorem length_putF (f : Str) (v : V) : ∀ fs : List (Str × V), (putF f v fs).length ≤ fs.length + 1
  | [] => by simp [putF]
  | (k, x) :: r => by
    have ih := length_putF f v r
    rw [show putF f v ((k, x) :: r) = (if k = f then (k, v) :: r else (k, x) :: putF f v r) from rfl]
    by_cases hk : k = f
    · rw [if_pos hk, List.length_cons, List.length_cons]; omega
    · rw [if_neg hk, List.length_cons, List.length_cons]; omega
theorem RelO.some_of {v : V} {o : Option Value} (r : RelO (some v) o) : ∃ u, o = some u ∧ RelV v u := by
  cases o with
  | none => exact (show False from r).elim
  | some u => exact ⟨u, rfl, r⟩
theorem RelO.none_of {o : Option Value} (r : RelO none o) : o = none := by
  cases o with
  | none => rfl
  | some u => exact (show False from r).elim
theorem handed_of {v : V} {u : Value} (r : RelV v u) : PySem.W.handedIn u = true := by
  cases v with
  | non => cases (show u = Value.none from r); rfl
  | bl b => cases (show u = Value.bool b from r); rfl
  | int i => obtain ⟨t, e⟩ := (show ∃ t, u = Value.int i t from r); cases e; rfl
  | str x => obtain ⟨t, e⟩ := (show ∃ t, u = Value.str x t from r); cases e; rfl
  | byt b => obtain ⟨t, e⟩ := (show ∃ t, u = Value.bytes b t from r); cases e; rfl
  | flt b => obtain ⟨t, e⟩ := (show ∃ t, u = Value.float b t from r); cases e; rfl
  | ref a => cases (show u = Value.ref a from r); rfl
  | ty n => cases (show u = Value.type n from r); rfl
section
variable {P : Program} {w : World} {H H' : Hp} {h h' : Heap} {a C dx : Addr} {fs fs' : List (Str × V)}
theorem ins_get (hok : HOk P w H h) (e : H a = some (.ins C dx fs)) : ∃ mA, ObjM h a dx C mA ∧ (∀ f, RelO (fs.lookup f) (mA f)) ∧ PySem.Within mA (fs.map (·.1)) ∧ fs.length ≤ 1000 ∧ H dx = some (.own a) := by
  obtain ⟨d, z, ne, ob, mA, n, r, q⟩ := (show ObjOk P w H h a (.ins C dx fs) from hok a _ e)
  exact ⟨mA, ⟨ob, n, ne⟩, r, q, z, d⟩
end
structure Cls (K : PySem.W.Frag) (C : Addr) : Prop where
  pg : PySem.W.plainGet K C Str.empty = true
  hd : PySem.W.hasDictIn K C = true
  po : PySem.W.plainOver K C = true
  sa : PySem.W.findIn K (.ref C) "__setattr__" = some (some (.builtin "object.__setattr__"))
theorem Cls.get {K : PySem.W.Frag} {C : Addr} (c : Cls K C) (f : Str) : PySem.W.plainGet K C f = true := c.pg
/-- no class of it has the name -/
def NoAttr (K : PySem.W.Frag) (C : Addr) (f : Str) : Prop := PySem.W.findIn K (.ref C) f = some none
theorem NoAttr.taker {K : PySem.W.Frag} {C : Addr} {f : Str} (n : NoAttr K C f) : PySem.W.takerIn K C f = some none := by
  unfold PySem.W.takerIn
  rw [show PySem.W.findIn K (.ref C) f = some none from n]
  rfl
/-- a method: a plain def of the class or of one above it -/
structure Meth (K : PySem.W.Frag) (C : Addr) (m : Str) (f : Addr) : Prop where
  at_ : PySem.W.findIn K (.ref C) m = some (some (.ref f))
  fn : PySem.W.isFn K (.ref f) = true
  kp : PySem.W.keepIn K (.ref f) = true
section
variable {X : Cx} {pins : List (Addr × Obj)} {σ : St} {H : Hp} {s : Shared} {a C dx : Addr} {fs : List (Str × V)} {f : Str} {v : V} {A : Around} {E : Value → Shared → Prop}
theorem getattr_ok {b : Bool} {Q : Value → Shared → Prop} (I : Inv X pins σ H s) (e : H a = some (.ins C dx fs)) (c : Cls X.K C) (n : NoAttr X.K C f) (l : fs.lookup f = some v)
    (h : ∀ u s', Inv X pins σ H s' → RelV v u → Q u s') : wpAny (model X.prog X.w) A (getAttr (.ref a) f b) Q E s := by
  obtain ⟨mA, O, r, _, _, _⟩ := ins_get I.hok e
  obtain ⟨u, hu, ru⟩ := RelO.some_of (v := v) (o := mA f) (by rw [← l]; exact r f)
  exact get_map I.kIn O (c.get f) c.hd n hu (handed_of ru) (h u _ (I.tok _) ru)
theorem getmeth_ok {m : Str} {g : Addr} {pl : Sem Bool} {Q : Value × List Value → Shared → Prop} (I : Inv X pins σ H s) (e : H a = some (.ins C dx fs)) (c : Cls X.K C) (k : Meth X.K C m g) (l : fs.lookup m = none)
    (h : Q (.ref g, [.ref a]) s) : wpAny (model X.prog X.w) A (getMethod (.ref a) m pl) Q E s := by
  obtain ⟨mA, O, r, _, _, _⟩ := ins_get I.hok e
  have hn : mA m = none := RelO.none_of (by rw [← l]; exact r m)
  exact get_meth I.kIn O (c.get m) k.at_ k.fn hn h
theorem setattr_ok {y : V} {u : Value} {Q : Unit → Shared → Prop} (I : Inv X pins σ H s) (e : H a = some (.ins C dx fs)) (c : Cls X.K C) (n : NoAttr X.K C f) (hl : fs.length < 1000) (ry : RelV y u)
    (h : ∀ s', Inv X pins σ (upd H a (.ins C dx (putF f y fs))) s' → Q () s') : wpAny (model X.prog X.w) A (setAttr (.ref a) f u) Q E s := by
  obtain ⟨mA, O, r, wi, _, ho⟩ := ins_get I.hok e
  have hz : (fs.map (·.1)).length ≤ sizeLine := by rw [List.length_map, sizeLine_eq]; omega
  refine set_map I.kIn O c.sa c.po n.taker c.hd wi hz fun h' O' sb => h _ ?_
  have hd : ∃ o, h'.get? dx = some o := let ⟨o, _, _, e', _⟩ := O'.ns; ⟨o, e'⟩
  refine I.write (x := a) (e := dx) (by rw [e]; exact True.intro) (.inr ho) (fun b q hb z => (sb.2 b hb).trans z) hd ?_
  refine ⟨by rw [upd_ne O.ne]; exact ho, ?_, O.ne, O'.obj, _, O'.ns, fun g => ?_, fun g hg => ?_⟩
  · have := length_putF f y fs; omega
  · show RelO ((putF f y fs).lookup g) (if g = f then some u else mA g)
    rw [lookup_putF]
    by_cases q : g = f
    · rw [if_pos q, if_pos q]; exact ry
    · rw [if_neg q, if_neg q]; exact r g
  · by_cases q : g = f
    · rw [q]; exact (keys_putF f y fs).1
    · refine (keys_putF f y fs).2 g (wi g fun z => hg ?_)
      show (if g = f then some u else mA g) = none
      rw [if_neg q]; exact z
/-- a new instance, tracked, without attributes -/
theorem Inv.made (I : Inv X pins σ H s) : Inv X pins σ (upd (upd H s.heap.objs.size (.own (s.heap.objs.size + 1))) (s.heap.objs.size + 1) (.ins C s.heap.objs.size []))
    { s with heap := (s.heap.push PySem.W.emptyDict).push (PySem.W.instObj C s.heap.objs.size) } := by
  have e1 : (s.heap.push PySem.W.emptyDict).get? s.heap.objs.size = some PySem.W.emptyDict := Heap.get?_push_size s.heap rfl
  have e2 : ((s.heap.push PySem.W.emptyDict).push (PySem.W.instObj C s.heap.objs.size)).get? (s.heap.objs.size + 1) = some (PySem.W.instObj C s.heap.objs.size) := by
    have := Heap.get?_push_size (s.heap.push PySem.W.emptyDict) (o := PySem.W.instObj C s.heap.objs.size) rfl
    rwa [Heap.size_push] at this
  have e3 : (s.heap.push PySem.W.emptyDict).Ns s.heap.objs.size (fun _ => none) := ⟨PySem.W.emptyDict, #[], _, e1, rfl, (fun e he => absurd he (by simp)), fun _ => rfl⟩
  have I1 := I.laid (a := s.heap.objs.size) (o := .own (s.heap.objs.size + 1)) (h' := s.heap.push PySem.W.emptyDict) (t' := s.toks) (fun b u q => Heap.get?_push_of_some _ q) (Nat.le_refl _) ⟨_, e1⟩
  refine I1.laid (a := s.heap.objs.size + 1) (o := .ins C s.heap.objs.size []) (t' := s.toks) (fun b u q => Heap.get?_push_of_some _ q) (Nat.le_of_eq (Heap.size_push _ _)) ?_
  have ne : s.heap.objs.size ≠ s.heap.objs.size + 1 := Nat.ne_of_lt (Nat.lt_succ_self _)
  refine ⟨by rw [upd_ne ne, upd_same], Nat.zero_le _, ne, e2, fun _ => none, (Heap.Ns1.of_empty e3).at fun o q => Heap.get?_push_of_some _ q, fun _ => True.intro, fun y hy => absurd rfl hy⟩
/-- e.f where nothing but the object is asked: through attributeBase (super) and the last hold -/
theorem attr_of {prog : Program} {w : World} {env : Env} {e : Expr} {f : Str} {pos : Pos} {s : Shared} {Q : Value → Shared → Prop} (hb : attributeBase e f env (eval e env) = eval e env)
    (h : wpAny (model prog w) A (eval e env) (fun o s₁ => wpAny (model prog w) A (getAttr o f true) Q E s₁) E s) : wpAny (model prog w) A (eval (.Attribute e f pos) env) Q E s :=
  Attribute_any_ h (by rw [arm_eval_Attribute, hb])
end
/-- e.f, an attribute of the instance -/
def tFld (K : PySem.W.Frag) (ta : TE) (f : Str) : TE := fun σ H Q => ta σ H fun x H1 => ∃ a C dx fs v, x = .ref a ∧ H1 a = some (.ins C dx fs) ∧ Cls K C ∧ NoAttr K C f ∧ fs.lookup f = some v ∧ Q v H1
/-- e.f = value -/
def sFld (K : PySem.W.Frag) (ta tv : TE) (f : Str) : TS := fun D σ H => tv σ H fun y H1 => ta σ H1 fun x H2 => ∃ a C dx fs, x = .ref a ∧ H2 a = some (.ins C dx fs) ∧ Cls K C ∧ NoAttr K C f ∧ fs.length < 1000 ∧
  D.nx σ (upd H2 a (.ins C dx (putF f y fs)))
section
variable {X : Cx} {o e value : Expr} {f : Str} {pos pos' tpos : Pos} {ta tv : TE}
theorem pe_fld (he : PE X e ta) (hb : attributeBase e f X.env (eval e X.env) = eval e X.env) : PE X (.Attribute e f pos) (tFld X.K ta f) := by
  intro pins s σ H Q I h
  refine attr_of hb (thn (he pins s σ H _ I h) fun u s1 ⟨x, H1, I1, rx, a, C, dx, fs, v, ex, ea, c, n, l, q⟩ => ?_)
  subst ex
  obtain rfl : u = Value.ref a := rx
  exact getattr_ok I1 ea c n l fun u' s2 I2 ru => ⟨v, H1, I2, ru, q⟩
theorem ps_fld (ha : PE X o ta) (hv : PE X value tv) (hs : swapsWith value (some (.Attribute o f pos')) pos.line X.env = pure false) : PS X (.Assign [.Attribute o f pos'] value pos) (sFld X.K ta tv f) := by
  intro pins s σ H D I h
  refine plainObj_wpAny_Assign_Attribute (thn (hv pins s σ H _ I h) fun u s1 ⟨y, H1, I1, ry, q⟩ => thn (ha pins s1 σ H1 _ I1 q) fun ov s2 ⟨x, H2, I2, rx, a, C, dx, fs, ex, ea, c, n, l, q2⟩ => ?_) hs
  subst ex
  obtain rfl : ov = Value.ref a := rx
  exact setattr_ok I2 ea c n l ry fun s3 I3 => ⟨σ, _, I3, q2⟩
end
section
variable {X : Cx} {pins : List (Addr × Obj)} {σ : St} {H : Hp} {s : Shared} {A : Around} {E : Value → Shared → Prop} {Q : Value → Shared → Prop} {c : Value} {b : Bool}
/-- the type of a value, as the fragment's deciders take it; for an instance its class -/
inductive TyOf (K : PySem.W.Frag) (H : Hp) : V → Value → Prop where
  | non : TyOf K H .non (.type "NoneType")
  | bl (x : Bool) : TyOf K H (.bl x) (.type "bool")
  | int (i : Int) : TyOf K H (.int i) (.type "int")
  | str (x : Str) : TyOf K H (.str x) (.type "str")
  | flt (x : UInt64) : TyOf K H (.flt x) (.type "float")
  | lst {a : Addr} {xs : List V} (e : H a = some (.lst xs)) : TyOf K H (.ref a) (.type "list")
  | frz {a : Addr} {o : Obj} {xs : List V} (e : H a = some (.frz o (.lst xs))) : TyOf K H (.ref a) (.type "list")
  | tup {a : Addr} {xs : List V} (e : H a = some (.tup xs)) : TyOf K H (.ref a) (.type "tuple")
  | dK {a : Addr} {kvs : List (Key × V)} (e : H a = some (.dK kvs)) : TyOf K H (.ref a) (.type "dict")
  | dT {a : Addr} {kvs : List (List Key × V)} (e : H a = some (.dT kvs)) : TyOf K H (.ref a) (.type "dict")
  | ins {a C dx : Addr} {fs : List (Str × V)} (e : H a = some (.ins C dx fs)) (cl : Cls K C) (ha : PySem.W.findIn K (.ref C) "__class__" = some (some (.builtin "object.__class__")))
      (hn : PySem.W.specialIn K (.builtin "object.__class__") "__get__" = some (some (.builtin "getset_descriptor.__get__"))) (htk : PySem.W.takesIn K (.builtin "object.__class__") = some true)
      (hm : PySem.W.mroIn K C (.type "object") = some true) : TyOf K H (.ref a) (.ref C)
/-- isinstance(x, c) for one class c, a built-in or an own one: kitOne's answer -/
theorem isinst_ok {x : V} {u t : Value} (I : Inv X pins σ H s) (rx : RelV x u) (ty : TyOf X.K H x t) (e : PySem.W.kitOne X.K t c = some b) (h : ∀ tk, Q (.bool b) { s with toks := tk }) :
    wpAny (model X.prog X.w) A (call (.builtin "isinstance") [u, c]) Q E s := by
  cases ty with
  | non => cases (show u = Value.none from rx); exact PySem.W.kia_one PySem.W.kitx_none I.kIn True.intro e (fun z => nomatch z) h
  | bl y => cases (show u = Value.bool y from rx); exact PySem.W.kia_one PySem.W.kitx_bool I.kIn True.intro e (fun z => nomatch z) h
  | int i => obtain ⟨t, q⟩ := (show ∃ t, u = Value.int i t from rx); cases q; exact PySem.W.kia_one PySem.W.kitx_int I.kIn True.intro e (fun z => nomatch z) h
  | str y => obtain ⟨t, q⟩ := (show ∃ t, u = Value.str y t from rx); cases q; exact PySem.W.kia_one PySem.W.kitx_str I.kIn True.intro e (fun z => nomatch z) h
  | flt y => obtain ⟨t, q⟩ := (show ∃ t, u = Value.float y t from rx); cases q; exact PySem.W.kia_one PySem.W.kitx_float I.kIn True.intro e (fun z => nomatch z) h
  | @lst a xs ea =>
    cases (show u = Value.ref a from rx)
    obtain ⟨_, _, n, _, h1⟩ := (show ObjOk X.prog X.w H s.heap a (.lst xs) from I.hok a _ ea)
    exact PySem.W.kia_one PySem.W.kitx_list I.kIn ⟨_, h1, rfl⟩ e (fun z => nomatch z) h
  | @frz a ob xs ea =>
    cases (show u = Value.ref a from rx)
    obtain ⟨_, _, _, n, _, h1⟩ := (show ObjOk X.prog X.w H s.heap a (.frz ob (.lst xs)) from I.hok a _ ea)
    exact PySem.W.kia_one PySem.W.kitx_list I.kIn ⟨_, h1, rfl⟩ e (fun z => nomatch z) h
  | @tup a xs ea =>
    cases (show u = Value.ref a from rx)
    obtain ⟨_, _, _, p⟩ := (show ObjOk X.prog X.w H s.heap a (.tup xs) from I.hok a _ ea)
    obtain ⟨o, h1, h2, _⟩ := p
    exact PySem.W.kia_one PySem.W.kitx_tuple I.kIn ⟨o, h1, h2⟩ e (fun z => nomatch z) h
  | @dK a kvs ea =>
    cases (show u = Value.ref a from rx)
    obtain ⟨_, _, vs, _, p⟩ := (show ObjOk X.prog X.w H s.heap a (.dK kvs) from I.hok a _ ea)
    obtain ⟨o, es, ep, h1, h2, _⟩ := p
    exact PySem.W.kia_one PySem.W.kitx_dict I.kIn ⟨o, h1, h2.1⟩ e (fun z => nomatch z) h
  | @dT a kvs ea =>
    cases (show u = Value.ref a from rx)
    obtain ⟨_, _, xs, _, o, es, ep, h1, h2, _⟩ := (show ObjOk X.prog X.w H s.heap a (.dT kvs) from I.hok a _ ea)
    exact PySem.W.kia_one PySem.W.kitx_dict I.kIn ⟨o, h1, h2.1⟩ e (fun z => nomatch z) h
  | @ins a C dx fs ea cl ha hn htk hm =>
    cases (show u = Value.ref a from rx)
    obtain ⟨mA, O, _⟩ := ins_get I.hok ea
    obtain ⟨od, J, _⟩ := O.look
    exact PySem.W.kia_one (PySem.W.kitx_own (cl.get _) cl.hd ha hn htk hm) I.kIn J e (fun z => nomatch z) h
end
end L2
namespace L2
open PySem PySem.Spec PyProof.Rows
structure Room (k : Nat) (A : Around) : Prop where
  hd : A.handled = none
  dp : A.depth + 3 * k + 5 < recursionLimit
  un : A.units + 16 * k + 200 < cLine
  gd : A.guards = some []
theorem Room.mono {j k : Nat} {A : Around} (r : Room k A) (h : j ≤ k) : Room j A := ⟨r.hd, by have := r.dp; omega, by have := r.un; omega, r.gd⟩
theorem Room.deeper {k : Nat} {A : Around} (r : Room (k + 1) A) (env : Env) : Room k (A.deeper env) :=
  ⟨r.hd, by have := r.dp; show A.depth + 1 + 3 * k + 5 < _; omega, by have := r.un; show A.units + 3 + 16 * k + 200 < _; omega, r.gd⟩
theorem Room.in1 {k : Nat} {A : Around} (r : Room (k + 1) A) : Room k A.in1 :=
  ⟨r.hd, by have := r.dp; show A.depth + 3 * k + 5 < _; omega, by have := r.un; show A.units + 1 + 16 * k + 200 < _; omega, r.gd⟩
theorem make_depth {A : Around} {C : Addr} {us : List Value} {kw : List (Str × Value)} : (A.under (.builtin "type.__call__" ⟨.ref C :: us, kw⟩)).depth = A.depth + 1 := by
  first | rfl | simp [Around.under, Code.weight, Code.isCreation, Code.isGuard, Code.isCaller, Code.frames, Code.isFrame, guardIds]
theorem make_units {A : Around} {C : Addr} {us : List Value} {kw : List (Str × Value)} : (A.under (.builtin "type.__call__" ⟨.ref C :: us, kw⟩)).units = A.units + 1 := by
  first | rfl | simp [Around.under, Code.cUnits, Code.frames, Code.isFrame]
theorem make_guards {A : Around} {C : Addr} {us : List Value} {kw : List (Str × Value)} (h : A.guards = some []) : (A.under (.builtin "type.__call__" ⟨.ref C :: us, kw⟩)).guards = some [] := by
  first | exact h | simp [Around.under, Code.guards, Code.isGuard, pushGuards, guardIds, h]
theorem Room.make {k : Nat} {A : Around} (r : Room (k + 1) A) (C : Addr) (us : List Value) (kw : List (Str × Value)) : Room k (A.under (.builtin "type.__call__" ⟨.ref C :: us, kw⟩)) :=
  ⟨r.hd, by have := r.dp; rw [make_depth]; omega, by have := r.un; rw [make_units]; omega, make_guards r.gd⟩
theorem Room.depth {k : Nat} {A : Around} (r : Room k A) : A.depth < recursionLimit := by have := r.dp; omega
theorem Room.units {k : Nat} {A : Around} (r : Room k A) : A.units + 64 < cLine := by have := r.un; omega
def tNil : TA := fun _ H Q => Q [] H
def tCons (ta : TE) (tr : TA) : TA := fun σ H Q => ta σ H fun x H1 => tr σ H1 fun xs H2 => Q (x :: xs) H2
section
variable {X : Cx} {e : Expr} {es : List Expr} {te : TE} {t : TA} {pos : Pos}
theorem pa_nil : PA X [] tNil := fun _ _ _ _ H Q I h => Calls.spliced_nil ⟨[], H, I, .nil, h⟩
theorem pa_cons (ha : PE X e te) (hr : PA X es t) (hs : starEach (e :: es) X.env = (false, eval e X.env) :: starEach es X.env := by rfl) : PA X (e :: es) (tCons te t) := by
  intro pos pins s σ H Q I h
  rw [hs]
  show wpAny _ _ (spliced ((false, eval e X.env) :: backTo pos (starEach es X.env))) _ _ s
  refine Calls.spliced_cons (thn (ha pins s σ H _ I h) fun u s1 ⟨x, H1, I1, r1, q1⟩ => ?_)
  exact thn (hr pos pins s1 σ H1 _ I1 q1) fun us s2 ⟨xs, H2, I2, r2, q2⟩ => ⟨x :: xs, H2, I2, .cons r1 r2, q2⟩
/-- a tuple, a list of written items -/
def tTup (t : TA) : TE := fun σ H Q => t σ H fun xs H1 => xs.length ≤ sizeLine ∧ ∀ p, H1 p = none → Q (.ref p) (upd H1 p (.tup xs))
def tLst (t : TA) : TE := fun σ H Q => t σ H fun xs H1 => xs.length ≤ sizeLine ∧ ∀ p, H1 p = none → Q (.ref p) (upd H1 p (.lst xs))
theorem pe_tup {x1} (h : PA X es t) : PE X (.Tuple es x1 pos) (tTup t) := by
  intro pins s σ H Q I hq
  refine wpAny_Tuple_spliced (thn (h pos pins s σ H _ I hq) fun us s1 ⟨xs, H1, I1, r, z, q⟩ => ⟨by rw [← r.length]; exact z, ?_⟩)
  have hf : H1 s1.heap.objs.size = none := I1.hok.fresh (Nat.le_refl _)
  refine ⟨.ref s1.heap.objs.size, upd H1 s1.heap.objs.size (.tup xs), I1.laid (t' := s1.toks) (fun b u e => Heap.get?_push_of_some _ e) (Nat.le_refl _) ?_, rfl, q _ hf⟩
  exact ⟨z, us, r, ⟨_, Heap.get?_push_size _ rfl, rfl, _, rfl⟩⟩
theorem pe_lst (h : PA X es t) : PE X (.List es pos) (tLst t) := by
  intro pins s σ H Q I hq
  refine wpAny_List_spliced (thn (h pos pins s σ H _ I hq) fun us s1 ⟨xs, H1, I1, r, z, q⟩ => ⟨by rw [← r.length]; exact z, ?_⟩)
  have hf : H1 s1.heap.objs.size = none := I1.hok.fresh (Nat.le_refl _)
  refine ⟨.ref s1.heap.objs.size, upd H1 s1.heap.objs.size (.lst xs), I1.laid (t' := s1.toks) (fun b u e => Heap.get?_push_of_some _ e) (Nat.le_refl _) ?_, rfl, q _ hf⟩
  exact ⟨z, us, 0, r, Heap.get?_push_size _ rfl⟩
end
/-- a def's promise: the bound arguments in the parameters' order, the heap, the wanted end, the wanted exception -/
abbrev Sp := List V → Hp → VK → XK → Prop
/-- how an exception lies behind a call (file 08 gives it): the callers' frames, abstract heap and state ahead of the call, the wish, the exception, the state -/
abbrev CXT := List Env → Hp → Shared → XK → Value → Shared → Prop
/-- the state at a call -/
structure Env0 (P : Program) (w : World) (K : PySem.W.Frag) (mg : Str → Option Value) (base : Heap) (A : Around) (outer : List Env) (s : Shared) (H : Hp) : Prop where
  frames : A.frames = some outer
  mod : Mod K mg base
  bs : ∀ b o, base.get? b = some o → s.heap.get? b = some o ∧ H b = none
  bsz : base.objs.size ≤ s.heap.objs.size
  funs : s.heap.FunFrames base outer
  frf : ∀ b ∈ frs outer, H b = none
  hok : HOk P w H s.heap
  bare : AllBare s.gens
/-- a call's end -/
def CE (outer : List Env) (P : Program) (w : World) (H : Hp) (s : Shared) (Q : VK) (u : Value) (s' : Shared) : Prop :=
  ∃ v H', s'.os = s.os ∧ AllBare s'.gens ∧ Un (frs outer) [] H H' s.heap s'.heap ∧ HOk P w H' s'.heap ∧ RelV v u ∧ Q v H'
def CR (CX : CXT) (outer : List Env) (P : Program) (w : World) (H : Hp) (s : Shared) (Q : VK) (E : XK) (r : Result) (s' : Shared) : Prop :=
  match r with
  | .ok (.ret u) => CE outer P w H s Q u s'
  | .ok _ => False
  | .error e => CX outer H s E e s'
structure FnOk (P : Program) (w : World) (K : PySem.W.Frag) (mg : Str → Option Value) (base : Heap) (CX : CXT) (k : Nat) (f : Addr) (fd : FuncData) (ps : List Str) (sp : Sp) : Prop where
  len : ∀ vs H Q E, sp vs H Q E → vs.length = ps.length
  run : ∀ (A : Around) (outer : List Env) (s : Shared) (H : Hp) (args : Args) (us : List Value) (vs : List V) (Q : VK) (E : XK), Room k A → Env0 P w K mg base A outer s H → BindsTo s fd args (ps.zip us) → Vals vs us → sp vs H Q E →
    codeAny (model P w) A (.call (.ref f) args) (CR CX outer P w H s Q E) s
theorem FnOk.mono {P : Program} {w : World} {K : PySem.W.Frag} {mg : Str → Option Value} {base : Heap} {CX : CXT} {j k : Nat} {f : Addr} {fd : FuncData} {ps : List Str} {sp : Sp} (F : FnOk P w K mg base CX j f fd ps sp) (h : j ≤ k) :
    FnOk P w K mg base CX k f fd ps sp := ⟨F.len, fun A outer s H args us vs Q E hr => F.run A outer s H args us vs Q E (hr.mono h)⟩
theorem Env0.make {P : Program} {w : World} {K : PySem.W.Frag} {mg : Str → Option Value} {base : Heap} {A : Around} {outer : List Env} {s : Shared} {H : Hp} (e : Env0 P w K mg base A outer s H) (C : Addr) (us : List Value) (kw : List (Str × Value)) :
    Env0 P w K mg base (A.under (.builtin "type.__call__" ⟨.ref C :: us, kw⟩)) outer s H := ⟨by first | exact e.frames | (simpa [Around.under, Code.envs, Code.isFrame, pushEnvs] using e.frames), e.mod, e.bs, e.bsz, e.funs, e.frf, e.hok, e.bare⟩
theorem Env0.in1 {P : Program} {w : World} {K : PySem.W.Frag} {mg : Str → Option Value} {base : Heap} {A : Around} {outer : List Env} {s : Shared} {H : Hp} (e : Env0 P w K mg base A outer s H) :
    Env0 P w K mg base A.in1 outer s H := ⟨e.frames, e.mod, e.bs, e.bsz, e.funs, e.frf, e.hok, e.bare⟩
section
variable {X : Cx} {pins : List (Addr × Obj)} {σ : St} {H : Hp} {s s' : Shared}
/-- from a body: what a callee wants -/
theorem Inv.env0 (I : Inv X pins σ H s) : Env0 X.prog X.w X.K X.mg X.base X.A X.stack s H :=
  ⟨I.ok.frames, I.ok.mod, I.bs, Nat.le_trans I.ok.bsz I.sz, I.stack, I.stkFree, I.hok, I.bare⟩
/-- behind a call -/
theorem Inv.after {Q : VK} {u : Value} (I : Inv X pins σ H s) (h : CE X.stack X.prog X.w H s Q u s') : EP X pins σ Q u s' := by
  obtain ⟨v, H', os, bare, un, hok, r, q⟩ := h
  obtain ⟨hh, g, d, t, os'⟩ := s'
  obtain rfl : os' = s.os := os
  exact ⟨v, H', I.call (h' := hh) (g' := g) (d' := d) (t' := t) (ch := []) un hok bare (fun b z => absurd z (by simp)), r, q⟩
end
/-- f(..): the written arguments, then the defaults dvs; E: what is wanted of an exception -/
def tCall (sp : Sp) (dvs : List V) (E : XK) (t : TA) : TE := fun σ H Q => t σ H fun vs H1 => sp (vs ++ dvs) H1 Q E
/-- o.m(..) of an instance of the class at C -/
def tMeth (C : Addr) (m : Str) (sp : Sp) (dvs : List V) (E : XK) (ta : TE) (t : TA) : TE := fun σ H Q => ta σ H fun x H1 => ∃ a dx fs, x = .ref a ∧ H1 a = some (.ins C dx fs) ∧ fs.lookup m = none ∧
  t σ H1 fun vs H2 => sp (x :: (vs ++ dvs)) H2 Q E
/-- C(..): a new instance and its dict, then __init__ -/
def tMake (C : Addr) (sp : Sp) (dvs : List V) (E : XK) (t : TA) : TE := fun σ H Q => t σ H fun vs H1 => ∀ x dx, H1 x = none → H1 dx = none → dx ≠ x →
  sp (.ref x :: (vs ++ dvs)) (upd (upd H1 dx (.own x)) x (.ins C dx [])) (fun v H2 => v = .non ∧ Q (.ref x) H2) E
/-- how the parameters are bound: us the positional arguments, kw the keywords' values by name, ds the defaults that fill up -/
def Binds (K : PySem.W.Frag) (fd : FuncData) (ps : List Str) (ds : List Value) : Prop :=
  ∀ (s : Shared) (us : List Value), K.In s.heap → (us ++ ds).length = ps.length → BindsTo s fd ⟨us, []⟩ (ps.zip (us ++ ds))
/-- every parameter is given -/
theorem Binds.all {K : PySem.W.Frag} {fd : FuncData} {ps : List Str} (h : ∀ us : List Value, us.length = ps.length → bindArgs fd ⟨us, []⟩ = pure (ps.zip us)) : Binds K fd ps [] := fun s us _ hl => by
  rw [List.append_nil] at hl ⊢
  exact .of_eq (h us hl)
/-- an exception of a callee reaches what this body wants of exceptions -/
def Passes (CX : CXT) (X : Cx) (E : XK) : Prop := ∀ (pins : List (Addr × Obj)) (σ : St) (H : Hp) (s : Shared) (e : Value) (s' : Shared), Inv X pins σ H s → CX X.stack H s E e s' → X.xe e s'
section
variable {X : Cx} {CX : CXT} {k : Nat} {f C : Addr} {fd : FuncData} {ps : List Str} {sp : Sp} {dvs : List V} {ds : List Value} {E : XK} {x m : Str} {p pos apos : Pos} {e o : Expr} {es : List Expr} {ta : TE} {t : TA}
/-- the callee runs -/
theorem run_fn {pins : List (Addr × Obj)} {σ : St} {H : Hp} {s : Shared} {Q : VK} {us : List Value} {vs : List V} (F : FnOk X.prog X.w X.K X.mg X.base CX k f fd ps sp) (hr : Room k X.A) (hb : Binds X.K fd ps ds) (hd : Vals dvs ds) (hx : Passes CX X E)
    (I : Inv X pins σ H s) (r : Vals vs us) (h : sp (vs ++ dvs) H Q E) : wpAny (model X.prog X.w) X.A (call (.ref f) us) (EP X pins σ Q) X.xe s := by
  have r2 : Vals (vs ++ dvs) (us ++ ds) := r.append hd
  have hl : (us ++ ds).length = ps.length := by rw [← r2.length]; exact F.len _ _ _ _ h
  refine wpAny_call (codeAny_mono (F.run X.A X.stack s H ⟨us, []⟩ (us ++ ds) (vs ++ dvs) Q E hr I.env0 (hb s us I.kIn hl) r2 h) fun r s' hq => ?_)
  cases r with
  | error e => exact hx pins σ H s e s' I hq
  | ok fl =>
    cases fl with
    | ret u => exact I.after hq
    | next => exact False.elim hq
    | brk => exact False.elim hq
    | cont => exact False.elim hq
theorem pe_call (F : FnOk X.prog X.w X.K X.mg X.base CX k f fd ps sp) (hr : Room k X.A) (hg : Gl X x) (hm : X.mg x = some (.ref f)) (hk : PySem.W.keepIn X.K (.ref f) = true) (hb : Binds X.K fd ps ds) (hd : Vals dvs ds) (hx : Passes CX X E)
    (ha : PA X (e :: es) t) (hdb : (x == ("__debug__" : Str)) = false := by decide) (he : starEach (e :: es) X.env = (false, eval e X.env) :: starEach es X.env := by rfl) (hpl : (backTo pos (starEach es X.env)).any (·.1) = false := by rfl) :
    PE X (.Call (.Name x p) (e :: es) [] pos) (tCall sp dvs E t) := by
  intro pins s σ H Q I h
  refine wpAny_Call_Name_kw (ld_glob I hg hm ?_ hdb)
  refine PySem.W.callWith_K (h₀ := X.base) I.ok.mod.kin hk (thn (ha pos pins s σ H _ I h) fun us s1 ⟨vs, H1, I1, r, q⟩ => ⟨I1.kIn, ?_⟩) he hpl
  exact run_fn F hr hb hd hx I1 r q
/-- o.m(e, ..) -/
theorem pe_meth {pl : Sem Bool} (he : PE X o ta) (c : Cls X.K C) (hm : Meth X.K C m f) (F : FnOk X.prog X.w X.K X.mg X.base CX k f fd ps sp) (hr : Room k X.A) (hb : Binds X.K fd ps ds) (hd : Vals dvs ds) (hx : Passes CX X E) (ha : PA X (e :: es) t)
    (hst : starEach (e :: es) X.env = (false, eval e X.env) :: starEach es X.env := by rfl) (hpl : (backTo pos (starEach es X.env)).any (·.1) = false := by rfl)
    (ht : eval (.Call (.Attribute o m apos) (e :: es) [] pos) X.env = (do
      let ov ← eval o X.env
      standAt apos.atName
      let (f, first) ← holding [ov] (getMethod ov m pl)
      callWith pos f first (backTo pos (starEach (e :: es) X.env)) (backToKw pos (keywordEach [] X.env))) := by rfl) :
    PE X (.Call (.Attribute o m apos) (e :: es) [] pos) (tMeth C m sp dvs E ta t) := by
  intro pins s σ H Q I h
  refine PySem.W.methodCall_KW (pl := pl) (thn (he pins s σ H _ I h) fun u s1 ⟨x, H1, I1, rx, a, dx, fs, ex, ea, l, q⟩ => ?_) ht
  subst ex
  obtain rfl : u = Value.ref a := rx
  refine getmeth_ok I1 ea c hm l ?_
  refine PySem.W.callWith_K (first := [.ref a]) (h₀ := X.base) I.ok.mod.kin hm.kp (thn (ha pos pins s1 σ H1 _ I1 q) fun us s2 ⟨vs, H2, I2, r, q2⟩ => ⟨I2.kIn, ?_⟩) hst hpl
  exact run_fn (us := .ref a :: us) (vs := .ref a :: vs) F hr hb hd hx I2 (.cons rfl r) q2
/-- o.m() -/
theorem pe_meth0 {pl : Sem Bool} (he : PE X o ta) (c : Cls X.K C) (hm : Meth X.K C m f) (F : FnOk X.prog X.w X.K X.mg X.base CX k f fd ps sp) (hr : Room k X.A) (hb : Binds X.K fd ps ds) (hd : Vals dvs ds) (hx : Passes CX X E)
    (ht : eval (.Call (.Attribute o m apos) [] [] pos) X.env = (do
      let ov ← eval o X.env
      standAt apos.atName
      let (f, first) ← holding [ov] (getMethod ov m pl)
      callWith pos f first (backTo pos (starEach [] X.env)) (backToKw pos (keywordEach [] X.env))) := by rfl) :
    PE X (.Call (.Attribute o m apos) [] [] pos) (tMeth C m sp dvs E ta tNil) := by
  intro pins s σ H Q I h
  refine PySem.W.methodCall_KW (pl := pl) (thn (he pins s σ H _ I h) fun u s1 ⟨x, H1, I1, rx, a, dx, fs, ex, ea, l, q⟩ => ?_) ht
  subst ex
  obtain rfl : u = Value.ref a := rx
  refine getmeth_ok I1 ea c hm l ?_
  exact PySem.W.callWith_K0 (first := [.ref a]) I1.kIn hm.kp (run_fn (us := [.ref a]) (vs := [.ref a]) F hr hb hd hx I1 (.cons rfl .nil) q)
/-- what a class must have to be made -/
structure Mk (K : PySem.W.Frag) (C f : Addr) : Prop where
  makes : PySem.W.makesIn K C = true
  init : PySem.W.findIn K (.ref C) "__init__" = some (some (.ref f))
  fn : PySem.W.isFn K (.ref f) = true
  kp : PySem.W.keepIn K (.ref C) = true
theorem run_make {pins : List (Addr × Obj)} {σ : St} {H : Hp} {s : Shared} {Q : VK} {us : List Value} {vs : List V} (M : Mk X.K C f) (F : FnOk X.prog X.w X.K X.mg X.base CX k f fd ps sp) (hr : Room (k + 1) X.A) (hb : Binds X.K fd ps ds) (hd : Vals dvs ds)
    (hx : Passes CX X E) (I : Inv X pins σ H s) (r : Vals vs us)
    (h : ∀ x dx, H x = none → H dx = none → dx ≠ x → sp (.ref x :: (vs ++ dvs)) (upd (upd H dx (.own x)) x (.ins C dx [])) (fun v H2 => v = .non ∧ Q (.ref x) H2) E) :
    wpAny (model X.prog X.w) X.A (call (.ref C) us) (EP X pins σ Q) X.xe s := by
  have hq := h (s.heap.objs.size + 1) s.heap.objs.size (I.hok.fresh (Nat.le_succ _)) (I.hok.fresh (Nat.le_refl _)) (Nat.ne_of_lt (Nat.lt_succ_self _))
  have I2 := Inv.made (C := C) I
  have r2 : Vals (V.ref (s.heap.objs.size + 1) :: (vs ++ dvs)) (Value.ref (s.heap.objs.size + 1) :: (us ++ ds)) := .cons rfl (r.append hd)
  have hl : (Value.ref (s.heap.objs.size + 1) :: us ++ ds).length = ps.length := by
    have e := r2.length
    rw [F.len _ _ _ _ hq] at e
    exact e.symm
  refine wpAny_call (make_map (f := f) I.kIn M.makes M.init (beq_iff_eq.mp M.fn) (codeAny_mono (F.run _ X.stack _ _ ⟨Value.ref (s.heap.objs.size + 1) :: us, []⟩ (Value.ref (s.heap.objs.size + 1) :: (us ++ ds)) _ _ E (hr.make C us [])
    (I2.env0.make C us []) (hb _ (Value.ref (s.heap.objs.size + 1) :: us) I2.kIn hl) r2 hq) fun r s' hq' => ?_))
  cases r with
  | error e => exact hx pins σ _ _ e s' I2 hq'
  | ok fl =>
    cases fl with
    | ret u =>
      obtain ⟨v, H', I3, rv, ev, q3⟩ := I2.after hq'
      subst ev
      exact ⟨rv, ⟨V.ref (s.heap.objs.size + 1), H', I3, rfl, q3⟩⟩
    | next => exact False.elim hq'
    | brk => exact False.elim hq'
    | cont => exact False.elim hq'
theorem pe_make0 (M : Mk X.K C f) (F : FnOk X.prog X.w X.K X.mg X.base CX k f fd ps sp) (hr : Room (k + 1) X.A) (hg : Gl X x) (hm : X.mg x = some (.ref C)) (hb : Binds X.K fd ps ds) (hd : Vals dvs ds) (hx : Passes CX X E)
    (hdb : (x == ("__debug__" : Str)) = false := by decide) : PE X (.Call (.Name x p) [] [] pos) (tMake C sp dvs E tNil) := by
  intro pins s σ H Q I h
  refine wpAny_Call_Name_kw (ld_glob I hg hm ?_ hdb)
  exact PySem.W.callWith_K0 I.kIn M.kp (run_make (us := []) M F hr hb hd hx I .nil h)
end
section
variable {X : Cx} {CX : CXT} {k : Nat} {f C : Addr} {fd : FuncData} {ps ks : List Str} {sp : Sp} {E : XK} {x m : Str} {p pos apos kpos : Pos} {e o : Expr} {es : List Expr} {kws : List Keyword} {te ta : TE} {t tk : TA} {nm : Option Str}
variable {g : List Value → List Value → List Value} {gV : List V → List V → List V}
end
/-- names: the parameters first -/
structure FnScope (N P : List Str) (sc : Scope) : Prop where
  kind : sc.kind = .function
  co : sc.isCoroutine = false
  gen : sc.isGenerator = false
  nd : N.Nodup
  pre : N.take P.length = P
  par : ∀ x ∈ P, sc.names.lookup x = some .local ∨ sc.names.lookup x = some .cell
  nofree : ∀ y ∈ sc.names, y.2 ≠ .free
theorem bindL_out {kindOf : Str → Option NameKind} {x : Str} : ∀ {binds : List (Str × Value)} {m : Str → Option Value}, (∀ v, (x, v) ∉ binds) → bindL kindOf binds m x = m x
  | [], _, _ => rfl
  | (n, v) :: r, m, h => by
    unfold bindL
    rw [bindL_out fun w hw => h w (List.mem_cons_of_mem _ hw)]
    split
    · have : x ≠ n := by rintro rfl; exact h v List.mem_cons_self
      simp [this]
    · rfl
theorem bindC_out {kindOf : Str → Option NameKind} {x : Str} : ∀ {binds : List (Str × Value)} {m : Str → Option Value}, (∀ v, (x, v) ∉ binds) → bindC kindOf binds m x = m x
  | [], _, _ => rfl
  | (n, v) :: r, m, h => by
    unfold bindC
    rw [bindC_out fun w hw => h w (List.mem_cons_of_mem _ hw)]
    split
    · rfl
    · have : x ≠ n := by rintro rfl; exact h v List.mem_cons_self
      simp [this]
theorem bindL_get {kindOf : Str → Option NameKind} {x : Str} {v : Value} : ∀ {P : List Str} {vs : List Value} {i : Nat} {m : Str → Option Value}, P.Nodup → P[i]? = some x → vs[i]? = some v → kindOf x = some .local →
    bindL kindOf (P.zip vs) m x = some v
  | [], _, _, _, _, h, _, _ => by simp at h
  | _ :: _, [], _, _, _, _, h, _ => by simp at h
  | p :: P, w :: vs, 0, m, nd, h1, h2, hk => by
    simp at h1 h2; subst h1; subst h2
    show bindL kindOf ((p, w) :: P.zip vs) m p = _
    unfold bindL
    rw [bindL_out fun v hv => (List.nodup_cons.mp nd).1 (List.of_mem_zip hv).1, if_pos hk]
    simp
  | p :: P, w :: vs, i + 1, m, nd, h1, h2, hk => by
    show bindL kindOf ((p, w) :: P.zip vs) m x = _
    unfold bindL
    exact bindL_get (i := i) (List.nodup_cons.mp nd).2 (by simpa using h1) (by simpa using h2) hk
theorem bindC_get {kindOf : Str → Option NameKind} {x : Str} {v : Value} : ∀ {P : List Str} {vs : List Value} {i : Nat} {m : Str → Option Value}, P.Nodup → P[i]? = some x → vs[i]? = some v → kindOf x ≠ some .local →
    bindC kindOf (P.zip vs) m x = some v
  | [], _, _, _, _, h, _, _ => by simp at h
  | _ :: _, [], _, _, _, _, h, _ => by simp at h
  | p :: P, w :: vs, 0, m, nd, h1, h2, hk => by
    simp at h1 h2; subst h1; subst h2
    show bindC kindOf ((p, w) :: P.zip vs) m p = _
    unfold bindC
    rw [bindC_out fun v hv => (List.nodup_cons.mp nd).1 (List.of_mem_zip hv).1, if_neg hk]
    simp
  | p :: P, w :: vs, i + 1, m, nd, h1, h2, hk => by
    show bindC kindOf ((p, w) :: P.zip vs) m x = _
    unfold bindC
    exact bindC_get (i := i) (List.nodup_cons.mp nd).2 (by simpa using h1) (by simpa using h2) hk
/-- the names' values at the entry -/
def start (N : List Str) (vs : List V) : St := vs.map some ++ List.replicate (N.length - vs.length) none
/-- the context of a def's body, at its entry; an exception leaves the frame, then lies as CX says -/
def cxOf (CX : CXT) (P : Program) (w : World) (K : PySem.W.Frag) (mg : Str → Option Value) (base : Heap) (N : List Str) (qual : Str) (scope : Scope) (f : Addr) (cd : Value) (A : Around) (outer : List Env) (s : Shared) (H : Hp) (E : XK) : Cx where
  prog := P
  w := w
  K := K
  mg := mg
  base := base
  A := A.deeper (envOfC qual scope s.heap.objs.size f cd)
  N := N
  s₀ := s
  H₀ := H
  env := envOfC qual scope s.heap.objs.size f cd
  outer := outer
  stack := envOfC qual scope s.heap.objs.size f cd :: outer
  ex := []
  calm := true
  fn := fun _ => true
  pn := []
  xe := fun e s' => wpAny (model P w) (A.deeper (envOfC qual scope s.heap.objs.size f cd)) (leaving (envOfC qual scope s.heap.objs.size f cd) e) (fun _ s'' => CX outer H s E e s'') (fun e' s'' => CX outer H s E e' s'') s'
theorem cell_has {sc : Scope} {n : Nat} {x : Str} (h : sc.names.lookup x = some .cell) : ∃ c, (cellsFrom n sc.names []).lookup x = some c := by
  have q := PySem.W.cellsFrom_some sc.names n [] (.inl h)
  exact Option.isSome_iff_exists.mp q
theorem inv_start {CX : CXT} {P : Program} {w : World} {K : PySem.W.Frag} {mg : Str → Option Value} {base : Heap} {N ps : List Str} {qual : Str} {scope : Scope} {f : Addr} {cd : Value} {A : Around} {outer : List Env} {s s1 : Shared} {H : Hp} {E : XK} {us : List Value} {vs : List V}
    (S : FnScope N ps scope) (hd : A.handled = none) (e0 : Env0 P w K mg base A outer s H) (hl : vs.length = ps.length) (r : Vals vs us)
    (x : InCallC s s.heap.objs.size (bindL (envOfC qual scope s.heap.objs.size f cd).kindOf (ps.zip us) fun _ => none) (cellsFrom (s.heap.objs.size + 1) scope.names []) (bindC (envOfC qual scope s.heap.objs.size f cd).kindOf (ps.zip us) fun _ => none) s1) :
    Inv (cxOf CX P w K mg base N qual scope f cd A outer s H E) [] (start N vs) H s1 := by
  have hpl : ps.length ≤ N.length := by have := congrArg List.length S.pre; rw [List.length_take] at this; omega
  obtain ⟨h1, tk, rfl, hk⟩ := x.done
  have noA : ∀ b : Addr, b ∉ (cxOf CX P w K mg base N qual scope f cd A outer s H E).ex := fun b z => absurd (show b ∈ ([] : List Addr) from z) (by simp)
  refine ⟨⟨e0.mod, S.kind, rfl, rfl, Nat.le_refl _, fun y z c h1 h2 => ?_, fun y hy => ?_, fun y c _ h => ?_, fun _ => hd, Around.frames_deeper e0.frames, .inr ⟨rfl, rfl⟩, fun b z => absurd z (noA b), e0.bs, e0.bsz, fun b _ _ => noA b, fun b z => absurd z (noA b), e0.funs, e0.frf⟩,
    rfl, e0.bare, Un.kept hk, ⟨_, x.toInCall.ns, fun i y v h1 h2 h3 => ?_⟩, fun y c h => ⟨_, x.cell y c h⟩, e0.hok.fresh (Nat.le_refl _), fun y c h => ?_, fun p hp => absurd (show p ∈ ([] : List (Addr × Obj)) from hp) (by simp), e0.hok.kept hk, ?_⟩
  · exact name_of_addr x.apart (PySem.mem_of_lookup h1) (PySem.mem_of_lookup h2)
  · have hy : scope.names.lookup y = some .cell ∨ scope.names.lookup y = some .free := hy
    rcases hy with hy | hy
    · exact cell_has hy
    · exact absurd rfl (S.nofree _ (PySem.mem_of_lookup hy))
  · exact Nat.le_of_lt (x.above y c (PySem.mem_of_lookup h))
  · have hi : i < vs.length := by
      unfold start at h2
      by_cases hi : i < vs.length
      · exact hi
      · rw [List.getElem?_append_right (by simpa using hi)] at h2
        rw [List.getElem?_replicate] at h2
        split at h2 <;> cases h2
    have ha : vs[i]? = some v := by
      unfold start at h2
      rw [List.getElem?_append_left (by simpa using hi), List.getElem?_map] at h2
      cases e : vs[i]? with
      | none => rw [e] at h2; cases h2
      | some a => rw [e] at h2; cases h2; rfl
    obtain ⟨u, hu, rv⟩ := r.get ha
    have hp : ps[i]? = some y := by
      rw [← S.pre, List.getElem?_take_of_lt (by omega)]; exact h1
    have ndP : ps.Nodup := by rw [← S.pre]; exact S.nd.sublist (List.take_sublist _ _)
    refine ⟨u, rv, ?_⟩
    rcases S.par y (List.mem_of_getElem? hp) with k | k
    · exact .inl ⟨k, bindL_get ndP hp hu k⟩
    · obtain ⟨c, e⟩ := cell_has (n := s.heap.objs.size + 1) k
      refine .inr ⟨.inl k, c, e, ?_⟩
      have q := x.cell y c e
      rw [bindC_get ndP hp hu (by show scope.names.lookup y ≠ _; rw [k]; decide)] at q
      exact q
  · exact e0.hok.fresh (Nat.le_of_lt (x.above y c (PySem.mem_of_lookup h)))
  · unfold start
    show _ = N.length
    rw [List.length_append, List.length_map, List.length_replicate]
    omega
/-- THE RULE: a def (or a method) of the text, by its body. The body's reading t is chosen for each entry; it is run at the parameters' values -/
theorem fn_of {CX : CXT} {P : Program} {w : World} {K : PySem.W.Frag} {mg : Str → Option Value} {base : Heap} {k : Nat} {f : Addr} {name qual : Str} {params : Arguments} {body : List Stmt} {scope : Scope} {dV kV doc pm cdv ct oc : Value} {an od : Option Addr}
    {osl : Array (Option Value)} {N ps : List Str} {sp : Sp} (lk : K.lookup f = some ⟨oc, od, .func (PySem.W.fnOf name qual params body scope dV kV doc pm an cdv ct), osl⟩) (hcd : PySem.W.codeIn K cdv qual = true) (S : FnScope N ps scope)
    (len : ∀ vs H Q E, sp vs H Q E → vs.length = ps.length)
    (hbody : ∀ (A : Around) (outer : List Env) (s : Shared) (H : Hp) (vs : List V) (Q : VK) (E : XK), Room k (A.deeper (envOfC qual scope s.heap.objs.size f cdv)) → sp vs H Q E →
      ∃ t, PSs (cxOf CX P w K mg base N qual scope f cdv A outer s H E) body t ∧ t { nx := fun _ H' => Q .non H', rt := Q } (start N vs) H) :
    FnOk P w K mg base CX (k + 1) f (PySem.W.fnOf name qual params body scope dV kV doc pm an cdv ct) ps sp := by
  refine ⟨len, fun A outer s H args us vs Q E hr e0 hb r hsp => ?_⟩
  have hl := len _ _ _ _ hsp
  have KX : K.In s.heap := e0.mod.kin.keeps fun b o e => (e0.bs b o e).1
  have lim : s.heap.NoLimit := e0.mod.nolimit.keeps fun b o e => (e0.bs b o e).1
  have hkind : ∀ y ∈ ps.zip us, scope.names.lookup y.1 = some .local ∨ (scope.names.lookup y.1 = some .cell ∧ ((cellsFrom (s.heap.objs.size + 1) scope.names []).lookup y.1).isSome = true) := fun ⟨n, v⟩ hy => by
    rcases S.par n (List.of_mem_zip hy).1 with q | q
    · exact .inl q
    · exact .inr ⟨q, PySem.W.cellsFrom_some _ _ _ (.inl q)⟩
  refine codeAny_call_function hr.depth (KX _ _ lk) rfl S.co S.gen rfl (PySem.W.codeRec_of KX hcd) (hb _ _ _ _ ?_)
  refine wpAny_newFunctionEnv_cells S.kind hkind fun env he s1 x => ?_
  subst he
  refine ⟨lim.keeps x.toInCall.keep, codeAny_func ?_⟩
  obtain ⟨t, ht, hq⟩ := hbody A outer s H vs Q E (hr.deeper _) hsp
  have I : Inv (cxOf CX P w K mg base N qual scope f cdv A outer s H E) [] (start N vs) H s1 := inv_start S hr.hd e0 hl r x
  refine wpAny_mono (ht [] s1 (start N vs) H _ I hq) (fun fl s' hs => ?_) fun e s' hs => hs
  have fin : ∀ {σ' : St} {H' : Hp} {v : V} {u : Value}, Inv (cxOf CX P w K mg base N qual scope f cdv A outer s H E) [] σ' H' s' → RelV v u → Q v H' → CE outer P w H s Q u s' :=
    fun {σ' H' v u} J rv q => ⟨v, H', J.os, J.bare, J.base, J.hok, rv, q⟩
  cases fl with
  | ret u =>
    obtain ⟨v, σ', H', J, rv, q⟩ := hs
    exact fin J rv q
  | next =>
    obtain ⟨σ', H', J, q⟩ := hs
    exact fin (v := V.non) (u := Value.none) J rfl q
  | brk =>
    obtain ⟨_, _, _, q⟩ := hs
    exact False.elim q
  | cont =>
    obtain ⟨_, _, _, q⟩ := hs
    exact False.elim q
end L2
namespace L2
open PySem PySem.Spec PyProof.Rows
section
variable {X : Cx} {x : Str} {p pos : Pos} {e : Expr} {es : List Expr} {t : TA} {id T : String} {r : List V → Hp → VK → Prop}
def tCB (r : List V → Hp → VK → Prop) (t : TA) : TE := fun σ H Q => t σ H fun vs H1 => r vs H1 Q
/-- f(e, ..), f a built-in function -/
theorem pe_callB (hc : CallR X (.builtin id) r) (hg : Gl X x) (hm : X.mg x = none) (hv : bootBuiltins x = some (.builtin id)) (ha : PA X (e :: es) t) (hn : x ≠ "__name__" := by decide) (hdb : (x == ("__debug__" : Str)) = false := by decide)
    (he : starEach (e :: es) X.env = (false, eval e X.env) :: starEach es X.env := by rfl) (hpl : (backTo pos (starEach es X.env)).any (·.1) = false := by rfl) : PE X (.Call (.Name x p) (e :: es) [] pos) (tCB r t) := by
  intro pins s σ H Q I h
  refine wpAny_Call_Name_kw (ld_blt I hg hm hv ?_ hn hdb)
  exact PyProof.Rows.callWith_builtin1 (thn (ha pos pins s σ H _ I h) fun us s1 ⟨vs, H1, I1, r1, q1⟩ => hc pins s1 σ H1 vs us Q I1 r1 q1) he hpl
/-- T(e, ..), T a built-in type -/
theorem pe_callTy (hc : CallR X (.type T) r) (hg : Gl X x) (hm : X.mg x = none) (hv : bootBuiltins x = some (.type T)) (ha : PA X (e :: es) t) (hn : x ≠ "__name__" := by decide) (hdb : (x == ("__debug__" : Str)) = false := by decide)
    (he : starEach (e :: es) X.env = (false, eval e X.env) :: starEach es X.env := by rfl) (hpl : (backTo pos (starEach es X.env)).any (·.1) = false := by rfl) : PE X (.Call (.Name x p) (e :: es) [] pos) (tCB r t) := by
  intro pins s σ H Q I h
  refine wpAny_Call_Name_kw (ld_blt I hg hm hv ?_ hn hdb)
  exact PyProof.Rows.callWith_type1 (thn (ha pos pins s σ H _ I h) fun us s1 ⟨vs, H1, I1, r1, q1⟩ => hc pins s1 σ H1 vs us Q I1 r1 q1) he hpl
end
end L2
namespace HT
open PySem PyProof.Rows
section
open PySem.SeqAt
open PySem.AutoSeq1 (wpAny_loadPart')
open PySem.MeetsSeq PySem.MeetsSeq2 PySem.MeetsSeq3
end
section
variable {prog : Program} {w : World} {A : Around} {E : Value → Shared → Prop} {s : Shared}
/-- a slice's bound as a place among n (d where it is left out) -/
def sIx (n d : Nat) : Option Int → Nat
  | none => d
  | some v => if v < 0 then (v + (n : Int)).toNat else min v.toNat n
theorem sIx_nat (n d k : Nat) : sIx n d (some (k : Int)) = min k n := by
  show (if (k : Int) < 0 then ((k : Int) + (n : Int)).toNat else min (k : Int).toNat n) = min k n
  rw [if_neg (by omega), Int.toNat_natCast]
end
end HT
namespace L2
open PySem PySem.Spec PyProof.Rows
abbrev TO := St → Hp → (Option Int → Hp → Prop) → Prop
/-- a slice's part (left out, or an int) -/
def PO (X : Cx) (e : Option Expr) (t : TO) : Prop :=
  ∀ (pins : List (Addr × Obj)) (s : Shared) (σ : St) (H : Hp) (Q : Option Int → Hp → Prop), Inv X pins σ H s → t σ H Q →
    wpAny (model X.prog X.w) X.A (evalPart e X.env) (fun u s' => ∃ o H', Inv X pins σ H' s' ∧ IsPart u o ∧ Q o H') X.xe s
def tPart (t : TE) : TO := fun σ H Q => t σ H fun x H1 => ∃ i, x = .int i ∧ Q (some i) H1
section
variable {X : Cx} {e : Expr} {te : TE} {lo hi : Option Expr} {tl th : TO} {pos p2 : Pos}
theorem po_some (h : PE X e te) : PO X (some e) (tPart te) := by
  intro pins s σ H Q I hw
  rw [evalPart_some]
  refine thn (h pins s σ H _ I hw) fun u s1 ⟨x, H1, I1, r1, q1⟩ => ?_
  obtain ⟨i, rfl, q⟩ := q1
  obtain ⟨t, rfl⟩ := r1
  exact ⟨some i, H1, I1, .int i t, q⟩
/-- what a slice of a value is, by values: the slice object stands at sl -/
def SlR (X : Cx) (r : V → Option Int → Option Int → Hp → VK → Prop) : Prop :=
  ∀ (pins : List (Addr × Obj)) (s : Shared) (σ : St) (H : Hp) (x : V) (v vl vu : Value) (lo hi : Option Int) (sl : Addr) (Q : VK), Inv X pins σ H s → RelV x v → s.heap.IsSliceOf sl vl vu .none → IsPart vl lo → IsPart vu hi → r x lo hi H Q →
    ∃ T id, typeLookup (.type T) "__getitem__" = pure (some (.builtin id)) ∧ s.TypeIs v T ∧ wpAny (model X.prog X.w) X.A (getItem v (.ref sl)) (EP X pins σ Q) X.xe s
def tSl (r : V → Option Int → Option Int → Hp → VK → Prop) (te : TE) (tl th : TO) : TE := fun σ H Q => te σ H fun x H1 => tl σ H1 fun l H2 => th σ H2 fun u H3 => r x l u H3 Q
/-- a[lo:hi], any a -/
theorem pe_slice {r : V → Option Int → Option Int → Hp → VK → Prop} (hr : SlR X r) (he : PE X e te) (hl : PO X lo tl) (hu : PO X hi th) : PE X (.Subscript e (.Slice lo hi none p2) pos) (tSl r te tl th) := by
  intro pins s σ H Q I h
  refine Subscript_ (thn (he pins s σ H _ I h) fun v s1 ⟨x, H1, I1, r1, q1⟩ => ?_)
  refine wpAny_Slice (thn (hl pins s1 σ H1 _ I1 q1) fun vl s2 ⟨l, H2, I2, pl, q2⟩ => thn (hu pins s2 σ H2 _ I2 q2) fun vu s3 ⟨u, H3, I3, pu, q3⟩ => ?_)
  rw [evalPart_none]
  refine wpAny_pure ?_
  have I4 : Inv X pins σ H3 { s3 with heap := s3.heap.push { cls := .type "slice", data := .fields #[vl, vu, .none] } } := I3.kept (t' := s3.toks) fun b ob q => Heap.get?_push_of_some _ q
  obtain ⟨T, id, hT, ht, hg⟩ := hr pins { s3 with heap := s3.heap.push { cls := .type "slice", data := .fields #[vl, vu, .none] } } σ H3 x v vl vu l u s3.heap.objs.size Q I4 r1 (Heap.IsSliceOf.new ..) pl pu q3
  show wpAny (model X.prog X.w) X.A (subscriptTail e (.Slice lo hi none p2) v (.ref s3.heap.objs.size)) (EP X pins σ Q) X.xe { s3 with heap := s3.heap.push { cls := .type "slice", data := .fields #[vl, vu, .none] } }
  exact tail_any (ops := [.ref s3.heap.objs.size, v]) ht hT hg (by with_unfolding_all rfl)
/-- the items of xs[lo:hi] -/
def cutV (xs : List V) (lo hi : Option Int) : List V := (xs.drop (HT.sIx xs.length 0 lo)).take (HT.sIx xs.length xs.length hi - HT.sIx xs.length 0 lo)
theorem cutV_length (xs : List V) (lo hi : Option Int) : (cutV xs lo hi).length ≤ xs.length := by
  unfold cutV
  rw [List.length_take, List.length_drop]
  omega
end
end L2
namespace L2
open PySem PySem.Spec PyProof.Rows
/-- the place that an index of any sign means -/
def ixN (n : Nat) (i : Int) : Option Nat := if 0 ≤ i then (if i < n then some i.toNat else none) else if -(n : Int) ≤ i then some (i + n).toNat else none
def atI {α : Type} (xs : List α) (i : Int) : Option α := (ixN xs.length i).bind fun j => xs[j]?
theorem ixN_seq {n : Nat} {i : Int} {j : Nat} (h : ixN n i = some j) : seqIndex? i n = some j ∧ j < n ∧ -(n : Int) ≤ i ∧ i < n := by
  unfold ixN at h
  by_cases h0 : 0 ≤ i
  · rw [if_pos h0] at h
    by_cases h1 : i < n
    · rw [if_pos h1] at h
      have e : i.toNat = j := Option.some.inj h
      exact ⟨by rw [seqIndex_of h0 h1, e], by omega, by omega, h1⟩
    · rw [if_neg h1] at h; cases h
  · rw [if_neg h0] at h
    by_cases h1 : -(n : Int) ≤ i
    · rw [if_pos h1] at h
      have e : (i + n).toNat = j := Option.some.inj h
      exact ⟨by rw [seqIndex_neg (by omega) h1, e], by omega, h1, by omega⟩
    · rw [if_neg h1] at h; cases h
theorem atI_get {α : Type} {xs : List α} {i : Int} {v : α} (h : atI xs i = some v) : ∃ j, seqIndex? i xs.length = some j ∧ xs[j]? = some v ∧ j < xs.length ∧ -(xs.length : Int) ≤ i ∧ i < xs.length := by
  unfold atI at h
  cases e : ixN xs.length i with
  | none => rw [e] at h; cases h
  | some j =>
    rw [e] at h
    obtain ⟨h1, h2, h3, h4⟩ := ixN_seq e
    exact ⟨j, h1, h, h2, h3, h4⟩
theorem atI_nat {α : Type} {xs : List α} {j : Nat} {v : α} (h : xs[j]? = some v) : atI xs (j : Int) = some v := by
  have hj : j < xs.length := (List.getElem?_eq_some_iff.mp h).1
  have e : ixN xs.length (j : Int) = some j := by
    unfold ixN
    rw [if_pos (by omega), if_pos (by omega)]; simp
  unfold atI; rw [e]; exact h
/-- what stands as an index of a plain subscript -/
def PlainIx (b : Expr) : Prop := ∀ o i, subscripted b false o i = operate [o, i] (getItem o i)
/-- a subscript by values -/
def IxR (X : Cx) (r : R2) : Prop :=
  ∀ (value slice : Expr) (pins : List (Addr × Obj)) (s : Shared) (σ : St) (H : Hp) (x y : V) (v u : Value) (Q : VK), Inv X pins σ H s → RelV x v → RelV y u → r x y H Q →
    subscripted slice false v u = operate [v, u] (getItem v u) → wpAny (model X.prog X.w) X.A (subscriptTail value slice v u) (EP X pins σ Q) X.xe s
/-- a call of a builtin's method by values: the receiver, the arguments -/
def MtR (X : Cx) (id : String) (r : V → List V → Hp → VK → Prop) : Prop :=
  ∀ (pins : List (Addr × Obj)) (s : Shared) (σ : St) (H : Hp) (x : V) (xs : List V) (v : Value) (us : List Value) (Q : VK), Inv X pins σ H s → RelV x v → Vals xs us → r x xs H Q →
    wpAny (model X.prog X.w) X.A (call (.builtin id) (v :: us)) (EP X pins σ Q) X.xe s
section
variable {X : Cx} {a b : Expr} {ta tb : TE} {pos : Pos}
/-- a[b] -/
theorem pe_ix {r : R2} (hr : IxR X r) (ha : PE X a ta) (hb : PE X b tb) (hs : PlainIx b) : PE X (.Subscript a b pos) (tOp r ta tb) := by
  intro pins s σ H Q I h
  exact Subscript_ (binT ha hb I h fun v u s2 x y H2 I2 rx ry q => hr a b pins s2 σ H2 x y v u Q I2 rx ry q (hs _ _))
def rIxL (K : PySem.W.Frag) : R2 := fun x y H Q => ∃ p xs i v, x = .ref p ∧ y = .int i ∧ SqL K H p xs ∧ atI xs i = some v ∧ Q v H
def rIxT (K : PySem.W.Frag) : R2 := fun x y H Q => ∃ p xs i v, x = .ref p ∧ y = .int i ∧ SqT K H p xs ∧ atI xs i = some v ∧ Q v H
def rIxS : R2 := fun x y H Q => ∃ z i c, x = .str z ∧ y = .int i ∧ z.length ≤ sizeLine ∧ atI z.cps.toList i = some c ∧ Q (.str ⟨#[c]⟩) H
theorem ix_list : IxR X (rIxL X.K) := by
  intro value slice pins s σ H x y v u Q I rx ry h hs
  obtain ⟨p, xs, i, z, rfl, rfl, hq, he, q⟩ := h
  cases rx
  obtain ⟨t, rfl⟩ := ry
  obtain ⟨its, r, pl, hz⟩ := I.list hq
  obtain ⟨j, h1, h2, h3, h4, h5⟩ := atI_get he
  obtain ⟨w, ew, rw'⟩ := r.get h2
  have hl := r.length
  have hn := line63
  have fin : EP X pins σ Q w s := ⟨z, H, I, rw', q⟩
  by_cases h0 : 0 ≤ i
  · have hj : i.toNat = j := by
      rw [seqIndex_of h0 h5] at h1
      exact Option.some.inj h1
    exact item_listR pl.isList h0 (by omega) (by rw [hj]; simpa using ew) fin hs
  · have hj : (i + (its.toArray.size : Int)).toNat = j := by
      rw [seqIndex_neg (by omega) h4] at h1
      rw [List.size_toArray, ← hl]
      exact Option.some.inj h1
    exact subscriptTail_builtinR (x := w) pl.isList.typeIs slot_list_getitem.lookup
      (wpAny_getItem_list_neg (Q := fun r s' => r = w ∧ EP X pins σ Q r s') pl.isList (by omega) (by rw [List.size_toArray] <;> omega) (by omega) (by rw [hj]; simpa using ew) ⟨rfl, fin⟩) hs
theorem ix_tup : IxR X (rIxT X.K) := by
  intro value slice pins s σ H x y v u Q I rx ry h hs
  obtain ⟨p, xs, i, z, rfl, rfl, hq, he, q⟩ := h
  cases rx
  obtain ⟨t, rfl⟩ := ry
  obtain ⟨its, r, pl, hz⟩ := I.tuple hq
  obtain ⟨j, h1, h2, h3, h4, h5⟩ := atI_get he
  obtain ⟨w, ew, rw'⟩ := r.get h2
  have hl := r.length
  have hn := line63
  have fin : EP X pins σ Q w s := ⟨z, H, I, rw', q⟩
  exact subscriptTail_builtinR (x := w) pl.typeIs slot_tuple_getitem.lookup
    (getItem_tuple (j := j) (Q := fun r s' => r = w ∧ EP X pins σ Q r s') pl (by omega) (by omega) (by rw [List.size_toArray, ← hl]; exact h1) (by simpa using ew) ⟨rfl, fin⟩) hs
theorem ix_str : IxR X rIxS := by
  intro value slice pins s σ H x y v u Q I rx ry h hs
  obtain ⟨z, i, c, rfl, rfl, hz, he, q⟩ := h
  obtain ⟨t, rfl⟩ := rx
  obtain ⟨t', rfl⟩ := ry
  obtain ⟨j, h1, h2, h3, h4, h5⟩ := atI_get he
  have hl : z.cps.toList.length = z.length := by simp [Str.length]
  rw [hl] at h1 h4 h5
  have hn := line63
  exact tail_any (typeIs_str s z t) slot_str_getitem.lookup (getItem_str (c := c) (by
    have e1 : decide (i < -(2 ^ 63 : Int)) = false := decide_eq_false (by omega)
    have e2 : decide (i ≥ 2 ^ 63) = false := decide_eq_false (by omega)
    rw [e1, e2, Bool.or_false]) (by rw [h1]; simpa using h2) ⟨.str ⟨#[c]⟩, H, I.tok _, ⟨_, rfl⟩, q⟩) hs
/-- the list's object behind a store -/
theorem mapSeq_set (its : List Value) (n j : Nat) (u : Value) : Obj.mapSeq (·.setIfInBounds j u) { cls := .type "list", data := .seq its.toArray n } = { cls := .type "list", data := .seq (its.set j u).toArray n } := by
  simp [Obj.mapSeq]
theorem Inv.lst {pins : List (Addr × Obj)} {σ : St} {H : Hp} {s : Shared} {p : Addr} {xs : List V} (I : Inv X pins σ H s) (h : H p = some (.lst xs)) :
    ∃ (its : List Value) (n : Nat), Vals xs its ∧ s.heap.get? p = some { cls := .type "list", data := .seq its.toArray n } ∧ xs.length ≤ sizeLine := by
  obtain ⟨z, its, n, r, e⟩ := I.hok p _ h
  exact ⟨its, n, r, e, z⟩
/-- the list at p is written by an update of its object -/
theorem Inv.lstUpd {pins : List (Addr × Obj)} {σ : St} {H : Hp} {s : Shared} {p : Addr} {xs ys : List V} {its its' : List Value} {n n' : Nat} {f : Obj → Obj} (I : Inv X pins σ H s) (h : H p = some (.lst xs))
    (ho : s.heap.get? p = some { cls := .type "list", data := .seq its.toArray n }) (hf : f { cls := .type "list", data := .seq its.toArray n } = { cls := .type "list", data := .seq its'.toArray n' }) (r : Vals ys its') (hz : ys.length ≤ sizeLine) (t : Nat) :
    Inv X pins σ (upd H p (.lst ys)) { s with heap := s.heap.update p f, toks := t } := by
  have e : (s.heap.update p f).get? p = some { cls := .type "list", data := .seq its'.toArray n' } := by
    rw [Heap.get?_update_self f ho (by rw [hf] <;> rfl), hf]
  refine I.write (x := p) (e := p) (by rw [h]; trivial) (.inl rfl) (fun b u hb q => (Heap.get?_update_other _ _ (Ne.symm hb)).trans q) ⟨_, e⟩ ?_
  exact ⟨hz, its', n', r, e⟩
def rSetL : V → V → V → Hp → (Hp → Prop) → Prop := fun o i v H Q => ∃ p xs k j, o = .ref p ∧ i = .int k ∧ H p = some (.lst xs) ∧ ixN xs.length k = some j ∧ Q (upd H p (.lst (xs.set j v)))
theorem set_list : PSet X rSetL := by
  intro pins s σ H o i v ov iv u Q I ro ri rv h
  obtain ⟨p, xs, k, j, rfl, rfl, hp, hj, q⟩ := h
  cases ro
  obtain ⟨t, rfl⟩ := ri
  obtain ⟨its, n, r, ho, hz⟩ := I.lst hp
  obtain ⟨h1, h2, h3, h4⟩ := ixN_seq hj
  have hl := r.length
  have hn := line63
  have I' : Inv X pins σ (upd H p (.lst (xs.set j v))) { s with heap := s.heap.update p (Obj.mapSeq (·.setIfInBounds j u)) } :=
    I.lstUpd hp ho (mapSeq_set its n j u) (r.set rv j) (by rw [List.length_set]; exact hz) s.toks
  by_cases h0 : 0 ≤ k
  · have hk : k.toNat = j := by
      rw [seqIndex_of h0 h4] at h1
      exact Option.some.inj h1
    exact PySem.W.ki_setAt ho h0 (by omega) (by rw [List.size_toArray, ← hl]; exact h4) (by rw [hk]; exact ⟨_, I', q⟩)
  · have hk : (k + (its.toArray.size : Int)).toNat = j := by
      rw [seqIndex_neg (by omega) h3] at h1
      rw [List.size_toArray, ← hl]
      exact Option.some.inj h1
    exact PySem.W.ki_setBack ho (by omega) (by rw [List.size_toArray, ← hl]; exact h3) (by omega) (by rw [hk]; exact ⟨_, I', q⟩)
theorem slice_bounds (lo hi : Option Int) (n : Nat) : (sliceBounds lo hi none n).1 = ((HT.sIx n 0 lo : Nat) : Int) ∧ (sliceBounds lo hi none n).2.1 = ((HT.sIx n n hi : Nat) : Int) ∧ (sliceBounds lo hi none n).2.2 = 1 := by
  refine ⟨?_, ?_, rfl⟩
  · cases lo with
    | none => simp [sliceBounds, HT.sIx]
    | some i =>
      simp only [sliceBounds, HT.sIx, Option.getD_none, show (1 : Int) > 0 by decide, if_true]
      by_cases h : i < 0
      · simp only [h, if_true] <;> omega
      · simp only [h, if_false] <;> omega
  · cases hi with
    | none => simp [sliceBounds, HT.sIx]
    | some i =>
      simp only [sliceBounds, HT.sIx, Option.getD_none, show (1 : Int) > 0 by decide, if_true]
      by_cases h : i < 0
      · simp only [h, if_true] <;> omega
      · simp only [h, if_false] <;> omega
theorem slicePick_cut (its : List Value) (lo hi : Option Int) : slicePick its.toArray lo hi none = ((its.drop (HT.sIx its.length 0 lo)).take (HT.sIx its.length its.length hi - HT.sIx its.length 0 lo)).toArray := by
  obtain ⟨h1, h2, h3⟩ := slice_bounds lo hi its.toArray.size
  unfold slicePick
  rw [h1, h2, h3]
  simp only [sliceRange_one, pick_run, List.size_toArray] <;> rfl
/-- xs[lo:hi] of a list: a new list -/
def rSlL (K : PySem.W.Frag) : V → Option Int → Option Int → Hp → VK → Prop := fun x lo hi H Q => ∃ a xs, x = .ref a ∧ SqL K H a xs ∧ ∀ p, H p = none → Q (.ref p) (upd H p (.lst (cutV xs lo hi)))
theorem sl_list : SlR X (rSlL X.K) := by
  intro pins s σ H x v vl vu lo hi sl Q I rx hs pl pu h
  obtain ⟨a, xs, rfl, hx, q⟩ := h
  cases rx
  obtain ⟨its, r, ht, hz⟩ := I.list hx
  have hlen := r.length
  refine ⟨"list", _, slot_list_getitem.lookup, ht.isList.typeIs, ?_⟩
  refine wpAny_getItem_list_slice ht.isList hs pl pu .none (by simp) ?_ (by rw [List.size_toArray] <;> omega)
  rw [slicePick_cut, ← hlen]
  refine ⟨.ref s.heap.objs.size, _, I.laid (t' := s.toks) (o := .lst (cutV xs lo hi)) (fun b ob q => Heap.get?_push_of_some _ q) (Nat.le_refl _) ?_, rfl, q _ (I.hok.fresh (Nat.le_refl _))⟩
  exact ⟨Nat.le_trans (cutV_length xs lo hi) hz, _, 0, (r.drop (HT.sIx xs.length 0 lo)).take (HT.sIx xs.length xs.length hi - HT.sIx xs.length 0 lo), Heap.get?_push_size _ rfl⟩
def flatV : V → Bool
  | .non => true
  | .bl _ => true
  | .int _ => true
  | .str _ => true
  | _ => false
/-- == of flat values -/
def eqV : V → V → Bool
  | .non, .non => true
  | .bl a, .bl b => a == b
  | .bl a, .int b => (if a then 1 else 0) == b
  | .int a, .bl b => a == (if b then 1 else 0)
  | .int a, .int b => a == b
  | .str a, .str b => a == b
  | _, _ => false
theorem eqAt_V {A : Around} {s : Shared} {y x : V} {u v : Value} (ry : RelV y u) (rx : RelV x v) (fy : flatV y = true) (fx : flatV x = true) : SeqAt.EqAt A s u v (eqV y x) := by
  cases y with
  | non =>
    cases ry
    cases x with
    | non => cases rx; exact SeqAt.EqAt.same _
    | bl b => cases rx; exact SeqAt.EqAt.none_bool b
    | int b => obtain ⟨t, rfl⟩ := rx; exact SeqAt.EqAt.none_int b t
    | str b => obtain ⟨t, rfl⟩ := rx; exact SeqAt.EqAt.none_str b t
    | _ => exact absurd (show false = true from fx) Bool.false_ne_true
  | bl a =>
    cases ry
    cases x with
    | non => cases rx; exact SeqAt.EqAt.bool_none a
    | bl b => cases rx; exact SeqAt.EqAt.bool_bool a b
    | int b => obtain ⟨t, rfl⟩ := rx; exact SeqAt.EqAt.bool_int a b t
    | str b => obtain ⟨t, rfl⟩ := rx; exact SeqAt.EqAt.bool_str a b t
    | _ => exact absurd (show false = true from fx) Bool.false_ne_true
  | int a =>
    obtain ⟨t', rfl⟩ := ry
    cases x with
    | non => cases rx; exact SeqAt.EqAt.int_none a t'
    | bl b => cases rx; exact SeqAt.EqAt.int_bool a t' b
    | int b => obtain ⟨t, rfl⟩ := rx; exact SeqAt.EqAt.int_int a t' b t
    | str b => obtain ⟨t, rfl⟩ := rx; exact SeqAt.EqAt.int_str a t' b t
    | _ => exact absurd (show false = true from fx) Bool.false_ne_true
  | str a =>
    obtain ⟨t', rfl⟩ := ry
    cases x with
    | non => cases rx; exact SeqAt.EqAt.str_none a t'
    | bl b => cases rx; exact SeqAt.EqAt.str_bool a t' b
    | int b => obtain ⟨t, rfl⟩ := rx; exact SeqAt.EqAt.str_int a t' b t
    | str b => obtain ⟨t, rfl⟩ := rx; exact SeqAt.EqAt.str_str a t' b t
    | _ => exact absurd (show false = true from fx) Bool.false_ne_true
  | _ => exact absurd (show false = true from fy) Bool.false_ne_true
/-- the items' answers, read off the values (a value's own answer does not lean on its token) -/
def eqU (x : V) (u : Value) : Bool := match u with
  | .none => eqV .non x
  | .bool b => eqV (.bl b) x
  | .int i _ => eqV (.int i) x
  | .str z _ => eqV (.str z) x
  | _ => false
theorem eqU_of {x y : V} {u : Value} (r : RelV y u) (f : flatV y = true) : eqU x u = eqV y x := by
  cases y with
  | non => cases r; rfl
  | bl b => cases r; rfl
  | int i => obtain ⟨t, rfl⟩ := r; rfl
  | str z => obtain ⟨t, rfl⟩ := r; rfl
  | _ => exact absurd (show false = true from f) Bool.false_ne_true
theorem any_eqU {x : V} : ∀ {xs : List V} {us : List Value}, Vals xs us → xs.all flatV = true → us.any (eqU x) = xs.any fun y => eqV y x
  | _, _, .nil, _ => rfl
  | y :: xs, u :: us, .cons r t, f => by
    rw [List.all_cons, Bool.and_eq_true] at f
    rw [List.any_cons, List.any_cons, eqU_of r f.1, any_eqU t f.2]
theorem mem_eqAt {A : Around} {s : Shared} {x : V} {v : Value} (rx : RelV x v) (fx : flatV x = true) : ∀ {xs : List V} {us : List Value}, Vals xs us → xs.all flatV = true → ∀ u ∈ us, SeqAt.EqAt A s u v (eqU x u)
  | _, _, .nil, _ => fun u hu => by cases hu
  | y :: xs, u :: us, .cons r t, f => fun u' hu => by
    rw [List.all_cons, Bool.and_eq_true] at f
    rcases List.mem_cons.mp hu with rfl | hu
    · rw [eqU_of r f.1]; exact eqAt_V r rx f.1 fx
    · exact mem_eqAt rx fx t f.2 u' hu
def inV (x : V) (xs : List V) : Bool := xs.any fun y => eqV y x
/-- x in a list or tuple of flat items -/
def rIn (K : PySem.W.Frag) (neg : Bool) : R2 := fun x y H Q => ∃ p xs, y = .ref p ∧ (SqL K H p xs ∨ SqT K H p xs) ∧ flatV x = true ∧ xs.all flatV = true ∧ Q (.bl (if neg then !inV x xs else inV x xs)) H
theorem op_in_seq : OpR X (compareOp .In) (rIn X.K false) := by
  intro pins s σ H x y v u Q I rx ry h
  obtain ⟨p, xs, rfl, hq, fx, fs, q⟩ := h
  cases ry
  rcases hq with hq | hq
  · obtain ⟨its, r, pl, hz⟩ := I.list hq
    refine SeqAt.in_listAt (eqU x) pl.isList (fun w hw => mem_eqAt rx fx r fs w (by simpa using hw)) ⟨.bl _, H, I, rfl, ?_⟩
    rw [show its.toArray.any (eqU x) = its.any (eqU x) by simp, any_eqU r fs]
    exact q
  · obtain ⟨its, r, pl, hz⟩ := I.tuple hq
    refine SeqAt.in_tupleAt (eqU x) pl (fun w hw => mem_eqAt rx fx r fs w (by simpa using hw)) ⟨.bl _, H, I, rfl, ?_⟩
    rw [show its.toArray.any (eqU x) = its.any (eqU x) by simp, any_eqU r fs]
    exact q
theorem op_notIn_seq : OpR X (compareOp .NotIn) (rIn X.K true) := by
  intro pins s σ H x y v u Q I rx ry h
  obtain ⟨p, xs, rfl, hq, fx, fs, q⟩ := h
  cases ry
  rcases hq with hq | hq
  · obtain ⟨its, r, pl, hz⟩ := I.list hq
    refine SeqAt.notIn_listAt (eqU x) pl.isList (fun w hw => mem_eqAt rx fx r fs w (by simpa using hw)) ⟨.bl _, H, I, rfl, ?_⟩
    rw [show its.toArray.any (eqU x) = its.any (eqU x) by simp, any_eqU r fs]
    exact q
  · obtain ⟨its, r, pl, hz⟩ := I.tuple hq
    refine SeqAt.notIn_tupleAt (eqU x) pl (fun w hw => mem_eqAt rx fx r fs w (by simpa using hw)) ⟨.bl _, H, I, rfl, ?_⟩
    rw [show its.toArray.any (eqU x) = its.any (eqU x) by simp, any_eqU r fs]
    exact q
theorem call_len_seq : CallR X (.builtin "len") (fun xs H Q => ∃ p ys, xs = [.ref p] ∧ (SqL X.K H p ys ∨ SqT X.K H p ys) ∧ Q (.int ys.length) H) := by
  intro pins s σ H xs us Q I r h
  obtain ⟨p, ys, rfl, hq, q⟩ := h
  obtain ⟨u, rfl, rx⟩ := vals1 r
  cases rx
  have hn := line63
  rcases hq with hq | hq
  · obtain ⟨its, r', pl, hz⟩ := I.list hq
    have hlen := r'.length
    exact Calls.call_len_list pl.isList (by simp only [List.size_toArray] <;> omega) ⟨.int ys.length, H, I.tok _, ⟨s.toks + 1, by rw [List.size_toArray, hlen]⟩, q⟩
  · obtain ⟨its, r', pl, hz⟩ := I.tuple hq
    have hlen := r'.length
    exact len_tuple pl (by simp only [List.size_toArray] <;> omega) ⟨.int ys.length, H, I.tok _, ⟨s.toks + 1, by rw [List.size_toArray, hlen]⟩, q⟩
theorem call_list_of : CallR X (.type "list") (fun xs H Q => ∃ p ys, xs = [.ref p] ∧ (SqL X.K H p ys ∨ SqT X.K H p ys) ∧ ∀ l, H l = none → Q (.ref l) (upd H l (.lst ys))) := by
  intro pins s σ H xs us Q I r h
  obtain ⟨p, ys, rfl, hq, q⟩ := h
  obtain ⟨u, rfl, rx⟩ := vals1 r
  cases rx
  have fin : ∀ (its : List Value), Vals ys its → ys.length ≤ sizeLine → ∀ (h' : Heap) (c' : Nat), (∀ b o', s.heap.get? b = some o' → h'.get? b = some o') →
      h'.get? s.heap.objs.size = some { cls := .type "list", dict := none, data := .seq its.toArray c', slots := #[] } → EP X pins σ Q (.ref s.heap.objs.size) { s with heap := h' } := fun its r' hz h' c' kp e =>
    ⟨.ref s.heap.objs.size, _, I.laid (t' := s.toks) kp (Nat.le_refl _) (show ObjOk X.prog X.w _ h' _ (.lst ys) from ⟨hz, its, c', r', e⟩), rfl, q _ (I.hok.fresh (Nat.le_refl _))⟩
  rcases hq with hq | hq
  · obtain ⟨its, r', pl, hz⟩ := I.list hq
    have hlen := r'.length
    obtain ⟨o, ho, hc, n, hd⟩ := pl.isList
    exact call_list_seq p (.inl rfl) ho hc hd (fun h' c' kp e => fin its r' hz h' c' kp e) (by simp only [List.size_toArray] <;> omega)
  · obtain ⟨its, r', pl, hz⟩ := I.tuple hq
    have hlen := r'.length
    obtain ⟨o, ho, hc, n, hd⟩ := pl
    exact call_list_seq p (.inr rfl) ho hc hd (fun h' c' kp e => fin its r' hz h' c' kp e) (by simp only [List.size_toArray] <;> omega)
/-- the value is of that builtin type -/
def tyV (K : PySem.W.Frag) (T : String) (x : V) (H : Hp) : Prop := match x with
  | .str _ => T = "str"
  | .int _ => T = "int"
  | .ref p => (T = "list" ∧ ∃ xs, SqL K H p xs) ∨ (T = "tuple" ∧ ∃ o, K.lookup p = some o ∧ o.cls = .type "tuple" ∧ o.dict = none) ∨
      (T = "dict" ∧ ((∃ kvs, H p = some (.dK kvs)) ∨ ∃ kvs, H p = some (.dT kvs))) ∨ (T = "set" ∧ ∃ S n, H p = some (.set S n))
  | _ => False
theorem tyV_is {pins : List (Addr × Obj)} {σ : St} {H : Hp} {s : Shared} {T : String} {x : V} {v : Value} (I : Inv X pins σ H s) (r : RelV x v) (ty : tyV X.K T x H) :
    s.TypeIs v T ∧ ∀ a, v = .ref a → ∃ ob, s.heap.get? a = some ob ∧ ob.dict = none := by
  cases x with
  | str z =>
    obtain ⟨t, rfl⟩ := r
    cases (show T = "str" from ty)
    exact ⟨typeIs_str s z t, fun _ e => nomatch e⟩
  | int i =>
    obtain ⟨t, rfl⟩ := r
    cases (show T = "int" from ty)
    exact ⟨typeIs_int s i t, fun _ e => nomatch e⟩
  | ref p =>
    cases r
    rcases ty with ⟨rfl, xs, hq⟩ | ⟨rfl, o, hk, hc, hd⟩ | ⟨rfl, hk⟩ | ⟨rfl, S, n, hk⟩
    · obtain ⟨its, _, pl, _⟩ := I.list hq
      refine ⟨pl.isList.typeIs, fun a e => ?_⟩
      cases e
      obtain ⟨o, n, e, c, hd, _⟩ := pl
      exact ⟨o, e, hd⟩
    · refine ⟨⟨o, I.kIn p o hk, hc⟩, fun a e => ?_⟩
      cases e
      exact ⟨o, I.kIn _ o hk, hd⟩
    · have z : ∃ o, s.heap.get? p = some o ∧ o.ExactDict := by
        rcases hk with ⟨kvs, hk⟩ | ⟨kvs, hk⟩
        · obtain ⟨_, _, _, _, o, _, _, e, ex, _⟩ := I.hok p _ hk
          exact ⟨o, e, ex⟩
        · obtain ⟨_, _, _, _, o, _, _, e, ex, _⟩ := I.hok p _ hk
          exact ⟨o, e, ex⟩
      obtain ⟨o, e, ex⟩ := z
      refine ⟨⟨o, e, ex.1⟩, fun a e2 => ?_⟩
      cases e2
      exact ⟨o, e, ex.2.1⟩
    · obtain ⟨o, _, _, _, e, ex, _⟩ := I.hok p _ hk
      refine ⟨⟨o, e, ex.1⟩, fun a e2 => ?_⟩
      cases e2
      exact ⟨o, e, ex.2.1⟩
  | _ => exact False.elim ty
def tBM0 (K : PySem.W.Frag) (T : String) (r : V → List V → Hp → VK → Prop) (to : TE) : TE := fun σ H Q => to σ H fun x H1 => tyV K T x H1 ∧ r x [] H1 Q
def tBM (K : PySem.W.Frag) (T : String) (r : V → List V → Hp → VK → Prop) (to : TE) (t : TA) : TE := fun σ H Q => to σ H fun x H1 => tyV K T x H1 ∧ t σ H1 fun xs H2 => r x xs H2 Q
variable {o e : Expr} {es : List Expr} {to : TE} {t : TA} {name : Str} {apos cpos : Pos} {T id : String} {r : V → List V → Hp → VK → Prop}
theorem pe_bm0 (pa : PlainAttrs T) (slot : Slot T name id) (hty : typeOf (.builtin id) = pure (.type "method_descriptor")) (hm : MtR X id r) (ho : PE X o to)
    (hbase : attributeBase o name X.env (eval o X.env) = eval o X.env := by rfl) (hline : (apos.endLine == cpos.line) = true := by rfl) : PE X (.Call (.Attribute o name apos) [] [] cpos) (tBM0 X.K T r to) := by
  intro pins s σ H Q I h
  refine wpAny_Call_method0_late hbase hline (thn (ho pins s σ H _ I h) fun v s1 ⟨x, H1, I1, r1, ty, q1⟩ => ?_)
  obtain ⟨h1, h2⟩ := tyV_is I1 r1 ty
  exact ⟨T, id, pa, slot, hty, h1, h2, Calls.callWith_builtin rfl (PySem.evalArgs_none (hm pins s1 σ H1 x [] v [] Q I1 r1 .nil q1))⟩
theorem pe_bm (pa : PlainAttrs T) (slot : Slot T name id) (hty : typeOf (.builtin id) = pure (.type "method_descriptor")) (hm : MtR X id r) (ho : PE X o to) (ha : PA X (e :: es) t)
    (hbase : attributeBase o name X.env (eval o X.env) = eval o X.env := by rfl)
    (hfew : ((backTo cpos (starEach (e :: es) X.env)).all (fun x => !x.1) && (backToKw cpos (keywordEach [] X.env)).all (fun x => x.1.isSome)
      && decide ((e :: es).length + ([] : List Keyword).length + (if ([] : List Keyword).isEmpty then 0 else 1) < 30)) = true := by rfl)
    (hline : (apos.endLine == cpos.line) = true := by rfl) (hs : starEach (e :: es) X.env = (false, eval e X.env) :: starEach es X.env := by rfl) (hplain : (backTo cpos (starEach es X.env)).any (·.1) = false := by rfl) :
    PE X (.Call (.Attribute o name apos) (e :: es) [] cpos) (tBM X.K T r to t) := by
  intro pins s σ H Q I h
  refine wpAny_Call_method_late hbase hfew hline rfl (thn (ho pins s σ H _ I h) fun v s1 ⟨x, H1, I1, r1, ty, q1⟩ => ?_)
  obtain ⟨h1, h2⟩ := tyV_is I1 r1 ty
  refine ⟨T, id, pa, slot, hty, h1, h2, ?_⟩
  have hA := ha cpos pins s1 σ H1 _ I1 q1
  rw [hs] at hA ⊢
  refine Calls.callWith_builtin (by show (false || (backTo cpos (starEach es X.env)).any (·.1)) = false; rw [hplain] <;> rfl) (Calls.evalArgs_plain ?_)
  exact thn hA fun us s2 ⟨vs, H2, I2, r2, q2⟩ => hm pins s2 σ H2 x vs v us Q I2 r1 r2 q2
/- xs.append(e), list.index on a module's tuple .. are MtR facts of 06m -/
end
end L2
namespace L2
open PySem PySem.Spec PyProof.Rows
def MtM (X : Cx) (id : String) (r : V → List V → Hp → VK → Prop) : Prop :=
  ∀ (pins : List (Addr × Obj)) (s : Shared) (σ : St) (H : Hp) (x : V) (xs : List V) (v : Value) (us : List Value) (Q : VK), Inv X pins σ H s → RelV x v → Vals xs us → r x xs H Q →
    wpAny (model X.prog X.w) X.A (call (.builtin id) (v :: us)) (EP X pins σ Q) X.xe s
theorem Vals.one : ∀ {x : V} {us : List Value}, Vals [x] us → ∃ u, us = [u] ∧ RelV x u
  | _, _, .cons r .nil => ⟨_, rfl, r⟩
theorem Vals.zero : ∀ {us : List Value}, Vals [] us → us = []
  | _, .nil => rfl
theorem Vals.eraseIdx : ∀ {xs : List V} {us : List Value} (i : Nat), Vals xs us → Vals (xs.eraseIdx i) (us.eraseIdx i)
  | _, _, _, .nil => .nil
  | _, _, 0, .cons _ t => t
  | _, _, i + 1, .cons r t => .cons r (Vals.eraseIdx i t)
theorem Vals.reverse {xs : List V} {us : List Value} (h : Vals xs us) : Vals xs.reverse us.reverse := by
  induction h with
  | nil => exact .nil
  | cons r t ih => rw [List.reverse_cons, List.reverse_cons]; exact Vals.append ih (.cons r .nil)
section
variable {X : Cx} {pins : List (Addr × Obj)} {σ : St} {H : Hp} {s : Shared} {l b : Addr} {xs ys zs : List V}
theorem Inv.lset {its its' : List Value} {n : Nat} {f : Array Value → Array Value} {t' : Nat} (I : Inv X pins σ H s) (hH : H l = some (.lst xs))
    (e : s.heap.get? l = some { cls := .type "list", data := .seq its.toArray n }) (hf : f its.toArray = its'.toArray) (hv : Vals ys its') (hz : ys.length ≤ sizeLine) :
    Inv X pins σ (upd H l (.lst ys)) { s with heap := s.heap.update l (Obj.mapSeq f), toks := t' } := by
  have q := PySem.IsL.update e f
  rw [hf] at q
  refine I.write (x := l) (e := l) (by rw [hH]; exact trivial) (.inl rfl) (fun b' u hb hu => (Heap.get?_update_other s.heap (Obj.mapSeq f) (Ne.symm hb)).trans hu) ⟨_, q⟩ ?_
  exact ⟨hz, its', _, hv, q⟩
theorem Inv.lnew {its : List Value} {t' : Nat} (I : Inv X pins σ H s) (hv : Vals ys its) (hz : ys.length ≤ sizeLine) :
    Inv X pins σ (upd H s.heap.objs.size (.lst ys)) { s with heap := s.heap.push { cls := .type "list", data := .seq its.toArray }, toks := t' } :=
  I.laid (fun _ _ q => Heap.get?_push_of_some _ q) (Nat.le_refl _) ⟨hz, its, 0, hv, Heap.get?_push_size _ rfl⟩
theorem Inv.fresh (I : Inv X pins σ H s) : H s.heap.objs.size = none := I.hok.fresh (Nat.le_refl _)
theorem Inv.lstM (I : Inv X pins σ H s) (hH : H l = some (.lst xs)) : xs.length ≤ sizeLine ∧ ∃ (its : List Value) (n : Nat), Vals xs its ∧ xs.length = its.length ∧ s.heap.get? l = some { cls := .type "list", data := .seq its.toArray n } := by
  obtain ⟨z, its, n, r, e⟩ := I.hok l _ hH
  exact ⟨z, its, n, r, r.length, e⟩
end
section
variable {X : Cx}
def rAppend : V → List V → Hp → VK → Prop := fun x vs H Q => ∃ l xs y, x = .ref l ∧ vs = [y] ∧ H l = some (.lst xs) ∧ xs.length < sizeLine ∧ Q .non (upd H l (.lst (xs ++ [y])))
theorem mt_append : MtM X "list.append" rAppend := by
  intro pins s σ H x vs v us Q I rx rv h
  obtain ⟨l, xs, y, rfl, rfl, hH, hz, q⟩ := h
  cases rx
  obtain ⟨u, rfl, ru⟩ := rv.one
  obtain ⟨z, its, n, r, hl, e⟩ := I.lstM hH
  refine call_meets F.slot_list_append ⟨_, e, rfl⟩ F.entry_list_append (F.args_list_append_2 _ _) (PySem.list_append l its.toArray n u (by rw [List.size_toArray]; omega)) ⟨e, ?_⟩
  refine ⟨.non, _, I.lset (its' := its ++ [u]) hH e (by simp) (r.append (.cons ru .nil)) ?_, rfl, q⟩
  rw [List.length_append, List.length_singleton]
  omega
def rReverse : V → List V → Hp → VK → Prop := fun x vs H Q => ∃ l xs, x = .ref l ∧ vs = [] ∧ H l = some (.lst xs) ∧ Q .non (upd H l (.lst xs.reverse))
theorem mt_reverse : MtM X "list.reverse" rReverse := by
  intro pins s σ H x vs v us Q I rx rv h
  obtain ⟨l, xs, rfl, rfl, hH, q⟩ := h
  cases rx
  have hus := rv.zero
  subst hus
  obtain ⟨z, its, n, r, hl, e⟩ := I.lstM hH
  refine call_meets F.slot_list_reverse ⟨_, e, rfl⟩ F.entry_list_reverse (F.args_list_reverse_1 _) (AutoSeq1.list_reverse_list_0 l its.toArray n (by rw [List.size_toArray]; omega)) ⟨e, ?_⟩
  refine ⟨.non, _, I.lset (its' := its.reverse) hH e (by simp) r.reverse ?_, rfl, q⟩
  rw [List.length_reverse]
  omega
def rCat : R2 := fun x y H Q => ∃ l b xs zs, x = .ref l ∧ y = .ref b ∧ H l = some (.lst xs) ∧ H b = some (.lst zs) ∧ xs.length + zs.length ≤ sizeLine ∧ ∀ p, H p = none → Q (.ref p) (upd H p (.lst (xs ++ zs)))
theorem op_cat : OpR X (binaryOp .Add) rCat := by
  intro pins s σ H x y v u Q I rx ry h
  obtain ⟨l, b, xs, zs, rfl, rfl, hH, hB, hz, q⟩ := h
  cases rx
  cases ry
  obtain ⟨z, its, n, r, hl, e⟩ := I.lstM hH
  obtain ⟨z2, its2, n2, r2, hl2, e2⟩ := I.lstM hB
  refine PySem.P.add_list e e2 ?_ (by rw [List.size_toArray, List.size_toArray]; omega)
  have ea : its.toArray ++ its2.toArray = (its ++ its2).toArray := by simp
  rw [ea]
  exact ⟨.ref _, _, I.lnew (t' := s.toks) (r.append r2) (by rw [List.length_append]; omega), rfl, q _ I.fresh⟩
end
section
variable {prog : Program} {w : World} {A : Around} {E : Value → Shared → Prop} {s : Shared}
end
section
variable {X : Cx}
end
end L2
namespace L2
open PySem PySem.Spec PyProof.Rows
section
variable {κ : Type} [DecidableEq κ]
def valV (kvs : List (κ × V)) (k : κ) : Option V := (kvs.find? fun kv => decide (kv.1 = k)).map (·.2)
/-- in its place, or at the end -/
def putK (kvs : List (κ × V)) (k : κ) (v : V) : List (κ × V) :=
  if (kvs.any fun kv => decide (kv.1 = k)) = true then kvs.map (fun kv => if kv.1 = k then (kv.1, v) else kv) else kvs ++ [(k, v)]
def dropK (kvs : List (κ × V)) (k : κ) : List (κ × V) := kvs.filter fun kv => decide (kv.1 ≠ k)
theorem valV_pos {p : κ × V} {r : List (κ × V)} {k : κ} (e : p.1 = k) : valV (p :: r) k = some p.2 := by simp [valV, List.find?_cons, e]
theorem valV_neg {p : κ × V} {r : List (κ × V)} {k : κ} (e : ¬ p.1 = k) : valV (p :: r) k = valV r k := by simp [valV, List.find?_cons, e]
theorem valV_any (k : κ) : ∀ kvs : List (κ × V), (kvs.any fun kv => decide (kv.1 = k)) = (valV kvs k).isSome
  | [] => rfl
  | p :: r => by
    rw [List.any_cons]
    by_cases e : p.1 = k
    · simp only [valV_pos e, decide_eq_true e, Bool.true_or, Option.isSome_some]
    · rw [valV_neg e, decide_eq_false e, Bool.false_or]; exact valV_any k r
theorem length_putK (kvs : List (κ × V)) (k : κ) (v : V) : (putK kvs k v).length ≤ kvs.length + 1 := by
  unfold putK
  split
  · rw [List.length_map]; omega
  · rw [List.length_append, List.length_cons, List.length_nil]; omega
theorem putK_new {kvs : List (κ × V)} {k : κ} (v : V) (h : valV kvs k = none) : putK kvs k v = kvs ++ [(k, v)] := by
  unfold putK
  rw [valV_any, h]
  exact if_neg (by decide)
theorem RelO.isSome_eq {o : Option V} {u : Option Value} (r : RelO o u) : o.isSome = u.isSome := by
  cases o with
  | none => cases u with
    | none => rfl
    | some _ => exact (show False from r).elim
  | some _ => cases u with
    | none => exact (show False from r).elim
    | some _ => rfl
theorem RelO.getD {o : Option V} {u : Option Value} {d : V} {d' : Value} (r : RelO o u) (rd : RelV d d') : RelV (o.getD d) (u.getD d') := by
  cases o with
  | none => cases u with
    | none => exact rd
    | some _ => exact (show False from r).elim
  | some _ => cases u with
    | none => exact (show False from r).elim
    | some _ => exact r
/-- raw tables of the same keys -/
theorem KV.val {kvs : List (κ × V)} {vs : List (κ × Value)} (r : KV kvs vs) (k : κ) : RelO (valV kvs k) (valueAt vs k) := by
  unfold KV at r
  induction r with
  | nil => exact True.intro
  | @cons p q ps qs h t ih =>
    obtain ⟨h1, h2⟩ := h
    by_cases e : p.1 = k
    · have e' : q.1 = k := h1.symm.trans e
      have b : valueAt (q :: qs) k = some q.2 := by simp [valueAt, List.find?_cons, e']
      rw [valV_pos e, b]; exact h2
    · have e' : ¬ q.1 = k := fun z => e (h1.trans z)
      have b : valueAt (q :: qs) k = valueAt qs k := by simp [valueAt, List.find?_cons, e']
      rw [valV_neg e, b]; exact ih
theorem KV.any {kvs : List (κ × V)} {vs : List (κ × Value)} (r : KV kvs vs) (k : κ) : (kvs.any fun kv => decide (kv.1 = k)) = vs.any fun kv => decide (kv.1 = k) := by
  unfold KV at r
  induction r with
  | nil => rfl
  | cons h t ih => rw [List.any_cons, List.any_cons, ih, h.1]
theorem KV.repl {kvs : List (κ × V)} {vs : List (κ × Value)} (r : KV kvs vs) (k : κ) {y : V} {u : Value} (ry : RelV y u) :
    KV (kvs.map fun kv => if kv.1 = k then (kv.1, y) else kv) (vs.map fun kv => if kv.1 = k then (kv.1, u) else kv) := by
  unfold KV at r ⊢
  induction r with
  | nil => exact .nil
  | @cons p q ps qs h t ih =>
    rw [List.map_cons, List.map_cons]
    refine .cons ?_ ih
    obtain ⟨h1, h2⟩ := h
    by_cases e : p.1 = k
    · rw [if_pos e, if_pos (h1.symm.trans e)]; exact ⟨h1, ry⟩
    · rw [if_neg e, if_neg (fun z => e (h1.trans z))]; exact ⟨h1, h2⟩
theorem KV.put {kvs : List (κ × V)} {vs : List (κ × Value)} (r : KV kvs vs) (k : κ) {y : V} {u : Value} (ry : RelV y u) : KV (putK kvs k y) (stored vs k u) := by
  unfold putK stored
  rw [r.any k]
  by_cases e : (vs.any fun kv => decide (kv.1 = k)) = true
  · rw [if_pos e, if_pos e]; exact r.repl k ry
  · rw [if_neg e, if_neg e]; exact Paired.snoc r ⟨rfl, ry⟩
theorem KV.drop {kvs : List (κ × V)} {vs : List (κ × Value)} (r : KV kvs vs) (k : κ) : KV (dropK kvs k) (without vs k) := by
  unfold KV at r ⊢
  unfold dropK without
  induction r with
  | nil => exact .nil
  | @cons p q ps qs h t ih =>
    obtain ⟨h1, h2⟩ := h
    rw [List.filter_cons, List.filter_cons]
    by_cases e : p.1 = k
    · have a : ¬ decide (p.1 ≠ k) = true := by simp [e]
      have b : ¬ decide (q.1 ≠ k) = true := by simp [h1.symm.trans e]
      rw [if_neg a, if_neg b]; exact ih
    · have e' : ¬ q.1 = k := fun z => e (h1.trans z)
      have a : decide (p.1 ≠ k) = true := by simp [e]
      have b : decide (q.1 ≠ k) = true := by simp [e']
      rw [if_pos a, if_pos b]; exact .cons ⟨h1, h2⟩ ih
theorem KV.length {kvs : List (κ × V)} {vs : List (κ × Value)} (r : KV kvs vs) : kvs.length = vs.length := Paired.length r
theorem dropK_le (kvs : List (κ × V)) (k : κ) : (dropK kvs k).length ≤ kvs.length := List.length_filter_le _ _
end
theorem kV_is {P : Program} {w : World} {k : Key} {u : Value} (r : RelV (kV k) u) : (mixKind P w).is k u = true := by
  cases k with
  | inl i => obtain ⟨t, e⟩ := (show ∃ t, u = Value.int i t from r); subst e; exact mixKind_int P w i t
  | inr x => obtain ⟨t, e⟩ := (show ∃ t, u = Value.str x t from r); subst e; exact mixKind_str P w x t
theorem items_are {P : Program} {w : World} : ∀ {ks : List Key} {us : List Value}, Vals (ks.map kV) us → ItemsAre (mixKind P w) ks us
  | [], _, r => by rw [List.map_nil] at r; cases r; exact .nil
  | k :: ks, _, r => by
    rw [List.map_cons] at r
    cases r with
    | cons h t => exact .cons (kV_is h) (items_are t)
/-- raw entries of a dict with tuple keys -/
abbrev KT (H : Hp) : List (List Key × V) → List (List Key × Addr × Value) → Prop := Paired fun p q => p.1 = q.1 ∧ H q.2.1 = some (.tup (p.1.map kV)) ∧ RelV p.2 q.2.2
theorem KT.val {H : Hp} {kvs : List (List Key × V)} {xs : List (List Key × Addr × Value)} (r : KT H kvs xs) (k : List Key) : RelO (valV kvs k) ((atKey xs k).map (·.2)) := by
  induction r with
  | nil => exact True.intro
  | @cons p q ps qs h t ih =>
    obtain ⟨h1, _, h2⟩ := h
    by_cases e : p.1 = k
    · have e' : q.1 = k := h1.symm.trans e
      have b : atKey (q :: qs) k = some q.2 := by simp [atKey, List.find?_cons, e']
      rw [valV_pos e, b]; exact h2
    · have e' : ¬ q.1 = k := fun z => e (h1.trans z)
      have b : atKey (q :: qs) k = atKey qs k := by simp [atKey, List.find?_cons, e']
      rw [valV_neg e, b]; exact ih
theorem KT.repl {H : Hp} {kvs : List (List Key × V)} {xs : List (List Key × Addr × Value)} (r : KT H kvs xs) (k : List Key) {y : V} {u : Value} (ry : RelV y u) :
    KT H (kvs.map fun kv => if kv.1 = k then (kv.1, y) else kv) (xs.map (putAt k u)) := by
  induction r with
  | nil => exact .nil
  | @cons p q ps qs h t ih =>
    rw [List.map_cons, List.map_cons]
    refine .cons ?_ ih
    obtain ⟨h1, h2, h3⟩ := h
    unfold putAt
    by_cases e : p.1 = k
    · rw [if_pos e, if_pos (h1.symm.trans e)]; exact ⟨h1, h2, ry⟩
    · rw [if_neg e, if_neg (fun z => e (h1.trans z))]; exact ⟨h1, h2, h3⟩
theorem KT.put {H : Hp} {kvs : List (List Key × V)} {xs : List (List Key × Addr × Value)} (r : KT H kvs xs) (k : List Key) {b : Addr} {y : V} {u : Value} (hb : H b = some (.tup (k.map kV))) (ry : RelV y u) :
    KT H (putK kvs k y) (storedH xs k b u) := by
  have e : (kvs.any fun kv => decide (kv.1 = k)) = (atKey xs k).isSome := by
    rw [valV_any, (r.val k).isSome_eq, Option.isSome_map]
  unfold putK storedH
  rw [e]
  by_cases q : (atKey xs k).isSome = true
  · rw [if_pos q, if_pos q]; exact r.repl k ry
  · rw [if_neg q, if_neg q]; exact Paired.snoc r ⟨rfl, hb, ry⟩
theorem KT.keeps {H H' : Hp} {kvs : List (List Key × V)} {xs : List (List Key × Addr × Value)} (r : KT H kvs xs) (ht : ∀ b ys, H b = some (.tup ys) → H' b = some (.tup ys)) : KT H' kvs xs :=
  Paired.mapP r fun _ _ z => ⟨z.1, ht _ _ z.2.1, z.2.2⟩
section
variable {P : Program} {w : World} {H : Hp} {h : Heap} {a : Addr}
theorem rd_of {u : HO} (ok : HOk P w H h) (e : Rd H a u) : ObjOk P w H h a u := e.ok ok
theorem dk_rd {kvs : List (Key × V)} (ok : HOk P w H h) (e : Rd H a (.dK kvs)) : kvs.length ≤ sizeLine ∧ (a == sysModules) = false ∧ ∃ vs, KV kvs vs ∧ h.DictOf (mixKind P w) a vs :=
  show ObjOk P w H h a (.dK kvs) from rd_of ok e
theorem dk_of {kvs : List (Key × V)} (ok : HOk P w H h) (e : H a = some (.dK kvs)) : kvs.length ≤ sizeLine ∧ (a == sysModules) = false ∧ ∃ vs, KV kvs vs ∧ h.DictOf (mixKind P w) a vs := dk_rd ok (.inl e)
/-- a tracked tuple of ints and texts is a key -/
theorem key_of {ks : List Key} (ok : HOk P w H h) (e : H a = some (.tup (ks.map kV))) : (tupleKind (mixKind P w)).is h ks a := by
  obtain ⟨_, its, r, o, h1, h2, n, h3⟩ := (show ObjOk P w H h a (.tup (ks.map kV)) from ok a _ e)
  exact ⟨o, its.toArray, n, h1, h2, h3, by simpa using items_are r⟩
theorem dt_rd {kvs : List (List Key × V)} (ok : HOk P w H h) (e : Rd H a (.dT kvs)) : kvs.length ≤ sizeLine ∧ (a == sysModules) = false ∧
    ∃ xs, KT H kvs xs ∧ h.DictOfH (tupleKind (mixKind P w)) a xs := by
  obtain ⟨z, y, xs, r, o, es, ep, h1, h2, h3, h4, h5⟩ := (show ObjOk P w H h a (.dT kvs) from rd_of ok e)
  refine ⟨z, y, xs, r, o, es, ep, h1, h2, h3, h4, fun x hx => ?_, h5⟩
  have all : ∀ {l : List (List Key × V)} {m : List (List Key × Addr × Value)}, KT H l m → ∀ x ∈ m, (tupleKind (mixKind P w)).is h x.1 x.2.1 := by
    intro l m q
    induction q with
    | nil => intro x hx; exact nomatch hx
    | @cons p q ps qs hq t ih =>
      intro x hx
      rcases List.mem_cons.mp hx with e | hx
      · subst e
        exact key_of ok (by rw [← hq.1]; exact hq.2.1)
      · exact ih x hx
  exact all r x hx
theorem dt_of {kvs : List (List Key × V)} (ok : HOk P w H h) (e : H a = some (.dT kvs)) : kvs.length ≤ sizeLine ∧ (a == sysModules) = false ∧
    ∃ xs, KT H kvs xs ∧ h.DictOfH (tupleKind (mixKind P w)) a xs := dt_rd ok (.inl e)
end
/-- what the dict at a holds at the key y -/
def DGet (H : Hp) (a : Addr) (y : V) (r : Option V) : Prop :=
  (∃ kvs k, Rd H a (.dK kvs) ∧ y = kV k ∧ r = valV kvs k) ∨ ∃ kvs k b, Rd H a (.dT kvs) ∧ y = .ref b ∧ H b = some (.tup (k.map kV)) ∧ r = valV kvs k
/-- the heap behind a[y] = v -/
def DPut (H : Hp) (a : Addr) (y v : V) (H' : Hp) : Prop :=
  (∃ kvs k, H a = some (.dK kvs) ∧ y = kV k ∧ kvs.length < sizeLine ∧ H' = upd H a (.dK (putK kvs k v))) ∨
  ∃ kvs k b, H a = some (.dT kvs) ∧ y = .ref b ∧ H b = some (.tup (k.map kV)) ∧ kvs.length < sizeLine ∧ H' = upd H a (.dT (putK kvs k v))
theorem DGet.k {H : Hp} {a : Addr} {kvs : List (Key × V)} {k : Key} (e : H a = some (.dK kvs)) : DGet H a (kV k) (valV kvs k) := .inl ⟨kvs, k, .inl e, rfl, rfl⟩
theorem DGet.t {H : Hp} {a b : Addr} {kvs : List (List Key × V)} {k : List Key} (e : H a = some (.dT kvs)) (eb : H b = some (.tup (k.map kV))) : DGet H a (.ref b) (valV kvs k) := .inr ⟨kvs, k, b, .inl e, rfl, eb, rfl⟩
theorem DPut.k {H : Hp} {a : Addr} {kvs : List (Key × V)} {k : Key} {v : V} (e : H a = some (.dK kvs)) (hl : kvs.length < sizeLine) : DPut H a (kV k) v (upd H a (.dK (putK kvs k v))) := .inl ⟨kvs, k, e, rfl, hl, rfl⟩
theorem DPut.t {H : Hp} {a b : Addr} {kvs : List (List Key × V)} {k : List Key} {v : V} (e : H a = some (.dT kvs)) (eb : H b = some (.tup (k.map kV))) (hl : kvs.length < sizeLine) :
    DPut H a (.ref b) v (upd H a (.dT (putK kvs k v))) := .inr ⟨kvs, k, b, e, rfl, eb, hl, rfl⟩
section
variable {X : Cx} {pins : List (Addr × Obj)} {σ : St} {H : Hp} {s : Shared} {a : Addr} {y v : V} {u r : Value} {o : Option V} {A : Around} {E : Value → Shared → Prop}
theorem Inv.big (I : Inv X pins σ H s) : sysModules < s.heap.objs.size := by
  have h : mainGlobals < s.heap.objs.size := (I.mod.glob.keeps I.bk).lt
  exact Nat.lt_trans (by decide) h
/-- d[y], there -/
theorem d_getItem {Q : Value → Shared → Prop} (hu : A.units + 1 < cLine) (I : Inv X pins σ H s) (g : DGet H a y (some v)) (ry : RelV y u) (h : ∀ w' s', Inv X pins σ H s' → RelV v w' → Q w' s') :
    wpAny (model X.prog X.w) A (getItem (.ref a) u) Q E s := by
  rcases g with ⟨kvs, k, e, ey, l⟩ | ⟨kvs, k, b, e, ey, eb, l⟩
  · subst ey
    obtain ⟨z, hd, vs, rel, dd⟩ := dk_rd I.hok e
    obtain ⟨w', hw, rw'⟩ := RelO.some_of (v := v) (o := valueAt vs k) (by rw [l]; exact rel.val k)
    exact wpAny_getItem_of (kV_is ry) dd.mapOf hw (h w' _ (I.tok _) rw')
  · subst ey
    cases (show u = Value.ref b from ry)
    obtain ⟨z, hd, xs, rel, dd⟩ := dt_rd I.hok e
    obtain ⟨w', hw, rw'⟩ := RelO.some_of (v := v) (o := (atKey xs k).map (·.2)) (by rw [l]; exact rel.val k)
    obtain ⟨p, hp, hp2⟩ := Option.map_eq_some_iff.mp hw
    refine wpAny_getItem_heap (tupleKind_room_in1 hu) (key_of I.hok eb) dd hp ?_
    rw [hp2]
    exact h w' _ (I.tok _) rw'
/-- y in d -/
theorem d_in {Q : Value → Shared → Prop} (hu : A.units + 1 < cLine) (I : Inv X pins σ H s) (g : DGet H a y o) (ry : RelV y u) (h : ∀ s', Inv X pins σ H s' → Q (.bool o.isSome) s') :
    wpAny (model X.prog X.w) A (compareOp .In u (.ref a)) Q E s := by
  rcases g with ⟨kvs, k, e, ey, l⟩ | ⟨kvs, k, b, e, ey, eb, l⟩
  · subst ey
    obtain ⟨z, hd, vs, rel, dd⟩ := dk_rd I.hok e
    refine wpAny_in_of (kV_is ry) hd dd.mapOf ?_
    rw [← (rel.val k).isSome_eq, ← l]
    exact h _ (I.tok _)
  · subst ey
    cases (show u = Value.ref b from ry)
    obtain ⟨z, hd, xs, rel, dd⟩ := dt_rd I.hok e
    refine wpAny_in_heap (tupleKind_room_in1 hu) (key_of I.hok eb) hd dd ?_
    have q := (rel.val k).isSome_eq
    rw [Option.isSome_map] at q
    rw [← q, ← l]
    exact h _ (I.tok _)
theorem d_notIn {Q : Value → Shared → Prop} (hu : A.units + 1 < cLine) (I : Inv X pins σ H s) (g : DGet H a y o) (ry : RelV y u) (h : ∀ s', Inv X pins σ H s' → Q (.bool (!o.isSome)) s') :
    wpAny (model X.prog X.w) A (compareOp .NotIn u (.ref a)) Q E s := by
  rcases g with ⟨kvs, k, e, ey, l⟩ | ⟨kvs, k, b, e, ey, eb, l⟩
  · subst ey
    obtain ⟨z, hd, vs, rel, dd⟩ := dk_rd I.hok e
    refine wpAny_notIn_of (kV_is ry) hd dd.mapOf ?_
    rw [← (rel.val k).isSome_eq, ← l]
    exact h _ (I.tok _)
  · subst ey
    cases (show u = Value.ref b from ry)
    obtain ⟨z, hd, xs, rel, dd⟩ := dt_rd I.hok e
    refine wpAny_notIn_heap (tupleKind_room_in1 hu) (key_of I.hok eb) hd dd ?_
    have q := (rel.val k).isSome_eq
    rw [Option.isSome_map] at q
    rw [← q, ← l]
    exact h _ (I.tok _)
/-- a dict's object is replaced -/
theorem d_write {h' : Heap} {t' : Nat} {ob : HO} (I : Inv X pins σ H s) (mu : Mut (H a)) (hs : Heap.SameBut a s.heap h') (he : ∃ q, h'.get? a = some q) (new : ObjOk X.prog X.w (upd H a ob) h' a ob) :
    Inv X pins σ (upd H a ob) { s with heap := h', toks := t' } :=
  I.write (x := a) (e := a) mu (.inl rfl) (fun b q hb z => (hs.2 b hb).trans z) he new
theorem dk_new {P : Program} {w : World} {H' : Hp} {h' : Heap} {kvs : List (Key × V)} {vs : List (Key × Value)} (z : kvs.length ≤ sizeLine) (hd : (a == sysModules) = false) (rel : KV kvs vs) (dd : h'.DictOf (mixKind P w) a vs) :
    ObjOk P w H' h' a (.dK kvs) := ⟨z, hd, vs, rel, dd⟩
/-- d[y] = v -/
theorem d_setItem {H' : Hp} {Q : Unit → Shared → Prop} (hu : A.units + 1 < cLine) (I : Inv X pins σ H s) (g : DPut H a y v H') (ry : RelV y u) (rv : RelV v r) (h : ∀ s', Inv X pins σ H' s' → Q () s') :
    wpAny (model X.prog X.w) A (setItem (.ref a) u r) Q E s := by
  rcases g with ⟨kvs, k, e, ey, l, eH⟩ | ⟨kvs, k, b, e, ey, eb, l, eH⟩
  · subst ey eH
    obtain ⟨z, hd, vs, rel, dd⟩ := dk_of I.hok e
    have hz : vs.length ≤ sizeLine := by rw [← rel.length]; exact z
    have hl : (putK kvs k v).length ≤ sizeLine := by have := length_putK kvs k v; omega
    refine wpAny_setItem_pairs (hsz := hz) (kV_is ry) dd fun h' dd' hs => h _ ?_
    have he : ∃ q, h'.get? a = some q := let ⟨q, _, _, hq, _⟩ := dd'; ⟨q, hq⟩
    exact d_write I (by rw [e]; exact True.intro) hs he (dk_new hl hd (rel.put k rv) dd')
  · subst ey eH
    cases (show u = Value.ref b from ry)
    obtain ⟨z, hd, xs, rel, dd⟩ := dt_of I.hok e
    have hz : xs.length ≤ sizeLine := by rw [← Paired.length rel]; exact z
    have hl : (putK kvs k v).length ≤ sizeLine := by have := length_putK kvs k v; omega
    refine wpAny_setItem_heap (hsz := hz) (tupleKind_room_in1 hu) (key_of I.hok eb) dd fun h' dd' hs => h _ ?_
    obtain ⟨q, es, ep, hq, h2, h3, h4, _, h5⟩ := dd'
    refine d_write I (by rw [e]; exact True.intro) hs ⟨q, hq⟩ ⟨hl, hd, _, (rel.put k eb rv).keeps fun c ys ec => ?_, q, es, ep, hq, h2, h3, h4, h5⟩
    rw [upd_ne (ne_of ec e (fun z => nomatch z))]
    exact ec
end
section
variable {X : Cx} {pins : List (Addr × Obj)} {σ : St} {H : Hp} {s : Shared} {a : Addr} {kvs : List (Key × V)} {k : Key} {u : Value} {A : Around} {E : Value → Shared → Prop}
/-- d.pop(k[, x]), there -/
theorem d_pop {v : V} {more : List Value} {Q : Value → Shared → Prop} (I : Inv X pins σ H s) (e : H a = some (.dK kvs)) (ry : RelV (kV k) u) (l : valV kvs k = some v) (hm : more = [] ∨ ∃ x, more = [x])
    (h : ∀ w' s', Inv X pins σ (upd H a (.dK (dropK kvs k))) s' → RelV v w' → Q w' s') : wpAny (model X.prog X.w) A (call (.builtin "dict.pop") (.ref a :: u :: more)) Q E s := by
  obtain ⟨z, hd, vs, rel, dd⟩ := dk_of I.hok e
  obtain ⟨w', hw, rw'⟩ := RelO.some_of (v := v) (o := valueAt vs k) (by rw [← l]; exact rel.val k)
  have hp : (keyPart u).isSome = true := by
    cases k with
    | inl i => obtain ⟨t, q⟩ := (show ∃ t, u = Value.int i t from ry); subst q; rfl
    | inr x => obtain ⟨t, q⟩ := (show ∃ t, u = Value.str x t from ry); subst q; rfl
  have ha : argsOk "dict.pop" ⟨.ref a :: u :: more, []⟩ := by
    rcases hm with q | ⟨x, q⟩
    · subst q; exact PySem.F.args_dict_pop_2 _ _
    · subst q; exact PySem.F.args_dict_pop_3 _ _ _
  refine call_meetsIn PySem.F.slot_dict_pop dd.typeIs PySem.F.entry_dict_pop ha (meets_dict_pop_there (mixKind X.prog X.w) a (kV_is ry) more hm hp)
    ⟨vs, w', dd, by rw [← rel.length]; exact z, hw, fun h' dd' hs => h w' _ ?_ rw'⟩
  have he : ∃ q, h'.get? a = some q := let ⟨q, _, _, hq, _⟩ := dd'; ⟨q, hq⟩
  exact d_write I (by rw [e]; exact True.intro) hs he (dk_new (Nat.le_trans (dropK_le kvs k) z) hd (rel.drop k) dd')
end
/-- the element of a subscription, not a slice -/
def NoSl (i : Expr) : Prop := ∀ ov iv, subscripted i false ov iv = operate [ov, iv] (getItem ov iv)
theorem subD_of {prog : Program} {w : World} {A : Around} {E : Value → Shared → Prop} {s : Shared} {env : Env} {value slice : Expr} {pos : Pos} {T id : String} {Q : Value → Shared → Prop}
    (hl : typeLookup (.type T) "__getitem__" = pure (some (.builtin id))) (hs : NoSl slice)
    (h : wpAny (model prog w) A (eval value env) (fun o s₁ => wpAny (model prog w) A (eval slice env) (fun i s₂ => s₂.TypeIs o T ∧ wpAny (model prog w) A (getItem o i) Q E s₂) E s₁) E s) :
    wpAny (model prog w) A (eval (.Subscript value slice pos) env) Q E s := by
  refine Subscript_ (wpAny_mono h (fun o s₁ h₁ => wpAny_mono h₁ (fun i s₂ h₂ => ?_) fun _ _ x => x) fun _ _ x => x)
  obtain ⟨hT, h₂⟩ := h₂
  unfold subscriptTail
  refine wpAny_bind ?_
  rw [getitemInPython_of_ne hT.not_modules]
  refine wpAny_bind (wpAny_specialOf hT hl ?_)
  have fin : wpAny (model prog w) A (subscripted slice false o i) (fun r s₃ => wpAny (model prog w) A (letTemporaryGo value o r >>= fun _ => pure r) Q E s₃) E s₂ := by
    rw [hs o i]
    exact wpAny_operating (wpAny_mono h₂ (fun r s₃ h₃ => wpAny_bind (wpAny_letTemporaryGo (wpAny_pure h₃))) fun _ _ x => x)
  first
    | exact wpAny_pure (wpAny_bind fin)
    | exact wpAny_bind (wpAny_pure (wpAny_bind fin))
    | exact wpAny_bind fin
theorem dict_typeIs {X : Cx} {pins : List (Addr × Obj)} {σ : St} {H : Hp} {s : Shared} {a : Addr} {y : V} {o : Option V} (I : Inv X pins σ H s) (g : DGet H a y o) : s.TypeIs (.ref a) "dict" := by
  rcases g with ⟨kvs, k, e, _, _⟩ | ⟨kvs, k, b, e, _, _, _⟩
  · obtain ⟨_, _, vs, _, dd⟩ := dk_rd I.hok e
    exact dd.typeIs
  · obtain ⟨_, _, xs, _, dd⟩ := dt_rd I.hok e
    exact dd.typeIs
/-- d[y] -/
def tDGet (td ty : TE) : TE := fun σ H Q => td σ H fun x H1 => ty σ H1 fun y H2 => ∃ a v, x = .ref a ∧ DGet H2 a y (some v) ∧ Q v H2
/-- y in d, y not in d -/
def tDIn (ty td : TE) : TE := fun σ H Q => ty σ H fun y H1 => td σ H1 fun x H2 => ∃ a o, x = .ref a ∧ DGet H2 a y o ∧ Q (.bl o.isSome) H2
def tDNotIn (ty td : TE) : TE := fun σ H Q => ty σ H fun y H1 => td σ H1 fun x H2 => ∃ a o, x = .ref a ∧ DGet H2 a y o ∧ Q (.bl (!o.isSome)) H2
/-- d[y] = v -/
def sDPut (td ty tv : TE) : TS := fun D σ H => tv σ H fun v H1 => td σ H1 fun x H2 => ty σ H2 fun y H3 => ∃ a H4, x = .ref a ∧ DPut H3 a y v H4 ∧ D.nx σ H4
section
variable {X : Cx} {o i e value : Expr} {pos pos' tpos : Pos} {td ty tv : TE}
theorem pe_dget (hu : X.A.units + 1 < cLine) (ho : PE X o td) (hi : PE X i ty) (hs : NoSl i) : PE X (.Subscript o i pos) (tDGet td ty) := by
  intro pins s σ H Q I h
  refine subD_of PySem.F.slot_dict_getitem.lookup hs (thn (ho pins s σ H _ I h) fun u s1 ⟨x, H1, I1, rx, q1⟩ => thn (hi pins s1 σ H1 _ I1 q1) fun iv s2 ⟨y, H2, I2, ry, a, v, ex, g, q2⟩ => ?_)
  subst ex
  obtain rfl : u = Value.ref a := rx
  exact ⟨dict_typeIs I2 g, d_getItem hu I2 g ry fun w' s3 I3 rw' => ⟨v, H2, I3, rw', q2⟩⟩
theorem pc_din (hu : X.A.units + 1 < cLine) (hi : PE X i ty) (ho : PE X o td) : PC X .In i o (tDIn ty td) := by
  intro pins s σ H Q I h
  refine thn (hi pins s σ H _ I h) fun iv s1 ⟨y, H1, I1, ry, q1⟩ => thn (ho pins s1 σ H1 _ I1 q1) fun u s2 ⟨x, H2, I2, rx, a, ov, ex, g, q2⟩ => ?_
  subst ex
  obtain rfl : u = Value.ref a := rx
  exact d_in hu I2 g ry fun s3 I3 => ⟨.bl ov.isSome, H2, I3, rfl, q2⟩
theorem pc_dnotin (hu : X.A.units + 1 < cLine) (hi : PE X i ty) (ho : PE X o td) : PC X .NotIn i o (tDNotIn ty td) := by
  intro pins s σ H Q I h
  refine thn (hi pins s σ H _ I h) fun iv s1 ⟨y, H1, I1, ry, q1⟩ => thn (ho pins s1 σ H1 _ I1 q1) fun u s2 ⟨x, H2, I2, rx, a, ov, ex, g, q2⟩ => ?_
  subst ex
  obtain rfl : u = Value.ref a := rx
  exact d_notIn hu I2 g ry fun s3 I3 => ⟨.bl (!ov.isSome), H2, I3, rfl, q2⟩
theorem ps_dput (hu : X.A.units + 1 < cLine) (ho : PE X o td) (hi : PE X i ty) (hv : PE X value tv) (hs : swapsWith value (some (.Subscript o i pos')) pos.line X.env = pure false) :
    PS X (.Assign [.Subscript o i pos'] value pos) (sDPut td ty tv) := by
  intro pins s σ H D I h
  refine wpAny_Assign_Subscript (thn (hv pins s σ H _ I h) fun r s1 ⟨v, H1, I1, rv, q1⟩ => thn (ho pins s1 σ H1 _ I1 q1) fun u s2 ⟨x, H2, I2, rx, q2⟩ => thn (hi pins s2 σ H2 _ I2 q2) fun iv s3 ⟨y, H3, I3, ry, a, H4, ex, g, q3⟩ => ?_) hs
  subst ex
  obtain rfl : u = Value.ref a := rx
  exact d_setItem hu I3 g ry rv fun s4 I4 => ⟨σ, H4, I4, q3⟩
end
theorem dk_empty {P : Program} {w : World} {H : Hp} (h : Heap) (hb : sysModules < h.objs.size) : ObjOk P w H (h.push { cls := .type "dict", data := .dict #[] }) h.objs.size (.dK []) :=
  ⟨Nat.zero_le _, beq_eq_false_iff_ne.mpr (Ne.symm (Nat.ne_of_lt hb)), [], .nil, Heap.DictOf.new h⟩
/-- {}, to be a dict of the kind that is wanted -/
def tDNewK : TE := fun _ H Q => ∀ p, H p = none → Q (.ref p) (upd H p (.dK []))
section
variable {X : Cx} {pos : Pos}
theorem pe_dnewK : PE X (.Dict [] [] pos) tDNewK := fun pins s σ H Q I h =>
  wpAny_Dict_empty ⟨.ref s.heap.objs.size, _, I.laid (a := s.heap.objs.size) (o := .dK []) (t' := s.toks) (fun _ _ q => Heap.get?_push_of_some _ q) (Nat.le_refl _) (dk_empty s.heap I.big), rfl, h _ (I.hok.fresh (Nat.le_refl _))⟩
end
/-- a method call o.m(e) of a built-in, with one argument: what must be seen of the text -/
structure M1 (X : Cx) (o : Expr) (m : Str) (apos : Pos) (e : Expr) (cpos : Pos) : Prop where
  base : attributeBase o m X.env (eval o X.env) = eval o X.env
  few : ((backTo cpos (starEach [e] X.env)).all (fun x => !x.1) && (backToKw cpos (keywordEach [] X.env)).all (fun x => x.1.isSome)
    && decide (([e] : List Expr).length + ([] : List Keyword).length + (if ([] : List Keyword).isEmpty then 0 else 1) < 30)) = true
  line : (apos.endLine == cpos.line) = true
  trees : backTo cpos (starEach [e] X.env) = [(false, eval e X.env)]
structure M2 (X : Cx) (o : Expr) (m : Str) (apos : Pos) (e f : Expr) (cpos : Pos) : Prop where
  base : attributeBase o m X.env (eval o X.env) = eval o X.env
  few : ((backTo cpos (starEach [e, f] X.env)).all (fun x => !x.1) && (backToKw cpos (keywordEach [] X.env)).all (fun x => x.1.isSome)
    && decide (([e, f] : List Expr).length + ([] : List Keyword).length + (if ([] : List Keyword).isEmpty then 0 else 1) < 30)) = true
  line : (apos.endLine == cpos.line) = true
  trees : backTo cpos (starEach [e, f] X.env) = [(false, eval e X.env), (false, eval f X.env)]
/-- a is a dict, whatever its keys -/
def IsD (H : Hp) (a : Addr) : Prop := (∃ kvs, Rd H a (.dK kvs)) ∨ ∃ kvs, Rd H a (.dT kvs)
theorem isD_at {X : Cx} {pins : List (Addr × Obj)} {σ : St} {H : Hp} {s : Shared} {a : Addr} (I : Inv X pins σ H s) (d : IsD H a) :
    s.TypeIs (.ref a) "dict" ∧ (∀ b, Value.ref a = .ref b → ∃ ob, s.heap.get? b = some ob ∧ ob.dict = none) ∧ (a == sysModules) = false := by
  rcases d with ⟨kvs, e⟩ | ⟨kvs, e⟩
  · obtain ⟨_, hd, vs, _, dd⟩ := dk_rd I.hok e
    refine ⟨dd.typeIs, fun b q => ?_, hd⟩
    cases q
    obtain ⟨ob, _, _, h1, h2, _⟩ := dd
    exact ⟨ob, h1, h2.2.1⟩
  · obtain ⟨_, hd, xs, _, dd⟩ := dt_rd I.hok e
    refine ⟨dd.typeIs, fun b q => ?_, hd⟩
    cases q
    obtain ⟨ob, _, _, h1, h2, _⟩ := dd
    exact ⟨ob, h1, h2.2.1⟩
section
variable {X : Cx} {pins : List (Addr × Obj)} {σ : St} {H : Hp} {s : Shared} {a : Addr} {y d : V} {u r : Value} {o : Option V} {A : Around} {E : Value → Shared → Prop}
/-- d.get(y, x) -/
theorem d_get2 {Q : Value → Shared → Prop} (hu : A.units + 1 < cLine) (I : Inv X pins σ H s) (g : DGet H a y o) (ry : RelV y u) (rd : RelV d r) (h : ∀ w' s', Inv X pins σ H s' → RelV (o.getD d) w' → Q w' s') :
    wpAny (model X.prog X.w) A (call (.builtin "dict.get") [.ref a, u, r]) Q E s := by
  rcases g with ⟨kvs, k, e, ey, l⟩ | ⟨kvs, k, b, e, ey, eb, l⟩
  · subst ey
    obtain ⟨z, hd, vs, rel, dd⟩ := dk_rd I.hok e
    refine call_meetsIn PySem.F.slot_dict_get dd.typeIs PySem.F.entry_dict_get (PySem.F.args_dict_get_3 _ _ _) (meets_dict_get_default (mixKind X.prog X.w) a (kV_is ry) hd r) ⟨_, dd.mapOf, h _ _ (I.tok _) ?_⟩
    rw [l]
    exact (rel.val k).getD rd
  · subst ey
    cases (show u = Value.ref b from ry)
    obtain ⟨z, hd, xs, rel, dd⟩ := dt_rd I.hok e
    refine call_meetsIn PySem.F.slot_dict_get dd.typeIs PySem.F.entry_dict_get (PySem.F.args_dict_get_3 _ _ _) (meetsH_dict_get_default (tupleKind (mixKind X.prog X.w)) a b hd r) ⟨tupleKind_room_in1 hu, k, xs, key_of I.hok eb, dd, h _ _ (I.tok _) ?_⟩
    rw [l]
    exact (rel.val k).getD rd
end
def tDGet2 (td ty tx : TE) : TE := fun σ H Q => td σ H fun x H1 => ∃ a, x = .ref a ∧ IsD H1 a ∧ ty σ H1 fun y H2 => tx σ H2 fun z H3 => ∃ o, DGet H3 a y o ∧ Q (o.getD z) H3
/-- d.pop(k): there; d.pop(k, x): there or not -/
def tDPop1 (td ty : TE) : TE := fun σ H Q => td σ H fun x H1 => ∃ a, x = .ref a ∧ IsD H1 a ∧ ty σ H1 fun y H2 => ∃ kvs k v, H2 a = some (.dK kvs) ∧ y = kV k ∧ valV kvs k = some v ∧ Q v (upd H2 a (.dK (dropK kvs k)))
section
variable {X : Cx} {o e f : Expr} {apos cpos : Pos} {td ty tx : TE}
theorem pe_dget2 (hu : X.A.units + 1 < cLine) (ho : PE X o td) (he : PE X e ty) (hf : PE X f tx) (m : M2 X o "get" apos e f cpos) : PE X (.Call (.Attribute o "get" apos) [e, f] [] cpos) (tDGet2 td ty tx) := by
  intro pins s σ H Q I h
  refine wpAny_Call_method m.base m.few m.line PySem.F.plainAttrs_dict PySem.F.slot_dict_get PySem.F.type_dict_get (thn (ho pins s σ H _ I h) fun u s1 ⟨x, H1, I1, rx, a, ex, d, q1⟩ => ?_)
  subst ex
  obtain rfl : u = Value.ref a := rx
  obtain ⟨t1, t2, _⟩ := isD_at I1 d
  refine ⟨t1, t2, ?_⟩
  rw [m.trees]
  refine Calls.callWith_builtin rfl (Calls.evalArgs_plain (Calls.spliced_cons (thn (he pins s1 σ H1 _ I1 q1) fun iv s2 ⟨y, H2, I2, ry, q2⟩ =>
    Calls.spliced_cons (thn (hf pins s2 σ H2 _ I2 q2) fun fv s3 ⟨z, H3, I3, rz, ov, g, q3⟩ => Calls.spliced_nil ?_))))
  exact d_get2 hu I3 g ry rz fun w' s4 I4 rw' => ⟨_, H3, I4, rw', q3⟩
theorem pe_dpop1 (ho : PE X o td) (he : PE X e ty) (m : M1 X o "pop" apos e cpos) : PE X (.Call (.Attribute o "pop" apos) [e] [] cpos) (tDPop1 td ty) := by
  intro pins s σ H Q I h
  refine wpAny_Call_method m.base m.few m.line PySem.F.plainAttrs_dict PySem.F.slot_dict_pop PySem.F.type_dict_pop (thn (ho pins s σ H _ I h) fun u s1 ⟨x, H1, I1, rx, a, ex, d, q1⟩ => ?_)
  subst ex
  obtain rfl : u = Value.ref a := rx
  obtain ⟨t1, t2, _⟩ := isD_at I1 d
  refine ⟨t1, t2, ?_⟩
  rw [m.trees]
  refine Calls.callWith_builtin rfl (Calls.evalArgs_plain (Calls.spliced_cons (thn (he pins s1 σ H1 _ I1 q1) fun iv s2 ⟨y, H2, I2, ry, kvs, k, v, ea, ey, l, q2⟩ => Calls.spliced_nil ?_)))
  subst ey
  exact d_pop I2 ea ry l (.inl rfl) fun w' s3 I3 rw' => ⟨v, _, I3, rw', q2⟩
end
section
variable {X : Cx} {pins : List (Addr × Obj)} {σ : St} {H : Hp} {s : Shared} {a : Addr} {kvs : List (Key × V)} {A : Around} {E : Value → Shared → Prop}
end
section
variable {X : Cx} {pins : List (Addr × Obj)} {σ : St} {H : Hp} {s : Shared} {a : Addr} {y : V} {u : Value} {A : Around} {E : Value → Shared → Prop}
end
end L2
namespace Att
open PySem PySem.W PySem.Calls PyProof.Rows
theorem ints_of_wellAll {P : Params} {h : Heap} : ∀ (ns : List Int) (vs : List Value), WellAll P h vs (ns.map WData.int) → IntsAre vs ns := by
  intro ns
  induction ns with
  | nil =>
    intro vs w
    rw [List.map_nil] at w
    cases w
    exact .nil
  | cons n ns ih =>
    intro vs w
    rw [List.map_cons] at w
    cases w with
    | cons a b =>
      cases a
      exact .cons _ _ (ih _ b)
theorem script_of {l : OpenLaw} {n : Nat} (hn : l.most = some n) {P : Params} {h : Heap} {args : List WData} {vals : List Value}
    (hpre : l.row.toRowW.claim.pre args = true) (hwl : WellAll P h vals args) :
    ∃ a vs ns, vals = [Value.ref a] ∧ args = [WData.list (ns.map WData.int)] ∧ h.get? a = some { cls := .type "list", data := .seq vs.toArray } ∧ IntsAre vs ns ∧ ns.length ≤ n := by
  have hsh : WShape.hasAll [] args [.list .int] = true := (pre_splitW hpre).1
  have hc : l.pre.holds [] { args := args } = true := (pre_splitW hpre).2
  obtain ⟨d, r, rfl, h1, h2⟩ := hasAllW_cons hsh
  obtain rfl := hasAllW_nil h2
  obtain ⟨xs, rfl, h3⟩ := hasW_list h1
  obtain ⟨ns, rfl⟩ := items_int h3
  have hlen : ns.length ≤ n := by
    unfold OpenLaw.pre at hc
    have h4 : (WTm.not (.lt (.lit (.int (n : Int))) (.len (.arg 0)))).holds [] { args := [.list (ns.map .int)] } = true := by
      have h4 := (holds_andW hc).1
      rw [hn] at h4
      exact h4
    have h5 := condW_of h4 (w_not (w_lt w_lit (w_len_list (w_arg rfl))))
    rw [List.length_map] at h5
    refine Nat.le_of_not_lt fun q => ?_
    have q' : (n : Int) < ((ns.length : Nat) : Int) := by omega
    first
      | (rw [decide_eq_true q'] at h5; exact absurd h5 (by decide))
      | (simp at h5; omega)
  cases hwl with
  | cons w1 w2 =>
    cases w2
    cases w1 with
    | list ho hall => exact ⟨_, _, ns, rfl, rfl, ho, ints_of_wellAll ns _ hall, hlen⟩
theorem post_true (l : OpenLaw) (args : List WData) : l.row.toRowW.claim.post args (.bool true) args = true :=
  postW_of (r := l.row.toRowW) (X := (true == true))
    (show WShape.has [] (.bool true) .bool = true by first | rfl | decide | simp [WShape.has, WShape.arms, WShape.armsAll])
    (show (WTm.eq .res (.lit (.bool true))).value [] { args := args, res := some (.bool true), after := args } = some (.bool (true == true)) from w_eq_bool (w_res rfl) w_lit) rfl
/-- the same from a codeAny of the CALL (for a layer whose function contracts speak of calls) -/
theorem attach_call {l : OpenLaw} {n : Nat} {q : Program} {loose : List Str} {XP : (Str → Option Value) → Heap → Prop} {YP : World → Heap → Prop} {d : DefRec}
    (hn : l.most = some n) (hdf : d.params.defaults = [])
    (call : ∀ (w : World) (s₀ s₁ : Shared) (mg mb : Str → Option Value) (fa : Addr) (o : Obj) (pm cd doc : Value) (a : Addr) (vs : List Value) (ns : List Int),
      Ground q loose [] XP w s₀ mg mb s₁.heap → YP w s₁.heap →
      s₁.heap.get? fa = some o → o.data = .func (docDef d.name d.params d.body d.scope pm cd doc) → s₁.heap.CodeRec cd d.name → mg d.name = some (.ref fa) →
      s₁.heap.get? a = some { cls := .type "list", data := .seq vs.toArray } → IntsAre vs ns → ns.length ≤ n → s₁.gens = #[] →
      codeAny (model l.prog w) callerA (.call (.ref fa) ⟨[.ref a], []⟩) (fun r s' => r = .ok (.ret (.bool true)) ∧ OldK s₁.heap s'.heap ∧ s'.os = s₁.os ∧ AllBare s'.gens) s₁) :
    WalkO q loose XP YP l.row.toRowW d [] (fun f vs => PySem.call f vs) := by
  intro w s₀ s₁ mg mb G Y fa o pm cd doc dV kV ho hd hcd hD hmg hg args vals as hpre hlay hrd hwl hlo
  obtain rfl : dV = .none := Dflts.none hD hdf
  obtain rfl : kV = .none := Dflts.noKw hD
  obtain ⟨a, vs, ns, rfl, rfl, hobj, hints, hlen⟩ := script_of hn hpre hwl
  refine enter_call (codeAny_mono (call w s₀ s₁ mg mb fa o pm cd doc a vs ns G Y ho (fd_plain hd) hcd hmg hobj hints hlen hg) fun r s' hq => ?_)
  obtain ⟨rfl, h2, h3, h4⟩ := hq
  exact ⟨.inl ⟨.bool true, .bool true, [], rfl, fun _ => rfl, .bool true, post_true l _, fun _ => ⟨List.Pairwise.nil, fun _ hm => (nomatch hm)⟩⟩, h2, h3, h4⟩
section
variable {prog : Program} {w : World} {A : Around} {E : Value → Shared → Prop} {s : Shared} {K : Frag}
end
end Att
namespace L2
open PySem PySem.Spec PyProof.Rows
theorem vals_ints : ∀ {vs : List Value} {ns : List Int}, IntsAre vs ns → Vals (ns.map V.int) vs
  | _, _, .nil => .nil
  | _, _, .cons n t h => .cons ⟨t, rfl⟩ (vals_ints h)
/-- nothing is tracked but the script, known to the object (or it is an object of the module) -/
def Only (H : Hp) : Prop := ∀ b, H b = none ∨ ∃ o xs, H b = some (.frz o (.lst xs))
/-- THE HEAD: the law's promise, at the heap behind the top. F, the promise of the law's def, may use that base is part of the heap (so K.In base, base.Ns mainGlobals mg stand in Mod) -/
theorem law_call {P : Program} {w : World} {K : PySem.W.Frag} {mg mb : Str → Option Value} {CX : CXT} {k : Nat} {fa a : Addr} {fd : FuncData} {x : Str} {sp : Sp} {s₁ : Shared} {vs : List Value} {ns : List Int}
    (KX : K.In s₁.heap) (hns : s₁.heap.Ns mainGlobals mg) (hb : s₁.heap.Ns builtinsNs mb) (hbb : ∀ x : Str, x ≠ "__name__" → mb x = bootBuiltins x) (hlim : s₁.heap.NoLimit) (hg : s₁.gens = #[])
    (ha : s₁.heap.get? a = some { cls := .type "list", data := .seq vs.toArray }) (hi : IntsAre vs ns) (hl : ns.length ≤ sizeLine) (hr : Room k callerA)
    (F : ∀ base : Heap, K.In base → base.Ns mainGlobals mg → FnOk P w K mg base CX k fa fd [x] sp) (hbind : ∀ (s : Shared) (u : Value), BindsTo s fd ⟨[u], []⟩ [(x, u)])
    (hsp : ∀ H : Hp, Only H → SqL K H a (ns.map V.int) → sp [.ref a] H (fun v _ => v = .bl true) fun _ _ _ => False)
    (hCX : ∀ H e s', CX [] H s₁ (fun _ _ _ => False) e s' → False) :
    codeAny (model P w) callerA (.call (.ref fa) ⟨[.ref a], []⟩) (fun r s' => r = .ok (.ret (.bool true)) ∧ OldK s₁.heap s'.heap ∧ s'.os = s₁.os ∧ AllBare s'.gens) s₁ := by
  have rv := vals_ints hi
  have lenV := hi.length
  -- from an abstract heap in which nothing but the script may be tracked
  have core : ∀ H : Hp, Only H → SqL K H a (ns.map V.int) → HOk P w H s₁.heap → (∀ b, H b ≠ none → b = a) → (H a ≠ none → K.lookup a = none) →
      codeAny (model P w) callerA (.call (.ref fa) ⟨[.ref a], []⟩) (fun r s' => r = .ok (.ret (.bool true)) ∧ OldK s₁.heap s'.heap ∧ s'.os = s₁.os ∧ AllBare s'.gens) s₁ := by
    intro H hO hS hok hA hK
    have base_of : ∀ {b : Addr} {o : Obj}, s₁.heap.get? b = some o → H b = none → (hidT s₁.heap H).get? b = some o := fun e n => hidT_get e n
    have noA : ∀ {b : Addr} {o : Obj} {es : Array DictEntry} {ep : Nat}, s₁.heap.get? b = some o → o.data = .dict es ep → H b = none := fun {b o es ep} e d => by
      cases q : H b with
      | none => rfl
      | some u =>
        have e' : b = a := hA b (by rw [q]; simp)
        subst e'
        rw [ha] at e; cases e
        have d' : Data.seq vs.toArray _ = Data.dict es ep := d
        cases d'
    have nsK : ∀ {b : Addr} {m : Str → Option Value}, s₁.heap.Ns b m → (hidT s₁.heap H).Ns b m := fun {b m} ⟨o, es, ep, e, d, r⟩ => ⟨o, es, ep, base_of e (noA e d), d, r⟩
    have hKb : K.In (hidT s₁.heap H) := fun b o e => base_of (KX b o e) (by
      cases q : H b with
      | none => rfl
      | some u =>
        have e' : b = a := hA b (by rw [q]; simp)
        subst e'
        rw [hK (by rw [q]; simp)] at e; cases e)
    have hM : Mod K mg (hidT s₁.heap H) := ⟨hKb, nsK hns, ⟨mb, nsK hb, hbb⟩, let ⟨mc, h1, h2⟩ := hlim; ⟨mc, nsK h1, h2⟩⟩
    have e0 : Env0 P w K mg (hidT s₁.heap H) callerA [] s₁ H := ⟨rfl, hM, fun b o e => of_hidT e, Nat.le_of_eq (hidT_size _ _), trivial, fun b hb => absurd (show b ∈ ([] : List Addr) from hb) (by simp), hok, .of_eq hg⟩
    refine codeAny_mono ((F _ hKb (nsK hns)).run callerA [] s₁ H ⟨[.ref a], []⟩ [.ref a] [.ref a] _ _ hr e0 (hbind s₁ (.ref a)) (.cons rfl .nil) (hsp H hO hS)) fun r s' h => ?_
    cases r with
    | error e => exact (hCX H e s' h).elim
    | ok fl =>
      cases fl with
      | next => exact False.elim h
      | brk => exact False.elim h
      | cont => exact False.elim h
      | ret u =>
        obtain ⟨v, H', os, bare, un, hok', r', q⟩ := h
        have q' : v = .bl true := q
        subst q'
        obtain rfl : u = Value.bool true := r'
        refine ⟨rfl, OldK.of_keep fun b o e => ?_, os, bare⟩
        cases q : H b with
        | none => exact un.keep b o e q (by intro z; exact absurd (show b ∈ ([] : List Addr) from z) (by simp)) (by simp)
        | some u =>
          rcases hO b with z | ⟨ob, xs, z⟩
          · rw [q] at z; cases z
          · have z2 := un.frzs b ob _ z
            obtain ⟨e1, _⟩ := hok b _ z
            obtain ⟨e2, _⟩ := hok' b _ z2
            rw [e] at e1; cases e1
            exact e2
  cases hk : K.lookup a with
  | some o =>
    -- the script is one of the module's own objects
    have e := KX a o hk
    rw [ha] at e
    cases e
    refine core (fun _ => none) (fun _ => .inl rfl) (.inr ⟨_, vs.toArray, _, hk, rfl, rfl, rfl, by rw [List.size_toArray, lenV]; exact hl, by simpa using rv⟩) (fun b u z => by have z' : (none : Option HO) = some u := z; cases z') (fun b z => absurd rfl z) fun z => absurd rfl z
  | none =>
    refine core (fun b => if b = a then some (.frz { cls := .type "list", data := .seq vs.toArray } (.lst (ns.map V.int))) else none) (fun b => ?_) (.inl (.inr ⟨{ cls := .type "list", data := .seq vs.toArray }, if_pos rfl⟩)) (fun b u z => ?_) (fun b z => ?_) fun _ => hk
    · by_cases hb : b = a
      · exact .inr ⟨_, _, if_pos hb⟩
      · exact .inl (if_neg hb)
    · by_cases hb : b = a
      · have z' := (if_pos hb).symm.trans z
        cases z'
        subst hb
        exact ⟨ha, by rw [List.length_map]; exact hl, vs, _, rv, ha⟩
      · have z' := (if_neg hb).symm.trans z
        cases z'
    · by_cases hb : b = a
      · exact hb
      · exact absurd (if_neg hb) z
end L2
namespace L2
open PySem PySem.Spec PyProof.Rows
/-- the goal that k_head leaves (case hc), from the law's promise. F gives the function object fd (K's own) once, then the promise over every base -/
theorem walk_of {l : PySem.W.OpenLaw} {n k : Nat} {q : Program} {loose : List Str} {XP : (Str → Option Value) → Heap → Prop} {YP : World → Heap → Prop} {d : DefRec} {K : Params → PySem.W.Frag} {CX : World → CXT} {sp : World → Sp} {x : Str}
    (hn : l.most = some n) (hn2 : n ≤ sizeLine) (hdf : d.params.defaults = []) (hr : Room k callerA)
    (hY : ∀ (w : World) (h : Heap), YP w h → (K w.params).In h)
    (F : ∀ (w : World) (mg : Str → Option Value) (fa : Addr) (h : Heap), (K w.params).In h → h.Ns mainGlobals mg → mg d.name = some (.ref fa) →
      ∃ fd : FuncData, (∀ (s : Shared) (u : Value), BindsTo s fd ⟨[u], []⟩ [(x, u)]) ∧
        ∀ base : Heap, (K w.params).In base → base.Ns mainGlobals mg → FnOk l.prog w (K w.params) mg base (CX w) k fa fd [x] (sp w))
    (hsp : ∀ (w : World) (H : Hp) (a : Addr) (ns : List Int), ns.length ≤ n → Only H → SqL (K w.params) H a (ns.map V.int) → sp w [.ref a] H (fun v _ => v = .bl true) fun _ _ _ => False)
    (hCX : ∀ (w : World) (H : Hp) (s : Shared) (e : Value) (s' : Shared), CX w [] H s (fun _ _ _ => False) e s' → False) :
    PySem.W.WalkO q loose XP YP l.row.toRowW d [] (fun f vs => PySem.call f vs) := by
  refine Att.attach_call hn hdf fun w s₀ s₁ mg mb fa o pm cd doc a vs ns G Y ho hd hcd hmg hobj hints hlen hg => ?_
  have KX := hY w _ Y
  obtain ⟨fd, hb, hF⟩ := F w mg fa _ KX G.T.g hmg
  exact law_call KX G.T.g G.T.b G.T.builtins G.T.nolimit hg hobj hints (Nat.le_trans hlen hn2) hr hF hb (fun H hO hS => hsp w H a ns hlen hO hS) fun H e s' => hCX w H s₁ e s'
end L2
namespace L2
open PySem PySem.Spec PyProof.Rows
/-- the j-th statement of a class's body -/
def inClass (s : Stmt) (j : Nat) : Stmt := match s with
  | .ClassDef _ _ _ body _ _ _ _ _ _ _ => body.getD j (.Pass ⟨0, 0, 0, 0⟩)
  | _ => .Pass ⟨0, 0, 0, 0⟩
def defArgs (s : Stmt) : Arguments := match s with
  | .FunctionDef _ a _ _ _ _ _ _ _ _ => a
  | _ => { posonlyargs := [], args := [], vararg := none, kwonlyargs := [], kw_defaults := [], kwarg := none, defaults := [] }
def defBody (s : Stmt) : List Stmt := match s with
  | .FunctionDef _ _ b _ _ _ _ _ _ _ => b
  | _ => []
def defScope (s : Stmt) : Scope := match s with
  | .FunctionDef _ _ _ _ _ _ sc _ _ _ => sc
  | _ => { kind := .function, names := [], isGenerator := false, isCoroutine := false }
abbrev CX0 : CXT := fun _ _ _ _ _ _ => False
abbrev E0 : XK := fun _ _ _ => False
theorem pass0 {X : Cx} : Passes CX0 X E0 := fun _ _ _ _ _ _ _ h => h.elim
structure Fun (K : PySem.W.Frag) (x qual : Str) (st : Stmt) (f : Addr) (fd : FuncData) : Prop where
  ex : ∃ (oc : Value) (od : Option Addr) (kV doc pm : Value) (an : Option Addr) (cdv ct : Value) (osl : Array (Option Value)),
    fd = PySem.W.fnOf x qual (defArgs st) (defBody st) (defScope st) .none kV doc pm an cdv ct ∧ K.lookup f = some ⟨oc, od, .func fd, osl⟩ ∧ PySem.W.codeIn K cdv qual = true
  kp : PySem.W.keepIn K (.ref f) = true
section
variable {P : Program} {w : World} {K : PySem.W.Frag} {mg : Str → Option Value} {base : Heap}
/-- THE RULE for a def: its body as a term of rules, and the reading of that term -/
theorem Fun.ok {x qual : Str} {st : Stmt} {f : Addr} {fd : FuncData} {N ps : List Str} {k : Nat} {sp : Sp} (F : Fun K x qual st f fd) (S : FnScope N ps (defScope st)) (len : ∀ vs H Q E, sp vs H Q E → vs.length = ps.length)
    (hbody : ∀ (cdv : Value) (A : Around) (outer : List Env) (s : Shared) (H : Hp) (vs : List V) (Q : VK) (E : XK), Room k (A.deeper (envOfC qual (defScope st) s.heap.objs.size f cdv)) → sp vs H Q E →
      ∃ t, PSs (cxOf CX0 P w K mg base N qual (defScope st) f cdv A outer s H E).nox (defBody st) t ∧ t { nx := fun _ H' => Q .non H', rt := Q } (start N vs) H) : FnOk P w K mg base CX0 (k + 1) f fd ps sp := by
  obtain ⟨oc, od, kV, doc, pm, an, cdv, ct, osl, rfl, lk, hcd⟩ := F.ex
  refine fn_of lk hcd S len fun A outer s H vs Q E hr hsp => ?_
  obtain ⟨t, h, q⟩ := hbody cdv A outer s H vs Q E hr hsp
  exact ⟨t, h.nox, q⟩
/-- how its arguments bind (no defaults): h is «fun _ _ _ _ _ _ us hl => match us, hl with | [_, _], _ => rfl», one _ a parameter -/
theorem Fun.binds {x qual : Str} {st : Stmt} {f : Addr} {fd : FuncData} {ps : List Str} (F : Fun K x qual st f fd)
    (h : ∀ (kV doc pm : Value) (an : Option Addr) (cdv ct : Value) (us : List Value), us.length = ps.length → bindArgs (PySem.W.fnOf x qual (defArgs st) (defBody st) (defScope st) .none kV doc pm an cdv ct) ⟨us, []⟩ = pure (ps.zip us)) : Binds K fd ps [] := by
  obtain ⟨oc, od, kV, doc, pm, an, cdv, ct, osl, rfl, lk, hcd⟩ := F.ex
  exact .all (h kV doc pm an cdv ct)
theorem fun_mk {x qual : Str} {st : Stmt} {f : Addr} {oc : Value} {od an : Option Addr} {osl : Array (Option Value)} {kV doc pm cdv ct : Value} (l : K.lookup f = some ⟨oc, od, .func (PySem.W.fnOf x qual (defArgs st) (defBody st) (defScope st) .none kV doc pm an cdv ct), osl⟩)
    (c : PySem.W.codeIn K cdv qual = true) (k : PySem.W.keepIn K (.ref f) = true) : Fun K x qual st f (PySem.W.fnOf x qual (defArgs st) (defBody st) (defScope st) .none kV doc pm an cdv ct) := ⟨⟨oc, od, kV, doc, pm, an, cdv, ct, osl, rfl, l, c⟩, k⟩
end
theorem hu_of {A : Around} {k : Nat} (hr : Room k A) : A.units + 1 < cLine := Nat.lt_of_le_of_lt (Nat.add_le_add_left (by decide : 1 ≤ 64) _) hr.units
theorem small1000 {n : Nat} (h : n ≤ 1000) : n < sizeLine := Nat.lt_of_le_of_lt h (by decide)
section
variable {X : Cx}
theorem pv (i : Nat) {x : Str} {pos : Pos} (hN : X.N[i]? = some x := by rfl) (hv : Vis X.env.scope x := by first | exact Or.inl rfl | exact Or.inr (Or.inl rfl) | exact Or.inr (Or.inr rfl)) (hd : (x == ("__debug__" : Str)) = false := by decide)
    (hcd : (x == ("__classdict__" : Str)) = false := by decide) : PE X (.Name x pos) (tVar i) := pe_var hN hv hd hcd
end
theorem iteF {A B : Prop} (h : B) : if false = true then A else B := by
  rw [if_neg Bool.false_ne_true]
  exact h
theorem iteT {A B : Prop} (h : A) : if true = true then A else B := by
  rw [if_pos rfl]
  exact h
theorem ite2 {c A B : Prop} [Decidable c] (h1 : c → A) (h2 : ¬ c → B) : if c then A else B := by
  by_cases h : c
  · rw [if_pos h]
    exact h1 h
  · rw [if_neg h]
    exact h2 h
/-- all that was tracked is as it was -/
def Same (H H' : Hp) : Prop := ∀ b o, H b = some o → H' b = some o
theorem Same.refl (H : Hp) : Same H H := fun _ _ h => h
theorem Same.trans {H H1 H2 : Hp} (a : Same H H1) (b : Same H1 H2) : Same H H2 := fun c o h => b c o (a c o h)
theorem Same.free {H H' : Hp} (e : Same H H') {l : Addr} (h : H' l = Option.none) : H l = Option.none := by
  cases q : H l with
  | none => rfl
  | some o =>
    rw [e l o q] at h
    cases h
theorem Same.seq {K : PySem.W.Frag} {H H' : Hp} {a : Addr} {xs : List V} (e : Same H H') (h : SqL K H a xs) : SqL K H' a xs := by
  rcases h with (h | ⟨o, h⟩) | h
  · exact .inl (.inl (e _ _ h))
  · exact .inl (.inr ⟨o, e _ _ h⟩)
  · exact .inr h
end L2
namespace L2
open PySem PySem.Spec PyProof.Rows
section
variable {X : Cx}
end
section
variable {κ : Type} [DecidableEq κ]
theorem dropK_pos {p : κ × V} {r : List (κ × V)} {k : κ} (e : p.1 = k) : dropK (p :: r) k = dropK r k := by
  unfold dropK
  rw [List.filter_cons, if_neg (by simp [e])]
theorem dropK_neg {p : κ × V} {r : List (κ × V)} {k : κ} (e : ¬ p.1 = k) : dropK (p :: r) k = p :: dropK r k := by
  unfold dropK
  rw [List.filter_cons, if_pos (by simp [e])]
end
end L2
set_option Elab.async false
set_option linter.all false
set_option maxRecDepth 100000
set_option maxHeartbeats 4000000
namespace L2
open PySem PySem.Spec PyProof.Rows
/-- the cells that a comprehension takes from around it -/
def closOf (cells : List (Str × Addr)) : List (Str × NameKind) → List (Str × Addr) → List (Str × Addr)
  | [], cs => cs
  | (n, k) :: r, cs => closOf cells r (if k == .free then (match cells.lookup n with | some c => (n, c) :: cs | none => cs) else cs)
theorem closureFor_of {scope : Scope} {env : Env} (h : ∀ y ∈ scope.names, y.2 = .free → ∃ c, env.cells.lookup y.1 = some c) : closureFor scope env = pure (closOf env.cells scope.names []) := by
  unfold closureFor
  generalize ([] : List (Str × Addr)) = cs
  revert cs
  generalize scope.names = names at h
  induction names with
  | nil => intro cs; rfl
  | cons p r ih =>
    obtain ⟨n, k⟩ := p
    intro cs
    have ih' := ih fun y hy => h y (List.mem_cons_of_mem _ hy)
    by_cases hk : k = .free
    · subst hk
      obtain ⟨c, hc⟩ := h (n, .free) List.mem_cons_self rfl
      have e : cellOf env n = pure c := by unfold cellOf; rw [hc] <;> rfl
      dsimp only at hc ⊢
      rw [List.forIn_cons]
      simp only [beq_self_eq_true, if_true, closOf, hc]
      rw [e]
      exact ih' _
    · have hb : (k == NameKind.free) = false := by simpa using hk
      dsimp only
      rw [List.forIn_cons]
      simp only [hb, Bool.false_eq_true, if_false, closOf]
      exact ih' _
theorem closOf_sub {cells : List (Str × Addr)} : ∀ (names : List (Str × NameKind)) (cs : List (Str × Addr)) {y : Str} {c : Addr}, (closOf cells names cs).lookup y = some c → cells.lookup y = some c ∨ cs.lookup y = some c
  | [], cs, y, c, h => .inr h
  | (n, k) :: r, cs, y, c, h => by
    rcases closOf_sub r _ (show (closOf cells r _).lookup y = some c from h) with h1 | h1
    · exact .inl h1
    · split at h1
      · split at h1
        · rename_i c' hc'
          rw [List.lookup_cons] at h1
          split at h1
          · rename_i e
            cases h1
            exact .inl (by rw [eq_of_beq e]; exact hc')
          · exact .inr h1
        · exact .inr h1
      · exact .inr h1
theorem closOf_keep {cells : List (Str × Addr)} : ∀ (names : List (Str × NameKind)) (cs : List (Str × Addr)) {y : Str}, (∃ c, cs.lookup y = some c) → ∃ c, (closOf cells names cs).lookup y = some c
  | [], cs, y, h => h
  | (n, k) :: r, cs, y, h => by
    refine closOf_keep r _ ?_
    split
    · split
      · rw [List.lookup_cons]
        split
        · exact ⟨_, rfl⟩
        · exact h
      · exact h
    · exact h
theorem closOf_has {cells : List (Str × Addr)} : ∀ (names : List (Str × NameKind)) (cs : List (Str × Addr)) {y : Str}, (y, NameKind.free) ∈ names → (∃ c, cells.lookup y = some c) → ∃ c, (closOf cells names cs).lookup y = some c
  | (n, k) :: r, cs, y, hy, hc => by
    rcases List.mem_cons.mp hy with e | hy
    · cases e
      refine closOf_keep r _ ?_
      obtain ⟨c, hc⟩ := hc
      simp only [beq_self_eq_true, if_true, hc]
      exact ⟨c, by simp [List.lookup_cons]⟩
    · exact closOf_has r _ hy hc
def relF (env : Env) (p : Str × NameKind) : Str × NameKind := if (p.2 == NameKind.free && env.scope.kind == .function && env.kindOf p.1 == some .cell) = true then (p.1, NameKind.cell) else (p.1, p.2)
theorem relF_free {env : Env} : ∀ {names : List (Str × NameKind)} {x : Str}, names.lookup x = some .free → (names.map (relF env)).lookup x = some .cell ∨ (names.map (relF env)).lookup x = some .free
  | [], _, h => by simp at h
  | (n, k) :: r, x, h => by
    have ih := @relF_free env r x
    rw [List.map_cons]
    unfold relF
    cases hx : x == n with
    | true =>
      rw [List.lookup_cons, hx] at h
      cases h
      by_cases hc : (NameKind.free == NameKind.free && env.scope.kind == .function && env.kindOf n == some .cell) = true
      · left; rw [if_pos hc, List.lookup_cons, hx]
      · right; rw [if_neg hc, List.lookup_cons, hx]
    | false =>
      rw [List.lookup_cons, hx] at h
      by_cases hc : (k == NameKind.free && env.scope.kind == .function && env.kindOf n == some .cell) = true
      · rw [if_pos hc, List.lookup_cons, hx]; exact ih h
      · rw [if_neg hc, List.lookup_cons, hx]; exact ih h
theorem lookup_relabel_free {scope : Scope} {env : Env} {x : Str} (h : scope.names.lookup x = some .free) : (relabel scope env).names.lookup x = some .cell ∨ (relabel scope env).names.lookup x = some .free :=
  relF_free (env := env) h
theorem relabel_kind {scope : Scope} {env : Env} (nc : ∀ y ∈ scope.names, y.2 ≠ .cell) {y : Str} (h : (relabel scope env).names.lookup y = some .cell ∨ (relabel scope env).names.lookup y = some .free) : (y, NameKind.free) ∈ scope.names := by
  have key : ∀ k, (relabel scope env).names.lookup y = some k → k = .cell ∨ k = .free → (y, NameKind.free) ∈ scope.names := fun k e hk => by
    have m := PySem.mem_of_lookup e
    obtain ⟨⟨n, k'⟩, hm, q⟩ := List.mem_map.mp m
    dsimp only at q
    split at q
    · rename_i c
      have c1 : (k' == NameKind.free) = true := by
        simp only [Bool.and_eq_true] at c
        exact c.1.1
      have c2 : k' = .free := eq_of_beq c1
      cases q
      rw [c2] at hm
      exact hm
    · cases q
      rcases hk with z | z
      · exact absurd z (nc _ hm)
      · rw [z] at hm; exact hm
  rcases h with h | h
  · exact key _ h (.inl rfl)
  · exact key _ h (.inr rfl)
/-- what of a comprehension's scope is asked: sc the scope around it, N the names around it, x its own name, fr the slots and names that it takes from around -/
structure CompScope (sc scope : Scope) (N : List Str) (x : Str) (fr : List (Nat × Str)) : Prop where
  kind : scope.kind = .function
  loc : scope.names.lookup x = some .local
  names : ∀ y ∈ scope.names, y.2 = .local → scope.names.lookup y.1 = some .local
  nocell : ∀ y ∈ scope.names, y.2 ≠ .cell
  free : ∀ y ∈ scope.names, y.2 = .free → sc.names.lookup y.1 = some .cell ∨ sc.names.lookup y.1 = some .free
  frk : ∀ p ∈ fr, N[p.1]? = some p.2 ∧ scope.names.lookup p.2 = some .free
  nd : (x :: fr.map (·.2)).Nodup
/-- the context of a comprehension's block -/
def cxComp (X : Cx) (scope : Scope) (C : Addr) (N : List Str) (s : Shared) (H : Hp) (fp : List Addr) : Cx where
  prog := X.prog
  w := X.w
  K := X.K
  mg := X.mg
  base := X.base
  A := X.A
  N := N
  s₀ := s
  H₀ := H
  env := compEnvC scope (closOf X.env.cells scope.names []) C X.env
  outer := X.stack
  stack := X.stack
  ex := fp
  fn := fun _ => false
  calm := X.calm
  pn := []
  xe := fun _ _ => False
def frV (σ : St) (fr : List (Nat × Str)) : St := fr.map fun p => (σ[p.1]?).join
/-- the tests of a comprehension -/
def PTs (X : Cx) (ifs : List Expr) (t : TT) : Prop :=
  ∀ (pins : List (Addr × Obj)) (s : Shared) (σ : St) (H : Hp) (Q : Bool → Hp → Prop), Inv X pins σ H s → t σ H Q →
    wpAny (model X.prog X.w) X.A (forIn ifs true fun c r => if r = true then do let ok ← isTrue c X.env (eval c X.env); pure (ForInStep.yield ok) else pure (ForInStep.yield r)) (TP X pins σ Q) X.xe s
def tTrue : TT := fun _ H Q => Q true H
theorem tTrue_go {σ : St} {H : Hp} {Q : Bool → Hp → Prop} (h : Q true H) : tTrue σ H Q := h
theorem pts_nil {X : Cx} : PTs X [] tTrue := fun _ _ _ H _ I h => wpAny_tests_nil ⟨H, I, h⟩
theorem pts_one {X : Cx} {c : Expr} {t : TT} (hc : PT X c t) : PTs X [c] t := fun pins s σ H Q I h => wpAny_tests_one (hc pins s σ H Q I h)
/-- [elt for x in iter if ..]: the list D grows by the turn; W its invariant with a measure -/
def compGoal (J : It) (fr : List (Nat × Str)) (tt : TT) (te : TE) (σ : St) (H1 : Hp) (Q : VK) : Prop := ∀ D, H1 D = none →
  ∃ W : Nat → Nat → List V → Hp → Prop, (∃ m, W 0 m [] (upd H1 D (.lst []))) ∧ ∀ i m ys H2, W i m ys H2 → H2 D = some (.lst ys) ∧
    ((J.stop i H2 ∧ Q (.ref D) H2) ∨ (J.go i H2 ∧ ∀ v H3, J.yld i H2 v H3 → tt (some v :: frV σ fr) H3 fun b H4 =>
      if b = true then te (some v :: frV σ fr) H4 fun y H5 => H5 D = some (.lst ys) ∧ ys.length < sizeLine ∧ ∃ m', m' < m ∧ W (i + 1) m' (ys ++ [y]) (upd H5 D (.lst (ys ++ [y])))
      else ∃ m', m' < m ∧ W (i + 1) m' ys H4))
def tComp (wi : TI) (fr : List (Nat × Str)) (tt : TT) (te : TE) : TE := fun σ H Q => wi σ H fun J H1 => compGoal J fr tt te σ H1 Q
/-- what is known of the block's own namespace from outside -/
structure FreshC (X : Cx) (pins : List (Addr × Obj)) (H : Hp) (C : Addr) : Prop where
  hn : H C = none
  hL : C ≠ X.env.locals
  h1 : C ∈ X.ex ∨ X.s₀.heap.objs.size ≤ C
  h2 : ∀ x c, X.env.cells.lookup x = some c → c ≠ C
  h3 : ∀ p ∈ X.pn ++ pins, p.1 ≠ C
theorem comp_run {X : Cx} {x : Str} {px : Pos} {iter elt : Expr} {ifs : List Expr} {scope sc : Scope} {pos pos' : Pos} {N : List Str} {fr : List (Nat × Str)} {wi : TI} {tt : TT} {te : TE}
    {pins : List (Addr × Obj)} {s : Shared} {σ : St} {H : Hp} {Q : VK} {Q' : Value → Shared → Prop} {use : Option (Value → Sem Unit)}
    (S : CompScope sc scope N x fr) (hsc : X.env.scope = sc) (hN : X.N = N) (hc : X.calm = true) (hi : PI X (.Name x px) iter wi)
    (ht : ∀ (C : Addr) (s : Shared) (H : Hp) (fp : List Addr), PTs (cxComp X scope C (x :: fr.map (·.2)) s H fp) ifs tt)
    (he : ∀ (C : Addr) (s : Shared) (H : Hp) (fp : List Addr), PE (cxComp X scope C (x :: fr.map (·.2)) s H fp) elt te)
    (hs : ∀ z, foldedSetIterable iter X.env z = pure z) (I : Inv X pins σ H s) (h : tComp wi fr tt te σ H Q)
    (hfin : ∀ (D C : Addr) (H' : Hp) (s' : Shared) (m : Str → Option Value), Inv X pins σ H' s' → s'.heap.Ns C m → FreshC X pins H' C → Q (.ref D) H' → compPost (model X.prog X.w) X.A X.xe use Q' (.ref D) C (.ok .next) s') :
    wpAny (model X.prog X.w) X.A (comprehension (.ListComp elt [⟨.Name x px, iter, ifs, 0⟩] scope pos) scope X.env pos' (newList []) false (eval iter X.env) use) Q' X.xe s := by
  have kin : ∀ y, scope.names.lookup y = some .free → X.env.kindOf y = some .cell ∨ X.env.kindOf y = some .free := fun y hy => by
    show X.env.scope.names.lookup y = _ ∨ X.env.scope.names.lookup y = _
    rw [hsc]
    exact S.free (y, .free) (PySem.mem_of_lookup hy) rfl
  have kin' : ∀ y ∈ scope.names, y.2 = .free → X.env.kindOf y.1 = some .cell ∨ X.env.kindOf y.1 = some .free := fun y hy hf => by
    show X.env.scope.names.lookup y.1 = _ ∨ X.env.scope.names.lookup y.1 = _
    rw [hsc]
    exact S.free y hy hf
  have hkc : ∀ y ∈ scope.names, y.2 = .free → ∃ c, X.env.cells.lookup y.1 = some c := fun y hy hf => I.ok.has y.1 (kin' y hy hf)
  refine wpAny_comprehension_free (use := use) rfl hs (closureFor_of hkc) S.kind S.names ?_
  refine thn (hi pins s σ H _ I h) fun xv s1 h1 => thn h1 fun itv s2 h2 => ?_
  obtain ⟨it, fp, tn, J, H2, rfl, I2, T, st2, f2, q2⟩ := h2
  refine wpAny_newObj_type (wpAny_newFunctionEnv S.nocell (by intro y hy; simp at hy) (fun h₁ hns₁ hsb₁ => ?_) S.kind)
  dsimp only at hns₁ hsb₁ ⊢
  have I3 : Inv X pins σ (upd H2 s2.heap.objs.size (.lst [])) { s2 with heap := s2.heap.push { cls := .type "list", data := .seq ([] : List Value).toArray } } :=
    I2.lnew (its := []) (t' := s2.toks) .nil (Nat.zero_le _)
  unfold compGoal at q2
  obtain ⟨W, ⟨m0, w0⟩, turn⟩ := q2 s2.heap.objs.size (I2.hok.fresh (Nat.le_refl _))
  generalize hG : s2.heap.push { cls := .type "list", dict := none, data := .seq ([] : List Value).toArray } = G at hns₁ hsb₁ I3 ⊢
  generalize hD : s2.heap.objs.size = D at I3 turn w0 ⊢
  generalize hH3 : upd H2 D (.lst []) = H3 at I3 w0
  have neG : ∀ b o, G.get? b = some o → b ≠ G.objs.size := fun b o e => Nat.ne_of_lt (Heap.lt_size e)
  have old : ∀ b o, G.get? b = some o → h₁.get? b = some o := fun b o e => (hsb₁.2 b (neG b o e)).trans (Heap.get?_push_of_some _ e)
  have up2 : ∀ b o, s2.heap.get? b = some o → G.get? b = some o := fun b o e => by rw [← hG]; exact Heap.get?_push_of_some _ e
  have fpG : ∀ b ∈ fp, b < G.objs.size := fun b hb => by
    obtain ⟨o, e, _⟩ := T.obj _ _ st2 b hb
    exact Heap.lt_size (up2 b o e)
  have sub : ∀ {y : Str} {c : Addr}, (closOf X.env.cells scope.names []).lookup y = some c → X.env.cells.lookup y = some c := fun {y c} e => by
    rcases closOf_sub _ _ e with z | z
    · exact z
    · simp at z
  have stat0 : ∀ b ∈ fp, (b ∈ X.ex ∨ X.s₀.heap.objs.size ≤ b) ∧ b ≠ X.env.locals ∧ (∀ x c, X.env.cells.lookup x = some c → c ≠ b) ∧ ∀ p ∈ X.pn ++ pins, p.1 ≠ b := fun b hb =>
    ⟨(f2 b hb).2.2.2.1, (f2 b hb).2.1, (f2 b hb).2.2.2.2.1, (f2 b hb).2.2.2.2.2⟩
  have hCL : G.objs.size ≠ X.env.locals := Nat.ne_of_gt I3.lt
  have hC1 : X.s₀.heap.objs.size ≤ G.objs.size := I3.sz
  have hC2 : ∀ x c, X.env.cells.lookup x = some c → c ≠ G.objs.size := fun x c e => by
    obtain ⟨v, o, ho, _⟩ := I3.cell x c e
    exact neG c o ho
  have hC3 : ∀ p ∈ X.pn ++ pins, p.1 ≠ G.objs.size := fun p hp => neG p.1 p.2 (I3.pin p hp).1
  have okB : (cxComp X scope G.objs.size (x :: fr.map (·.2)) { s2 with heap := G } H3 fp).Ok := by
    refine ⟨I2.ok.mod, S.kind, I2.ok.glob, I2.ok.blt, Nat.le_refl _, fun y z c e1 e2 => I2.ok.inj y z c (sub e1) (sub e2), fun y hy => ?_, fun y c z => Bool.noConfusion z, I2.ok.hd, I2.ok.frames, .inl rfl, fun b hb => ⟨Nat.ne_of_lt (fpG b hb), fun y c e => (stat0 b hb).2.2.1 y c (sub e)⟩,
      fun b o e => I3.bs b o e, Nat.le_trans I2.ok.bsz I3.sz, fun b o e hb => ?_, fun b hb hf => ?_, I3.stack, I3.stkFree⟩
    · have m := relabel_kind S.nocell hy
      exact closOf_has _ _ m (hkc _ m rfl)
    · rcases (stat0 b hb).1 with z | z
      · exact I2.ok.noex b o e z
      · exact absurd (Nat.lt_of_lt_of_le (Heap.lt_size e) (Nat.le_trans I2.ok.bsz z)) (Nat.lt_irrefl _)
    · rcases List.mem_cons.mp (I2.stkSub b hf) with z | z
      · exact (stat0 b hb).2.1 z
      · exact (f2 b hb).2.2.1 z
  have I4 : ∀ tk : Nat, Inv (cxComp X scope G.objs.size (x :: fr.map (·.2)) { s2 with heap := G } H3 fp) [] (none :: frV σ fr) H3 { s2 with heap := h₁, toks := tk } := fun tk => by
    refine ⟨okB, rfl, I2.bare, Un.kept old, ⟨_, hns₁, fun i y v e1 e2 _ => ?_⟩, fun y c e => ?_, I3.hok.fresh (Nat.le_refl _), fun y c e => I3.freeC y c (sub e), fun p hp => absurd (show p ∈ ([] : List (Addr × Obj)) from hp) (by simp), I3.hok.kept old, ?_⟩
    · cases i with
      | zero => simp at e2
      | succ i =>
        have e1' : (fr.map (·.2))[i]? = some y := e1
        have e2' : (fr.map fun p => (σ[p.1]?).join)[i]? = some (some v) := e2
        rw [List.getElem?_map] at e1' e2'
        cases hp : fr[i]? with
        | none => rw [hp] at e1'; cases e1'
        | some p =>
          rw [hp] at e1' e2'
          have ey : p.2 = y := Option.some.inj e1'
          have ev : (σ[p.1]?).join = some v := Option.some.inj e2'
          have ev' : σ[p.1]? = some (some v) := by
            cases q : σ[p.1]? with
            | none => rw [q] at ev; cases ev
            | some o => rw [q] at ev; simp only [Option.join] at ev; exact congrArg some ev
          have hf := S.frk p (List.mem_of_getElem? hp)
          rw [ey] at hf
          have hk := kin y hf.2
          obtain ⟨m, _, hl⟩ := I2.loc
          obtain ⟨u, ru, l⟩ := hl p.1 y v (by rw [hN]; exact hf.1) ev' (.inr hk)
          refine ⟨u, ru, .inr ⟨lookup_relabel_free hf.2, ?_⟩⟩
          rcases l with ⟨k, _⟩ | ⟨_, c, e, z⟩
          · rcases hk with hk | hk
            · rw [hk] at k; cases k
            · rw [hk] at k; cases k
          · obtain ⟨c', ec⟩ := closOf_has (cells := X.env.cells) scope.names [] (PySem.mem_of_lookup hf.2) ⟨c, e⟩
            have := sub ec
            rw [e] at this
            cases this
            obtain ⟨o, ho, hd⟩ := z
            exact ⟨c, ec, o, old c o (up2 c o ho), hd⟩
    · obtain ⟨v, o, ho, hd⟩ := I2.cell y c (sub e)
      exact ⟨v, o, old c o (up2 c o ho), hd⟩
    · show (none :: frV σ fr).length = (x :: fr.map (·.2)).length
      simp [frV]
  have locX : (cxComp X scope G.objs.size (x :: fr.map (·.2)) { s2 with heap := G } H3 fp).env.scope.names.lookup x = some .local := lookup_relabel_local S.loc
  generalize hX : cxComp X scope G.objs.size (x :: fr.map (·.2)) { s2 with heap := G } H3 fp = Y at I4 locX
  have eP : Y.prog = X.prog := by rw [← hX]; rfl
  have eW : Y.w = X.w := by rw [← hX]; rfl
  have eK : Y.K = X.K := by rw [← hX]; rfl
  have eA : Y.A = X.A := by rw [← hX]; rfl
  have eC : Y.calm = true := by rw [← hX]; exact hc
  have eE : Y.env = compEnvC scope (closOf X.env.cells scope.names []) G.objs.size X.env := by rw [← hX]; rfl
  have eN : Y.N = x :: fr.map (·.2) := by rw [← hX]; rfl
  have eX : Y.xe = fun _ _ => False := by rw [← hX]; rfl
  have eB : ∀ {σ' : St} {H' : Hp} {s' : Shared} {pins' : List (Addr × Obj)}, Inv Y pins' σ' H' s' → s'.os = s2.os ∧ Un (frs X.stack) fp H3 H' G s'.heap := fun {σ' H' s' pins'} J => by
    subst hX
    exact ⟨J.os, J.base⟩
  have hT := ht G.objs.size { s2 with heap := G } H3 fp
  have hE := he G.objs.size { s2 with heap := G } H3 fp
  rw [hX] at hT hE
  have fpY : ∀ {H' : Hp}, (∀ b ∈ fp, H' b = none) → ∀ b ∈ fp, FpOk Y [] H' b := fun {H'} hn b hb => by
    subst hX
    refine ⟨hn b hb, Nat.ne_of_lt (fpG b hb), okB.exfs b hb, .inl hb, fun y c e => (okB.exf b hb).2 y c e, fun p hp => absurd (show p ∈ ([] : List (Addr × Obj)) from hp) (by simp)⟩
  have loop : ∀ s3 : Shared, (∃ tk, s3 = { s2 with heap := h₁, toks := tk }) →
      codeAny (model X.prog X.w) X.A (.compLoop (.ListComp elt [⟨.Name x px, iter, ifs, 0⟩] scope pos) 0 (.ref it) (.ref D) Y.env)
        (compPost (model X.prog X.w) X.A X.xe use Q' (.ref D) G.objs.size) s3 := by
    rintro s3 ⟨tk, rfl⟩
    refine codeAny_compLoop_tests (fun n s' => ∃ i ys o H', Inv Y [] (o :: frV σ fr) H' s' ∧ tn i s'.heap ∧ (∀ b ∈ fp, H' b = none) ∧ W i n ys H') ?_ m0
      ⟨0, [], none, H3, I4 tk, T.keep _ _ _ st2 fun b hb o e => old b o (up2 b o e), fun b hb => ?_, w0⟩
    · rintro n s' ⟨i, ys, o, H', J', st', fr', w'⟩
      obtain ⟨hD', hgo⟩ := turn i n ys H' w'
      rcases hgo with ⟨stop, qn⟩ | ⟨go, step⟩
      · have Q1 := T.done Y eP eW eK eC i [] s' (o :: frV σ fr) H' (notedBy (model X.prog X.w) X.A Y.env fun e s'' => compPost (model X.prog X.w) X.A X.xe use Q' (.ref D) G.objs.size (.error e) s'') J' (fpY fr') st' stop
        rw [eA] at Q1
        refine thn Q1 fun r s4 ⟨hr, J4⟩ => ?_
        subst hr
        obtain ⟨m, hn, _⟩ := J4.loc
        rw [eE] at hn
        obtain ⟨os4, u4⟩ := eB J4
        have free4 : H' G.objs.size = none := by have := J4.free; rw [eE] at this; exact this
        have hok4 : HOk X.prog X.w H' s4.heap := by have := J4.hok; rw [eP, eW] at this; exact this
        exact hfin D G.objs.size H' s4 m (I3.call' (ch := fp) (s' := s4) os4 u4 hok4 J4.bare stat0) hn ⟨free4, hCL, .inr hC1, hC2, hC3⟩ qn
      · have Q1 := T.item Y eP eW eK eC i [] s' (o :: frV σ fr) H' (notedBy (model X.prog X.w) X.A Y.env fun e s'' => compPost (model X.prog X.w) X.A X.xe use Q' (.ref D) G.objs.size (.error e) s'') J' (fpY fr') st' go
        rw [eA] at Q1
        refine thn Q1 fun r s4 ⟨u, hr, h4⟩ => ?_
        subst hr
        show wpAny _ _ (letOwnedTupleGo (.Name x px) (.ref it) u >>= fun _ => assign (.Name x px) Y.env u) _ _ s4
        refine wpAny_bind (thn h4 fun _ s5 ⟨v, H5, J5, r5, y5, st5, fr5⟩ => ?_)
        have J5' := J5.pinned (fpY fr5) (T.obj _ _ st5)
        have G5 := pg_name (X := Y) (i := 0) (x := x) (pos := px) (by rw [eN]; exact S.nd) (by rw [eN]; rfl) (.inl locX) (.inr locX) ([] ++ pinsAt fp s5.heap) s5 (o :: frV σ fr) H5 v u (fun σ6 H6 => σ6 = some v :: frV σ fr ∧ H6 = H5) J5' r5 ⟨rfl, rfl⟩
        rw [eP, eW, eA, eX] at G5
        refine wpAny_mono G5 (fun _ s6 ⟨σ6, H6, J6, e6, e6'⟩ => ?_) fun _ _ z => z.elim
        subst e6 e6'
        have T6 := hT _ s6 _ _ _ J6 (step v _ y5)
        rw [eP, eW, eA, eX] at T6
        have again : ∀ {s7 : Shared} {H7 : Hp} {zs : List V}, Inv Y ([] ++ pinsAt fp s5.heap) (some v :: frV σ fr) H7 s7 → (∃ m', m' < n ∧ W (i + 1) m' zs H7) → ∃ m, m < n ∧ ∃ i ys o H', Inv Y [] (o :: frV σ fr) H' s7 ∧ tn i s7.heap ∧ (∀ b ∈ fp, H' b = none) ∧ W i m ys H' := fun {s7 H7 zs} J7 ⟨m', hm, w7⟩ => by
          refine ⟨m', hm, i + 1, zs, some v, H7, J7.unpinned, T.keep _ _ _ st5 fun b hb o e => (J7.pin (b, o) (List.mem_append_right _ (List.mem_append_right _ (mem_pinsAt hb e)))).1, fun b hb => ?_, w7⟩
          obtain ⟨o, e, d⟩ := T.obj _ _ st5 b hb
          exact (J7.pin (b, o) (List.mem_append_right _ (List.mem_append_right _ (mem_pinsAt hb e)))).2.1
        refine wpAny_mono T6 (fun ok s7 ⟨H7, J7, q7⟩ => ?_) fun _ _ z => z.elim
        cases ok with
        | false => exact again J7 q7
        | true =>
          have E7 := hE _ s7 _ _ _ J7 q7
          rw [eP, eW, eA, eX] at E7
          show wpAny _ _ (eval elt Y.env) _ _ s7
          refine wpAny_mono E7 (fun u8 s8 ⟨y8, H8, J8, r8, hD8, hz8, w8⟩ => ?_) fun _ _ z => z.elim
          have A8 := mt_append (X := Y) _ s8 _ H8 (.ref D) [y8] (.ref D) [u8] (fun z H9 => H9 = upd H8 D (.lst (ys ++ [y8]))) J8 rfl (.cons r8 .nil) ⟨D, ys, y8, rfl, rfl, hD8, hz8, rfl⟩
          rw [eP, eW, eA, eX] at A8
          refine wpAny_mono A8 (fun _ s9 ⟨z9, H9, J9, _, e9⟩ => ?_) fun _ _ z => z.elim
          subst e9
          exact again J9 w8
    · rw [← hH3]
      have hbD : b ≠ D := by
        rw [← hD]
        obtain ⟨o, e, _⟩ := T.obj _ _ st2 b hb
        exact Nat.ne_of_lt (Heap.lt_size e)
      rw [upd_ne hbD]
      exact (f2 b hb).1
  rw [eE] at loop
  exact codeAny_compStart_list (loop _ ⟨_, rfl⟩) (T.self _ 0 _ _ _ (T.keep _ _ _ st2 fun b hb o e => old b o (up2 b o e)) (loop _ ⟨_, rfl⟩))
theorem pe_comp {X : Cx} {x : Str} {px : Pos} {iter elt : Expr} {ifs : List Expr} {scope sc : Scope} {pos : Pos} {N : List Str} {fr : List (Nat × Str)} {wi : TI} {tt : TT} {te : TE}
    (S : CompScope sc scope N x fr) (hsc : X.env.scope = sc) (hN : X.N = N) (hc : X.calm = true) (hi : PI X (.Name x px) iter wi)
    (ht : ∀ (C : Addr) (s : Shared) (H : Hp) (fp : List Addr), PTs (cxComp X scope C (x :: fr.map (·.2)) s H fp) ifs tt)
    (he : ∀ (C : Addr) (s : Shared) (H : Hp) (fp : List Addr), PE (cxComp X scope C (x :: fr.map (·.2)) s H fp) elt te)
    (hs : ∀ z, foldedSetIterable iter X.env z = pure z := by intro _; rfl) :
    PE X (.ListComp elt [⟨.Name x px, iter, ifs, 0⟩] scope pos) (tComp wi fr tt te) := by
  intro pins s σ H Q I h
  rw [eval_ListComp]
  refine comp_run (use := none) S hsc hN hc hi ht he hs I h fun D C H' s' m J hn fc q => ?_
  exact ⟨m, hn, fun h' hs' => ⟨.ref D, H', J.turned (t' := s'.toks) (fun b o hb e => (hs'.2 b hb).trans e) fc.hn fc.hL fc.h1 fc.h2 fc.h3, rfl, q⟩⟩
/-- name = [.. for ..], the name a plain local -/
theorem ps_setComp {X : Cx} {x y : Str} {px py spos : Pos} {i : Nat} {iter elt : Expr} {ifs : List Expr} {scope sc : Scope} {pos : Pos} {N : List Str} {fr : List (Nat × Str)} {wi : TI} {tt : TT} {te : TE}
    (S : CompScope sc scope N x fr) (hsc : X.env.scope = sc) (hN : X.N = N) (hc : X.calm = true) (hnd : X.N.Nodup) (hiy : X.N[i]? = some y) (hy : X.env.scope.names.lookup y = some .local) (hi : PI X (.Name x px) iter wi)
    (ht : ∀ (C : Addr) (s : Shared) (H : Hp) (fp : List Addr), PTs (cxComp X scope C (x :: fr.map (·.2)) s H fp) ifs tt)
    (he : ∀ (C : Addr) (s : Shared) (H : Hp) (fp : List Addr), PE (cxComp X scope C (x :: fr.map (·.2)) s H fp) elt te)
    (hs : ∀ z, foldedSetIterable iter X.env z = pure z := by intro _; rfl)
    (hsw : swapsWith (.ListComp elt [⟨.Name x px, iter, ifs, 0⟩] scope pos) (some (.Name y py)) spos.line X.env = pure true := by rfl) :
    PS X (.Assign [.Name y py] (.ListComp elt [⟨.Name x px, iter, ifs, 0⟩] scope pos) spos) (tAsg (tComp wi fr tt te) (gName i)) := by
  intro pins s σ H D0 I h
  rw [exec_Assign_Name_used _ _ _ _ hsw]
  refine wpAny_bind (wpAny_standAt (wpAny_bind ?_))
  show wpAny _ X.A (do let _ ← comprehension (.ListComp elt [⟨.Name x px, iter, ifs, 0⟩] scope pos) scope X.env _ (newList []) false (eval iter X.env) (some (assign (.Name y py) X.env))) _ _ s
  refine wpAny_bind (thn (comp_run (use := some (assign (.Name y py) X.env)) (Q' := fun _ s' => SP X pins D0 .next s') S hsc hN hc hi ht he hs I h fun D C H' s' m J hn fc q => ?_) fun _ s' hq => wpAny_pure (wpAny_pure hq))
  show wpAny _ _ (assign (.Name y py) X.env (.ref D)) _ _ s'
  refine wpAny_assign_Name (store_ok2 J hnd hiy (.inl hy) (v := .ref D) rfl (fun s5 J5 hs5 => ?_) (.inr hy))
  obtain ⟨a, sb, ha⟩ := hs5
  have hCa : C ≠ a := by
    rcases ha with z | z
    · rw [z]; exact fc.hL
    · exact Ne.symm (fc.h2 _ _ z)
  refine ⟨m, hn.sameBut sb hCa, fun h' hs' => ⟨_, H', J5.turned (t' := s5.toks) (fun b o hb e => (hs'.2 b hb).trans e) fc.hn fc.hL fc.h1 fc.h2 fc.h3, q⟩⟩
theorem all_range {bs : List Bool} : (List.range bs.length).all (fun i => bs.getD i true) = bs.all id := by
  rw [Bool.eq_iff_iff, List.all_eq_true, List.all_eq_true]
  constructor
  · intro h b hb
    obtain ⟨i, hi, e⟩ := List.mem_iff_getElem.mp hb
    have q := h i (List.mem_range.mpr hi)
    simp only [List.getD_eq_getElem?_getD, List.getElem?_eq_getElem hi, Option.getD_some] at q
    rw [← e]; exact q
  · intro h i hi
    have hi' := List.mem_range.mp hi
    simp only [List.getD_eq_getElem?_getD, List.getElem?_eq_getElem hi', Option.getD_some]
    exact h _ (List.getElem_mem hi')
theorem call_all {X : Cx} (hc : X.calm = true) : CallR X (.builtin "all") (fun xs H Q => ∃ (p : Addr) (bs : List Bool), xs = [.ref p] ∧ SqL X.K H p (bs.map V.bl) ∧ Q (.bl (bs.all id)) H) := by
  intro pins s σ H xs us Q I r h
  obtain ⟨p, bs, rfl, hq, q⟩ := h
  obtain ⟨u, rfl, rx⟩ := vals1 r
  cases rx
  obtain ⟨its, rv, pl, hz⟩ := I.list hq
  have hlen := rv.length
  rw [List.length_map] at hlen
  have hpl : p < s.heap.objs.size := by obtain ⟨o, e, _⟩ := pl.isList; exact Heap.lt_size e
  refine call_all_walk (wpAny_pyIter_list pl.isList ?_)
  refine ⟨s.heap.objs.size, _, [s.heap.objs.size], its.toArray.size, _, _, fun i => bs.getD i true, rfl, Walks.list (A := X.A.in1) (I.ok.hd hc) s.heap.objs.size p (Nat.ne_of_lt hpl) its.toArray, ⟨⟨_, Heap.get?_push_size _ rfl, rfl, rfl⟩, pl.isList.push _⟩, ?_, ?_⟩
  · intro i v s' Q' E' hv hq'
    have hv' : its[i]? = some v := by simpa using hv
    have hi : i < its.length := (List.getElem?_eq_some_iff.mp hv').1
    have hb : (bs.map V.bl)[i]? = some (V.bl (bs.getD i true)) := by
      rw [List.getElem?_map, List.getElem?_eq_getElem (by omega)]
      simp [List.getD_eq_getElem?_getD, List.getElem?_eq_getElem (show i < bs.length by omega)]
    obtain ⟨u, e1, e2⟩ := rv.get hb
    rw [hv'] at e1
    cases e1
    cases e2
    exact wpAny_truthy_bool hq'
  · intro h' tk hk
    have hsz : its.toArray.size = bs.length := by rw [List.size_toArray]; exact hlen.symm
    rw [hsz, all_range]
    exact ⟨.bl (bs.all id), H, I.kept (t' := tk) fun b o e => hk b o (fun z => absurd (Heap.lt_size e) (by rw [List.mem_singleton.mp z]; exact Nat.lt_irrefl _)) (Heap.get?_push_of_some _ e), rfl, q⟩
def clsV : V → Option Value
  | .ty n => some (.type n)
  | .ref a => some (.ref a)
  | _ => none
theorem call_isinst {X : Cx} : CallR X (.builtin "isinstance") (fun xs H Q => ∃ x c cv t b, xs = [x, c] ∧ clsV c = some cv ∧ TyOf X.K H x t ∧ PySem.W.kitOne X.K t cv = some b ∧ Q (.bl b) H) := by
  intro pins s σ H xs us Q I r h
  obtain ⟨x, c, cv, t, b, rfl, hcv, ty, hk, q⟩ := h
  obtain ⟨u, u', rfl, rx, rc⟩ := vals2 r
  have e : u' = cv := by
    cases c with
    | ty n => cases hcv; exact rc
    | ref a => cases hcv; exact rc
    | _ => cases hcv
  subst e
  exact isinst_ok I rx ty hk fun tk => ⟨.bl b, H, I.tok tk, rfl, q⟩
theorem strsAre_of {xs : List Str} : ∀ {us : List Value}, Vals (xs.map V.str) us → StrsAre us xs := by
  induction xs with
  | nil => intro us r; rw [List.map_nil] at r; cases r; exact .nil
  | cons y ys ih =>
    intro us r
    rw [List.map_cons] at r
    cases r with
    | cons r1 r2 =>
      obtain ⟨t, e⟩ := r1
      subst e
      exact .cons y t (ih r2)
mutual
inductive RD (K : PySem.W.Frag) (H : Hp) : V → PyData → Prop
  | non : RD K H .non .none
  | bl (b : Bool) : RD K H (.bl b) (.bool b)
  | int (i : Int) : RD K H (.int i) (.int i)
  | str (x : Str) : RD K H (.str x) (.str x)
  | lst {a : Addr} {xs : List V} {ds : List PyData} : SqL K H a xs → RDs K H xs ds → RD K H (.ref a) (.list ds)
  | tup {a : Addr} {xs : List V} {ds : List PyData} : SqT K H a xs → RDs K H xs ds → RD K H (.ref a) (.tuple ds)
inductive RDs (K : PySem.W.Frag) (H : Hp) : List V → List PyData → Prop
  | nil : RDs K H [] []
  | cons {x : V} {xs : List V} {d : PyData} {ds : List PyData} : RD K H x d → RDs K H xs ds → RDs K H (x :: xs) (d :: ds)
end
mutual
theorem RD.reads {X : Cx} {pins : List (Addr × Obj)} {σ : St} {H : Hp} {s : Shared} (I : Inv X pins σ H s) : ∀ {x : V} {d : PyData} {u : Value}, RD X.K H x d → RelV x u → ∃ as, Reads s.heap u d as
  | _, _, _, .non, r => by cases (show _ = Value.none from r); exact ⟨_, .none⟩
  | _, _, _, .bl b, r => by cases (show _ = Value.bool b from r); exact ⟨_, .bool b⟩
  | _, _, _, .int i, r => by obtain ⟨t, e⟩ := r; subst e; exact ⟨_, .int i t⟩
  | _, _, _, .str x, r => by obtain ⟨t, e⟩ := r; subst e; exact ⟨_, .str x t⟩
  | _, _, _, .lst (a := a) hq hs, r => by
    cases (show _ = Value.ref a from r)
    obtain ⟨its, rv, pl, _⟩ := I.list hq
    obtain ⟨as, ra⟩ := RDs.reads I hs rv
    obtain ⟨o, e, c, n, d⟩ := pl.isList
    exact ⟨_, .list e c d (by simpa using ra)⟩
  | _, _, _, .tup (a := a) hq hs, r => by
    cases (show _ = Value.ref a from r)
    obtain ⟨its, rv, pl, _⟩ := I.tuple hq
    obtain ⟨as, ra⟩ := RDs.reads I hs rv
    obtain ⟨o, e, c, n, d⟩ := pl
    exact ⟨_, .tuple e c d (by simpa using ra)⟩
theorem RDs.reads {X : Cx} {pins : List (Addr × Obj)} {σ : St} {H : Hp} {s : Shared} (I : Inv X pins σ H s) : ∀ {xs : List V} {ds : List PyData} {us : List Value}, RDs X.K H xs ds → Vals xs us → ∃ as, ReadsAll s.heap us ds as
  | _, _, _, .nil, r => by cases r; exact ⟨_, .nil⟩
  | _, _, _, .cons h1 h2, r => by
    cases r with
    | cons r1 r2 =>
      obtain ⟨as, a1⟩ := RD.reads I h1 r1
      obtain ⟨bs, a2⟩ := RDs.reads I h2 r2
      exact ⟨_, .cons a1 a2⟩
end
def rNeD (K : PySem.W.Frag) : R2 := fun x y H Q => ∃ d e, RD K H x d ∧ RD K H y e ∧ SeqAt.shaped d = true ∧ SeqAt.shaped e = true ∧ Q (.bl (!PyData.eqv d e)) H
theorem op_neD {X : Cx} (hu : X.A.units + 64 < cLine) : OpR X (compareOp .NotEq) (rNeD X.K) := by
  intro pins s σ H x y v u Q I rx ry h
  obtain ⟨d, e, hd, he, sd, se, q⟩ := h
  obtain ⟨as, ra⟩ := hd.reads I rx
  obtain ⟨bs, rb⟩ := he.reads I ry
  exact ne_dataH ra rb sd se hu ⟨.bl _, H, I, rfl, q⟩
end L2
set_option Elab.async false
set_option linter.all false
set_option maxRecDepth 100000
set_option maxHeartbeats 4000000
namespace L2
open PySem PySem.Spec PyProof.Rows
theorem atI_some {α : Type} {xs : List α} {i : Int} (h0 : 0 ≤ i) (h1 : i < (xs.length : Int)) : ∃ v, atI xs i = some v ∧ v ∈ xs ∧ xs[i.toNat]? = some v := by
  have hn : i.toNat < xs.length := by omega
  refine ⟨xs[i.toNat], ?_, List.getElem_mem hn, List.getElem?_eq_getElem hn⟩
  have e : ((i.toNat : Nat) : Int) = i := by omega
  have q := atI_nat (xs := xs) (j := i.toNat) (List.getElem?_eq_getElem hn)
  rw [e] at q
  exact q
theorem atI_mod {α : Type} {xs : List α} (i : Int) (h : 0 < xs.length) : ∃ v, atI xs (i % (xs.length : Int)) = some v ∧ v ∈ xs ∧ xs[(i % (xs.length : Int)).toNat]? = some v :=
  atI_some (Int.emod_nonneg _ (by omega)) (Int.emod_lt_of_pos _ (by omega))
theorem mem_map_int {ns : List Int} {v : V} (h : v ∈ ns.map V.int) : ∃ z, v = .int z ∧ z ∈ ns := by
  obtain ⟨z, hz, e⟩ := List.mem_map.mp h
  exact ⟨z, e.symm, hz⟩
theorem Same.upd_new {H : Hp} {p : Addr} {o : HO} (h : H p = none) : Same H (upd H p o) := fun b u e => by rw [upd_ne (ne_of_none e h)]; exact e
theorem Same.upd_of {H H' : Hp} {p : Addr} {o : HO} (s : Same H H') (h : H p = none) : Same H (upd H' p o) := fun b u e => by rw [upd_ne (ne_of_none e h)]; exact s b u e
theorem Same.tup {K : PySem.W.Frag} {H H' : Hp} {a : Addr} {xs : List V} (e : Same H H') (h : SqT K H a xs) : SqT K H' a xs := by
  rcases h with (h | ⟨o, h⟩) | h
  · exact .inl (.inl (e _ _ h))
  · exact .inl (.inr ⟨o, e _ _ h⟩)
  · exact .inr h
theorem ix_listK {X : Cx} (K : PySem.W.Frag) (hK : X.K = K := by rfl) : IxR X (rIxL K) := hK ▸ ix_list
theorem ix_tupK {X : Cx} (K : PySem.W.Frag) (hK : X.K = K := by rfl) : IxR X (rIxT K) := hK ▸ ix_tup
theorem op_in_seqK {X : Cx} (K : PySem.W.Frag) (hK : X.K = K := by rfl) : OpR X (compareOp .In) (rIn K false) := hK ▸ op_in_seq
theorem op_notIn_seqK {X : Cx} (K : PySem.W.Frag) (hK : X.K = K := by rfl) : OpR X (compareOp .NotIn) (rIn K true) := hK ▸ op_notIn_seq
section
variable {X : Cx} {o e : Expr} {es : List Expr} {to : TE} {t : TA} {name : Str} {apos cpos : Pos} {T id : String} {r : V → List V → Hp → VK → Prop}
end
def plainE : Expr → Bool
  | .Starred .. => false
  | _ => true
theorem starEach_plain {e : Expr} {es : List Expr} {env : Env} (h : plainE e = true) : starEach (e :: es) env = (false, eval e env) :: starEach es env := by
  cases e <;> first | rfl | (cases h)
/-- an item of a written list, tuple or argument list (no star) -/
theorem pac {X : Cx} {e : Expr} {es : List Expr} {te : TE} {t : TA} (ha : PE X e te) (hr : PA X es t) (h : plainE e = true := by rfl) : PA X (e :: es) (tCons te t) := pa_cons ha hr (starEach_plain h)
/-- an item list, not to be looked into by the elaborator (its unfolding is paid for item by item, twice each) -/
structure PAs (X : Cx) (es : List Expr) (t : TA) : Prop where
  h : PA X es t
theorem pas_nil {X : Cx} : PAs X [] tNil := ⟨pa_nil⟩
theorem pas_cons {X : Cx} {e : Expr} {es : List Expr} {te : TE} {t : TA} (ha : PE X e te) (hr : PAs X es t) (h : plainE e = true := by rfl) : PAs X (e :: es) (tCons te t) := ⟨pac ha hr.h h⟩
theorem pe_lstS {X : Cx} {es : List Expr} {t : TA} {pos : Pos} (h : PAs X es t) : PE X (.List es pos) (tLst t) := pe_lst h.h
theorem pe_tupS {X : Cx} {es : List Expr} {t : TA} {x1 : Nat} {pos : Pos} (h : PAs X es t) : PE X (.Tuple es x1 pos) (tTup t) := pe_tup h.h
theorem st_nil {σ : St} {H : Hp} {Q : List V → Hp → Prop} (h : Q [] H) : tNil σ H Q := h
theorem cat_len (x y : Str) : (x ++ y).length = x.length + y.length := by
  show (x.cps ++ y.cps).size = _
  rw [Array.size_append]; rfl
theorem one_len (c : Nat) : (⟨#[c]⟩ : Str).length = 1 := rfl
end L2
set_option Elab.async false
set_option linter.all false
set_option maxRecDepth 100000
set_option maxHeartbeats 4000000
namespace L2
open PySem PySem.Spec PyProof.Rows
/-- only plain signs -/
def Asc (x : Str) : Prop := ∀ c ∈ x.cps.toList, c < 128
theorem Asc.ok {x : Str} (h : Asc x) : PyData.strOk x = true := by
  unfold PyData.strOk
  rw [Array.all_eq_true']
  intro c hc
  have := h c (Array.mem_toList_iff.mpr hc)
  exact decide_eq_true (by omega)
theorem Asc.one {x : Str} {c : Nat} (h : Asc x) (hc : c ∈ x.cps.toList) : Asc ⟨#[c]⟩ := fun d hd => by
  have : d = c := by simpa using hd
  rw [this]; exact h c hc
theorem vals_of_get : ∀ {xs : List V} {us : List Value}, xs.length = us.length → (∀ (j : Nat) (x : V) (u : Value), xs[j]? = some x → us[j]? = some u → RelV x u) → Vals xs us
  | [], [], _, _ => .nil
  | [], _ :: _, h, _ => by cases h
  | _ :: _, [], h, _ => by cases h
  | x :: xs, u :: us, hl, hg => .cons (hg 0 x u rfl rfl) (vals_of_get (by simpa using hl) fun j y w h1 h2 => hg (j + 1) y w (by simpa using h1) (by simpa using h2))
theorem KV.at {κ : Type} : ∀ {kvs : List (κ × V)} {vs : List (κ × Value)} {j : Nat} {p : κ × V} {q : κ × Value}, KV kvs vs → kvs[j]? = some p → vs[j]? = some q → p.1 = q.1
  | _, _, _, _, _, .nil, h, _ => by simp at h
  | _, _, 0, _, _, .cons r _, h1, h2 => by
    simp only [List.getElem?_cons_zero, Option.some.injEq] at h1 h2
    subst h1 h2
    exact r.1
  | _, _, j + 1, _, _, .cons _ t, h1, h2 => KV.at (j := j) (show KV _ _ from t) (by simpa using h1) (by simpa using h2)
/-- a comprehension over a range: P of what has come so far, whatever the heap has got beside -/
theorem comp_rangeG {lo : Int} {n : Nat} {fr : List (Nat × Str)} {te : TE} {σ : St} {H1 : Hp} {Q : VK} (Pv : Nat → List V → Prop) (hz : n ≤ sizeLine) (h0 : Pv 0 []) (hlen : ∀ i ys, Pv i ys → ys.length = i)
    (hte : ∀ (i : Nat) (ys : List V) (H3 : Hp) (Q' : VK), i < n → Pv i ys → Same H1 H3 → (∀ y H5, Pv (i + 1) (ys ++ [y]) → Same H3 H5 → Q' y H5) → te (some (.int (lo + i)) :: frV σ fr) H3 Q')
    (hQ : ∀ D ys H2, H1 D = none → Pv n ys → Same H1 H2 → H2 D = some (.lst ys) → Q (.ref D) H2) :
    compGoal (Itr lo n) fr tTrue te σ H1 Q := by
  unfold compGoal
  intro D hD
  refine ⟨fun i m ys H2 => m = n - i ∧ i ≤ n ∧ Pv i ys ∧ Same H1 H2 ∧ H2 D = some (.lst ys), ⟨n, by simp, Nat.zero_le _, h0, Same.upd_new hD, upd_same⟩, ?_⟩
  rintro i m ys H2 ⟨rfl, hi, p, s2, d2⟩
  refine ⟨d2, ?_⟩
  by_cases hlt : i < n
  · refine .inr ⟨hlt, ?_⟩
    rintro v H3 ⟨rfl, rfl⟩
    refine tTrue_go (iteT ?_)
    refine hte i ys _ _ hlt p s2 fun y H5 p' s5 => ⟨s5 _ _ d2, ?_, n - (i + 1), by omega, rfl, hlt, p', (s2.trans s5).upd_of hD, upd_same⟩
    rw [hlen i ys p]; omega
  · have e : i = n := by omega
    subst e
    exact .inl ⟨Nat.le_refl _, hQ D ys H2 hD p s2 d2⟩
/-- a comprehension over a list that stays -/
theorem comp_listG {K : PySem.W.Frag} {a : Addr} {xs : List V} {fr : List (Nat × Str)} {te : TE} {σ : St} {H1 : Hp} {Q : VK} (Pv : Nat → List V → Prop) (hz : xs.length ≤ sizeLine) (hS : SqL K H1 a xs) (h0 : Pv 0 []) (hlen : ∀ i ys, Pv i ys → ys.length = i)
    (hte : ∀ (i : Nat) (x : V) (ys : List V) (H3 : Hp) (Q' : VK), xs[i]? = some x → Pv i ys → Same H1 H3 → (∀ y H5, Pv (i + 1) (ys ++ [y]) → Same H3 H5 → Q' y H5) → te (some x :: frV σ fr) H3 Q')
    (hQ : ∀ D ys H2, H1 D = none → Pv xs.length ys → Same H1 H2 → H2 D = some (.lst ys) → Q (.ref D) H2) :
    compGoal (Itl K a) fr tTrue te σ H1 Q := by
  unfold compGoal
  intro D hD
  refine ⟨fun i m ys H2 => m = xs.length - i ∧ i ≤ xs.length ∧ Pv i ys ∧ Same H1 H2 ∧ H2 D = some (.lst ys), ⟨xs.length, by simp, Nat.zero_le _, h0, Same.upd_new hD, upd_same⟩, ?_⟩
  rintro i m ys H2 ⟨rfl, hi, p, s2, d2⟩
  refine ⟨d2, ?_⟩
  have hS2 := s2.seq hS
  by_cases hlt : i < xs.length
  · refine .inr ⟨⟨xs, xs[i], hS2, List.getElem?_eq_getElem hlt⟩, ?_⟩
    rintro v H3 ⟨rfl, hv⟩
    refine tTrue_go (iteT ?_)
    refine hte i v ys _ _ (hv xs hS2) p s2 fun y H5 p' s5 => ⟨s5 _ _ d2, ?_, xs.length - (i + 1), by omega, rfl, hlt, p', (s2.trans s5).upd_of hD, upd_same⟩
    rw [hlen i ys p]; omega
  · have e : i = xs.length := by omega
    subst e
    exact .inl ⟨⟨xs, hS2, Nat.le_refl _⟩, hQ D ys H2 hD p s2 d2⟩
end L2
set_option Elab.async false
set_option linter.all false
set_option maxRecDepth 100000
set_option maxHeartbeats 4000000
namespace L2
open PySem PySem.Spec PyProof.Rows
theorem rds_strs {K : PySem.W.Frag} {H : Hp} : ∀ xs : List Str, RDs K H (xs.map V.str) (xs.map PyData.str)
  | [] => .nil
  | x :: r => .cons (.str x) (rds_strs r)
theorem rd_strs {K : PySem.W.Frag} {H : Hp} {a : Addr} {xs : List Str} (h : SqL K H a (xs.map V.str)) : RD K H (.ref a) (.list (xs.map PyData.str)) := .lst h (rds_strs xs)
theorem lay_strs : ∀ {xs : List Str}, (∀ x ∈ xs, Asc x) → PyData.canLayAll0 (xs.map PyData.str) = true ∧ PyData.depthAll (xs.map PyData.str) = 0
  | [], _ => ⟨rfl, rfl⟩
  | x :: r, h => by
    have q := lay_strs (xs := r) fun y hy => h y (List.mem_cons_of_mem _ hy)
    have e := (h x List.mem_cons_self).ok
    simp only [List.map_cons, PyData.canLayAll0, PyData.canLay0, PyData.depthAll, PyData.depth, q.1, q.2, e]
    exact ⟨rfl, rfl⟩
theorem shaped_strs {xs : List Str} (h : ∀ x ∈ xs, Asc x) : SeqAt.shaped (.list (xs.map PyData.str)) = true := by
  have q := lay_strs h
  unfold SeqAt.shaped
  simp only [PyData.canLay0, PyData.depth, q.1, q.2]
  rfl
theorem eqvAll_strs : ∀ xs ys : List Str, PyData.eqvAll (xs.map PyData.str) (ys.map PyData.str) = decide (xs = ys)
  | [], [] => by simp [PyData.eqvAll]
  | [], _ :: _ => by simp [PyData.eqvAll]
  | _ :: _, [] => by simp [PyData.eqvAll]
  | x :: r, y :: t => by
    simp only [List.map_cons, PyData.eqvAll, PyData.eqv, eqvAll_strs r t]
    by_cases h : x = y <;> by_cases h' : r = t <;> simp [h, h']
theorem eqv_strs (xs ys : List Str) : PyData.eqv (.list (xs.map PyData.str)) (.list (ys.map PyData.str)) = decide (xs = ys) := by
  simp only [PyData.eqv]; exact eqvAll_strs xs ys
/-- two lists of texts that are one -/
theorem ne_same {K : PySem.W.Frag} {H : Hp} {a b : Addr} {xs : List Str} {Q : VK} (ha : SqL K H a (xs.map V.str)) (hb : SqL K H b (xs.map V.str)) (h : ∀ x ∈ xs, Asc x) (q : Q (.bl false) H) : rNeD K (.ref a) (.ref b) H Q :=
  ⟨_, _, rd_strs ha, rd_strs hb, shaped_strs h, shaped_strs h, by rw [eqv_strs, decide_eq_true rfl]; exact q⟩
theorem inV_strs {xs : List Str} {t : Str} : inV (.str t) (xs.map V.str) = decide (t ∈ xs) := by
  unfold inV
  rw [List.any_map, Bool.eq_iff_iff, List.any_eq_true, decide_eq_true_eq]
  constructor
  · rintro ⟨x, hx, e⟩
    have : x = t := eq_of_beq (show (x == t) = true from e)
    rw [← this]; exact hx
  · intro h
    exact ⟨t, h, show (t == t) = true from beq_self_eq_true t⟩
theorem flat_strs (xs : List Str) : (xs.map V.str).all flatV = true := by
  rw [List.all_map, List.all_eq_true]; intro x _; rfl
end L2
namespace L2
open PySem PySem.Spec PyProof.Rows
abbrev aZ : Str := "abcdefghijklmnopqrstuvwxyz0123456789"
theorem aZ_len : aZ.cps.toList.length = 36 := by decide +kernel
theorem aZ_asc : Asc aZ := by
  have h : (aZ.cps.toList.all fun c => decide (c < 128)) = true := by decide +kernel
  intro c hc
  exact of_decide_eq_true (List.all_eq_true.mp h c hc)
theorem aZ_small : aZ.length ≤ sizeLine := by
  have : aZ.length = 36 := by decide +kernel
  rw [this]; decide
/-- 1 to 20 signs, each a small letter or a figure -/
structure WordS (x : Str) : Prop where
  lo : 1 ≤ x.length
  hi : x.length ≤ 20
  in_ : ∀ c ∈ x.cps.toList, c ∈ aZ.cps.toList
theorem WordS.asc {x : Str} (h : WordS x) : Asc x := fun c hc => aZ_asc c (h.in_ c hc)
theorem len_list (x : Str) : x.length = x.cps.toList.length := by simp [Str.length]
theorem cat_list (x y : Str) : (x ++ y).cps.toList = x.cps.toList ++ y.cps.toList := by show (x.cps ++ y.cps).toList = _; simp
theorem empty_len : ("" : Str).length = 0 := by decide +kernel
/-- one sign out of a text -/
def Sign1 (z y : Str) : Prop := ∃ c, c ∈ z.cps.toList ∧ y = ⟨#[c]⟩
theorem Sign1.len {z y : Str} (h : Sign1 z y) : y.length = 1 := by obtain ⟨c, _, rfl⟩ := h; rfl
theorem pick_sign {z : Str} {i : Int} (h0 : 0 ≤ i) (h1 : i < (z.cps.toList.length : Int)) : ∃ c, atI z.cps.toList i = some c ∧ c ∈ z.cps.toList := by
  obtain ⟨c, a, b, _⟩ := atI_some h0 h1
  exact ⟨c, a, b⟩
end L2
set_option Elab.async false
set_option linter.all false
set_option maxRecDepth 100000
set_option maxHeartbeats 4000000
namespace L2
open PySem PySem.Spec PyProof.Rows
theorem big1 : 1000002 ≤ sizeLine := by decide
end L2
set_option Elab.async false
set_option linter.all false
set_option maxRecDepth 100000
set_option maxHeartbeats 4000000
namespace L2
open PySem PySem.Spec PyProof.Rows
end L2
set_option Elab.async false
set_option linter.all false
set_option maxRecDepth 100000
set_option maxHeartbeats 4000000
namespace L2
open PySem PySem.Spec PyProof.Rows
structure FunD (K : PySem.W.Frag) (x qual : Str) (st : Stmt) (f : Addr) (fd : FuncData) : Prop where
  ex : ∃ (oc : Value) (od : Option Addr) (dV kV doc pm : Value) (an : Option Addr) (cdv ct : Value) (osl : Array (Option Value)),
    fd = PySem.W.fnOf x qual (defArgs st) (defBody st) (defScope st) dV kV doc pm an cdv ct ∧ K.lookup f = some ⟨oc, od, .func fd, osl⟩ ∧ PySem.W.codeIn K cdv qual = true
  kp : PySem.W.keepIn K (.ref f) = true
theorem FunD.ok {P : Program} {w : World} {K : PySem.W.Frag} {mg : Str → Option Value} {base : Heap} {x qual : Str} {st : Stmt} {f : Addr} {fd : FuncData} {N ps : List Str} {k : Nat} {sp : Sp} (F : FunD K x qual st f fd) (S : FnScope N ps (defScope st))
    (len : ∀ vs H Q E, sp vs H Q E → vs.length = ps.length)
    (hbody : ∀ (cdv : Value) (A : Around) (outer : List Env) (s : Shared) (H : Hp) (vs : List V) (Q : VK) (E : XK), Room k (A.deeper (envOfC qual (defScope st) s.heap.objs.size f cdv)) → sp vs H Q E →
      ∃ t, PSs (cxOf CX0 P w K mg base N qual (defScope st) f cdv A outer s H E).nox (defBody st) t ∧ t { nx := fun _ H' => Q .non H', rt := Q } (start N vs) H) : FnOk P w K mg base CX0 (k + 1) f fd ps sp := by
  obtain ⟨oc, od, dV, kV, doc, pm, an, cdv, ct, osl, rfl, lk, hcd⟩ := F.ex
  refine fn_of lk hcd S len fun A outer s H vs Q E hr hsp => ?_
  obtain ⟨t, h, q⟩ := hbody cdv A outer s H vs Q E hr hsp
  exact ⟨t, h.nox, q⟩
def Prt (x : Str) : Prop := ∀ c ∈ x.cps.toList, 32 ≤ c ∧ c < 127
theorem Prt.asc {x : Str} (h : Prt x) : Asc x := fun c hc => Nat.lt_trans (h c hc).2 (by decide)
theorem Prt.one {x : Str} {c : Nat} (h : Prt x) (hc : c ∈ x.cps.toList) : Prt ⟨#[c]⟩ := fun d hd => by
  have : d = c := by simpa using hd
  rw [this]; exact h c hc
end L2
set_option Elab.async false
set_option linter.all false
set_option maxRecDepth 100000
set_option maxHeartbeats 4000000
namespace L2
open PySem PySem.Spec PyProof.Rows
theorem str_ext {x y : Str} (h : x.cps.toList = y.cps.toList) : x = y := by
  cases x; cases y
  have := Array.toList_inj.mp h
  simp only at this
  rw [this]
/-- a row of drawn numbers: what stands at a place -/
theorem row_pick {rs : List Int} {m : Int} (hb : ∀ r ∈ rs, 0 ≤ r ∧ r < m) (i : Int) (h0 : 0 ≤ i) (h1 : i < (rs.length : Int)) : ∃ z, atI (rs.map V.int) i = some (V.int z) ∧ 0 ≤ z ∧ z < m := by
  obtain ⟨v, hv, hvm, _⟩ := atI_some (xs := rs.map V.int) h0 (by rw [List.length_map]; exact h1)
  obtain ⟨z, hz, rfl⟩ := List.mem_map.mp hvm
  exact ⟨z, hv, hb z hz⟩
end L2
set_option Elab.async false
set_option linter.all false
set_option maxRecDepth 100000
set_option maxHeartbeats 4000000
namespace L2
open PySem PySem.Spec PyProof.Rows
end L2
set_option Elab.async false
set_option linter.all false
set_option maxRecDepth 100000
set_option maxHeartbeats 4000000
namespace L2
open PySem PySem.Spec PyProof.Rows
end L2
set_option Elab.async false
set_option linter.all false
set_option maxRecDepth 100000
set_option maxHeartbeats 4000000
namespace L2
open PySem PySem.Spec PyProof.Rows
end L2
set_option Elab.async false
set_option linter.all false
set_option maxRecDepth 100000
set_option maxHeartbeats 4000000
namespace L2
open PySem PySem.Spec PyProof.Rows
def leS (a b : Str) : Bool := !ltCps b.cps.toList a.cps.toList
def insS (x : Str) : List Str → List Str
  | [] => [x]
  | y :: r => if leS x y = true then x :: y :: r else y :: insS x r
def sortS : List Str → List Str
  | [] => []
  | x :: r => insS x (sortS r)
theorem leS_iff (a b : Str) : leS a b = true ↔ ¬ b.cps.toList < a.cps.toList := by
  unfold leS
  rw [ltCps_eq]
  simp
theorem leS_total (a b : Str) : leS a b = true ∨ leS b a = true := by
  rw [leS_iff, leS_iff]
  by_cases h : b.cps.toList < a.cps.toList
  · exact .inr (List.lt_asymm h)
  · exact .inl h
theorem leS_trans {a b c : Str} (h1 : leS a b = true) (h2 : leS b c = true) : leS a c = true := by
  rw [leS_iff] at *
  intro h
  rcases strKind.negTrans c.cps.toList b.cps.toList a.cps.toList (by simpa using h) with z | z
  · exact h2 (by simpa using z)
  · exact h1 (by simpa using z)
theorem leS_antisymm {a b : Str} (h1 : leS a b = true) (h2 : leS b a = true) : a = b := by
  rw [leS_iff] at *
  exact str_ext (List.le_antisymm (List.not_lt.mp h1) (List.not_lt.mp h2))
abbrev Sor (l : List Str) : Prop := l.Pairwise fun a b => leS a b = true
theorem rising_sor : ∀ (p : Str) (l : List Str), risingS p l = true → Sor (p :: l)
  | p, [], _ => List.pairwise_singleton _ _
  | p, x :: r, h => by
    have h : (leS p x && risingS x r) = true := h
    rw [Bool.and_eq_true] at h
    have ih := rising_sor x r h.2
    refine List.pairwise_cons.mpr ⟨fun y hy => ?_, ih⟩
    rcases List.mem_cons.mp hy with rfl | hy
    · exact h.1
    · exact leS_trans h.1 ((List.pairwise_cons.mp ih).1 y hy)
theorem sor_of : ∀ {l : List Str}, sortedS l = true → Sor l
  | [], _ => List.Pairwise.nil
  | x :: r, h => rising_sor x r h
theorem ins_perm (x : Str) : ∀ l : List Str, (insS x l).Perm (x :: l)
  | [] => .refl _
  | y :: r => by
    unfold insS
    split
    · exact .refl _
    · exact ((ins_perm x r).cons y).trans (.swap x y r)
theorem sortS_perm : ∀ l : List Str, (sortS l).Perm l
  | [] => .refl _
  | x :: r => (ins_perm x (sortS r)).trans ((sortS_perm r).cons x)
theorem ins_sor (x : Str) : ∀ {l : List Str}, Sor l → Sor (insS x l)
  | [], _ => List.pairwise_singleton _ _
  | y :: r, h => by
    unfold insS
    obtain ⟨h1, h2⟩ := List.pairwise_cons.mp h
    split
    · rename_i hx
      refine List.pairwise_cons.mpr ⟨fun z hz => ?_, h⟩
      rcases List.mem_cons.mp hz with rfl | hz
      · exact hx
      · exact leS_trans hx (h1 z hz)
    · rename_i hx
      refine List.pairwise_cons.mpr ⟨fun z hz => ?_, ins_sor x h2⟩
      rcases List.mem_cons.mp ((ins_perm x r).mem_iff.mp hz) with rfl | hz
      · exact (leS_total y z).resolve_right hx
      · exact h1 z hz
theorem sortS_sor : ∀ l : List Str, Sor (sortS l)
  | [] => .nil
  | x :: r => ins_sor x (sortS_sor r)
theorem sor_unique : ∀ {a b : List Str}, a.Perm b → Sor a → Sor b → a = b
  | [], b, p, _, _ => (List.nil_perm.mp p).symm
  | x :: r, [], p, _, _ => absurd p.symm.nil_eq (by simp)
  | x :: r, y :: t, p, ha, hb => by
    have e : x = y := by
      have h1 : x ∈ y :: t := p.mem_iff.mp List.mem_cons_self
      have h2 : y ∈ x :: r := p.mem_iff.mpr List.mem_cons_self
      rcases List.mem_cons.mp h1 with e | h1
      · exact e
      · rcases List.mem_cons.mp h2 with e | h2
        · exact e.symm
        · exact leS_antisymm ((List.pairwise_cons.mp ha).1 y h2) ((List.pairwise_cons.mp hb).1 x h1)
    subst e
    rw [sor_unique (List.perm_cons _ |>.mp p) (List.pairwise_cons.mp ha).2 (List.pairwise_cons.mp hb).2]
theorem sortS_eq {a b : List Str} (p : a.Perm b) (h : Sor a) : a = sortS b := sor_unique (p.trans (sortS_perm b).symm) h (sortS_sor b)
theorem sortS_congr {a b : List Str} (p : a.Perm b) : sortS a = sortS b := sortS_eq ((sortS_perm a).trans p) (sortS_sor a)
theorem sortS_len (l : List Str) : (sortS l).length = l.length := (sortS_perm l).length_eq
theorem sortS_mem {l : List Str} {x : Str} : x ∈ sortS l ↔ x ∈ l := (sortS_perm l).mem_iff
theorem vals_strsAre : ∀ {us : List Value} {ss : List Str}, StrsAre us ss → Vals (ss.map V.str) us
  | _, _, .nil => .nil
  | _, _, .cons x t h => .cons ⟨t, rfl⟩ (vals_strsAre h)
theorem call_sorted {X : Cx} : CallR X (.builtin "sorted") (fun xs H Q => ∃ p ss, xs = [.ref p] ∧ SqL X.K H p (ss.map V.str) ∧ ss.length < 64 ∧ ∀ l, H l = none → Q (.ref l) (upd H l (.lst ((sortS ss).map V.str)))) := by
  intro pins s σ H xs us Q I r h
  obtain ⟨p, ss, rfl, hS, hl, q⟩ := h
  obtain ⟨u, rfl, rx⟩ := vals1 r
  cases rx
  obtain ⟨its, rv, pl, _⟩ := I.list hS
  have hst := strsAre_of rv
  have hlen : its.length = ss.length := by have := rv.length; rw [List.length_map] at this; exact this.symm
  refine sorted_strs pl.isList hst (by omega) fun out ss' a1 a2 a3 => ?_
  obtain ⟨e, he⟩ := sortedAll_at s.heap its out
  have es : ss' = sortS ss := sortS_eq a2 (sor_of a3)
  subst es
  have hsz : s.heap.objs.size ≤ s.heap.objs.size + 1 := Nat.le_succ _
  refine ⟨.ref (s.heap.objs.size + 1), _, I.laid (t' := s.toks) (fun b u hb => sortedAll_old hb) hsz (show ObjOk X.prog X.w _ _ _ (.lst ((sortS ss).map V.str)) from ⟨?_, out.toList, e, vals_strsAre a1, ?_⟩), rfl, q _ (I.hok.fresh hsz)⟩
  · rw [List.length_map, sortS_len]; exact Nat.le_of_lt (small1000 (by omega))
  · rw [Array.toArray_toList]; exact he
/-- what an iterable yields, collected: the heap has grown -/
theorem collect_src {prog : Program} {w : World} {A : Around} {E : Value → Shared → Prop} {s : Shared} {T : String} {r d : Addr} {n : Nat} {P : Nat → Value → Prop} {OK : Heap → Prop} {R : List Value → Shared → Prop}
    (src : PySem.W.KdlSrc prog w T r d n P OK) (calm : A.handled = none) (ok : OK s.heap) (few : n ≤ sizeLine)
    (fin : ∀ (g : Heap) (k : Nat) (got : Array Value), (∀ b o, s.heap.get? b = some o → g.get? b = some o) → s.heap.objs.size < g.objs.size → ItemsOf P got n → R got.toList { s with heap := g, toks := k }) :
    wpAny (model prog w) A (collect (.ref r)) R E s := by
  obtain ⟨lr, ld⟩ := src.there _ ok
  let new : Obj := { cls := .type "list", data := .seq ([] : List Value).toArray }
  have there : (s.heap.push new).get? s.heap.objs.size = some new := Heap.get?_push_size _ rfl
  have still := src.keep _ _ ok (fun b _ o e => Heap.get?_push_of_some (h := s.heap) new e)
  have walked := PySem.W.kdl_extend (A := A) (s := { s with heap := s.heap.push new })
    (R := fun q t => ∃ (g : Heap) (k : Nat) (got : Array Value) (c : Nat), q = Except.ok (Flow.ret (.ref s.heap.objs.size)) ∧ t = { s with heap := g, toks := k } ∧ (∀ b o, s.heap.get? b = some o → g.get? b = some o) ∧
      g.get? s.heap.objs.size = some { cls := .type "list", dict := none, data := .seq got c, slots := #[] } ∧ ItemsOf P got n)
    src calm still s.heap.objs.size (Nat.ne_of_gt lr) (Nat.ne_of_gt ld) (.ref s.heap.objs.size) 0 there
    (fun g k got c keep at' all => ⟨g, k, got, c, rfl, rfl, fun b o e => keep b o (Nat.ne_of_lt (Heap.lt_size e)) (Heap.get?_push_of_some _ e), at', all⟩) few
  have done : ∀ (g : Heap) (k : Nat) (got : Array Value) (c : Nat), (∀ b o, s.heap.get? b = some o → g.get? b = some o) → g.get? s.heap.objs.size = some { cls := .type "list", dict := none, data := .seq got c, slots := #[] } → ItemsOf P got n →
      wpAny (model prog w) A (do match (← load s.heap.objs.size).data with
        | .seq xs _ => pure xs.toList
        | _ => unsupported "internal:collect") R E { s with heap := g, toks := k } := fun g k got c keep at' all =>
    wpAny_bind (wpAny_load at' (wpAny_pure (fin g k got keep (Heap.lt_size at') all)))
  unfold collect
  apply wpAny_bind
  apply wpAny_runValue
  apply codeAny_builtin entry_proto_collect'
  rw [Around.under_plainId F.plain_proto_collect _]
  show wpAny _ A.in1 (newList [] >>= fun z => again (.builtin "list.__iadd__" ⟨[z, .ref r], []⟩)) _ _ s
  apply wpAny_bind
  refine wpAny_newObj_type ?_
  apply wpAny_pure
  refine ⟨plainId_quiet F.plain_list_iadd _, ?_⟩
  apply codeAny_builtin entry_list_iadd'
  rw [Around.under_plainId F.plain_list_iadd _]
  refine wpAny_mono walked (fun f t q => ?_) (fun e t q => ?_)
  · cases f with
    | done f =>
      obtain ⟨g, k, got, c, e, rfl, keep, at', all⟩ := q
      cases e
      exact done g k got c keep at' all
    | again c1 =>
      refine ⟨q.1, codeAny_mono q.2 fun z t2 y => ?_⟩
      obtain ⟨g, k, got, c, rfl, rfl, keep, at', all⟩ := y
      exact done g k got c keep at' all
  · obtain ⟨_, _, _, _, e', _⟩ := q
    cases e'
theorem call_sorted_dict {X : Cx} (hc : X.calm = true) : CallR X (.builtin "sorted") (fun xs H Q => ∃ p kvs ss, xs = [.ref p] ∧ H p = some (.dK kvs) ∧ kvs.map (fun kv => kV kv.1) = ss.map V.str ∧ ss.length < 64 ∧ ∀ l, H l = none → Q (.ref l) (upd H l (.lst ((sortS ss).map V.str)))) := by
  intro pins s σ H xs us Q I r h
  obtain ⟨p, kvs, ss, rfl, hp, hks, hl, q⟩ := h
  obtain ⟨u, rfl, rx⟩ := vals1 r
  cases rx
  obtain ⟨hz, hlo, vs, rv, o, es, ep, h1, h2, h3, h4, h5, h6⟩ := dk_of I.hok hp
  have da : s.heap.DictAt (mixKind X.prog X.w) p vs ep := ⟨o, es, h1, h2, h3, h4, h5, h6⟩
  have hlen : kvs.length = vs.length := KV.length rv
  have hh : X.A.in1.handled = none := I.ok.hd hc
  refine Calls.call_function_entry kind_sorted plain_sorted entry_sorted (args_sorted1 _) ?_
  unfold Builtin.«sorted»
  refine wpAny_bind (m := checkCount "sorted" 1 1 _) (wpAny_pure ?_)
  refine wpAny_bind (collect_src (A := X.A.in1) (PySem.W.kdl_dict hlo) hh da (by rw [← hlen]; exact hz) fun h' tk acc hk hgr hacc => ?_)
  have hv : Vals (kvs.map fun kv => kV kv.1) acc.toList := by
    refine vals_of_get (by rw [List.length_map, hlen]; exact hacc.1.symm.trans (by simp)) fun j x u e1 e2 => ?_
    rw [List.getElem?_map] at e1
    cases hj : kvs[j]? with
    | none => rw [hj] at e1; cases e1
    | some kv =>
      rw [hj] at e1
      cases e1
      obtain ⟨k, y, e3, e4⟩ := hacc.2 j u (by rw [← Array.getElem?_toList]; exact e2)
      have ek : kv.1 = k := KV.at rv hj e3
      show RelV (kV kv.1) u
      rw [ek]
      rcases keyIs_shape (show keyIs k u = true from e4) with ⟨i, t, rfl, rfl⟩ | ⟨z, t, rfl, rfl⟩
      · exact ⟨t, rfl⟩
      · exact ⟨t, rfl⟩
  rw [hks] at hv
  have hst := strsAre_of hv
  have hal : acc.toList.length = ss.length := by have := hv.length; rw [List.length_map] at this; exact this.symm
  refine wpAny_bind (wpAny_newList ?_ (by rw [hal]; exact Nat.le_of_lt (small1000 (by omega))))
  have hoL : (h'.push (seqObj "list" acc.toList.toArray 0)).get? h'.objs.size = some (seqObj "list" acc.toList.toArray 0) := Heap.get?_push_size _ rfl
  refine wpAny_bind (wpAny_holding (wpAny_call_entry slot_list_sort ⟨_, hoL, rfl⟩ entry_list_sort (list_sort_treeK strKind_oneLt hoL hst.keysOf (fun v₁ v₂ rest e => keyKind_strs (by rw [← e]; exact hst)) (by omega) fun st' a1 a2 => ⟨_, rfl, ?_⟩) (args_list_sort _)))
  refine wpAny_pure ⟨_, rfl, ?_⟩
  obtain ⟨ss', b1, b2, b3⟩ := sorted_out_str hst a1 a2
  obtain ⟨e, he⟩ := sortedHeap_at (out := (arrOf st').map (·.2)) hoL
  have es' : ss' = sortS ss := sortS_eq b2 (sor_of b3)
  subst es'
  have hsz : s.heap.objs.size ≤ h'.objs.size := Nat.le_of_lt hgr
  refine ⟨.ref h'.objs.size, _, I.laid (t' := tk) (fun b u hb => ?_) hsz (show ObjOk X.prog X.w _ _ _ (.lst ((sortS ss).map V.str)) from ⟨?_, ((arrOf st').map (·.2)).toList, e, vals_strsAre b1, ?_⟩), rfl, q _ (I.hok.fresh hsz)⟩
  · have hb' := hk b u hb
    have hlt := Heap.lt_size hb'
    rw [sortedHeap_old (Nat.ne_of_lt hlt) (by rw [size_push']; exact Nat.lt_succ_of_lt hlt)]
    exact Heap.get?_push_of_some _ hb'
  · rw [List.length_map, sortS_len]; exact Nat.le_of_lt (small1000 (by omega))
  · rw [Array.toArray_toList]; exact he
end L2
set_option Elab.async false
set_option linter.all false
set_option maxRecDepth 100000
set_option maxHeartbeats 4000000
namespace L2
open PySem PySem.Spec PyProof.Rows
theorem comp_listFM {K : PySem.W.Frag} {a : Addr} {α : Type} {xs : List α} {fr : List (Nat × Str)} {tt : TT} {te : TE} {σ : St} {H1 : Hp} {Q : VK} (g : α → V) (pr : α → Bool) (f : α → V) (hz : xs.length ≤ sizeLine) (hS : SqL K H1 a (xs.map g))
    (htt : ∀ (x : α) (H3 : Hp) (Q' : Bool → Hp → Prop), x ∈ xs → Same H1 H3 → Q' (pr x) H3 → tt (some (g x) :: frV σ fr) H3 Q')
    (hte : ∀ (x : α) (H3 : Hp) (Q' : VK), x ∈ xs → Same H1 H3 → pr x = true → Q' (f x) H3 → te (some (g x) :: frV σ fr) H3 Q')
    (hQ : ∀ D, H1 D = none → Q (.ref D) (upd H1 D (.lst ((xs.filter pr).map f)))) :
    compGoal (Itl K a) fr tt te σ H1 Q := by
  unfold compGoal
  intro D hD
  refine ⟨fun i m ys H2 => m = xs.length - i ∧ i ≤ xs.length ∧ ys = ((xs.take i).filter pr).map f ∧ H2 = upd H1 D (.lst ys), ⟨xs.length, by simp, Nat.zero_le _, by simp, rfl⟩, ?_⟩
  rintro i m ys H2 ⟨rfl, hi, rfl, rfl⟩
  refine ⟨upd_same, ?_⟩
  have s1 : Same H1 (upd H1 D (.lst (((xs.take i).filter pr).map f))) := Same.upd_new hD
  have hS2 := s1.seq hS
  by_cases hlt : i < xs.length
  · have hx0 : (xs.map g)[i]? = some (g xs[i]) := by rw [List.getElem?_map, List.getElem?_eq_getElem hlt]; rfl
    refine .inr ⟨⟨xs.map g, g xs[i], hS2, hx0⟩, ?_⟩
    rintro v H3 ⟨rfl, hv⟩
    have hx : (xs.map g)[i]? = some v := hv _ hS2
    rw [hx0] at hx
    cases hx
    have hm : xs[i] ∈ xs := List.getElem_mem hlt
    have et : xs.take (i + 1) = xs.take i ++ [xs[i]] := by rw [List.take_add_one, List.getElem?_eq_getElem hlt]; rfl
    refine htt xs[i] _ _ hm s1 ?_
    cases hp : pr xs[i]
    · refine iteF ⟨xs.length - (i + 1), by omega, rfl, hlt, ?_, rfl⟩
      rw [et, List.filter_append, List.filter_cons, hp]
      simp
    · refine iteT (hte xs[i] _ _ hm s1 hp ⟨upd_same, ?_, xs.length - (i + 1), by omega, rfl, hlt, ?_, upd_upd⟩)
      · have := List.length_filter_le pr (xs.take i)
        rw [List.length_take] at this
        rw [List.length_map]
        omega
      · rw [et, List.filter_append, List.filter_cons, hp]
        simp
  · have e : i = xs.length := by omega
    subst e
    have e2 : xs.take xs.length = xs := List.take_of_length_le (Nat.le_refl _)
    refine .inl ⟨⟨xs.map g, hS2, by rw [List.length_map]; exact Nat.le_refl _⟩, ?_⟩
    rw [e2]
    exact hQ D hD
theorem call_isinsts {X : Cx} : CallR X (.builtin "isinstance") (fun xs H Q => ∃ (x : V) (t : Value) (p : Addr) (cs : List String) (b : Bool), xs = [x, .ref p] ∧ H p = some (.tup (cs.map V.ty)) ∧
    ((t = .type "str" ∧ ∃ y, x = .str y) ∨ (t = .type "list" ∧ ∃ a ys, x = .ref a ∧ H a = some (.lst ys))) ∧ PySem.W.kitAny X.K t (cs.map Value.type) = some b ∧ Q (.bl b) H) := by
  intro pins s σ H xs us Q I r h
  obtain ⟨x, t, p, cs, b, rfl, hp, ty, e, q⟩ := h
  obtain ⟨u, u', rfl, rx, rc⟩ := vals2 r
  cases (show u' = Value.ref p from rc)
  obtain ⟨its, rv, pl, _⟩ := I.tuple (SqT.of hp)
  have hits : its = cs.map Value.type := by
    have h2 : ∀ {l : List String} {ws : List Value}, Vals (l.map V.ty) ws → ws = l.map Value.type := by
      intro l
      induction l with
      | nil => intro ws h; cases h; rfl
      | cons a l ih =>
        intro ws h
        cases h with
        | cons r1 r2 => rw [ih r2]; cases r1; rfl
    exact h2 rv
  subst hits
  obtain ⟨o, ho, hc, n, hd⟩ := pl
  obtain ⟨oc, od, odt, osl⟩ := o
  cases hc
  cases hd
  have fin : ∀ tk, EP X pins σ Q (.bool b) { s with toks := tk } := fun tk => ⟨.bl b, H, I.tok tk, rfl, q⟩
  rcases ty with ⟨rfl, y, rfl⟩ | ⟨rfl, a, ys, rfl, ea⟩
  · obtain ⟨t, rfl⟩ := (show ∃ t, u = Value.str y t from rx)
    exact PySem.W.kia_tup PySem.W.kitx_str I.kIn True.intro ho e (fun z => nomatch z) fin
  · cases (show u = Value.ref a from rx)
    obtain ⟨its', rv', pl', _⟩ := I.list (SqL.of (K := X.K) ea)
    obtain ⟨o', ho', hc', _⟩ := pl'.isList
    exact PySem.W.kia_tup PySem.W.kitx_list I.kIn ⟨o', ho', hc'⟩ ho e (fun z => nomatch z) fin
theorem kitS2 {K : PySem.W.Frag} : PySem.W.kitAny K (.type "str") [.type "str", .type "list"] = some true := by
  unfold PySem.W.kitAny PySem.W.kitOne
  rw [if_pos (beq_self_eq_true _)]
theorem remove_run {prog : Program} {w : World} {A : Around} {R : Result → Shared → Prop} {s : Shared} {l : Addr} {its : Array Value} {n : Nat} {y : Value} {j : Nat} (at' : s.heap.get? l = some { cls := .type "list", dict := none, data := .seq its n, slots := #[] })
    (hj : j < its.size) (hz : its.size ≤ sizeLine) (eqs : ∀ (m : Nat) (hm : m < its.size), m ≤ j → ∀ (B : Around) (E : Value → Shared → Prop) (Q : Bool → Shared → Prop), B.units = A.units + 1 → Q (decide (m = j)) s → wpAny (model prog w) B (eqBool its[m] y) Q E s)
    (fin : R (.ok (.ret .none)) { s with heap := s.heap.update l (Obj.mapSeq fun xs => xs.eraseIdxIfInBounds j) }) :
    ∀ (k i : Nat), i + k = j → codeAny (model prog w) A (.builtin "list.remove.loop" ⟨[.ref l, y, rawInt i], []⟩) R s := by
  intro k
  induction k with
  | zero =>
    intro i e
    obtain rfl : i = j := by omega
    refine codeAny_builtin MeetsSeq.entry_remove_loop ?_
    rw [Around.under_plainId MeetsSeq.plain_remove_loop _]
    obtain ⟨hp, g, d, tk, os⟩ := s
    wp_walk using wpAny_loadPart' at'
    rw [show its[((i : Nat) : Int).toNat]? = some its[i] by simp [hj]]
    refine wpAny_bind (eqs i hj (Nat.le_refl _) _ _ _ rfl ?_)
    rw [decide_eq_true rfl]
    have hz' : (its.eraseIdxIfInBounds i).size ≤ sizeLine + 1 := Nat.le_trans (MeetsSeq.size_erased its _) (Nat.le_succ_of_le hz)
    wp_walk using (wpAny_updateSeq at' rfl (hz := hz) (_hz' := hz')), wpAny_loadPart' at'
    simpa using fin
  | succ k ih =>
    intro i e
    have hlt : i < its.size := by omega
    have next := ih (i + 1) (by omega)
    refine codeAny_builtin MeetsSeq.entry_remove_loop ?_
    rw [Around.under_plainId MeetsSeq.plain_remove_loop _]
    obtain ⟨hp, g, d, tk, os⟩ := s
    wp_walk using wpAny_loadPart' at'
    rw [show its[((i : Nat) : Int).toNat]? = some its[i] by simp [hlt]]
    refine wpAny_bind (eqs i hlt (by omega) _ _ _ rfl ?_)
    rw [decide_eq_false (by omega)]
    wp_walk
    rw [show ((i : Int) + 1) = ((i + 1 : Nat) : Int) by push_cast; rfl]
    exact ⟨plainId_quiet MeetsSeq.plain_remove_loop _, next⟩
def rRemove (K : PySem.W.Frag) : V → List V → Hp → VK → Prop := fun x vs H Q => ∃ (l : Addr) (xs : List V) (ds : List PyData) (y : V) (d : PyData) (j : Nat), x = .ref l ∧ vs = [y] ∧ H l = some (.lst xs) ∧ RDs K H xs ds ∧ RD K H y d ∧ (∀ e ∈ ds, SeqAt.shaped e = true) ∧ SeqAt.shaped d = true ∧
  j < ds.length ∧ (∀ (m : Nat) (e : PyData), m ≤ j → ds[m]? = some e → PyData.eqv e d = decide (m = j)) ∧ Q .non (upd H l (.lst (xs.eraseIdx j)))
theorem RDs.len {K : PySem.W.Frag} {H : Hp} : ∀ {xs : List V} {ds : List PyData}, RDs K H xs ds → xs.length = ds.length
  | _, _, .nil => rfl
  | _, _, .cons _ r => by rw [List.length_cons, List.length_cons, RDs.len r]
theorem RDs.at {K : PySem.W.Frag} {H : Hp} : ∀ {xs : List V} {ds : List PyData} {m : Nat} {x : V}, RDs K H xs ds → xs[m]? = some x → ∃ d, ds[m]? = some d ∧ RD K H x d
  | _, _, _, _, .nil, e => by simp at e
  | _, _, 0, _, .cons h _, e => by simp at e; subst e; exact ⟨_, rfl, h⟩
  | _, _, m + 1, x, .cons _ r, e => by
    obtain ⟨d, e1, e2⟩ := RDs.at (m := m) (x := x) r (by simpa using e)
    exact ⟨d, by simpa using e1, e2⟩
theorem Vals.erase : ∀ {xs : List V} {us : List Value} (j : Nat), Vals xs us → Vals (xs.eraseIdx j) (us.eraseIdx j)
  | _, _, _, .nil => .nil
  | _, _, 0, .cons _ r => r
  | _, _, j + 1, .cons h r => .cons h (Vals.erase j r)
theorem remove_meets {s : Shared} {l : Addr} {its : Array Value} {n c : Nat} {u : Value} {j : Nat} (at' : s.heap.get? l = some { cls := .type "list", dict := none, data := .seq its n, slots := #[] }) (hj : j < its.size) (hz : its.size ≤ sizeLine)
    (eqs : ∀ (prog : Program) (w : World) (m : Nat) (hm : m < its.size), m ≤ j → ∀ (B : Around) (E : Value → Shared → Prop) (Q : Bool → Shared → Prop), B.units = c + 1 → Q (decide (m = j)) s → wpAny (model prog w) B (eqBool its[m] u) Q E s) :
    Meets (Builtin.«list.remove» ⟨[.ref l, u], []⟩) (fun B R t => t = s ∧ B.units = c ∧ R (.ok (.ret .none)) { s with heap := s.heap.update l (Obj.mapSeq fun ws => ws.eraseIdxIfInBounds j) }) := by
  rintro prog w B R t ⟨rfl, hB, fin⟩
  have go := remove_run (A := B) (R := R) at' hj hz (fun m hm hle B' E Q hB' => eqs prog w m hm hle B' E Q (by omega)) fin j 0 (by omega)
  obtain ⟨hp, g, d, tk, os⟩ := t
  wp_walk using wpAny_loadPart' at'
  exact ⟨plainId_quiet MeetsSeq.plain_remove_loop _, go⟩
theorem mt_remove {X : Cx} (hu : X.A.units + 70 < cLine) : MtM X "list.remove" (rRemove X.K) := by
  intro pins s σ H x vs v us Q I rx rv h
  obtain ⟨l, xs, ds, y, d, j, rfl, rfl, hH, hds, hd, sds, sd, hj, hm, q⟩ := h
  cases rx
  obtain ⟨u, rfl, ru⟩ := vals1 rv
  obtain ⟨z, its, n, r, hl, e⟩ := I.lstM hH
  have hlen := hds.len
  have hz' : its.toArray.size ≤ sizeLine := by rw [List.size_toArray]; omega
  have hj' : j < its.toArray.size := by rw [List.size_toArray]; omega
  refine call_meets F.slot_list_remove ⟨_, e, rfl⟩ F.entry_list_remove (F.args_list_remove_2 _ _) (remove_meets (s := s) (c := X.A.units) (j := j) e hj' hz' ?_) ⟨rfl, rfl, ?_⟩
  · intro prog w m hmm hle B E' Q' hB q'
    rw [List.size_toArray] at hmm
    obtain ⟨xm, exm⟩ : ∃ xm, xs[m]? = some xm := ⟨_, List.getElem?_eq_getElem (by omega)⟩
    obtain ⟨dm, edm, rdm⟩ := hds.at exm
    obtain ⟨um, eum, rum⟩ := r.get exm
    have eu : its.toArray[m]'(by rw [List.size_toArray]; exact hmm) = um := by
      rw [List.getElem?_eq_getElem hmm] at eum
      simpa using Option.some.inj eum
    rw [eu]
    obtain ⟨as, ra⟩ := rdm.reads I rum
    obtain ⟨bs, rb⟩ := hd.reads I ru
    have s1 := sds dm (List.mem_of_getElem? edm)
    refine SeqAt.eqBoolOverData prog w B E' s um u dm d as bs Q' ra rb (SeqAt.canLay_of_shaped s1) (SeqAt.canLay_of_shaped sd) ?_ ?_
    · have h1 := SeqAt.depth_of_shaped s1
      have h2 : min dm.depth d.depth ≤ dm.depth := Nat.min_le_left _ _
      omega
    · rw [hm m dm hle edm]
      exact q'
  · refine ⟨.non, _, I.lset (its' := its.eraseIdx j) (ys := xs.eraseIdx j) hH e ?_ (Vals.erase j r) ?_, rfl, q⟩
    · simp
    · have := List.length_eraseIdx_le xs j
      omega
theorem call_repr {X : Cx} (hg : X.A.guards = some []) (hu : X.A.units + 64 < cLine) : CallR X (.builtin "repr") (fun xs H Q => ∃ (x : Addr) (d : PyData), xs = [.ref x] ∧ RD X.K H (.ref x) d ∧ d.showable = true ∧ d.hasDict = false ∧ d.depth ≤ 10 ∧ d.shown.length ≤ sizeLine ∧ Q (.str d.shown) H) := by
  intro pins s σ H xs us Q I r h
  obtain ⟨x, d, rfl, hd, hs, hn, hdp, hz, q⟩ := h
  obtain ⟨u, rfl, rx⟩ := vals1 r
  cases rx
  obtain ⟨as, ra⟩ := hd.reads I rfl
  exact repr_of_reads' ra hs (fun z => by rw [hn] at z; cases z) hg (by omega) (fun _ _ e => e) (fun h' u tk hk => ⟨.str d.shown, H, I.kept (t' := tk) hk, ⟨u, rfl⟩, q⟩) hz
end L2
set_option Elab.async false
set_option linter.all false
set_option maxRecDepth 100000
set_option maxHeartbeats 4000000
namespace L2
open PySem PySem.Spec PyProof.Rows
structure CompScope2 (sc scope : Scope) (N : List Str) (x y : Str) (fr : List (Nat × Str)) : Prop where
  kind : scope.kind = .function
  loc : scope.names.lookup x = some .local
  loc2 : scope.names.lookup y = some .local
  names : ∀ y ∈ scope.names, y.2 = .local → scope.names.lookup y.1 = some .local
  nocell : ∀ y ∈ scope.names, y.2 ≠ .cell
  free : ∀ y ∈ scope.names, y.2 = .free → sc.names.lookup y.1 = some .cell ∨ sc.names.lookup y.1 = some .free
  frk : ∀ p ∈ fr, N[p.1]? = some p.2 ∧ scope.names.lookup p.2 = some .free
  nd : (x :: y :: fr.map (·.2)).Nodup
def compGoal2 (K : PySem.W.Frag) (J : It) (fr : List (Nat × Str)) (te : TE) (σ : St) (H1 : Hp) (Q : VK) : Prop := ∀ D, H1 D = none →
  ∃ W : Nat → Nat → List V → Hp → Prop, (∃ m, W 0 m [] (upd H1 D (.lst []))) ∧ ∀ i m ys H2, W i m ys H2 → H2 D = some (.lst ys) ∧
    ((J.stop i H2 ∧ Q (.ref D) H2) ∨ (J.go i H2 ∧ ∀ v H3, J.yld i H2 v H3 → ∃ p v1 v2, v = .ref p ∧ SqT K H3 p [v1, v2] ∧ te (some v1 :: some v2 :: frV σ fr) H3 fun y H5 => H5 D = some (.lst ys) ∧ ys.length < sizeLine ∧ ∃ m', m' < m ∧ W (i + 1) m' (ys ++ [y]) (upd H5 D (.lst (ys ++ [y])))))
def tComp2 (K : PySem.W.Frag) (wi : TI) (fr : List (Nat × Str)) (te : TE) : TE := fun σ H Q => wi σ H fun J H1 => compGoal2 K J fr te σ H1 Q
theorem comp_run2 {X : Cx} {x y : Str} {px py pt : Pos} {kt : Nat} {iter elt : Expr} {scope sc : Scope} {pos pos' : Pos} {N : List Str} {fr : List (Nat × Str)} {wi : TI} {te : TE}
    {pins : List (Addr × Obj)} {s : Shared} {σ : St} {H : Hp} {Q : VK} {Q' : Value → Shared → Prop} {use : Option (Value → Sem Unit)}
    (S : CompScope2 sc scope N x y fr) (hsc : X.env.scope = sc) (hN : X.N = N) (hc : X.calm = true) (hi : PI X (.Tuple [.Name x px, .Name y py] kt pt) iter wi)
    (he : ∀ (C : Addr) (s : Shared) (H : Hp) (fp : List Addr), PE (cxComp X scope C (x :: y :: fr.map (·.2)) s H fp) elt te)
    (hs : ∀ z, foldedSetIterable iter X.env z = pure z) (I : Inv X pins σ H s) (h : tComp2 X.K wi fr te σ H Q)
    (hfin : ∀ (D C : Addr) (H' : Hp) (s' : Shared) (m : Str → Option Value), Inv X pins σ H' s' → s'.heap.Ns C m → FreshC X pins H' C → Q (.ref D) H' → compPost (model X.prog X.w) X.A X.xe use Q' (.ref D) C (.ok .next) s') :
    wpAny (model X.prog X.w) X.A (comprehension (.ListComp elt [⟨.Tuple [.Name x px, .Name y py] kt pt, iter, [], 0⟩] scope pos) scope X.env pos' (newList []) false (eval iter X.env) use) Q' X.xe s := by
  have kin : ∀ y, scope.names.lookup y = some .free → X.env.kindOf y = some .cell ∨ X.env.kindOf y = some .free := fun y hy => by
    show X.env.scope.names.lookup y = _ ∨ X.env.scope.names.lookup y = _
    rw [hsc]
    exact S.free (y, .free) (PySem.mem_of_lookup hy) rfl
  have kin' : ∀ y ∈ scope.names, y.2 = .free → X.env.kindOf y.1 = some .cell ∨ X.env.kindOf y.1 = some .free := fun y hy hf => by
    show X.env.scope.names.lookup y.1 = _ ∨ X.env.scope.names.lookup y.1 = _
    rw [hsc]
    exact S.free y hy hf
  have hkc : ∀ y ∈ scope.names, y.2 = .free → ∃ c, X.env.cells.lookup y.1 = some c := fun y hy hf => I.ok.has y.1 (kin' y hy hf)
  refine wpAny_comprehension_free (use := use) rfl hs (closureFor_of hkc) S.kind S.names ?_
  refine thn (hi pins s σ H _ I h) fun xv s1 h1 => thn h1 fun itv s2 h2 => ?_
  obtain ⟨it, fp, tn, J, H2, rfl, I2, T, st2, f2, q2⟩ := h2
  refine wpAny_newObj_type (wpAny_newFunctionEnv S.nocell (by intro y hy; simp at hy) (fun h₁ hns₁ hsb₁ => ?_) S.kind)
  dsimp only at hns₁ hsb₁ ⊢
  have I3 : Inv X pins σ (upd H2 s2.heap.objs.size (.lst [])) { s2 with heap := s2.heap.push { cls := .type "list", data := .seq ([] : List Value).toArray } } :=
    I2.lnew (its := []) (t' := s2.toks) .nil (Nat.zero_le _)
  unfold compGoal2 at q2
  obtain ⟨W, ⟨m0, w0⟩, turn⟩ := q2 s2.heap.objs.size (I2.hok.fresh (Nat.le_refl _))
  generalize hG : s2.heap.push { cls := .type "list", dict := none, data := .seq ([] : List Value).toArray } = G at hns₁ hsb₁ I3 ⊢
  generalize hD : s2.heap.objs.size = D at I3 turn w0 ⊢
  generalize hH3 : upd H2 D (.lst []) = H3 at I3 w0
  have neG : ∀ b o, G.get? b = some o → b ≠ G.objs.size := fun b o e => Nat.ne_of_lt (Heap.lt_size e)
  have old : ∀ b o, G.get? b = some o → h₁.get? b = some o := fun b o e => (hsb₁.2 b (neG b o e)).trans (Heap.get?_push_of_some _ e)
  have up2 : ∀ b o, s2.heap.get? b = some o → G.get? b = some o := fun b o e => by rw [← hG]; exact Heap.get?_push_of_some _ e
  have fpG : ∀ b ∈ fp, b < G.objs.size := fun b hb => by
    obtain ⟨o, e, _⟩ := T.obj _ _ st2 b hb
    exact Heap.lt_size (up2 b o e)
  have sub : ∀ {y : Str} {c : Addr}, (closOf X.env.cells scope.names []).lookup y = some c → X.env.cells.lookup y = some c := fun {y c} e => by
    rcases closOf_sub _ _ e with z | z
    · exact z
    · simp at z
  have stat0 : ∀ b ∈ fp, (b ∈ X.ex ∨ X.s₀.heap.objs.size ≤ b) ∧ b ≠ X.env.locals ∧ (∀ x c, X.env.cells.lookup x = some c → c ≠ b) ∧ ∀ p ∈ X.pn ++ pins, p.1 ≠ b := fun b hb =>
    ⟨(f2 b hb).2.2.2.1, (f2 b hb).2.1, (f2 b hb).2.2.2.2.1, (f2 b hb).2.2.2.2.2⟩
  have hCL : G.objs.size ≠ X.env.locals := Nat.ne_of_gt I3.lt
  have hC1 : X.s₀.heap.objs.size ≤ G.objs.size := I3.sz
  have hC2 : ∀ x c, X.env.cells.lookup x = some c → c ≠ G.objs.size := fun x c e => by
    obtain ⟨v, o, ho, _⟩ := I3.cell x c e
    exact neG c o ho
  have hC3 : ∀ p ∈ X.pn ++ pins, p.1 ≠ G.objs.size := fun p hp => neG p.1 p.2 (I3.pin p hp).1
  have okB : (cxComp X scope G.objs.size (x :: y :: fr.map (·.2)) { s2 with heap := G } H3 fp).Ok := by
    refine ⟨I2.ok.mod, S.kind, I2.ok.glob, I2.ok.blt, Nat.le_refl _, fun y z c e1 e2 => I2.ok.inj y z c (sub e1) (sub e2), fun y hy => ?_, fun y c z => Bool.noConfusion z, I2.ok.hd, I2.ok.frames, .inl rfl, fun b hb => ⟨Nat.ne_of_lt (fpG b hb), fun y c e => (stat0 b hb).2.2.1 y c (sub e)⟩,
      fun b o e => I3.bs b o e, Nat.le_trans I2.ok.bsz I3.sz, fun b o e hb => ?_, fun b hb hf => ?_, I3.stack, I3.stkFree⟩
    · have m := relabel_kind S.nocell hy
      exact closOf_has _ _ m (hkc _ m rfl)
    · rcases (stat0 b hb).1 with z | z
      · exact I2.ok.noex b o e z
      · exact absurd (Nat.lt_of_lt_of_le (Heap.lt_size e) (Nat.le_trans I2.ok.bsz z)) (Nat.lt_irrefl _)
    · rcases List.mem_cons.mp (I2.stkSub b hf) with z | z
      · exact (stat0 b hb).2.1 z
      · exact (f2 b hb).2.2.1 z
  have I4 : ∀ tk : Nat, Inv (cxComp X scope G.objs.size (x :: y :: fr.map (·.2)) { s2 with heap := G } H3 fp) [] (none :: none :: frV σ fr) H3 { s2 with heap := h₁, toks := tk } := fun tk => by
    refine ⟨okB, rfl, I2.bare, Un.kept old, ⟨_, hns₁, fun i y v e1 e2 _ => ?_⟩, fun y c e => ?_, I3.hok.fresh (Nat.le_refl _), fun y c e => I3.freeC y c (sub e), fun p hp => absurd (show p ∈ ([] : List (Addr × Obj)) from hp) (by simp), I3.hok.kept old, ?_⟩
    · cases i with
      | zero => simp at e2
      | succ i => cases i with
       | zero => simp at e2
       | succ i =>
        have e1' : (fr.map (·.2))[i]? = some y := e1
        have e2' : (fr.map fun p => (σ[p.1]?).join)[i]? = some (some v) := e2
        rw [List.getElem?_map] at e1' e2'
        cases hp : fr[i]? with
        | none => rw [hp] at e1'; cases e1'
        | some p =>
          rw [hp] at e1' e2'
          have ey : p.2 = y := Option.some.inj e1'
          have ev : (σ[p.1]?).join = some v := Option.some.inj e2'
          have ev' : σ[p.1]? = some (some v) := by
            cases q : σ[p.1]? with
            | none => rw [q] at ev; cases ev
            | some o => rw [q] at ev; simp only [Option.join] at ev; exact congrArg some ev
          have hf := S.frk p (List.mem_of_getElem? hp)
          rw [ey] at hf
          have hk := kin y hf.2
          obtain ⟨m, _, hl⟩ := I2.loc
          obtain ⟨u, ru, l⟩ := hl p.1 y v (by rw [hN]; exact hf.1) ev' (.inr hk)
          refine ⟨u, ru, .inr ⟨lookup_relabel_free hf.2, ?_⟩⟩
          rcases l with ⟨k, _⟩ | ⟨_, c, e, z⟩
          · rcases hk with hk | hk
            · rw [hk] at k; cases k
            · rw [hk] at k; cases k
          · obtain ⟨c', ec⟩ := closOf_has (cells := X.env.cells) scope.names [] (PySem.mem_of_lookup hf.2) ⟨c, e⟩
            have := sub ec
            rw [e] at this
            cases this
            obtain ⟨o, ho, hd⟩ := z
            exact ⟨c, ec, o, old c o (up2 c o ho), hd⟩
    · obtain ⟨v, o, ho, hd⟩ := I2.cell y c (sub e)
      exact ⟨v, o, old c o (up2 c o ho), hd⟩
    · show (none :: none :: frV σ fr).length = (x :: y :: fr.map (·.2)).length
      simp [frV]
  have locY : (cxComp X scope G.objs.size (x :: y :: fr.map (·.2)) { s2 with heap := G } H3 fp).env.scope.names.lookup y = some .local := lookup_relabel_local S.loc2
  have locX : (cxComp X scope G.objs.size (x :: y :: fr.map (·.2)) { s2 with heap := G } H3 fp).env.scope.names.lookup x = some .local := lookup_relabel_local S.loc
  generalize hX : cxComp X scope G.objs.size (x :: y :: fr.map (·.2)) { s2 with heap := G } H3 fp = Y at I4 locX locY
  have eP : Y.prog = X.prog := by rw [← hX]; rfl
  have eW : Y.w = X.w := by rw [← hX]; rfl
  have eK : Y.K = X.K := by rw [← hX]; rfl
  have eA : Y.A = X.A := by rw [← hX]; rfl
  have eC : Y.calm = true := by rw [← hX]; exact hc
  have eE : Y.env = compEnvC scope (closOf X.env.cells scope.names []) G.objs.size X.env := by rw [← hX]; rfl
  have eN : Y.N = x :: y :: fr.map (·.2) := by rw [← hX]; rfl
  have eX : Y.xe = fun _ _ => False := by rw [← hX]; rfl
  have eB : ∀ {σ' : St} {H' : Hp} {s' : Shared} {pins' : List (Addr × Obj)}, Inv Y pins' σ' H' s' → s'.os = s2.os ∧ Un (frs X.stack) fp H3 H' G s'.heap := fun {σ' H' s' pins'} J => by
    subst hX
    exact ⟨J.os, J.base⟩
  have hE := he G.objs.size { s2 with heap := G } H3 fp
  rw [hX] at hE
  have fpY : ∀ {H' : Hp}, (∀ b ∈ fp, H' b = none) → ∀ b ∈ fp, FpOk Y [] H' b := fun {H'} hn b hb => by
    subst hX
    refine ⟨hn b hb, Nat.ne_of_lt (fpG b hb), okB.exfs b hb, .inl hb, fun y c e => (okB.exf b hb).2 y c e, fun p hp => absurd (show p ∈ ([] : List (Addr × Obj)) from hp) (by simp)⟩
  have loop : ∀ s3 : Shared, (∃ tk, s3 = { s2 with heap := h₁, toks := tk }) →
      codeAny (model X.prog X.w) X.A (.compLoop (.ListComp elt [⟨.Tuple [.Name x px, .Name y py] kt pt, iter, [], 0⟩] scope pos) 0 (.ref it) (.ref D) Y.env)
        (compPost (model X.prog X.w) X.A X.xe use Q' (.ref D) G.objs.size) s3 := by
    rintro s3 ⟨tk, rfl⟩
    refine LCp.codeAny_compLoop_pair (fun n s' => ∃ i ys o o' H', Inv Y [] (o :: o' :: frV σ fr) H' s' ∧ tn i s'.heap ∧ (∀ b ∈ fp, H' b = none) ∧ W i n ys H') ?_ m0
      ⟨0, [], none, none, H3, I4 tk, T.keep _ _ _ st2 fun b hb o e => old b o (up2 b o e), fun b hb => ?_, w0⟩
    · rintro n s' ⟨i, ys, o, o', H', J', st', fr', w'⟩
      obtain ⟨hD', hgo⟩ := turn i n ys H' w'
      rcases hgo with ⟨stop, qn⟩ | ⟨go, step⟩
      · have Q1 := T.done Y eP eW eK eC i [] s' (o :: o' :: frV σ fr) H' (notedBy (model X.prog X.w) X.A Y.env fun e s'' => compPost (model X.prog X.w) X.A X.xe use Q' (.ref D) G.objs.size (.error e) s'') J' (fpY fr') st' stop
        rw [eA] at Q1
        refine thn Q1 fun r s4 ⟨hr, J4⟩ => ?_
        subst hr
        obtain ⟨m, hn, _⟩ := J4.loc
        rw [eE] at hn
        obtain ⟨os4, u4⟩ := eB J4
        have free4 : H' G.objs.size = none := by have := J4.free; rw [eE] at this; exact this
        have hok4 : HOk X.prog X.w H' s4.heap := by have := J4.hok; rw [eP, eW] at this; exact this
        exact hfin D G.objs.size H' s4 m (I3.call' (ch := fp) (s' := s4) os4 u4 hok4 J4.bare stat0) hn ⟨free4, hCL, .inr hC1, hC2, hC3⟩ qn
      · have Q1 := T.item Y eP eW eK eC i [] s' (o :: o' :: frV σ fr) H' (notedBy (model X.prog X.w) X.A Y.env fun e s'' => compPost (model X.prog X.w) X.A X.xe use Q' (.ref D) G.objs.size (.error e) s'') J' (fpY fr') st' go
        rw [eA] at Q1
        refine thn Q1 fun r s4 ⟨u, hr, h4⟩ => ?_
        subst hr
        refine thn h4 fun _ s5 ⟨v, H5, J5, r5, y5, st5, fr5⟩ => ?_
        have J5' := J5.pinned (fpY fr5) (T.obj _ _ st5)
        obtain ⟨p5, v1, v2, ev5, hp5, step5⟩ := step v _ y5
        have N5 : Y.N.Nodup := by rw [eN]; exact S.nd
        have P1 : PG Y (.Name x px) (gName 0) := pg_name (X := Y) (i := 0) (x := x) (pos := px) N5 (by rw [eN]; rfl) (.inl locX) (.inr locX)
        have P2 : PG Y (.Name y py) (gName 1) := pg_name (X := Y) (i := 1) (x := y) (pos := py) N5 (by rw [eN]; rfl) (.inl locY) (.inr locY)
        have PT : PG Y (.Tuple [.Name x px, .Name y py] kt pt) (gTup Y.K 2 (gCons (gName 0) (gCons (gName 1) gNil))) := pg_tup eC (pgs_cons P1 (pgs_cons P2 pgs_nil))
        have G5 := PT ([] ++ pinsAt fp s5.heap) s5 (o :: o' :: frV σ fr) H5 v u (fun σ6 H6 => σ6 = some v1 :: some v2 :: frV σ fr ∧ H6 = H5) J5' r5 ⟨p5, [v1, v2], ev5, by rw [eK]; exact hp5, rfl, v1, [v2], rfl, v2, [], rfl, rfl, rfl, rfl⟩
        rw [eP, eW, eA, eX] at G5
        refine wpAny_mono G5 (fun _ s6 ⟨σ6, H6, J6, e6, e6'⟩ => ?_) fun _ _ z => z.elim
        subst e6 e6'
        have again : ∀ {s7 : Shared} {H7 : Hp} {zs : List V}, Inv Y ([] ++ pinsAt fp s5.heap) (some v1 :: some v2 :: frV σ fr) H7 s7 → (∃ m', m' < n ∧ W (i + 1) m' zs H7) → ∃ m, m < n ∧ ∃ i ys o o' H', Inv Y [] (o :: o' :: frV σ fr) H' s7 ∧ tn i s7.heap ∧ (∀ b ∈ fp, H' b = none) ∧ W i m ys H' := fun {s7 H7 zs} J7 ⟨m', hm, w7⟩ => by
          refine ⟨m', hm, i + 1, zs, some v1, some v2, H7, J7.unpinned, T.keep _ _ _ st5 fun b hb o e => (J7.pin (b, o) (List.mem_append_right _ (List.mem_append_right _ (mem_pinsAt hb e)))).1, fun b hb => ?_, w7⟩
          obtain ⟨o, e, d⟩ := T.obj _ _ st5 b hb
          exact (J7.pin (b, o) (List.mem_append_right _ (List.mem_append_right _ (mem_pinsAt hb e)))).2.1
        have E7 := hE _ s6 _ _ _ J6 step5
        rw [eP, eW, eA, eX] at E7
        refine wpAny_mono E7 (fun u8 s8 ⟨y8, H8, J8, r8, hD8, hz8, w8⟩ => ?_) fun _ _ z => z.elim
        have A8 := mt_append (X := Y) _ s8 _ H8 (.ref D) [y8] (.ref D) [u8] (fun z H9 => H9 = upd H8 D (.lst (ys ++ [y8]))) J8 rfl (.cons r8 .nil) ⟨D, ys, y8, rfl, rfl, hD8, hz8, rfl⟩
        rw [eP, eW, eA, eX] at A8
        refine wpAny_mono A8 (fun _ s9 ⟨z9, H9, J9, _, e9⟩ => ?_) fun _ _ z => z.elim
        subst e9
        exact again J9 w8
    · rw [← hH3]
      have hbD : b ≠ D := by
        rw [← hD]
        obtain ⟨o, e, _⟩ := T.obj _ _ st2 b hb
        exact Nat.ne_of_lt (Heap.lt_size e)
      rw [upd_ne hbD]
      exact (f2 b hb).1
  rw [eE] at loop
  exact codeAny_compStart_list (loop _ ⟨_, rfl⟩) (T.self _ 0 _ _ _ (T.keep _ _ _ st2 fun b hb o e => old b o (up2 b o e)) (loop _ ⟨_, rfl⟩))
theorem pe_comp2 {X : Cx} {x y : Str} {px py pt : Pos} {kt : Nat} {iter elt : Expr} {scope sc : Scope} {pos : Pos} {N : List Str} {fr : List (Nat × Str)} {wi : TI} {te : TE}
    (S : CompScope2 sc scope N x y fr) (hsc : X.env.scope = sc) (hN : X.N = N) (hc : X.calm = true) (hi : PI X (.Tuple [.Name x px, .Name y py] kt pt) iter wi)
    (he : ∀ (C : Addr) (s : Shared) (H : Hp) (fp : List Addr), PE (cxComp X scope C (x :: y :: fr.map (·.2)) s H fp) elt te)
    (hs : ∀ z, foldedSetIterable iter X.env z = pure z := by intro _; rfl) :
    PE X (.ListComp elt [⟨.Tuple [.Name x px, .Name y py] kt pt, iter, [], 0⟩] scope pos) (tComp2 X.K wi fr te) := by
  intro pins s σ H Q I h
  rw [eval_ListComp]
  refine comp_run2 (use := none) S hsc hN hc hi he hs I h fun D C H' s' m J hn fc q => ?_
  exact ⟨m, hn, fun h' hs' => ⟨.ref D, H', J.turned (t' := s'.toks) (fun b o hb e => (hs'.2 b hb).trans e) fc.hn fc.hL fc.h1 fc.h2 fc.h3, rfl, q⟩⟩
end L2
set_option Elab.async false
set_option linter.all false
set_option maxRecDepth 100000
set_option maxHeartbeats 4000000
namespace L2
open PySem PySem.Spec PyProof.Rows
abbrev Rows := List (Str × Str)
def up (rows : Rows) (n : Str) : Option Str := (rows.find? fun r => decide (r.1 = n)).map (·.2)
def reps (rows : Rows) (t : Str) : List Str := (rows.filter fun r => decide (r.2 = t)).map (·.1)
def keysT (ns : List Str) : List (Key × V) := ns.map fun n => (Sum.inr n, V.bl true)
def without (rows : Rows) (n : Str) : Rows := rows.filter fun r => decide (r.1 ≠ n)
theorem up_mem {rows : Rows} {n a : Str} (h : up rows n = some a) : (n, a) ∈ rows := by
  unfold up at h
  cases e : rows.find? fun r => decide (r.1 = n) with
  | none => rw [e] at h; cases h
  | some r =>
    rw [e] at h
    have h1 := List.find?_some e
    have h2 := List.mem_of_find?_eq_some e
    have e1 : r.1 = n := of_decide_eq_true h1
    have e2 : r.2 = a := Option.some.inj h
    rw [← e1, ← e2]; exact h2
theorem up_none {rows : Rows} {n : Str} : up rows n = none ↔ ¬ n ∈ rows.map (·.1) := by
  unfold up
  rw [Option.map_eq_none_iff, List.find?_eq_none]
  constructor
  · intro h z
    obtain ⟨r, hr, e⟩ := List.mem_map.mp z
    exact h r hr (decide_eq_true e)
  · intro h r hr z
    exact h (List.mem_map.mpr ⟨r, hr, of_decide_eq_true z⟩)
theorem up_some {rows : Rows} {n : Str} (h : n ∈ rows.map (·.1)) : ∃ a, up rows n = some a := by
  cases e : up rows n with
  | none => exact absurd h (up_none.mp e)
  | some a => exact ⟨a, rfl⟩
theorem drop_keys (n : Str) : ∀ ns : List Str, dropK (keysT ns) (Sum.inr n) = keysT (ns.filter fun m => decide (m ≠ n))
  | [] => rfl
  | m :: ns => by
    show dropK ((Sum.inr m, V.bl true) :: keysT ns) (Sum.inr n) = _
    by_cases h : m = n
    · rw [dropK_pos (by rw [h]), drop_keys n ns]
      simp [List.filter_cons, h]
    · rw [dropK_neg (fun e => h (Sum.inr.inj e)), drop_keys n ns]
      simp [List.filter_cons, h, keysT]
theorem val_keys (n : Str) : ∀ ns : List Str, valV (keysT ns) (Sum.inr n) = if n ∈ ns then some (V.bl true) else none
  | [] => rfl
  | m :: ns => by
    show valV ((Sum.inr m, V.bl true) :: keysT ns) (Sum.inr n) = _
    by_cases h : m = n
    · rw [valV_pos (by rw [h]), if_pos (by rw [h]; exact List.mem_cons_self)]
    · rw [valV_neg (fun e => h (Sum.inr.inj e)), val_keys n ns]
      by_cases h2 : n ∈ ns
      · rw [if_pos h2, if_pos (List.mem_cons_of_mem _ h2)]
      · rw [if_neg h2, if_neg (fun z => (List.mem_cons.mp z).elim (fun e => h e.symm) h2)]
theorem put_keys {ns : List Str} {n : Str} (h : ¬ n ∈ ns) : putK (keysT ns) (Sum.inr n) (.bl true) = keysT (ns ++ [n]) := by
  rw [putK_new _ (by rw [val_keys, if_neg h])]
  simp [keysT]
theorem reps_sub {rows : Rows} {t n : Str} (h : n ∈ reps rows t) : n ∈ rows.map (·.1) := by
  obtain ⟨r, hr, e⟩ := List.mem_map.mp h
  exact List.mem_map.mpr ⟨r, (List.mem_filter.mp hr).1, e⟩
theorem one_answer {rows : Rows} {n a b : Str} (nd : (rows.map (·.1)).Nodup) (h1 : (n, a) ∈ rows) (h2 : (n, b) ∈ rows) : a = b := by
  induction rows with
  | nil => cases h1
  | cons r rows ih =>
    rw [List.map_cons, List.nodup_cons] at nd
    rcases List.mem_cons.mp h1 with e1 | h1
    · rcases List.mem_cons.mp h2 with e2 | h2
      · rw [← e2] at e1; exact (Prod.mk.inj e1).2
      · exact absurd (List.mem_map.mpr ⟨_, h2, by rw [← e1]⟩) nd.1
    · rcases List.mem_cons.mp h2 with e2 | h2
      · exact absurd (List.mem_map.mpr ⟨_, h1, by rw [← e2]⟩) nd.1
      · exact ih nd.2 h1 h2
theorem in_reps {rows : Rows} {n a : Str} (h : up rows n = some a) : n ∈ reps rows a := List.mem_map.mpr ⟨(n, a), List.mem_filter.mpr ⟨up_mem h, decide_eq_true rfl⟩, rfl⟩
def chain (rows : Rows) : Nat → List Str → List Str
  | 0, met => met
  | k + 1, met => match up rows (met.getLastD "") with
    | some a => if a ∈ rows.map (·.1) ∧ ¬ a ∈ met then chain rows k (met ++ [a]) else met
    | none => met
def depthOf (rows : Rows) (n : Str) : Int := ((chain rows rows.length [n]).length : Int) - 1
theorem chain_go {rows : Rows} {met : List Str} {a : Str} {k : Nat} (h : up rows (met.getLastD "") = some a) (h1 : a ∈ rows.map (·.1)) (h2 : ¬ a ∈ met) : chain rows (k + 1) met = chain rows k (met ++ [a]) := by
  conv => lhs; unfold chain
  rw [h]
  simp only [if_pos (And.intro h1 h2)]
theorem chain_end {rows : Rows} {met : List Str} {a : Str} {k : Nat} (h : up rows (met.getLastD "") = some a) (h1 : ¬ (a ∈ rows.map (·.1) ∧ ¬ a ∈ met)) : chain rows (k + 1) met = met := by
  unfold chain
  rw [h]
  exact if_neg h1
theorem nodup_le : ∀ {ms l : List Str}, ms.Nodup → (∀ m ∈ ms, m ∈ l) → ms.length ≤ l.length
  | [], _, _, _ => Nat.zero_le _
  | m :: ms, l, nd, h => by
    obtain ⟨h1, h2⟩ := List.nodup_cons.mp nd
    have hm := h m List.mem_cons_self
    have e := List.length_erase_of_mem hm
    have hp := List.length_pos_of_mem hm
    have := nodup_le (l := l.erase m) h2 fun x hx => (List.mem_erase_of_ne (a := x) (b := m) (fun z => h1 (by rw [← z]; exact hx))).mpr (h x (List.mem_cons_of_mem _ hx))
    rw [List.length_cons]
    omega
/-- on the way: met is the way so far, a what its last one answers -/
structure OnWay (rows : Rows) (n : Str) (met : List Str) (a : Str) : Prop where
  nd : met.Nodup
  sub : ∀ m ∈ met, m ∈ rows.map (·.1)
  last : up rows (met.getLastD "") = some a
  ne : met ≠ []
  way : chain rows (rows.length + 1 - met.length) met = chain rows rows.length [n]
theorem OnWay.len {rows : Rows} {n : Str} {met : List Str} {a : Str} (w : OnWay rows n met a) : 1 ≤ met.length ∧ met.length ≤ rows.length := by
  have h1 := nodup_le w.nd w.sub
  rw [List.length_map] at h1
  exact ⟨List.length_pos_iff.mpr w.ne, h1⟩
theorem OnWay.start {rows : Rows} {n a : Str} (h : up rows n = some a) : OnWay rows n [n] a :=
  ⟨by simp, fun m hm => by rw [List.mem_singleton.mp hm]; exact List.mem_map.mpr ⟨_, up_mem h, rfl⟩, h, by simp, rfl⟩
theorem OnWay.step {rows : Rows} {n : Str} {met : List Str} {a b : Str} (w : OnWay rows n met a) (h1 : up rows a = some b) (h2 : ¬ a ∈ met) : OnWay rows n (met ++ [a]) b := by
  have hl := w.len
  have ha : a ∈ rows.map (·.1) := List.mem_map.mpr ⟨_, up_mem h1, rfl⟩
  have e := chain_go (k := rows.length - met.length) w.last ha h2
  refine ⟨List.nodup_append.mpr ⟨w.nd, by simp, fun x hx y hy z => ?_⟩, fun m hm => ?_, ?_, by simp, ?_⟩
  · have : y = a := by simpa using hy
    rw [z, this] at hx; exact h2 hx
  · rcases List.mem_append.mp hm with z | z
    · exact w.sub m z
    · rw [List.mem_singleton.mp z]; exact ha
  · rw [List.getLastD_concat]; exact h1
  · rw [← w.way, List.length_append, List.length_singleton, show rows.length + 1 - (met.length + 1) = rows.length - met.length by omega, ← e, show rows.length - met.length + 1 = rows.length + 1 - met.length by omega]
theorem OnWay.stop {rows : Rows} {n : Str} {met : List Str} {a : Str} (w : OnWay rows n met a) (h : ¬ (a ∈ rows.map (·.1) ∧ ¬ a ∈ met)) : (met.length : Int) - 1 = depthOf rows n := by
  have hl := w.len
  have e := chain_end (k := rows.length - met.length) w.last h
  unfold depthOf
  rw [← w.way, show rows.length + 1 - met.length = rows.length - met.length + 1 by omega, e]
/-- all but dicts stays -/
def Kp1 (H H' : Hp) : Prop := ∀ c o, H c = some o → (∀ kvs, o ≠ .dK kvs) → H' c = some o
/-- all but lists stays -/
def Kp2 (H H' : Hp) : Prop := ∀ c o, H c = some o → (∀ xs, o ≠ .lst xs) → H' c = some o
theorem Same.kp2 {H H' : Hp} (s : Same H H') : Kp2 H H' := fun c o e _ => s c o e
theorem Kp1.trans {H H1 H2 : Hp} (a : Kp1 H H1) (b : Kp1 H1 H2) : Kp1 H H2 := fun c o e n => b c o (a c o e n) n
theorem Kp2.trans {H H1 H2 : Hp} (a : Kp2 H H1) (b : Kp2 H1 H2) : Kp2 H H2 := fun c o e n => b c o (a c o e n) n
theorem Kp1.refl (H : Hp) : Kp1 H H := fun _ _ e _ => e
theorem Kp2.refl (H : Hp) : Kp2 H H := fun _ _ e _ => e
theorem Kp1.upd {H : Hp} {p : Addr} {kvs kvs' : List (Key × V)} (h : H p = some (.dK kvs)) : Kp1 H (upd H p (.dK kvs')) := fun c o e n => by
  by_cases z : c = p
  · rw [z, h] at e; cases e; exact absurd rfl (n kvs)
  · rw [upd_ne z]; exact e
theorem Kp2.upd {H : Hp} {p : Addr} {xs xs' : List V} (h : H p = some (.lst xs)) : Kp2 H (upd H p (.lst xs')) := fun c o e n => by
  by_cases z : c = p
  · rw [z, h] at e; cases e; exact absurd rfl (n xs)
  · rw [upd_ne z]; exact e
end L2
set_option Elab.async false
set_option linter.all false
set_option maxRecDepth 100000
set_option maxHeartbeats 4000000
namespace L2
open PySem PySem.Spec PyProof.Rows
theorem rep_list (x : Str) : ∀ (n : Nat) (acc : Array Nat), ((List.replicate n x.cps).foldl (· ++ ·) acc).toList = acc.toList ++ (List.replicate n x.cps.toList).flatten
  | 0, acc => by simp
  | n + 1, acc => by
    rw [List.replicate_succ, List.foldl_cons, rep_list x n (acc ++ x.cps), List.replicate_succ, List.flatten_cons, Array.toList_append, List.append_assoc]
theorem mul_signs (x : Str) (n : Int) : (Txt.mul x n).cps.toList = (List.replicate n.toNat x.cps.toList).flatten := by
  unfold Txt.mul
  by_cases h : n < 1
  · rw [if_pos h, show n.toNat = 0 by omega]; rfl
  · rw [if_neg h]
    split
    · rename_i h2
      rw [Bool.or_eq_true] at h2
      rcases h2 with h2 | h2
      · have : n = 1 := by simpa using h2
        rw [this]
        show _ = (List.replicate 1 x.cps.toList).flatten
        simp
      · have h3 : x.cps.toList = [] := List.eq_nil_of_length_eq_zero (by rw [← len_list]; simpa using h2)
        rw [h3]
        simp
    · show ((List.replicate n.toNat x.cps).foldl (· ++ ·) #[]).toList = _
      rw [rep_list]; rfl
theorem mul_len (x : Str) (n : Int) : (Txt.mul x n).length = n.toNat * x.length := by
  rw [len_list, mul_signs, len_list, List.length_flatten]
  simp
theorem mul_mem {x : Str} {n : Int} {c : Nat} (h : c ∈ (Txt.mul x n).cps.toList) : c ∈ x.cps.toList := by
  rw [mul_signs] at h
  obtain ⟨l, h1, h2⟩ := List.mem_flatten.mp h
  rw [(List.mem_replicate.mp h1).2] at h2
  exact h2
def rMulS : R2 := fun x y H Q => ∃ (s : Str) (n : Int), x = .str s ∧ y = .int n ∧ s.length ≤ 100 ∧ -1000 ≤ n ∧ n ≤ 1000 ∧ Q (.str (Txt.mul s n)) H
theorem op_mul_str {X : Cx} : OpR X (binaryOp .Mult) rMulS := by
  intro pins s σ H x y v u Q I rx ry h
  obtain ⟨z, n, rfl, rfl, hz, h0, h1, q⟩ := h
  obtain ⟨t, rfl⟩ := rx
  obtain ⟨t', rfl⟩ := ry
  refine SB.mul ⟨?_, fun hn _ => ?_, fun hn _ => ?_⟩ fun t' k => ⟨.str _, H, I.tok _, ⟨_, rfl⟩, q⟩
  · rw [Bool.or_eq_false_iff]
    exact ⟨decide_eq_false (by omega), decide_eq_false (by omega)⟩
  · have h4 : (z.length : Int) * n ≤ 100 * 1000 := Int.mul_le_mul (by omega) h1 (by omega) (by decide)
    have h5 : (z.length : Int) ≤ (2 ^ 63 - 1) / n := Int.le_ediv_of_mul_le (by omega) (Int.le_trans h4 (by decide))
    omega
  · have h2 : z.length * n.toNat ≤ 100 * 1000 := Nat.mul_le_mul hz (by omega)
    have h3 : 100 * 1000 ≤ sizeLine := by decide
    unfold Builtin.Str.tooLong
    exact decide_eq_false (by omega)
theorem call_isinstsK {X : Cx} (K : PySem.W.Frag) (hK : X.K = K := by rfl) : CallR X (.builtin "isinstance") (fun xs H Q => ∃ (x : V) (t : Value) (p : Addr) (cs : List String) (b : Bool), xs = [x, .ref p] ∧ H p = some (.tup (cs.map V.ty)) ∧
    ((t = .type "str" ∧ ∃ y, x = .str y) ∨ (t = .type "list" ∧ ∃ a ys, x = .ref a ∧ H a = some (.lst ys))) ∧ PySem.W.kitAny K t (cs.map Value.type) = some b ∧ Q (.bl b) H) := hK ▸ call_isinsts
theorem call_reprK {X : Cx} (K : PySem.W.Frag) (hg : X.A.guards = some []) (hu : X.A.units + 64 < cLine) (hK : X.K = K := by rfl) : CallR X (.builtin "repr") (fun xs H Q => ∃ (x : Addr) (d : PyData), xs = [.ref x] ∧ RD K H (.ref x) d ∧ d.showable = true ∧ d.hasDict = false ∧ d.depth ≤ 10 ∧ d.shown.length ≤ sizeLine ∧ Q (.str d.shown) H) := hK ▸ call_repr hg hu
def RowsAt (H : Hp) (r : Addr) (prs : List (Addr × Str × Str)) : Prop := H r = some (.lst (prs.map fun q => V.ref q.1)) ∧ ∀ q ∈ prs, H q.1 = some (.tup [.str q.2.1, .str q.2.2])
theorem RowsAt.same {H H' : Hp} {r : Addr} {prs : List (Addr × Str × Str)} (h : RowsAt H r prs) (s : Same H H') : RowsAt H' r prs := ⟨s _ _ h.1, fun q hq => s _ _ (h.2 q hq)⟩
end L2
set_option Elab.async false
set_option linter.all false
set_option maxRecDepth 100000
set_option maxHeartbeats 4000000
namespace L2
open PySem PySem.Spec PyProof.Rows
abbrev PRow := Addr × Str × Str
def shownS (xs : List Str) : Str := (PyData.list (xs.map PyData.str)).shown
theorem textFrom_up {m : Nat} : ∀ (ts : List Str) (k : Nat) (acc : Str), (∀ t ∈ ts, t.length ≤ m) → (textFrom k acc ts).length ≤ acc.length + ts.length * (m + 2)
  | [], k, acc, _ => by show acc.length ≤ _; omega
  | t :: r, k, acc, h => by
    have ih := textFrom_up r (k + 1) (acc ++ (if k > 0 then ", " else "" : String) ++ t) fun z hz => h z (List.mem_cons_of_mem _ hz)
    have ht := h t List.mem_cons_self
    have e : (textFrom k acc (t :: r)) = textFrom (k + 1) (acc ++ (if k > 0 then ", " else "" : String) ++ t) r := rfl
    have e2 : ((if k > 0 then ", " else "" : String) : Str).length ≤ 2 := by
      by_cases z : k > 0
      · rw [if_pos z]; decide +kernel
      · rw [if_neg z]; decide +kernel
    rw [e]
    rw [cat_len, cat_len] at ih
    rw [List.length_cons, Nat.succ_mul]
    omega
theorem shownAll_strs : ∀ xs : List Str, PyData.shownAll (xs.map PyData.str) = xs.map reprText
  | [] => rfl
  | x :: xs => by rw [List.map_cons, List.map_cons, PyData.shownAll, shownAll_strs xs]; rfl
theorem shown_len {xs : List Str} (hl : xs.length ≤ 40) (hx : ∀ x ∈ xs, Asc x ∧ x.length ≤ 1000) : (shownS xs).length ≤ sizeLine := by
  have e : shownS xs = listText (xs.map reprText) := by
    show listText (PyData.shownAll (xs.map PyData.str)) = _
    rw [shownAll_strs]
  have h1 := textFrom_up (m := 10002) (xs.map reprText) 0 "[" fun t ht => by
    obtain ⟨x, hxm, rfl⟩ := List.mem_map.mp ht
    obtain ⟨a1, a2⟩ := hx x hxm
    have := StrLaws.reprText_len x fun c hc => Nat.lt_trans (a1 c hc) (by decide)
    omega
  have h2 : ("[" : Str).length = 1 := by decide +kernel
  have h3 : ("]" : Str).length = 1 := by decide +kernel
  have h4 : (xs.map reprText).length * (10002 + 2) ≤ 40 * 10004 := Nat.mul_le_mul (by rw [List.length_map]; exact hl) (Nat.le_refl _)
  have hb := big1
  rw [e]
  unfold listText
  rw [cat_len, h3]
  rw [h2] at h1
  omega
theorem showable_strs : ∀ xs : List Str, PyData.showableAll (xs.map PyData.str) = true
  | [] => rfl
  | x :: xs => by rw [List.map_cons, PyData.showableAll, showable_strs xs]; rfl
theorem hasDict_strs : ∀ xs : List Str, PyData.hasDictAll (xs.map PyData.str) = false
  | [] => rfl
  | x :: xs => by rw [List.map_cons, PyData.hasDictAll, hasDict_strs xs]; rfl
/-- the lists that were told and what repr said of them -/
abbrev HRow := Addr × Addr × List Str
structure HeldAt (r h : Addr) (H : Hp) (hd : List HRow) : Prop where
  l_ : H h = some (.lst (hd.map fun q => V.ref q.1))
  hr : h ≠ r
  t_ : ∀ q ∈ hd, H q.1 = some (.tup [.ref q.2.1, .str (shownS q.2.2)])
  x_ : ∀ q ∈ hd, H q.2.1 = some (.lst (q.2.2.map V.str)) ∧ q.2.1 ≠ h ∧ q.2.1 ≠ r
  b_ : ∀ q ∈ hd, q.2.2.length ≤ 40 ∧ ∀ x ∈ q.2.2, Asc x ∧ x.length ≤ 1000
theorem HeldAt.same {r h : Addr} {H H' : Hp} {hd : List HRow} (a : HeldAt r h H hd) (s : Same H H') : HeldAt r h H' hd := ⟨s _ _ a.l_, a.hr, fun q hq => s _ _ (a.t_ q hq), fun q hq => ⟨s _ _ (a.x_ q hq).1, (a.x_ q hq).2⟩, a.b_⟩
/-- all but the list at h stays -/
def KpH (h : Addr) (H H' : Hp) : Prop := ∀ c o, c ≠ h → H c = some o → H' c = some o
theorem KpH.trans {h : Addr} {H H1 H2 : Hp} (a : KpH h H H1) (b : KpH h H1 H2) : KpH h H H2 := fun c o n e => b c o n (a c o n e)
theorem Same.kph {h : Addr} {H H' : Hp} (s : Same H H') : KpH h H H' := fun c o _ e => s c o e
theorem KpH.kp2 {h : Addr} {H H' : Hp} {xs : List V} (k : KpH h H H') (e : H h = some (.lst xs)) : Kp2 H H' := fun c o e1 n => k c o (fun z => by rw [z, e] at e1; cases e1; exact n _ rfl) e1
theorem RowsAt.kph {h r : Addr} {H H' : Hp} {prs : List PRow} {xs : List V} (a : RowsAt H r prs) (k : KpH h H H') (e : H h = some (.lst xs)) (ne : h ≠ r) : RowsAt H' r prs :=
  ⟨k _ _ ne.symm a.1, fun q hq => k _ _ (fun z => by have := a.2 q hq; rw [z, e] at this; cases this) (a.2 q hq)⟩
end L2
set_option Elab.async false
set_option linter.all false
set_option maxRecDepth 100000
set_option maxHeartbeats 4000000
namespace L2
open PySem PySem.Spec PyProof.Rows
section
variable {X : Cx} {pins : List (Addr × Obj)} {σ : St} {H : Hp} {s : Shared} {a : Addr} {oa : Obj} {kvs : List (Key × V)}
end
end L2
set_option Elab.async false
set_option linter.all false
set_option maxRecDepth 100000
set_option maxHeartbeats 4000000
namespace L2
open PySem PySem.Spec PyProof.Rows
def upL (rows : Rows) (n : Str) : List Str := match up rows n with
  | some a => if a = "" then [] else [a]
  | none => []
def nbr (rows : Rows) (n : Str) : List Str := reps rows n ++ upL rows n
inductive Rch (rows : Rows) (n : Str) : Str → Prop
  | refl : Rch rows n n
  | step {m k : Str} : Rch rows n m → k ∈ nbr rows m → Rch rows n k
theorem mem_upL {rows : Rows} {n k : Str} : k ∈ upL rows n ↔ up rows n = some k ∧ k ≠ "" := by
  unfold upL
  cases up rows n with
  | none => simp
  | some a =>
    by_cases h : a = ""
    · subst h
      simp
      intro e; exact e.symm
    · simp [h]
      constructor
      · rintro rfl; exact ⟨rfl, h⟩
      · rintro ⟨e, _⟩; exact e.symm
theorem mem_reps {rows : Rows} {t n : Str} (nd : (rows.map (·.1)).Nodup) : n ∈ reps rows t ↔ up rows n = some t := by
  constructor
  · intro h
    obtain ⟨r, hr, e⟩ := List.mem_map.mp h
    obtain ⟨h1, h2⟩ := List.mem_filter.mp hr
    have e2 : r.2 = t := of_decide_eq_true h2
    obtain ⟨a, ea⟩ := up_some (List.mem_map.mpr ⟨r, h1, e⟩)
    have : (n, t) ∈ rows := by rw [← e, ← e2]; exact h1
    rw [ea, one_answer nd (up_mem ea) this]
  · exact in_reps
/-- names are no empty texts -/
def NoE (rows : Rows) : Prop := ∀ n : Str, n ∈ rows.map (·.1) → n ≠ ""
theorem nbr_sym {rows : Rows} (nd : (rows.map (·.1)).Nodup) {m k : Str} (hm : m ≠ "") (h : k ∈ nbr rows m) : m ∈ nbr rows k := by
  rcases List.mem_append.mp h with h | h
  · exact List.mem_append_right _ (mem_upL.mpr ⟨(mem_reps nd).mp h, hm⟩)
  · exact List.mem_append_left _ ((mem_reps nd).mpr (mem_upL.mp h).1)
theorem nbr_ne {rows : Rows} (ne : NoE rows) {m k : Str} (h : k ∈ nbr rows m) : k ≠ "" := by
  rcases List.mem_append.mp h with h | h
  · exact ne k (reps_sub h)
  · exact (mem_upL.mp h).2
theorem Rch.ne {rows : Rows} (ne : NoE rows) {n k : Str} (hn : n ≠ "") (h : Rch rows n k) : k ≠ "" := by
  cases h with
  | refl => exact hn
  | step _ h => exact nbr_ne ne h
theorem Rch.trans {rows : Rows} {a b c : Str} (h1 : Rch rows a b) (h2 : Rch rows b c) : Rch rows a c := by
  induction h2 with
  | refl => exact h1
  | step _ h ih => exact .step ih h
theorem Rch.symm {rows : Rows} (nd : (rows.map (·.1)).Nodup) (ne : NoE rows) {a b : Str} (ha : a ≠ "") (h : Rch rows a b) : Rch rows b a := by
  induction h with
  | refl => exact .refl
  | step h1 h2 ih => exact (Rch.step .refl (nbr_sym nd (h1.ne ne ha) h2)).trans ih
open Classical in
noncomputable def thrOf (rows : Rows) (n : Str) : List Str := sortS ((rows.map (·.1)).filter fun m => decide (Rch rows n m))
theorem thr_of {rows : Rows} (nd : (rows.map (·.1)).Nodup) {n : Str} {l : List Str} (hl : l.Nodup) (h : ∀ m, m ∈ l ↔ m ∈ rows.map (·.1) ∧ Rch rows n m) : sortS l = thrOf rows n := by
  unfold thrOf
  refine sortS_congr ((List.perm_ext_iff_of_nodup hl (nd.filter _)).mpr fun m => ?_)
  rw [h, List.mem_filter]
  simp
structure DFS (rows : Rows) (n : Str) (rc wt : List Str) : Prop where
  nd : rc.Nodup
  start : n ∈ rc
  sound : ∀ m ∈ rc, Rch rows n m
  sub : ∀ m ∈ wt, m ∈ rc
  clo : ∀ m ∈ rc, m ∉ wt → ∀ k ∈ nbr rows m, k ∈ rc
def univ (rows : Rows) : List Str := rows.map (·.1) ++ rows.map (·.2)
theorem rch_univ {rows : Rows} {n m : Str} (hn : n ∈ rows.map (·.1)) (h : Rch rows n m) : m ∈ univ rows := by
  cases h with
  | refl => exact List.mem_append_left _ hn
  | step _ h =>
    rcases List.mem_append.mp h with h | h
    · exact List.mem_append_left _ (reps_sub h)
    · exact List.mem_append_right _ (List.mem_map.mpr ⟨_, up_mem (mem_upL.mp h).1, rfl⟩)
theorem DFS.len {rows : Rows} {n : Str} {rc wt : List Str} (d : DFS rows n rc wt) (hn : n ∈ rows.map (·.1)) : rc.length ≤ 2 * rows.length := by
  have := nodup_le d.nd fun m hm => rch_univ hn (d.sound m hm)
  unfold univ at this
  rw [List.length_append, List.length_map, List.length_map] at this
  omega
theorem DFS.init {rows : Rows} {n : Str} : DFS rows n [n] [n] :=
  ⟨by simp, by simp, fun m hm => by rw [List.mem_singleton.mp hm]; exact .refl, fun m hm => hm, fun m hm h => absurd hm h⟩
theorem DFS.done {rows : Rows} (nd : (rows.map (·.1)).Nodup) {n : Str} {rc : List Str} (d : DFS rows n rc []) : sortS (rc.filter fun m => decide (m ∈ rows.map (·.1))) = thrOf rows n := by
  have all : ∀ m, Rch rows n m → m ∈ rc := fun m h => by
    induction h with
    | refl => exact d.start
    | step _ h ih => exact d.clo _ ih (by simp) _ h
  refine thr_of nd (d.nd.filter _) fun m => ?_
  rw [List.mem_filter]
  constructor
  · rintro ⟨h1, h2⟩
    exact ⟨of_decide_eq_true h2, d.sound m h1⟩
  · rintro ⟨h1, h2⟩
    exact ⟨all m h2, decide_eq_true h1⟩
/-- within a turn: here was taken off, its neighbours ns (the first i of them) have been looked at -/
structure DFSin (rows : Rows) (n here : Str) (seen : List Str) (rc wt : List Str) : Prop where
  nd : rc.Nodup
  start : n ∈ rc
  hr : here ∈ rc
  sound : ∀ m ∈ rc, Rch rows n m
  sub : ∀ m ∈ wt, m ∈ rc
  clo : ∀ m ∈ rc, m ∉ wt → m ≠ here → ∀ k ∈ nbr rows m, k ∈ rc
  got : ∀ k ∈ seen, k ∈ rc
theorem DFS.pop {rows : Rows} {n here : Str} {rc wt : List Str} (d : DFS rows n rc (wt ++ [here])) : DFSin rows n here [] rc wt :=
  ⟨d.nd, d.start, d.sub here (by simp), d.sound, fun m hm => d.sub m (List.mem_append_left _ hm), fun m hm h1 h2 => d.clo m hm fun z => (List.mem_append.mp z).elim h1 fun y => h2 (List.mem_singleton.mp y), fun k hk => by cases hk⟩
theorem DFSin.old {rows : Rows} {n here k : Str} {seen rc wt : List Str} (d : DFSin rows n here seen rc wt) (hk : k ∈ rc) : DFSin rows n here (seen ++ [k]) rc wt :=
  ⟨d.nd, d.start, d.hr, d.sound, d.sub, d.clo, fun m hm => (List.mem_append.mp hm).elim (d.got m) fun y => by rw [List.mem_singleton.mp y]; exact hk⟩
theorem DFSin.new {rows : Rows} {n here k : Str} {seen rc wt : List Str} (d : DFSin rows n here seen rc wt) (hk : ¬ k ∈ rc) (hn : k ∈ nbr rows here) : DFSin rows n here (seen ++ [k]) (rc ++ [k]) (wt ++ [k]) := by
  refine ⟨List.nodup_append.mpr ⟨d.nd, by simp, fun x hx y hy e => hk ?_⟩, List.mem_append_left _ d.start, List.mem_append_left _ d.hr, fun m hm => ?_, fun m hm => ?_, fun m hm h1 h2 => ?_, fun m hm => ?_⟩
  · rw [List.mem_singleton.mp hy] at e; rw [← e]; exact hx
  · rcases List.mem_append.mp hm with z | z
    · exact d.sound m z
    · rw [List.mem_singleton.mp z]; exact .step (d.sound here d.hr) hn
  · rcases List.mem_append.mp hm with z | z
    · exact List.mem_append_left _ (d.sub m z)
    · exact List.mem_append_right _ z
  · rcases List.mem_append.mp hm with z | z
    · intro k' hk'
      exact List.mem_append_left _ (d.clo m z (fun y => h1 (List.mem_append_left _ y)) h2 k' hk')
    · exact absurd (List.mem_append_right _ z) h1
  · rcases List.mem_append.mp hm with z | z
    · exact List.mem_append_left _ (d.got m z)
    · exact List.mem_append_right _ z
theorem DFSin.out {rows : Rows} {n here : Str} {rc wt : List Str} (d : DFSin rows n here (nbr rows here) rc wt) : DFS rows n rc wt :=
  ⟨d.nd, d.start, d.sound, d.sub, fun m hm h1 => by
    by_cases e : m = here
    · subst e; exact d.got
    · exact d.clo m hm h1 e⟩
def hang (one other : Str × Str) : Bool := decide (one.2 = other.1) || (decide (other.2 = one.1) || (decide (one.2 ≠ "") && decide (one.2 = other.2)))
theorem hang_rch {rows : Rows} (nd : (rows.map (·.1)).Nodup) (ne : NoE rows) {one other : Str × Str} (h1 : one ∈ rows) (h2 : other ∈ rows) (h : hang one other = true) : Rch rows other.1 one.1 := by
  have u : ∀ r ∈ rows, up rows r.1 = some r.2 := fun r hr => by
    obtain ⟨a, ea⟩ := up_some (List.mem_map.mpr ⟨r, hr, rfl⟩)
    rw [ea, one_answer nd (up_mem ea) hr]
  have n1 := ne one.1 (List.mem_map.mpr ⟨one, h1, rfl⟩)
  unfold hang at h
  rw [Bool.or_eq_true, Bool.or_eq_true, Bool.and_eq_true] at h
  rcases h with h | h | ⟨h, h'⟩
  · have e := of_decide_eq_true h
    exact .step .refl (List.mem_append_left _ ((mem_reps nd).mpr (by rw [u one h1, e])))
  · have e := of_decide_eq_true h
    exact .step .refl (List.mem_append_right _ (mem_upL.mpr ⟨by rw [u other h2, e], n1⟩))
  · have e0 := of_decide_eq_true h
    have e := of_decide_eq_true h'
    refine .step (m := one.2) (.step .refl (List.mem_append_right _ (mem_upL.mpr ⟨by rw [u other h2, e], e0⟩))) (List.mem_append_left _ ((mem_reps nd).mpr (u one h1)))
theorem hang_all {rows : Rows} (nd : (rows.map (·.1)).Nodup) (ne : NoE rows) {n : Str} {S : Rows} (sub : ∀ r ∈ S, r ∈ rows) (hn : n ∈ S.map (·.1)) (clo : ∀ r ∈ S, ∀ q ∈ rows, hang q r = true → q ∈ S) {m : Str} (hm : m ∈ rows.map (·.1)) (h : Rch rows n m) : m ∈ S.map (·.1) := by
  have n0 : n ≠ "" := by
    obtain ⟨r, hr, e⟩ := List.mem_map.mp hn
    exact ne n (List.mem_map.mpr ⟨r, sub r hr, e⟩)
  have good : ∀ k, Rch rows n k → (k ∈ rows.map (·.1) → k ∈ S.map (·.1)) ∧ (k ∉ rows.map (·.1) → ∃ r ∈ S, r.2 = k) := fun k hk => by
    induction hk with
    | refl => exact ⟨fun _ => hn, fun z => by
        obtain ⟨r, hr, e⟩ := List.mem_map.mp hn
        exact absurd (List.mem_map.mpr ⟨r, sub r hr, e⟩) z⟩
    | @step m k h1 h2 ih =>
      have m0 := h1.ne ne n0
      rcases List.mem_append.mp h2 with h2 | h2
      · -- k answers m
        have hk := reps_sub h2
        refine ⟨fun _ => ?_, fun z => absurd hk z⟩
        have hkm : (k, m) ∈ rows := up_mem ((mem_reps nd).mp h2)
        by_cases hmn : m ∈ rows.map (·.1)
        · obtain ⟨r, hr, e⟩ := List.mem_map.mp (ih.1 hmn)
          exact List.mem_map.mpr ⟨(k, m), clo r hr _ hkm (by unfold hang; simp [e]), rfl⟩
        · obtain ⟨r, hr, e⟩ := ih.2 hmn
          exact List.mem_map.mpr ⟨(k, m), clo r hr _ hkm (by unfold hang; simp [e, m0]), rfl⟩
      · obtain ⟨e1, e2⟩ := mem_upL.mp h2
        have hmm := up_mem e1
        have hmn : m ∈ rows.map (·.1) := List.mem_map.mpr ⟨_, hmm, rfl⟩
        obtain ⟨r, hr, e⟩ := List.mem_map.mp (ih.1 hmn)
        have er : r.2 = k := one_answer nd (by rw [← e]; exact sub r hr) hmm
        refine ⟨fun hk => ?_, fun _ => ⟨r, hr, er⟩⟩
        obtain ⟨q, hq, eq⟩ := List.mem_map.mp hk
        exact List.mem_map.mpr ⟨q, clo r hr q hq (by unfold hang; simp [er, eq]), eq⟩
  exact (good m h).1 hm
end L2
set_option Elab.async false
set_option linter.all false
set_option maxRecDepth 100000
set_option maxHeartbeats 4000000
namespace L2
open PySem PySem.Spec PyProof.Rows
theorem inj_nd {α β : Type} {f : α → β} : ∀ {l : List α}, (l.map f).Nodup → ∀ {a b : α}, a ∈ l → b ∈ l → f a = f b → a = b
  | [], _, _, _, ha, _, _ => by cases ha
  | x :: l, nd, a, b, ha, hb, e => by
    rw [List.map_cons, List.nodup_cons] at nd
    rcases List.mem_cons.mp ha with h1 | h1 <;> rcases List.mem_cons.mp hb with h2 | h2
    · rw [h1, h2]
    · exact absurd (List.mem_map.mpr ⟨b, h2, by rw [← e, h1]⟩) nd.1
    · exact absurd (List.mem_map.mpr ⟨a, h1, by rw [e, h2]⟩) nd.1
    · exact inj_nd nd.2 h1 h2 e
theorem filter_map_nd {α β : Type} {f : α → β} {p : α → Bool} {l : List α} (nd : (l.map f).Nodup) : ((l.filter p).map f).Nodup := nd.sublist ((List.filter_sublist).map f)
structure LW (prs : List PRow) (n : Str) (S : List PRow) (at' : Nat) : Prop where
  sub : ∀ r ∈ S, r ∈ prs
  nd : (S.map (·.2.1)).Nodup
  snd : ∀ r ∈ S, Rch (prs.map (·.2)) n r.2.1
  me : n ∈ S.map (·.2.1)
  clo : ∀ j, j < at' → ∀ r, S[j]? = some r → ∀ q ∈ prs, hang q.2 r.2 = true → q ∈ S
def lwNew (prs S : List PRow) (r : PRow) : List PRow := prs.filter fun q => !(S.any fun s => decide (s.2 = q.2)) && hang q.2 r.2
section
variable {prs S : List PRow} {n : Str} {k : Nat}
theorem LW.start (nd : (prs.map (·.2.1)).Nodup) (hn : n ∈ prs.map (·.2.1)) : LW prs n (prs.filter fun q => decide (q.2.1 = n)) 0 := by
  refine ⟨fun r hr => (List.mem_filter.mp hr).1, filter_map_nd nd, fun r hr => ?_, ?_, fun j hj => absurd hj (Nat.not_lt_zero _)⟩
  · rw [of_decide_eq_true (List.mem_filter.mp hr).2]; exact .refl
  · obtain ⟨r, hr, e⟩ := List.mem_map.mp hn
    exact List.mem_map.mpr ⟨r, List.mem_filter.mpr ⟨hr, decide_eq_true e⟩, e⟩
theorem LW.len (w : LW prs n S k) : S.length ≤ prs.length := by
  have := nodup_le w.nd (l := prs.map (·.2.1)) fun m hm => by
    obtain ⟨r, hr, e⟩ := List.mem_map.mp hm
    exact List.mem_map.mpr ⟨r, w.sub r hr, e⟩
  rw [List.length_map, List.length_map] at this
  exact this
theorem LW.step (nd : (prs.map (·.2.1)).Nodup) (ne : NoE (prs.map (·.2))) {r : PRow} (w : LW prs n S k) (hr : S[k]? = some r) : LW prs n (S ++ lwNew prs S r) (k + 1) := by
  have nd' : ((prs.map (·.2)).map (·.1)).Nodup := by rw [List.map_map]; exact nd
  have hrS : r ∈ S := List.mem_of_getElem? hr
  have hk : k < S.length := (List.getElem?_eq_some_iff.mp hr).1
  have hnew : ∀ q, q ∈ lwNew prs S r ↔ q ∈ prs ∧ ¬ q ∈ S ∧ hang q.2 r.2 = true := fun q => by
    unfold lwNew
    rw [List.mem_filter, Bool.and_eq_true, Bool.not_eq_true']
    constructor
    · rintro ⟨h1, h2, h3⟩
      refine ⟨h1, fun z => ?_, h3⟩
      have : (S.any fun s => decide (s.2 = q.2)) = true := List.any_eq_true.mpr ⟨q, z, decide_eq_true rfl⟩
      rw [h2] at this
      cases this
    · rintro ⟨h1, h2, h3⟩
      refine ⟨h1, ?_, h3⟩
      cases e : S.any fun s => decide (s.2 = q.2) with
      | false => rfl
      | true =>
        obtain ⟨s, hs, es⟩ := List.any_eq_true.mp e
        have := inj_nd nd (w.sub s hs) h1 (congrArg (·.1) (of_decide_eq_true es))
        rw [this] at hs
        exact absurd hs h2
  refine ⟨fun q hq => ?_, ?_, fun q hq => ?_, ?_, fun j hj q' hq' q hq hh => ?_⟩
  · rcases List.mem_append.mp hq with z | z
    · exact w.sub q z
    · exact ((hnew q).mp z).1
  · rw [List.map_append, List.nodup_append]
    refine ⟨w.nd, filter_map_nd nd, fun a ha b hb e => ?_⟩
    obtain ⟨s, hs, rfl⟩ := List.mem_map.mp ha
    obtain ⟨q, hq, rfl⟩ := List.mem_map.mp hb
    obtain ⟨h1, h2, _⟩ := (hnew q).mp hq
    have := inj_nd nd (w.sub s hs) h1 e
    rw [this] at hs
    exact h2 hs
  · rcases List.mem_append.mp hq with z | z
    · exact w.snd q z
    · obtain ⟨h1, _, h3⟩ := (hnew q).mp z
      exact (w.snd r hrS).trans (hang_rch nd' ne (List.mem_map.mpr ⟨q, h1, rfl⟩) (List.mem_map.mpr ⟨r, w.sub r hrS, rfl⟩) h3)
  · rw [List.map_append]
    exact List.mem_append_left _ w.me
  · have hjl : j < S.length := by omega
    rw [List.getElem?_append_left hjl] at hq'
    by_cases ej : j = k
    · rw [ej, hr] at hq'
      cases hq'
      by_cases z : q ∈ S
      · exact List.mem_append_left _ z
      · exact List.mem_append_right _ ((hnew q).mpr ⟨hq, z, hh⟩)
    · exact List.mem_append_left _ (w.clo j (by omega) q' hq' q hq hh)
theorem LW.done (nd : (prs.map (·.2.1)).Nodup) (ne : NoE (prs.map (·.2))) (w : LW prs n S k) (hk : S.length ≤ k) : sortS (S.map (·.2.1)) = thrOf (prs.map (·.2)) n := by
  have nd' : ((prs.map (·.2)).map (·.1)).Nodup := by rw [List.map_map]; exact nd
  refine thr_of nd' w.nd fun m => ⟨fun hm => ?_, fun ⟨h1, h2⟩ => ?_⟩
  · obtain ⟨r, hr, rfl⟩ := List.mem_map.mp hm
    exact ⟨List.mem_map.mpr ⟨r.2, List.mem_map.mpr ⟨r, w.sub r hr, rfl⟩, rfl⟩, w.snd r hr⟩
  · have := hang_all nd' ne (S := S.map (·.2)) (fun r hr => by
      obtain ⟨q, hq, rfl⟩ := List.mem_map.mp hr
      exact List.mem_map.mpr ⟨q, w.sub q hq, rfl⟩) (by rw [List.map_map]; exact w.me) (fun r hr q hq hh => by
      obtain ⟨r', hr', rfl⟩ := List.mem_map.mp hr
      obtain ⟨q', hq', rfl⟩ := List.mem_map.mp hq
      obtain ⟨j, hj, e⟩ := List.getElem_of_mem hr'
      exact List.mem_map.mpr ⟨q', w.clo j (by omega) r' (by rw [List.getElem?_eq_getElem hj, e]) q' hq' hh, rfl⟩) h1 h2
    rw [List.map_map] at this
    exact this
end
/-- names that were met, one more -/
def addN (ns : List Str) (n : Str) : List Str := if n ∈ ns then ns else ns ++ [n]
theorem mem_add {ns : List Str} {n m : Str} : m ∈ addN ns n ↔ m ∈ ns ∨ m = n := by
  unfold addN
  split
  · exact ⟨.inl, fun h => h.elim id fun e => e ▸ ‹_›⟩
  · rw [List.mem_append, List.mem_singleton]
theorem add_nd {ns : List Str} {n : Str} (h : ns.Nodup) : (addN ns n).Nodup := by
  unfold addN
  split
  · exact h
  · rename_i hn
    rw [List.nodup_append]
    exact ⟨h, List.pairwise_singleton _ _, fun a ha b hb e => hn (by rw [List.mem_singleton.mp hb] at e; rw [← e]; exact ha)⟩
inductive TD where
  | flat (xs : List Str)
  | deep (ls : List (Addr × List Str)) (zz : Bool)
def tdD : TD → PyData
  | .flat xs => .list (xs.map PyData.str)
  | .deep ls zz => .list ((ls.map fun p => PyData.list (p.2.map PyData.str)) ++ if zz then [PyData.str "zz"] else [])
def tdIn : TD → List Addr
  | .flat _ => []
  | .deep ls _ => ls.map (·.1)
def TDOk (H : Hp) (l : Addr) : TD → Prop
  | .flat xs => H l = some (.lst (xs.map V.str))
  | .deep ls zz => H l = some (.lst ((ls.map fun p => V.ref p.1) ++ if zz then [V.str "zz"] else [])) ∧ ∀ p ∈ ls, H p.1 = some (.lst (p.2.map V.str))
def TDB : TD → Prop
  | .flat xs => xs.length ≤ 41 ∧ ∀ x ∈ xs, Asc x ∧ x.length ≤ 20
  | .deep ls _ => ls.length ≤ 40 ∧ ∀ p ∈ ls, p.2.length ≤ 40 ∧ ∀ x ∈ p.2, Asc x ∧ x.length ≤ 20
theorem TDOk.mono {H H' : Hp} {l : Addr} {td : TD} (h : TDOk H l td) (k1 : ∀ o, H l = some o → H' l = some o) (k2 : ∀ b ∈ tdIn td, ∀ o, H b = some o → H' b = some o) : TDOk H' l td := by
  cases td with
  | flat xs => exact k1 _ h
  | deep ls zz => exact ⟨k1 _ h.1, fun p hp => k2 p.1 (List.mem_map.mpr ⟨p, hp, rfl⟩) _ (h.2 p hp)⟩
abbrev GRow := Addr × Addr × TD
structure HeldG (r h : Addr) (H : Hp) (hd : List GRow) : Prop where
  l_ : H h = some (.lst (hd.map fun q => V.ref q.1))
  hr : h ≠ r
  t_ : ∀ q ∈ hd, H q.1 = some (.tup [.ref q.2.1, .str (tdD q.2.2).shown])
  x_ : ∀ q ∈ hd, TDOk H q.2.1 q.2.2 ∧ q.2.1 ≠ h ∧ q.2.1 ≠ r ∧ ∀ b ∈ tdIn q.2.2, b ≠ h ∧ b ≠ r
  b_ : ∀ q ∈ hd, TDB q.2.2
  sep : hd.Pairwise fun q q' => q'.2.1 ≠ q.2.1 ∧ ¬ q'.2.1 ∈ tdIn q.2.2
theorem HeldG.same {r h : Addr} {H H' : Hp} {hd : List GRow} (a : HeldG r h H hd) (s : Same H H') : HeldG r h H' hd :=
  ⟨s _ _ a.l_, a.hr, fun q hq => s _ _ (a.t_ q hq), fun q hq => ⟨(a.x_ q hq).1.mono (fun o => s _ o) (fun b _ o => s b o), (a.x_ q hq).2⟩, a.b_, a.sep⟩
theorem HeldG.free {r h : Addr} {H : Hp} {hd : List GRow} (a : HeldG r h H hd) {l : Addr} (hl : H l = none) : ∀ q ∈ hd, l ≠ q.2.1 ∧ ¬ l ∈ tdIn q.2.2 := fun q hq => by
  have hx := (a.x_ q hq).1
  obtain ⟨u, l1, td⟩ := q
  cases td with
  | flat xs => exact ⟨(ne_of_none hx hl).symm, fun z => nomatch z⟩
  | deep ls zz =>
    refine ⟨(ne_of_none hx.1 hl).symm, fun z => ?_⟩
    obtain ⟨p, hp, e⟩ := List.mem_map.mp z
    have := hx.2 p hp
    rw [e, hl] at this
    cases this
end L2
set_option Elab.async false
set_option linter.all false
namespace L2
open PySem PySem.Spec
section
variable {X : Cx} {pins : List (Addr × Obj)} {σ : St} {H : Hp} {s : Shared} {a : Addr} {kvs : List (Key × V)} {k : Key} {z : V} {u r : Value} {A : Around} {E : Value → Shared → Prop}
end
section
variable {X : Cx} {o e f : Expr} {apos cpos : Pos} {td ty tx : TE}
end
/-- all but what stands at x is kept -/
def SX (x : Addr) (H H' : Hp) : Prop := ∀ c o, c ≠ x → H c = some o → H' c = some o
theorem SX.of {x : Addr} {H H' : Hp} (h : Same H H') : SX x H H' := fun c o _ e => h c o e
theorem SX.trans {x : Addr} {H H1 H2 : Hp} (h : SX x H H1) (g : SX x H1 H2) : SX x H H2 := fun c o n e => g c o n (h c o n e)
theorem SX.free {x l : Addr} {H H1 : Hp} {o : HO} (h : SX x H H1) (e : H1 x = some o) (n : H1 l = none) : H l = none := by
  cases q : H l with
  | none => rfl
  | some u =>
    by_cases z : l = x
    · rw [z, e] at n; cases n
    · rw [h l u z q] at n; cases n
def nIns : HO → Bool
  | .ins _ _ _ => false
  | _ => true
/-- all but instances is kept -/
def SN (H H' : Hp) : Prop := ∀ c o, nIns o = true → H c = some o → H' c = some o
theorem SN.trans {H H1 H2 : Hp} (h : SN H H1) (g : SN H1 H2) : SN H H2 := fun c o n e => g c o n (h c o n e)
end L2
set_option Elab.async false
set_option linter.all false
set_option maxRecDepth 100000
set_option maxHeartbeats 4000000
namespace L2
open PySem PySem.Spec PyProof.Rows
def keyT : Value → Str
  | .str x _ => x
  | _ => ""
def SetT (prog : Program) (w : World) (led : Bool) (a : Addr) (ks : List Str) (h : Heap) : Prop := ∃ o es ep t, h.get? a = some o ∧ o.ExactSet ∧ o.data = .set es ep t ∧ ElemsOf (strKind prog w) es.toList ∧ es.size < scanBound ∧ t.fits es.size = true ∧ t.led = led ∧
  (t.plain = true → es.size = 0) ∧ (es.toList.map fun e => keyT e.2).Perm ks
theorem SetT.at {prog : Program} {w : World} {led : Bool} {a : Addr} {ks : List Str} {h h' : Heap} (x : SetT prog w led a ks h) (k : ∀ o, h.get? a = some o → h'.get? a = some o) : SetT prog w led a ks h' :=
  let ⟨o, es, ep, t, e, r⟩ := x; ⟨o, es, ep, t, k o e, r⟩
theorem elem_str {prog : Program} {w : World} {l : List (Int × Value)} (h : ElemsOf (strKind prog w) l) {e : Int × Value} (he : e ∈ l) : ∃ t, e.2 = .str (keyT e.2) t := by
  obtain ⟨⟨k, hk, _⟩, _⟩ := h e he
  obtain ⟨t, q⟩ := Value.isStrOf_shape (show Value.isStrOf k e.2 = true from hk)
  exact ⟨t, by rw [q]; rfl⟩
theorem is_key {k : Str} {v : Value} {t : Tok} (h : v = .str (keyT v) t) : Value.isStrOf k v = decide (k = keyT v) := by
  rw [h]
  show Value.isStrOf k (.str (keyT v) t) = decide (k = keyT v)
  by_cases e : k = keyT v
  · rw [← e, decide_eq_true rfl]; simp [Value.isStrOf]
  · rw [decide_eq_false e]; simp [Value.isStrOf]; exact fun z => e z.symm
theorem layNew_led (t : SetTable) (es : Array (Int × Value)) (h : Int) (x : Value) : (layNew t es h x).2.1.led = t.led := by
  unfold layNew
  split
  · show (SetTable.orStandIn _ _).led = _
    unfold SetTable.orStandIn
    split <;> rfl
  · rfl
theorem relayAll_led (t : SetTable) (es : Array (Int × Value)) (wanted : Nat) : (relayAll t es wanted).2.1.led = t.led ∧ ((relayAll t es wanted).2.1.plain = true → t.plain = true) := by
  unfold relayAll
  split
  · rename_i t' order he
    have e : t'.led = t.led ∧ t'.plain = t.plain := by
      unfold SetTable.relaid SetTable.laid at he
      cases hc : SetTable.layClean (SetTable.sizeAbove wanted - 1) (es.map (·.1)) with
      | none => rw [hc] at he; cases he
      | some ow => rw [hc] at he; cases he; exact ⟨rfl, rfl⟩
    dsimp only
    split
    · exact ⟨e.1, fun z => by rw [← e.2]; exact z⟩
    · exact ⟨rfl, fun z => by cases z⟩
  · exact ⟨rfl, fun z => by cases z⟩
section
variable {prog : Program} {w : World} {A : Around} {E : Value → Shared → Prop} {s : Shared}
/-- what is stored -/
theorem setT_store {h : Heap} {a : Addr} {o : Obj} {es : Array (Int × Value)} {ep : Nat} {t : SetTable} {led : Bool} {ks : List Str} (ho : h.get? a = some o) (hex : o.ExactSet) (hd : o.data = .set es ep t) {es' : Array (Int × Value)} {t' : SetTable}
    (hel : ElemsOf (strKind prog w) es'.toList) (hb : es'.size < scanBound) (hf : t'.fits es'.size = true) (hl : t'.led = led) (hp : t'.plain = true → es'.size = 0) (hk : (es'.toList.map fun e => keyT e.2).Perm ks) :
    (h.update a (Obj.putSet es' t')).get? a = some { o with data := .set es' (ep + 1) t' } ∧ SetT prog w led a ks (h.update a (Obj.putSet es' t')) := by
  have hg : (h.update a (Obj.putSet es' t')).get? a = some { o with data := .set es' (ep + 1) t' } := by
    have e1 := putSet_of es' t' hd
    have e2 := Heap.get?_update_self (Obj.putSet es' t') ho (by rw [e1]; rfl)
    rw [e1] at e2
    exact e2
  exact ⟨hg, _, es', ep + 1, t', hg, hex, rfl, hel, hb, hf, hl, hp, hk⟩
theorem tail_T {g : Bool → Sem Unit} (hg : ∀ (b : Bool) (z : Shared) (R : Unit → Shared → Prop), R () z → wpAny (model prog w) A (g b) R E z) {a : Addr} {o : Obj} {es : Array (Int × Value)} {ep : Nat} {t : SetTable} {led : Bool} {ks : List Str}
    (ho : s.heap.get? a = some o) (hex : o.ExactSet) (hd : o.data = .set es ep t) {es1 : Array (Int × Value)} {t2 : SetTable} (hel : ElemsOf (strKind prog w) es1.toList) (hb : es1.size < scanBound) (hf : t2.fits es1.size = true) (hl : t2.led = led) (hp : t2.plain = false)
    (hk : (es1.toList.map fun e => keyT e.2).Perm ks) {was : Bool} {R : Option Bool → Shared → Prop} (h : ∀ h', Heap.SameBut a s.heap h' → SetT prog w led a ks h' → R (some true) { s with heap := h' }) :
    wpAny (model prog w) A (do
        storeSet a es1 t2
        if (!was && t2.tooFull) = true then do
            g (relayAll t2 es1 (SetTable.grown es1.size)).2.2
            storeSet a (relayAll t2 es1 (SetTable.grown es1.size)).1 (relayAll t2 es1 (SetTable.grown es1.size)).2.1
            pure (some true)
          else pure (some true)) R E s := by
  refine wpAny_bind (wpAny_storeSet_of ho hd ?_ (fits_of_scanBound hb))
  obtain ⟨g1, S1⟩ := setT_store (prog := prog) (w := w) ho hex hd hel hb hf hl (fun z => by rw [hp] at z; cases z) hk
  have b1 := Heap.SameBut.update s.heap a (Obj.putSet es1 t2)
  split
  · have pm := relayAll_perm t2 es1 (SetTable.grown es1.size)
    have ft := relayAll_fits t2 es1 (SetTable.grown es1.size)
    have ld := relayAll_led t2 es1 (SetTable.grown es1.size)
    generalize relayAll t2 es1 (SetTable.grown es1.size) = Z at pm ft ld ⊢
    obtain ⟨es2, t3, gv⟩ := Z
    dsimp only at pm ft ld ⊢
    have z2 : es2.size = es1.size := by rw [← Array.length_toList, pm.length_eq, Array.length_toList]
    refine wpAny_bind (hg _ _ _ (wpAny_bind (wpAny_storeSet_of g1 rfl ?_ (fits_of_scanBound (by rw [z2]; exact hb)))))
    obtain ⟨_, S2⟩ := setT_store (prog := prog) (w := w) (led := led) (ks := ks) g1 hex rfl (hel.perm pm) (by rw [z2]; exact hb) ft (ld.1.trans hl) (fun z => by have := ld.2 z; rw [hp] at this; cases this) ((pm.map _).trans hk)
    exact wpAny_pure (h _ (b1.trans (Heap.SameBut.update _ a _)) S2)
  · exact wpAny_pure (h _ b1 S1)
theorem setAdd_T {a : Addr} {ks : List Str} {k : Str} {u : Tok} {led : Bool} {Q : Bool → Shared → Prop} (hS : SetT prog w led a ks s.heap) (hroom : ks.length + 1 < scanBound)
    (h : ∀ (b : Bool) (h' : Heap), Heap.SameBut a s.heap h' → SetT prog w led a (addN ks k) h' → Q b { s with heap := h' }) : wpAny (model prog w) A (setAddHashed a (.str k u) (hashStr w k)) Q E s := by
  obtain ⟨o, es, ep, t, ho, hex, hd, hel, hb, hf, hled, hpl, hpm⟩ := hS
  have hkey : (strKind prog w).is k (.str k u) = true := by show Value.isStrOf k (.str k u) = true; simp [Value.isStrOf]
  have hsc : (Value.str k u).scannable = true := rfl
  have hlen : es.size = ks.length := by rw [← hpm.length_eq, List.length_map, Array.length_toList]
  unfold setAddHashed setAddHashedIn
  refine wpAny_holding (wpAny_bind (wpAny_setState_of ho hd hf ?_))
  dsimp only
  rw [byScan_of hsc hb hel]
  simp only [↓reduceIte]
  unfold setAddByScan
  refine wpAny_bind (wpAny_bind (wpAny_rule (wpAny_bind (wpAny_setScan_of (knd := strKind prog w) hkey ho hd hf hel ?_))))
  cases hr : List.findIdx? (fun e => (strKind prog w).is k e.2) es.toList with
  | some j =>
    dsimp only
    obtain ⟨hj, hpj, _⟩ := List.findIdx?_eq_some_iff_getElem.mp hr
    have hm := List.getElem_mem hj
    obtain ⟨tj, ej⟩ := elem_str hel hm
    have hin : k ∈ ks := hpm.mem_iff.mp (List.mem_map.mpr ⟨_, hm, by
      have e1 : Value.isStrOf k es.toList[j].2 = true := hpj
      rw [is_key ej] at e1
      exact (of_decide_eq_true e1).symm⟩)
    refine wpAny_pure (wpAny_pure ?_)
    have e : s = { s with heap := s.heap } := by cases s; rfl
    rw [e]
    exact h false s.heap (Heap.SameBut.refl a s.heap) ⟨o, es, ep, t, ho, hex, hd, hel, hb, hf, hled, hpl, by unfold addN; rw [if_pos hin]; exact hpm⟩
  | none =>
    dsimp only
    have hnin : ¬ k ∈ ks := fun z => by
      obtain ⟨e, he, hk⟩ := List.mem_map.mp (hpm.mem_iff.mpr z)
      obtain ⟨te, ee⟩ := elem_str hel he
      have h1 := List.findIdx?_eq_none_iff.mp hr e he
      have h2 : Value.isStrOf k e.2 = false := h1
      rw [is_key ee, hk, decide_eq_true rfl] at h2
      cases h2
    have hperm := layNew_perm t es (hashStr w k) (.str k u)
    have hfits := layNew_fits t es (hashStr w k) (.str k u)
    have hld := layNew_led t es (hashStr w k) (.str k u)
    have hnk : (addN ks k) = ks ++ [k] := by unfold addN; rw [if_neg hnin]
    generalize layNew t es (hashStr w k) (.str k u) = Z at hperm hfits hld ⊢
    obtain ⟨es1, t1, was, gave⟩ := Z
    dsimp only at hperm hfits hld ⊢
    rw [Array.toList_push] at hperm
    have hel1 : ElemsOf (strKind prog w) es1.toList := (hel.push (k := k) hkey hsc).perm hperm
    have z1 : es1.size = es.size + 1 := by rw [← Array.length_toList, hperm.length_eq, List.length_append, Array.length_toList]; rfl
    have hb1 : es1.size < scanBound := by rw [z1, hlen]; exact hroom
    have hk1 : (es1.toList.map fun e => keyT e.2).Perm (addN ks k) := by
      rw [hnk]
      refine (hperm.map _).trans ?_
      rw [List.map_append]
      exact hpm.append_right _
    have gw : ∀ (b : Bool) (z : Shared) (R : Unit → Shared → Prop), R () z → wpAny (model prog w) A (match b with | true => rule "set.scan.the-table-gave-way" | false => pure ()) R E z := fun b z R q => by cases b <;> first | exact wpAny_pure q | exact wpAny_rule q
    refine wpAny_bind (gw _ _ _ ?_)
    split
    · refine wpAny_bind ?_
      rw [hashByValue_scannable 8 hsc]
      refine wpAny_pure ?_
      refine tail_T (led := led) (ks := addN ks k) ?_ ho hex hd hel1 hb1 ?_ ?_ ?_ hk1 ?_
      · intro b z R q; cases b <;> first | exact wpAny_pure q | exact wpAny_rule q
      · exact SetTable.fits_plain_off hfits
      · exact hld.trans hled
      · rfl
      · intro h' hsb hS'; dsimp only; exact wpAny_pure (h true h' hsb hS')
    · rename_i hnp
      refine wpAny_bind (wpAny_pure ?_)
      simp only [↓reduceIte]
      refine tail_T (led := led) (ks := addN ks k) ?_ ho hex hd hel1 hb1 hfits ?_ ?_ hk1 ?_
      · intro b z R q; cases b <;> first | exact wpAny_pure q | exact wpAny_rule q
      · exact hld.trans hled
      · exact Bool.eq_false_iff.mpr hnp
      · intro h' hsb hS'; dsimp only; exact wpAny_pure (h true h' hsb hS')
/-- the texts met, each once -/
def metT (val : Nat → Str) (i : Nat) : List Str := ((List.range i).map val).foldl addN []
theorem metT_succ (val : Nat → Str) (i : Nat) : metT val (i + 1) = addN (metT val i) (val i) := by
  unfold metT
  rw [List.range_succ, List.map_append, List.foldl_append]
  rfl
theorem metT_len (val : Nat → Str) : ∀ i, (metT val i).length ≤ i
  | 0 => Nat.le_refl _
  | i + 1 => by
    rw [metT_succ]
    have ih := metT_len val i
    unfold addN
    split
    · omega
    · rw [List.length_append, List.length_singleton]; omega
theorem set_loop_T {led : Bool} {R : Result → Shared → Prop} {I : Addr} {fp wr : List Addr} {G : Array GenState → Array GenState → Prop} {n : Nat} {P : Nat → Value → Prop} {St : Nat → Shared → Prop} (W : WalksS prog w A.in1 I fp wr G n P St) (S : Addr) (nf : S ∉ fp)
    (val : Nat → Str) (hval : ∀ i v, P i v → ∃ t, v = .str (val i) t) (hb : n + 1 < scanBound) : ∀ (k i : Nat) (s : Shared), n - i = k → i ≤ n → St i s → SetT prog w led S (metT val i) s.heap →
      (∀ s', Moved (S :: wr) G s s' → SetT prog w led S (metT val n) s'.heap → R (.ok (.ret .none)) s') → codeAny (model prog w) A (.builtin "set.update.loop" ⟨[.ref S, .ref I], []⟩) R s := by
  have nw : S ∉ wr := fun h => nf (W.sub _ h)
  have sub : ∀ b ∈ wr, b ∈ S :: wr := fun b hb => List.mem_cons_of_mem _ hb
  intro k
  induction k with
  | zero =>
    intro i s hk hi hst hS hR
    obtain rfl : i = n := by omega
    refine codeAny_builtin F.entry_set_update_loop ?_
    rw [Around.under_plainId F.plain_set_update_loop _]
    refine wpAny_bind (m := pyNext (.ref I)) (W.done s _ _ hst fun s' mv => ?_)
    exact wpAny_pure (hR s' (mv.mono sub) (hS.at fun o e => mv.heap S o nw e))
  | succ k ih =>
    intro i s hk hi hst hS hR
    have lt : i < n := by omega
    refine codeAny_builtin F.entry_set_update_loop ?_
    rw [Around.under_plainId F.plain_set_update_loop _]
    refine wpAny_bind (m := pyNext (.ref I)) (W.item i s _ _ lt hst fun v s' hP hst' mv => ?_)
    obtain ⟨t, rfl⟩ := hval i v hP
    have hS' := hS.at (h' := s'.heap) fun o e => mv.heap S o nw e
    refine wpAny_bind (m := holding [Value.str (val i) t] (setAdd S (.str (val i) t))) (wpAny_holding ?_)
    unfold setAdd
    refine wpAny_holding (wpAny_bind ((strKind prog w).pyHash (k := val i) (show Value.isStrOf (val i) (.str (val i) t) = true by simp [Value.isStrOf]) ?_))
    have room : (metT val i).length + 1 < scanBound := by have := metT_len val i; omega
    refine setAdd_T (s := { s' with toks := s'.toks + 1 }) (led := led) hS' room fun b h' sb hS2 => ?_
    rw [← metT_succ] at hS2
    refine wpAny_pure ⟨plainId_quiet F.plain_set_update_loop _, ih (i + 1) _ (by omega) lt (W.frame _ s' _ _ hst' (Nat.le_succ _) fun b hb o e => ?_) hS2 fun s'' mv' hS'' => ?_⟩
    · rw [sb.2 b (fun h : b = S => nf (by rw [← h]; exact hb))]; exact e
    · refine hR s'' (Moved.trans W.gtrans ((mv.mono sub).then_heap (Nat.le_succ _) fun b o hb e => ?_) mv') hS''
      rw [sb.2 b (fun h : b = S => hb (by rw [h]; exact List.mem_cons_self))]; exact e
def setNew (w : World) : Obj := { cls := .type "set", dict := none, data := .set #[] 0 (.fresh 0 0 (!w.params.followText "set-order")) }
theorem new_set_T (v : Value) {R : Value → Shared → Prop} (h : R (.ref s.heap.objs.size) { s with heap := s.heap.push (setNew w) }) : codeAny (model prog w) A (.call (.builtin "set.__new__") ⟨[.type "set", v], []⟩) (wants R E) s := by
  refine codeAny_of_tree ?_
  refine wpAny_bind (m := checkBuiltinCall "set.__new__" ⟨[.type "set", v], []⟩) (wpAny_of_eq (F.newCall_set_1 v) (wpAny_pure ⟨plainId_quiet F.plain_set_new _, codeAny_builtin F.entry_set_new ?_⟩))
  rw [Around.under_plainId F.plain_set_new _]
  unfold Builtin.«set.__new__» Builtin.Frozenset.newClass
  have sub := sub_set_self
  obtain ⟨hp, g, d, tk, os⟩ := s
  dsimp only
  wp_walk
  refine wpAny_askSetting (wpAny_pure ?_)
  dsimp only
  simp only [newObj]
  exact wpAny_bind (wpAny_alloc (wpAny_pure (wpAny_pure h)))
theorem strs_at : ∀ {vs : List Value} {ss : List Str}, StrsAre vs ss → ∀ (i : Nat) (v : Value), vs[i]? = some v → ∃ t, v = .str (ss.getD i "") t
  | _, _, .nil, i, v, h => by simp at h
  | _, _, .cons x t r, 0, v, h => by simp at h; exact ⟨t, by rw [← h]; rfl⟩
  | _, _, .cons x t r, i + 1, v, h => by
    rw [List.getElem?_cons_succ] at h
    obtain ⟨t', e⟩ := strs_at r i v h
    exact ⟨t', by rw [e]; rfl⟩
theorem strs_len : ∀ {vs : List Value} {ss : List Str}, StrsAre vs ss → vs.length = ss.length
  | _, _, .nil => rfl
  | _, _, .cons x t r => by rw [List.length_cons, List.length_cons, strs_len r]
theorem range_getD (ss : List Str) : (List.range ss.length).map (fun i => ss.getD i "") = ss := by
  apply List.ext_getElem
  · rw [List.length_map, List.length_range]
  · intro i h1 h2
    rw [List.getElem_map, List.getElem_range, List.getD_eq_getElem?_getD, List.getElem?_eq_getElem h2]
    rfl
theorem new_T : SetT prog w (!w.params.followText "set-order") s.heap.objs.size [] (s.heap.push (setNew w)) :=
  ⟨_, #[], 0, _, Heap.get?_push_size _ rfl, ⟨rfl, rfl, rfl⟩, rfl, (fun e he => by simp at he), by decide, by rfl, rfl, (fun _ => rfl), by simp⟩
end
end L2
set_option Elab.async false
set_option linter.all false
set_option maxRecDepth 100000
set_option maxHeartbeats 4000000
namespace L2
open PySem PySem.Spec PyProof.Rows
section
variable {prog : Program} {w : World} {A : Around} {E : Value → Shared → Prop} {s : Shared}
set_option maxHeartbeats 3200000 in
theorem call_set_T {l : Addr} {items : Array Value} {ss : List Str} {Q : Value → Shared → Prop} (hh : A.handled = none) (hl : s.heap.IsList l items) (hi : StrsAre items.toList ss) (hb : items.size + 1 < scanBound)
    (h : ∀ (h' : Heap) (tk : Nat), SetT prog w (!w.params.followText "set-order") s.heap.objs.size (ss.foldl addN []) h' → (∀ b o, b < s.heap.objs.size → s.heap.get? b = some o → h'.get? b = some o) → Q (.ref s.heap.objs.size) { s with heap := h', toks := tk }) :
    wpAny (model prog w) A (call (.type "set") [.ref l]) Q E s := by
  obtain ⟨c, tl, m1⟩ := F.called_set.mro
  have m2 := F.called_set.made
  have m3 := F.called_set.sub
  have m4 := F.called_set.notType
  have m5 := F.called_set.canCreate
  have m6 := F.typeCall_set_1 (.ref l)
  refine wpAny_call (codeAny_of_tree ?_)
  show wpAny _ _ (callAny (.type "set") _) _ _ _
  refine wpAny_pure ⟨Code.quiet_builtin _ (by decide +kernel), codeAny_builtin F.entry_type_call ?_⟩
  rw [Around.under_plain (weight_type_call_type "set" [.ref l] []) rfl]
  repeat (any_goals (first | assumption | wp_step))
  refine codeAny_mono (new_set_T (.ref l) (E := E) (R := fun z z1 => z = .ref s.heap.objs.size ∧ z1 = { s with heap := s.heap.push (setNew w) }) ⟨rfl, rfl⟩) fun r s₁ hr => ?_
  cases r with
  | error e => exact hr
  | ok fl =>
    cases fl with
    | ret z =>
      obtain ⟨rfl, rfl⟩ := hr
      have z1 : (s.heap.push (setNew w)).get? s.heap.objs.size = some (setNew w) := Heap.get?_push_size _ rfl
      have z2 : Shared.TypeIs { s with heap := s.heap.push (setNew w) } (.ref s.heap.objs.size) "set" := ⟨_, z1, rfl⟩
      have z3 := F.called_set.init.lookup
      have z4 := F.called_set.init.bind (.ref s.heap.objs.size)
      repeat (any_goals (first | assumption | wp_step))
      refine codeAny_mono (codeAny_call_builtin (R := wants (fun r s₂ => r = .none ∧ ∃ h' tk, s₂ = { s with heap := h', toks := tk } ∧ SetT prog w (!w.params.followText "set-order") s.heap.objs.size (ss.foldl addN []) h' ∧
          (∀ b o, b < s.heap.objs.size → s.heap.get? b = some o → h'.get? b = some o)) E) F.called_set.init.plain F.entry_set_init (check_set_init_1 z2 ?_)) fun r₂ s₂ hr₂ => ?_
      · obtain ⟨ol, e1, e2, nl, e3⟩ := hl
        obtain ⟨ocls, odict, odata, oslots⟩ := ol
        simp only at e2 e3
        subst e2; subst e3
        have y1 : (s.heap.push (setNew w)).get? l = some { cls := .type "list", dict := odict, data := .seq items nl, slots := oslots } := Heap.get?_push_of_some _ e1
        have y2 := F.sub_list_set
        have y3 := F.sub_list_frozenset
        have y4 : (Value.type "list" == Value.type "dict") = false := by decide
        have y5 : (s.heap.push (setNew w)).IsList l items := ⟨_, y1, rfl, nl, rfl⟩
        unfold Builtin.«set.__init__» noKeywords Builtin.Frozenset.updateFrom
        generalize hPI : pyIter = PI
        unfold setNew at z1 z2 y1 y5 ⊢
        wp_walk
        subst hPI
        refine wpAny_pyIter_list y5 ?_
        refine wpAny_bind (wpAny_runValue ?_)
        have lt : l < s.heap.objs.size := Heap.lt_size e1
        have q3 : A.in1.in1.in1.handled = none := by simp [hh]
        have ne : l ≠ (s.heap.push { cls := .type "set", dict := none, data := .set #[] 0 (.fresh 0 0 (!w.params.followText "set-order")) }).objs.size := by
          rw [Heap.size_push]; exact Nat.ne_of_lt (Nat.lt_succ_of_lt lt)
        have nf : s.heap.objs.size ∉ [(s.heap.push { cls := .type "set", dict := none, data := .set #[] 0 (.fresh 0 0 (!w.params.followText "set-order")) }).objs.size, l] := by
          rw [Heap.size_push]
          intro z
          rcases List.mem_cons.mp z with z | z
          · omega
          · rw [List.mem_singleton.mp z] at lt
            exact Nat.lt_irrefl _ lt
        have vl : ∀ (i : Nat) (v : Value), items[i]? = some v → ∃ t, v = .str ((fun i => ss.getD i "") i) t := fun i v e => strs_at hi i v (by rw [Array.getElem?_toList]; exact e)
        have es : metT (fun i => ss.getD i "") items.size = ss.foldl addN [] := by
          unfold metT
          rw [← Array.length_toList, strs_len hi, range_getD]
        refine set_loop_T (led := !w.params.followText "set-order") ((Walks.list q3 _ l ne items).toS) s.heap.objs.size nf (fun i => ss.getD i "") vl hb (items.size - 0) 0 _ (by omega) (Nat.zero_le _) ⟨⟨_, Heap.get?_push_size _ rfl, rfl, rfl⟩, y5.push _⟩ ?S0 ?R0
        case S0 => exact (new_T (prog := prog) (w := w) (s := s)).at fun o e => Heap.get?_push_of_some _ e
        case R0 =>
          intro s' hm hS'
          obtain ⟨h', g', d', tk', os'⟩ := s'
          have eg : g' = s.gens := hm.gens
          have ed : d' = s.drawn := hm.drawn
          have eo : os' = s.os := hm.os
          subst eg; subst ed; subst eo
          rw [es] at hS'
          refine wpAny_pure (wpAny_pure ⟨rfl, h', tk', rfl, hS', fun b o hb e => ?_⟩)
          refine hm.heap b o (fun z => ?_) (Heap.get?_push_of_some _ (Heap.get?_push_of_some _ e))
          rcases List.mem_cons.mp z with z | z
          · exact absurd z (Nat.ne_of_lt hb)
          · have z := List.mem_singleton.mp z
            rw [Heap.size_push] at z
            exact absurd z (Nat.ne_of_lt (Nat.lt_succ_of_lt hb))
      · cases r₂ with
        | error e => exact hr₂
        | ok fl₂ =>
          cases fl₂ with
          | ret r =>
            obtain ⟨rfl, h', tk, rfl, a1, a2⟩ := hr₂
            repeat (any_goals (first | assumption | wp_step))
            exact h _ _ a1 a2
          | _ => exact hr₂.elim
    | _ => exact hr.elim
end
end L2
set_option Elab.async false
set_option linter.all false
set_option maxRecDepth 100000
set_option maxHeartbeats 4000000
namespace L2
open PySem PySem.Spec PyProof.Rows
theorem erase_perm {α : Type} : ∀ (l : List α) (i : Nat) (h : i < l.length), (l[i] :: l.eraseIdx i).Perm l
  | x :: l, 0, _ => .refl _
  | x :: l, i + 1, h => by
    show (l[i]'(Nat.lt_of_succ_lt_succ h) :: x :: l.eraseIdx i).Perm (x :: l)
    exact (List.Perm.swap x _ _).trans ((erase_perm l i (Nat.lt_of_succ_lt_succ h)).cons x)
theorem pick_go {α : Type} (next : Nat → Nat) : ∀ (fuel k : Nat) (left : List α) (out : Array α), left.length = fuel → (pickOrder.go next fuel k left out).toList.Perm (out.toList ++ left)
  | 0, k, left, out, h => by
    obtain rfl : left = [] := List.length_eq_zero_iff.mp h
    rw [List.append_nil]
    exact .refl _
  | n + 1, k, left, out, h => by
    have hi : next k % left.length < left.length := Nat.mod_lt _ (by omega)
    unfold pickOrder.go
    rw [List.getElem?_eq_getElem hi]
    dsimp only
    refine (pick_go next n (k + 1) _ _ (by rw [List.length_eraseIdx_of_lt hi, h]; rfl)).trans ?_
    rw [Array.toList_push, List.append_assoc]
    exact (erase_perm left _ hi).append_left _
theorem pick_perm {α : Type} (next : Nat → Nat) (xs : Array α) : (pickOrder next xs).toList.Perm xs.toList := by
  have := pick_go next xs.size 0 xs.toList #[] (by simp)
  exact this
theorem slot_sit_next : Slot "set_iterator" "__next__" "set_iterator.__next__" := .of (owner := "set_iterator") (n := "__next__") (by rw [typeLookup_type, builtinLookup_eq_fast]; kernel_rfl) (by decide +kernel) (by decide +kernel) (by decide +kernel) (by first | exact .inl (by decide +kernel) | exact .inr (by decide +kernel)) (by rw [isSubtype_type]; kernel_rfl)
theorem entry_sit_next : entryFor table "set_iterator.__next__" = some Builtin.«set_iterator.__next__» := entryFor_of_tree (by kernel_rfl)
theorem args_sit_next (a : Value) : argsOk "set_iterator.__next__" ⟨[a], []⟩ := by unfold argsOk; kernel_rfl
theorem entry_set_iter : entryFor table "set.__iter__" = some Builtin.«frozenset.__iter__» := entryFor_alias (id' := "frozenset.__iter__") (by kernel_rfl) rfl (by decide +kernel) (by kernel_rfl)
theorem slot_sit_iter : Slot "set_iterator" "__iter__" "set_iterator.__iter__" := .of (owner := "set_iterator") (n := "__iter__") (by rw [typeLookup_type, builtinLookup_eq_fast]; kernel_rfl) (by decide +kernel) (by decide +kernel) (by decide +kernel) (by first | exact .inl (by decide +kernel) | exact .inr (by decide +kernel)) (by rw [isSubtype_type]; kernel_rfl)
theorem wpAny_choose {M : Model} {A : Around} {E : Value → Shared → Prop} {s : Shared} {src : Source} {n : Nat} {Q : Nat → Shared → Prop} (hn : n ≠ 0) (h : ∀ i d', i < n → Q i { s with drawn := d' }) : wpAny M A (choose src n) Q E s :=
  fun _ _ _ => ⟨hn, h _ _ (Nat.mod_lt _ (Nat.pos_of_ne_zero hn))⟩
theorem wpAny_drawOrder {M : Model} {A : Around} {E : Value → Shared → Prop} {α : Type} : ∀ (n : Nat) (xs : List α) (s : Shared) (Q : List α → Shared → Prop), xs.length = n → (∀ ys d', ys.Perm xs → Q ys { s with drawn := d' }) → wpAny M A (drawOrder n xs) Q E s
  | 0, xs, s, Q, hl, h => by
    obtain rfl : xs = [] := List.length_eq_zero_iff.mp hl
    have e : s = { s with drawn := s.drawn } := by cases s; rfl
    unfold drawOrder
    refine wpAny_pure ?_
    rw [e]
    exact h [] _ (.refl _)
  | n + 1, [], s, Q, hl, h => by cases hl
  | n + 1, x :: xs, s, Q, hl, h => by
    unfold drawOrder
    refine wpAny_bind (wpAny_choose (by simp) fun i d' hi => ?_)
    have e : (x :: xs)[i]? = some (x :: xs)[i] := List.getElem?_eq_getElem hi
    rw [e]
    dsimp only
    refine wpAny_bind (wpAny_drawOrder n ((x :: xs).eraseIdx i) _ _ (by rw [List.length_eraseIdx_of_lt hi, hl]; rfl) fun ys d'' hp => wpAny_pure ?_)
    exact h _ d'' ((hp.cons _).trans (erase_perm _ i hi))
/-- the iterator -/
def SitAt (h : Heap) (it a : Addr) (first : Value) (i n ep : Nat) : Prop := ∃ o, h.get? it = some o ∧ o.cls = .type "set_iterator" ∧ o.data = .fields #[first, .int i 0, .ref a, .int n 0, .int ep 0]
def SAt (h : Heap) (a : Addr) (es : Array (Int × Value)) (ep : Nat) (t : SetTable) : Prop := ∃ o, h.get? a = some o ∧ o.cls = .type "set" ∧ o.data = .set es ep t
section
variable {prog : Program} {w : World} {A : Around} {E : Value → Shared → Prop} {s : Shared} {a it : Addr} {es : Array (Int × Value)} {ep : Nat} {t : SetTable}
theorem SitAt.typeIs {first : Value} {i n : Nat} (h : SitAt s.heap it a first i n ep) : s.TypeIs (.ref it) "set_iterator" := let ⟨o, e, c, _⟩ := h; ⟨o, e, c⟩
/-- iter(set): by the text's order, or of one element at most -/
theorem iter_set_plain {Q : Value → Shared → Prop} (hS : SAt s.heap a es ep t) (hf : t.fits es.size = true) (hnd : (!w.params.followText "set-order" && (!t.plain && decide (es.size > 1))) = false)
    (h : Q (.ref s.heap.objs.size) { s with heap := s.heap.push { cls := .type "set_iterator", data := .fields #[.int 0 0, .int 0 0, .ref a, .int es.size 0, .int ep 0] } }) :
    wpAny (model prog w) A (pyIter (.ref a)) Q E s := by
  obtain ⟨o, ho, hc, hd⟩ := hS
  have hT : s.TypeIs (.ref a) "set" := ⟨o, ho, hc⟩
  refine wpAny_pyIter_slot hT PySem.F.slot_set_iter (wpAny_call_entry PySem.F.slot_set_iter hT entry_set_iter ?_ (PySem.F.args_set_iter_1 _))
  unfold Builtin.«frozenset.__iter__» Builtin.Frozenset.slot0 slotArgs
  simp only [List.isEmpty_nil, Bool.not_true, Bool.false_eq_true, ↓reduceIte, bind_assoc, List.length_nil, bne_self_eq_false]
  unfold Builtin.Frozenset.addrOf Builtin.Frozenset.sizeOf
  refine wpAny_bind (wpAny_pure ?_)
  try dsimp only
  refine wpAny_bind (wpAny_pure ?_)
  refine wpAny_bind (wpAny_bind (wpAny_setEntries_of ho hd hf (wpAny_pure ?_)))
  unfold setDrawn setsByText
  refine wpAny_bind (wpAny_bind (wpAny_setState_of ho hd hf ?_))
  refine wpAny_bind (wpAny_bind (wpAny_askSetting (wpAny_pure ?_)))
  refine wpAny_pure ?_
  refine wpAny_ite_split (fun z => ?_) (fun _ => ?_)
  · have z' : (!w.params.followText "set-order" && (!t.plain && decide (es.size > 1))) = true := z
    rw [hnd] at z'
    cases z'
  refine wpAny_bind (wpAny_pure ?_)
  refine wpAny_bind (wpAny_setEpoch_of ho hd hf ?_)
  unfold newFields
  refine wpAny_bind (wpAny_newObj_type (wpAny_pure ⟨_, rfl, "set_iterator", _, ⟨_, Heap.get?_push_size _ rfl, rfl⟩, slot_sit_next.lookup, ?_⟩))
  exact h
def placesT (ps : List Nat) : Obj := { cls := .type "tuple", data := .seq (ps.map fun (i : Nat) => rawInt i).toArray }
/-- iter(set): an order drawn -/
theorem iter_set_drawn {Q : Value → Shared → Prop} (hS : SAt s.heap a es ep t) (hf : t.fits es.size = true) (hnd : (!w.params.followText "set-order" && (!t.plain && decide (es.size > 1))) = true) (hz : es.size ≤ sizeLine)
    (h : ∀ ps d', ps.Perm (List.range es.size) → Q (.ref (s.heap.push (placesT ps)).objs.size) { s with heap := (s.heap.push (placesT ps)).push { cls := .type "set_iterator", data := .fields #[.ref s.heap.objs.size, .int 0 0, .ref a, .int es.size 0, .int ep 0] }, drawn := d' }) :
    wpAny (model prog w) A (pyIter (.ref a)) Q E s := by
  obtain ⟨o, ho, hc, hd⟩ := hS
  have hT : s.TypeIs (.ref a) "set" := ⟨o, ho, hc⟩
  refine wpAny_pyIter_slot hT PySem.F.slot_set_iter (wpAny_call_entry PySem.F.slot_set_iter hT entry_set_iter ?_ (PySem.F.args_set_iter_1 _))
  unfold Builtin.«frozenset.__iter__» Builtin.Frozenset.slot0 slotArgs
  simp only [List.isEmpty_nil, Bool.not_true, Bool.false_eq_true, ↓reduceIte, bind_assoc, List.length_nil, bne_self_eq_false]
  unfold Builtin.Frozenset.addrOf Builtin.Frozenset.sizeOf
  refine wpAny_bind (wpAny_pure ?_)
  try dsimp only
  refine wpAny_bind (wpAny_pure ?_)
  refine wpAny_bind (wpAny_bind (wpAny_setEntries_of ho hd hf (wpAny_pure ?_)))
  unfold setDrawn setsByText
  refine wpAny_bind (wpAny_bind (wpAny_setState_of ho hd hf ?_))
  refine wpAny_bind (wpAny_bind (wpAny_askSetting (wpAny_pure ?_)))
  refine wpAny_pure ?_
  refine wpAny_ite_split (fun _ => ?_) (fun z => absurd (show (!w.params.followText "set-order" && (!t.plain && decide (es.size > 1))) = true from hnd) z)
  refine wpAny_bind (wpAny_drawOrder _ _ _ _ List.length_range fun ps d' hp => ?_)
  have hl : (ps.map fun i : Nat => rawInt i).length ≤ sizeLine := by rw [List.length_map, hp.length_eq, List.length_range]; exact hz
  refine wpAny_bind (wpAny_newTuple ?_ hl)
  refine wpAny_bind (wpAny_setEpoch_of (s := { s with heap := s.heap.push (placesT ps), drawn := d' }) (Heap.get?_push_of_some _ ho) hd hf ?_)
  unfold newFields
  refine wpAny_bind (wpAny_newObj_type (wpAny_pure ⟨_, rfl, "set_iterator", _, ⟨_, Heap.get?_push_size _ rfl, rfl⟩, slot_sit_next.lookup, ?_⟩))
  exact h ps d' hp
/-- next: by the text's order, or of one element at most -/
theorem next_set_plain {Q : Option Value → Shared → Prop} {i slot : Nat} (hI : SitAt s.heap it a (.int slot 0) i es.size ep) (hS : SAt s.heap a es ep t) (hf : t.fits es.size = true) (hne : a ≠ it) (x : Value) (nx : Nat)
    (hN : ∀ (A' : Around) (E' : Value → Shared → Prop) (R : Option (Value × Nat) → Shared → Prop), R (some (x, nx)) s → wpAny (model prog w) A' (setNext a slot i ep) R E' s)
    (h : ∀ h', SitAt h' it a (.int nx 0) (i + 1) es.size ep → Heap.SameBut it s.heap h' → Q (some x) { s with heap := h' }) : wpAny (model prog w) A (pyNext (.ref it)) Q E s := by
  obtain ⟨oi, hoi, hci, hdi⟩ := id hI
  obtain ⟨o, ho, hc, hd⟩ := hS
  unfold pyNext
  refine wpAny_bind (wpAny_attempt (wpAny_callSpecial?_slot (name := Str.ofString "__next__") hI.typeIs slot_sit_next (wpAny_call_entry slot_sit_next hI.typeIs entry_sit_next ?_ (args_sit_next _))))
  unfold Builtin.«set_iterator.__next__» slotArgs
  simp only [List.isEmpty_nil, Bool.not_true, Bool.false_eq_true, ↓reduceIte, bind_assoc, List.length_nil, bne_self_eq_false]
  refine wpAny_bind (wpAny_pure ?_)
  refine wpAny_bind (wpAny_fieldsOf hoi hdi ?_)
  dsimp only
  refine wpAny_bind (wpAny_setEntries_of ho hd hf ?_)
  rw [if_neg (by simp)]
  simp only [Int.toNat_natCast]
  refine wpAny_bind (hN _ _ _ ?_)
  dsimp only
  refine wpAny_bind (wpAny_setField hoi hdi (by simp) ?_)
  have g1 := Heap.get?_update_self (Obj.mapFields (·.setIfInBounds 0 (rawInt (nx : Int)))) hoi (Obj.isFreed_of_fields (Obj.data_mapFields hdi _))
  have d1 := Obj.data_mapFields hdi (·.setIfInBounds 0 (rawInt (nx : Int)))
  refine wpAny_bind (wpAny_setField (s := { s with heap := s.heap.update it (Obj.mapFields (·.setIfInBounds 0 (rawInt (nx : Int)))) }) g1 d1 (by simp) ?_)
  have g2 := Heap.get?_update_self (Obj.mapFields (·.setIfInBounds 1 (rawInt ((i : Int) + 1)))) g1 (Obj.isFreed_of_fields (Obj.data_mapFields d1 _))
  have d2 := Obj.data_mapFields d1 (·.setIfInBounds 1 (rawInt ((i : Int) + 1)))
  refine wpAny_pure ⟨_, rfl, wpAny_pure (h _ ⟨_, g2, (Obj.cls_mapFields ..).trans ((Obj.cls_mapFields ..).trans hci), ?_⟩ ?_)⟩
  · rw [d2]; simp [rawInt]
  · exact (Heap.SameBut.update ..).trans (Heap.SameBut.update ..)
theorem next_set_stop {Q : Option Value → Shared → Prop} {i slot : Nat} (hh : A.handled = none) (hI : SitAt s.heap it a (.int slot 0) i es.size ep) (hS : SAt s.heap a es ep t) (hf : t.fits es.size = true)
    (hN : ∀ (A' : Around) (E' : Value → Shared → Prop) (R : Option (Value × Nat) → Shared → Prop), R none s → wpAny (model prog w) A' (setNext a slot i ep) R E' s)
    (h : ∀ h', Heap.ExtBut it s.heap h' → Q none { s with heap := h' }) : wpAny (model prog w) A (pyNext (.ref it)) Q E s := by
  obtain ⟨oi, hoi, hci, hdi⟩ := id hI
  obtain ⟨o, ho, hc, hd⟩ := hS
  unfold pyNext
  refine wpAny_bind (wpAny_attempt (wpAny_callSpecial?_slot (name := Str.ofString "__next__") hI.typeIs slot_sit_next (wpAny_call_entry slot_sit_next hI.typeIs entry_sit_next ?_ (args_sit_next _))))
  unfold Builtin.«set_iterator.__next__» slotArgs
  simp only [List.isEmpty_nil, Bool.not_true, Bool.false_eq_true, ↓reduceIte, bind_assoc, List.length_nil, bne_self_eq_false]
  refine wpAny_bind (wpAny_pure ?_)
  refine wpAny_bind (wpAny_fieldsOf hoi hdi ?_)
  dsimp only
  refine wpAny_bind (wpAny_setEntries_of ho hd hf ?_)
  rw [if_neg (by simp)]
  simp only [Int.toNat_natCast]
  refine wpAny_bind (hN _ _ _ ?_)
  dsimp only
  refine wpAny_bind (wpAny_setField hoi hdi (by simp) ?_)
  refine wpAny_bind ?_
  simp only [newExc, newTuple]
  refine wpAny_bind (wpAny_newObj_type ?_ (by size_fits))
  refine wpAny_bind (m := firstArgMember _ _) (wpAny_of_eq (a := Value.none) (by first | rfl | (simp only [firstArgMember]; rfl)) ?_)
  refine wpAny_newObj_type ?_ (by size_fits)
  simp only [raiseNew]
  refine wpAny_bind (wpAny_handled ?_)
  rw [show A.in1.handled = none from hh]
  refine wpAny_bind (wpAny_pure (wpAny_throw ?_))
  refine wpAny_bind (wpAny_isInstance (T := "StopIteration") (b := true) ⟨_, Heap.get?_push_size _ rfl, rfl⟩ isSubtype_stop ?_)
  exact wpAny_pure (h _ (((Heap.SameBut.update ..).extBut.push _).push _))
/-- next: an order drawn -/
theorem next_set_drawn {Q : Option Value → Shared → Prop} {T : Addr} {ps : List Nat} {i p : Nat} (hI : SitAt s.heap it a (.ref T) i es.size ep) (hT : s.heap.get? T = some (placesT ps)) (hS : SAt s.heap a es ep t) (hf : t.fits es.size = true) (hp : ps[i]? = some p) {e : Int × Value} (he : es[p]? = some e)
    (h : ∀ h', SitAt h' it a (.ref T) (i + 1) es.size ep → Heap.SameBut it s.heap h' → Q (some e.2) { s with heap := h' }) : wpAny (model prog w) A (pyNext (.ref it)) Q E s := by
  obtain ⟨oi, hoi, hci, hdi⟩ := id hI
  obtain ⟨o, ho, hc, hd⟩ := hS
  unfold pyNext
  refine wpAny_bind (wpAny_attempt (wpAny_callSpecial?_slot (name := Str.ofString "__next__") hI.typeIs slot_sit_next (wpAny_call_entry slot_sit_next hI.typeIs entry_sit_next ?_ (args_sit_next _))))
  unfold Builtin.«set_iterator.__next__» slotArgs
  simp only [List.isEmpty_nil, Bool.not_true, Bool.false_eq_true, ↓reduceIte, bind_assoc, List.length_nil, bne_self_eq_false]
  refine wpAny_bind (wpAny_pure ?_)
  refine wpAny_bind (wpAny_fieldsOf hoi hdi ?_)
  dsimp only
  refine wpAny_bind (wpAny_setEntries_of ho hd hf ?_)
  rw [if_neg (by simp)]
  simp only [Int.toNat_natCast]
  refine wpAny_bind (wpAny_seqItems hT rfl ?_)
  dsimp only
  have e1 : ((ps.map fun (i : Nat) => rawInt i).toArray)[i]? = some (rawInt p) := by rw [List.getElem?_toArray, List.getElem?_map, hp]; rfl
  rw [e1]
  dsimp only [rawInt]
  unfold setNextDrawn
  simp only [Int.toNat_natCast, bind_assoc]
  refine wpAny_bind (wpAny_setState_of ho hd hf ?_)
  rw [if_neg (by simp)]
  rw [he]
  dsimp only
  simp only [pure_bind]
  refine wpAny_bind (wpAny_setField hoi hdi (by simp) ?_)
  have g1 := Heap.get?_update_self (Obj.mapFields (·.setIfInBounds 1 (rawInt ((i : Int) + 1)))) hoi (Obj.isFreed_of_fields (Obj.data_mapFields hdi _))
  have d1 := Obj.data_mapFields hdi (·.setIfInBounds 1 (rawInt ((i : Int) + 1)))
  refine wpAny_pure ⟨_, rfl, wpAny_pure (h _ ⟨_, g1, (Obj.cls_mapFields ..).trans hci, ?_⟩ (Heap.SameBut.update ..))⟩
  rw [d1]; simp [rawInt]
theorem next_set_drawn_stop {Q : Option Value → Shared → Prop} {T : Addr} {ps : List Nat} {i : Nat} (hh : A.handled = none) (hI : SitAt s.heap it a (.ref T) i es.size ep) (hT : s.heap.get? T = some (placesT ps)) (hS : SAt s.heap a es ep t) (hf : t.fits es.size = true) (hp : ps[i]? = none)
    (h : ∀ h', Heap.ExtBut it s.heap h' → Q none { s with heap := h' }) : wpAny (model prog w) A (pyNext (.ref it)) Q E s := by
  obtain ⟨oi, hoi, hci, hdi⟩ := id hI
  obtain ⟨o, ho, hc, hd⟩ := hS
  unfold pyNext
  refine wpAny_bind (wpAny_attempt (wpAny_callSpecial?_slot (name := Str.ofString "__next__") hI.typeIs slot_sit_next (wpAny_call_entry slot_sit_next hI.typeIs entry_sit_next ?_ (args_sit_next _))))
  unfold Builtin.«set_iterator.__next__» slotArgs
  simp only [List.isEmpty_nil, Bool.not_true, Bool.false_eq_true, ↓reduceIte, bind_assoc, List.length_nil, bne_self_eq_false]
  refine wpAny_bind (wpAny_pure ?_)
  refine wpAny_bind (wpAny_fieldsOf hoi hdi ?_)
  dsimp only
  refine wpAny_bind (wpAny_setEntries_of ho hd hf ?_)
  rw [if_neg (by simp)]
  simp only [Int.toNat_natCast]
  refine wpAny_bind (wpAny_seqItems hT rfl ?_)
  dsimp only
  have e1 : ((ps.map fun (i : Nat) => rawInt i).toArray)[i]? = none := by rw [List.getElem?_toArray, List.getElem?_map, hp]; rfl
  rw [e1]
  dsimp only
  refine wpAny_bind (wpAny_setField hoi hdi (by simp) ?_)
  have g1 := Heap.get?_update_self (Obj.mapFields (·.setIfInBounds 0 (rawInt 0))) hoi (Obj.isFreed_of_fields (Obj.data_mapFields hdi _))
  have d1 := Obj.data_mapFields hdi (·.setIfInBounds 0 (rawInt 0))
  refine wpAny_bind (wpAny_setField (s := { s with heap := s.heap.update it (Obj.mapFields (·.setIfInBounds 0 (rawInt 0))) }) g1 d1 (by simp) ?_)
  refine wpAny_bind ?_
  simp only [newExc, newTuple]
  refine wpAny_bind (wpAny_newObj_type ?_ (by size_fits))
  refine wpAny_bind (m := firstArgMember _ _) (wpAny_of_eq (a := Value.none) (by first | rfl | (simp only [firstArgMember]; rfl)) ?_)
  refine wpAny_newObj_type ?_ (by size_fits)
  simp only [raiseNew]
  refine wpAny_bind (wpAny_handled ?_)
  rw [show A.in1.handled = none from hh]
  refine wpAny_bind (wpAny_pure (wpAny_throw ?_))
  refine wpAny_bind (wpAny_isInstance (T := "StopIteration") (b := true) ⟨_, Heap.get?_push_size _ rfl, rfl⟩ isSubtype_stop ?_)
  exact wpAny_pure (h _ ((((Heap.SameBut.update ..).trans (Heap.SameBut.update ..)).extBut.push _).push _))
end
end L2
set_option Elab.async false
set_option linter.all false
set_option maxRecDepth 100000
set_option maxHeartbeats 4000000
namespace L2
open PySem PySem.Spec PyProof.Rows
section
variable {prog : Program} {w : World} {A : Around} {E : Value → Shared → Prop} {s : Shared} {a it : Addr} {es : Array (Int × Value)} {ep : Nat} {t : SetTable}
/-- in the text's order -/
theorem setNext_text {i slot : Nat} {R : Option (Value × Nat) → Shared → Prop} (hS : SAt s.heap a es ep t) (hf : t.fits es.size = true) (hb : w.params.followText "set-order" = true)
    (h : R (((pickOrder (w.params.setOrder a ep) es)[i]?).map fun e => (e.2, slot)) s) : wpAny (model prog w) A (setNext a slot i ep) R E s := by
  obtain ⟨o, ho, hc, hd⟩ := hS
  unfold setNext setsByText
  refine wpAny_bind (wpAny_setState_of ho hd hf ?_)
  refine wpAny_bind (wpAny_bind (wpAny_askSetting (wpAny_pure ?_)))
  refine wpAny_ite_split (fun _ => ?_) (fun z => absurd (show w.params.followText "set-order" = true from hb) z)
  rw [if_neg (by simp)]
  refine wpAny_bind ?_
  unfold setWalk setsByText
  refine wpAny_bind (wpAny_setState_of ho hd hf ?_)
  refine wpAny_bind (wpAny_bind (wpAny_askSetting (wpAny_pure ?_)))
  refine wpAny_ite_split (fun _ => ?_) (fun z => absurd (show w.params.followText "set-order" = true from hb) z)
  refine wpAny_bind (wpAny_askSetting ?_)
  exact wpAny_pure (wpAny_pure h)
/-- of one element at most -/
theorem setNext_few {i slot : Nat} {R : Option (Value × Nat) → Shared → Prop} (hS : SAt s.heap a es ep t) (hf : t.fits es.size = true) (hb : w.params.followText "set-order" = false) (hl : t.led = true) (hz : es.size ≤ 1)
    (h : R (match es[SetTable.below t.place slot]?, t.place[SetTable.below t.place slot]? with | some (_, x), some j => some (x, j + 1) | _, _ => none) s) : wpAny (model prog w) A (setNext a slot i ep) R E s := by
  obtain ⟨o, ho, hc, hd⟩ := hS
  unfold setNext setsByText
  refine wpAny_bind (wpAny_setState_of ho hd hf ?_)
  refine wpAny_bind (wpAny_bind (wpAny_askSetting (wpAny_pure ?_)))
  refine wpAny_ite_split (fun z => absurd (show w.params.followText "set-order" = true from z) (by rw [hb]; exact Bool.false_ne_true)) (fun _ => ?_)
  refine wpAny_ite_split (fun z => ?_) (fun _ => ?_)
  · have z' : (!t.plain && decide (es.size > 1)) = true := z
    rw [Bool.and_eq_true] at z'
    have := of_decide_eq_true z'.2
    omega
  refine wpAny_bind ?_
  show wpAny _ _ (if (!t.led && !es.isEmpty) = true then _ else pure ()) _ _ s
  rw [if_neg (by rw [hl]; simp)]
  exact wpAny_pure (wpAny_pure h)
theorem SAt.at {h h' : Heap} (x : SAt h a es ep t) (k : ∀ o, h.get? a = some o → h'.get? a = some o) : SAt h' a es ep t := let ⟨o, e, r⟩ := x; ⟨o, k o e, r⟩
theorem SitAt.at {h h' : Heap} {first : Value} {i n : Nat} (x : SitAt h it a first i n ep) (k : ∀ o, h.get? it = some o → h'.get? it = some o) : SitAt h' it a first i n ep := let ⟨o, e, r⟩ := x; ⟨o, k o e, r⟩
theorem entry_sit_iter : entryFor table "set_iterator.__iter__" = some Builtin.«dict_keyiterator.__iter__» := entryFor_alias (id' := "dict_keyiterator.__iter__") (by kernel_rfl) rfl (by decide +kernel) (by kernel_rfl)
theorem args_sit_iter (a : Value) : argsOk "set_iterator.__iter__" ⟨[a], []⟩ := by unfold argsOk; kernel_rfl
theorem sit_self {first : Value} {i n : Nat} {Q : Value → Shared → Prop} (hI : SitAt s.heap it a first i n ep) (h : Q (.ref it) s) : wpAny (model prog w) A (pyIter (.ref it)) Q E s := by
  refine wpAny_pyIter_slot hI.typeIs slot_sit_iter (wpAny_call_entry slot_sit_iter hI.typeIs entry_sit_iter ?_ (args_sit_iter _))
  show wpAny _ _ (ret (.ref it)) _ _ s
  exact wpAny_pure ⟨_, rfl, "set_iterator", _, hI.typeIs, slot_sit_next.lookup, h⟩
theorem walks_text (hb : w.params.followText "set-order" = true) (hf : t.fits es.size = true) (hh : A.handled = none) (hne : a ≠ it) :
    Walks prog w A it [it, a] [it] es.size (fun i v => ((pickOrder (w.params.setOrder a ep) es).toList.map (·.2))[i]? = some v) (fun i h => SitAt h it a (.int 0 0) i es.size ep ∧ SAt h a es ep t) where
  sub := fun b hb => by simp at hb; simp [hb]
  frame := fun _ _ _ st hk => ⟨st.1.at fun o e => hk it (by simp) o e, st.2.at fun o e => hk a (by simp) o e⟩
  item := fun i s Q E hi st hQ => by
    have hl : (pickOrder (w.params.setOrder a ep) es).size = es.size := by have := (pick_perm (w.params.setOrder a ep) es).length_eq; simpa using this
    have e1 : (pickOrder (w.params.setOrder a ep) es)[i]? = some ((pickOrder (w.params.setOrder a ep) es)[i]'(by omega)) := Array.getElem?_eq_getElem (by omega)
    refine next_set_plain (slot := 0) (nx := 0) st.1 st.2 hf hne _ (fun A' E' R r => setNext_text st.2 hf hb (by rw [e1]; exact r)) fun h' hI' sb => ?_
    refine hQ _ h' s.toks ?_ ⟨hI', st.2.at fun o e => (sb.2 a hne).trans e⟩ fun b o hb e => (sb.2 b (fun z => hb (by simp [z]))).trans e
    rw [List.getElem?_map, Array.getElem?_toList, e1]
    rfl
  done := fun s Q E st hQ => by
    have hl : (pickOrder (w.params.setOrder a ep) es).size = es.size := by have := (pick_perm (w.params.setOrder a ep) es).length_eq; simpa using this
    refine next_set_stop (slot := 0) hh st.1 st.2 hf (fun A' E' R r => setNext_text st.2 hf hb (by rw [Array.getElem?_eq_none (by omega)]; exact r)) fun h' eb => hQ h' s.toks fun b o hb e => eb b o (fun z => hb (by simp [z])) e
  self := fun _ _ _ _ st hQ => sit_self st.1 hQ
theorem below_one_0 (j : Nat) : SetTable.below #[j] 0 = 0 := by
  unfold SetTable.below
  simp [SetTable.below.go]
theorem below_one_1 (j : Nat) : SetTable.below #[j] (j + 1) = 1 := by
  unfold SetTable.below
  simp [SetTable.below.go]
theorem few_one (es : Array (Int × Value)) (pl : Array Nat) (h1 : es.size = 1) (h2 : pl.size = es.size) : ∃ e j, es = #[e] ∧ pl = #[j] := by
  obtain ⟨l⟩ := es
  obtain ⟨m⟩ := pl
  simp only [List.size_toArray] at h1 h2
  obtain ⟨e, rfl⟩ := List.length_eq_one_iff.mp h1
  obtain ⟨j, rfl⟩ := List.length_eq_one_iff.mp (h2.trans h1)
  exact ⟨e, j, rfl, rfl⟩
theorem walks_few (hb : w.params.followText "set-order" = false) (hf : t.fits es.size = true) (hl : t.led = true) (hz : es.size ≤ 1) (hh : A.handled = none) (hne : a ≠ it) :
    Walks prog w A it [it, a] [it] es.size (fun i v => (es.toList.map (·.2))[i]? = some v) (fun i h => SitAt h it a (.int ((if i = 0 then 0 else t.place.getD 0 0 + 1 : Nat) : Int) 0) i es.size ep ∧ SAt h a es ep t) where
  sub := fun b hb => by simp at hb; simp [hb]
  frame := fun _ _ _ st hk => ⟨st.1.at fun o e => hk it (by simp) o e, st.2.at fun o e => hk a (by simp) o e⟩
  item := fun i s Q E hi st hQ => by
    have h1 : es.size = 1 := by omega
    have h0 : i = 0 := by omega
    subst h0
    have hp : t.place.size = es.size := by unfold SetTable.fits at hf; rw [Bool.and_eq_true] at hf; exact eq_of_beq hf.1
    obtain ⟨e, j, e1, e2⟩ := few_one es t.place h1 hp
    refine next_set_plain (slot := 0) (nx := j + 1) st.1 st.2 hf hne e.2 (fun A' E' R r => setNext_few st.2 hf hb hl hz (by rw [e2, below_one_0, e1]; exact r)) fun h' hI' sb => ?_
    refine hQ _ h' s.toks (by rw [e1]; rfl) ⟨?_, st.2.at fun o e => (sb.2 a hne).trans e⟩ fun b o hb e => (sb.2 b (fun z => hb (by simp [z]))).trans e
    have e3 : (if 0 + 1 = 0 then 0 else t.place.getD 0 0 + 1 : Nat) = j + 1 := by rw [e2]; rfl
    rw [e3]
    exact hI'
  done := fun s Q E st hQ => by
    by_cases h1 : es.size = 1
    · have hp : t.place.size = es.size := by unfold SetTable.fits at hf; rw [Bool.and_eq_true] at hf; exact eq_of_beq hf.1
      obtain ⟨e, j, e1, e2⟩ := few_one es t.place h1 hp
      have e3 : (if es.size = 0 then 0 else t.place.getD 0 0 + 1 : Nat) = j + 1 := by rw [h1, e2]; rfl
      have st1 := st.1
      rw [e3] at st1
      refine next_set_stop (slot := j + 1) hh st1 st.2 hf (fun A' E' R r => setNext_few st.2 hf hb hl hz (by rw [e2, below_one_1, e1]; exact r)) fun h' eb => hQ h' s.toks fun b o hb e => eb b o (fun z => hb (by simp [z])) e
    · refine next_set_stop hh st.1 st.2 hf (fun A' E' R r => setNext_few st.2 hf hb hl hz (by rw [Array.getElem?_eq_none (by omega)]; exact r)) fun h' eb => hQ h' s.toks fun b o hb e => eb b o (fun z => hb (by simp [z])) e
  self := fun _ _ _ _ st hQ => sit_self st.1 hQ
theorem walks_drawn {T : Addr} {ps : List Nat} (hps : ps.Perm (List.range es.size)) (hf : t.fits es.size = true) (hh : A.handled = none) (hne : a ≠ it) (hTi : T ≠ it) :
    Walks prog w A it [it, a, T] [it] es.size (fun i v => ((ps.map fun p => es.toList.getD p (0, .none)).map (·.2))[i]? = some v) (fun i h => SitAt h it a (.ref T) i es.size ep ∧ SAt h a es ep t ∧ h.get? T = some (placesT ps)) where
  sub := fun b hb => by simp at hb; simp [hb]
  frame := fun _ _ _ st hk => ⟨st.1.at fun o e => hk it (by simp) o e, st.2.1.at fun o e => hk a (by simp) o e, hk T (by simp) _ st.2.2⟩
  item := fun i s Q E hi st hQ => by
    have hl : ps.length = es.size := by rw [hps.length_eq, List.length_range]
    have e0 : ps[i]? = some (ps[i]'(by omega)) := List.getElem?_eq_getElem (by omega)
    have hlt : ps[i]'(by omega) < es.size := List.mem_range.mp (hps.mem_iff.mp (List.getElem_mem (by omega)))
    have e1 : es[ps[i]'(by omega)]? = some (es.toList.getD (ps[i]'(by omega)) (0, .none)) := by
      rw [List.getD_eq_getElem?_getD, Array.getElem?_toList, Array.getElem?_eq_getElem hlt]; rfl
    refine next_set_drawn st.1 st.2.2 st.2.1 hf e0 e1 fun h' hI' sb => ?_
    refine hQ _ h' s.toks ?_ ⟨hI', st.2.1.at fun o e => (sb.2 a hne).trans e, (sb.2 T hTi).trans st.2.2⟩ fun b o hb e => (sb.2 b (fun z => hb (by simp [z]))).trans e
    rw [List.getElem?_map, List.getElem?_map, e0]
    rfl
  done := fun s Q E st hQ => by
    have hl : ps.length = es.size := by rw [hps.length_eq, List.length_range]
    refine next_set_drawn_stop hh st.1 st.2.2 st.2.1 hf (List.getElem?_eq_none (by omega)) fun h' eb => hQ h' s.toks fun b o hb e => eb b o (fun z => hb (by simp [z])) e
  self := fun _ _ _ _ st hQ => sit_self st.1 hQ
theorem strs_elems : ∀ {l : List (Int × Value)}, ElemsOf (strKind prog w) l → StrsAre (l.map (·.2)) (l.map fun e => keyT e.2)
  | [], _ => .nil
  | e :: l, h => by
    obtain ⟨t, q⟩ := elem_str h (List.mem_cons_self ..)
    have ih := strs_elems (l := l) fun e he => h e (List.mem_cons_of_mem _ he)
    show StrsAre (e.2 :: l.map (·.2)) (keyT e.2 :: l.map fun e => keyT e.2)
    rw [q]
    exact .cons _ _ ih
theorem range_getE {α : Type} (l : List α) (d : α) : (List.range l.length).map (fun i => l.getD i d) = l := by
  apply List.ext_getElem
  · rw [List.length_map, List.length_range]
  · intro i h1 h2
    rw [List.getElem_map, List.getElem_range, List.getD_eq_getElem?_getD, List.getElem?_eq_getElem h2]
    rfl
theorem push_lt (h : Heap) (o : Obj) : h.objs.size < (h.push o).objs.size := by rw [Heap.size_push]; exact Nat.lt_succ_self _
/-- iter(set): what comes, in some order -/
theorem iter_setT {ks : List Str} {Q : Value → Shared → Prop} (hS : SetT prog w (!w.params.followText "set-order") a ks s.heap)
    (h : ∀ (I : Addr) (h' : Heap) (d' : Drawn) (fp : List Addr) (vs : List Value) (ss : List Str) (St : Nat → Heap → Prop), (∀ b o, s.heap.get? b = some o → h'.get? b = some o) → s.heap.objs.size ≤ I → I < h'.objs.size → (∀ b ∈ fp, b = a ∨ s.heap.objs.size ≤ b) →
      StrsAre vs ss → ss.Perm ks → (∀ A' : Around, A'.handled = none → Walks prog w A' I fp [I] vs.length (fun i v => vs[i]? = some v) St) → St 0 h' → Q (.ref I) { s with heap := h', drawn := d' }) :
    wpAny (model prog w) A (pyIter (.ref a)) Q E s := by
  obtain ⟨o, es, ep, t, ho, hex, hd, hel, hb, hf, hled, hpl, hpm⟩ := hS
  have hS : SAt s.heap a es ep t := ⟨o, ho, hex.1, hd⟩
  have lt : a < s.heap.objs.size := Heap.lt_size ho
  have ne : a ≠ s.heap.objs.size := Nat.ne_of_lt lt
  have fpk : ∀ b ∈ [s.heap.objs.size, a], b = a ∨ s.heap.objs.size ≤ b := fun b hb => by
    rcases List.mem_cons.mp hb with e | hb
    · exact .inr (by omega)
    · exact .inl (List.mem_singleton.mp hb)
  by_cases hbt : w.params.followText "set-order" = true
  · have pp := pick_perm (w.params.setOrder a ep) es
    have hl : ((pickOrder (w.params.setOrder a ep) es).toList.map (·.2)).length = es.size := by rw [List.length_map, pp.length_eq, Array.length_toList]
    refine iter_set_plain hS hf (by rw [hbt]; rfl) ?_
    refine h s.heap.objs.size _ s.drawn [s.heap.objs.size, a] ((pickOrder (w.params.setOrder a ep) es).toList.map (·.2)) ((pickOrder (w.params.setOrder a ep) es).toList.map fun e => keyT e.2) (fun i h => SitAt h s.heap.objs.size a (.int 0 0) i es.size ep ∧ SAt h a es ep t) (fun b o e => Heap.get?_push_of_some _ e) (Nat.le_refl _) (push_lt _ _) fpk
      (strs_elems (hel.perm pp)) ((pp.map _).trans hpm) (fun A' hA' => by rw [hl]; exact walks_text hbt hf hA' ne) ⟨⟨_, Heap.get?_push_size _ rfl, rfl, rfl⟩, hS.at fun o e => Heap.get?_push_of_some _ e⟩
  · have hbf : w.params.followText "set-order" = false := Bool.eq_false_iff.mpr hbt
    by_cases hz : es.size ≤ 1
    · have hl : (es.toList.map (·.2)).length = es.size := by rw [List.length_map, Array.length_toList]
      refine iter_set_plain hS hf (by rw [decide_eq_false (show ¬ es.size > 1 by omega), Bool.and_false, Bool.and_false]) ?_
      refine h s.heap.objs.size _ s.drawn [s.heap.objs.size, a] (es.toList.map (·.2)) (es.toList.map fun e => keyT e.2) (fun i h => SitAt h s.heap.objs.size a (.int ((if i = 0 then 0 else t.place.getD 0 0 + 1 : Nat) : Int) 0) i es.size ep ∧ SAt h a es ep t) (fun b o e => Heap.get?_push_of_some _ e) (Nat.le_refl _) (push_lt _ _) fpk
        (strs_elems hel) hpm (fun A' hA' => by rw [hl]; exact walks_few hbf hf (by rw [hled, hbf]; rfl) hz hA' ne) ⟨⟨_, Heap.get?_push_size _ rfl, rfl, rfl⟩, hS.at fun o e => Heap.get?_push_of_some _ e⟩
    · have hp : t.plain = false := by
        cases e : t.plain with
        | false => rfl
        | true => have := hpl e; omega
      refine iter_set_drawn hS hf (by rw [hbf, hp, decide_eq_true (show es.size > 1 by omega)]; rfl) (Nat.le_of_lt (Nat.lt_of_lt_of_le hb (by decide))) fun ps d' hps => ?_
      have pp : (ps.map fun p => es.toList.getD p (0, Value.none)).Perm es.toList := by
        have e1 := hps.map (fun p => es.toList.getD p (0, Value.none))
        have e2 := range_getE es.toList (0, Value.none)
        rw [Array.length_toList] at e2
        rw [e2] at e1
        exact e1
      have hl : ((ps.map fun p => es.toList.getD p (0, Value.none)).map (·.2)).length = es.size := by rw [List.length_map, pp.length_eq, Array.length_toList]
      have sz : (s.heap.push (placesT ps)).objs.size = s.heap.objs.size + 1 := Heap.size_push ..
      have neI : a ≠ (s.heap.push (placesT ps)).objs.size := by rw [sz]; exact Nat.ne_of_lt (Nat.lt_succ_of_lt lt)
      have neT : s.heap.objs.size ≠ (s.heap.push (placesT ps)).objs.size := by rw [sz]; omega
      refine h (s.heap.push (placesT ps)).objs.size _ d' [(s.heap.push (placesT ps)).objs.size, a, s.heap.objs.size] ((ps.map fun p => es.toList.getD p (0, Value.none)).map (·.2)) ((ps.map fun p => es.toList.getD p (0, Value.none)).map fun e => keyT e.2) (fun i h => SitAt h (s.heap.push (placesT ps)).objs.size a (.ref s.heap.objs.size) i es.size ep ∧ SAt h a es ep t ∧ h.get? s.heap.objs.size = some (placesT ps))
        (fun b o e => Heap.get?_push_of_some _ (Heap.get?_push_of_some _ e)) (by rw [sz]; omega) (push_lt _ _) (fun b hb => ?_)
        (strs_elems (hel.perm pp)) ((pp.map _).trans hpm) (fun A' hA' => by rw [hl]; exact walks_drawn hps hf hA' neI neT) ⟨⟨_, Heap.get?_push_size _ rfl, rfl, rfl⟩, hS.at fun o e => Heap.get?_push_of_some _ (Heap.get?_push_of_some _ e), Heap.get?_push_of_some _ (Heap.get?_push_size _ rfl)⟩
      rcases List.mem_cons.mp hb with e | hb
      · exact .inr (by rw [e, sz]; omega)
      · rcases List.mem_cons.mp hb with e | hb
        · exact .inl e
        · exact .inr (by rw [List.mem_singleton.mp hb]; exact Nat.le_refl _)
end
end L2
set_option Elab.async false
set_option linter.all false
set_option maxRecDepth 100000
set_option maxHeartbeats 4000000
namespace L2
open PySem PySem.Spec PyProof.Rows
section
variable {prog : Program} {w : World} {A : Around} {E : Value → Shared → Prop} {s : Shared}
theorem hint_set {r : Addr} {Q : Bool → Shared → Prop} (hT : s.TypeIs (.ref r) "set") (h : Q false s) : wpAny (model prog w) A (Builtin.List.listLengthHint (.ref r)) Q E s := by
  unfold Builtin.List.listLengthHint
  refine wpAny_bind (wpAny_specialOf hT PySem.F.slot_set_len.lookup ?_)
  generalize hid : ("set.__len__" : String) = id0
  wp_delta
  rw [show splitId id0 = some ("set", "__len__") from by subst hid; decide +kernel]
  subst hid
  refine wpAny_bind (wpAny_isInstance (T := "set") (b := true) hT (by rw [isSubtype_type]; kernel_rfl) ?_)
  refine wpAny_ite_split (fun hab => absurd hab (by decide)) (fun _ => ?_)
  refine wpAny_ite_split (fun _ => ?_) (fun hab => absurd (by decide +kernel) hab)
  refine wpAny_bind (wpAny_typeOf hT ?_)
  exact wpAny_pure h
theorem SetT.typeIs {led : Bool} {a : Addr} {ks : List Str} (x : SetT prog w led a ks s.heap) : s.TypeIs (.ref a) "set" := let ⟨o, _, _, _, e, hex, _⟩ := x; ⟨o, e, hex.1⟩
theorem SetT.lt {led : Bool} {a : Addr} {ks : List Str} {h : Heap} (x : SetT prog w led a ks h) : a < h.objs.size := let ⟨o, _, _, _, e, _⟩ := x; Heap.lt_size e
theorem items_eq {acc : Array Value} {vs : List Value} (h : ItemsOf (fun i v => vs[i]? = some v) acc vs.length) : acc.toList = vs := by
  have hl : acc.size = vs.length := h.1
  apply List.ext_getElem?
  intro i
  by_cases hi : i < acc.size
  · rw [Array.getElem?_toList, Array.getElem?_eq_getElem hi]
    exact (h.2 i _ (Array.getElem?_eq_getElem hi)).symm
  · rw [List.getElem?_eq_none (by rw [Array.length_toList]; omega), List.getElem?_eq_none (by omega)]
theorem extend_set {R : Result → Shared → Prop} {r : Addr} {ks : List Str} (hh : A.handled = none) (hok : SetT prog w (!w.params.followText "set-order") r ks s.heap) (S : Addr) (hSr : S ≠ r) (res : Value) (c₀ : Nat) (hS : s.heap.get? S = some { cls := .type "list", data := .seq #[] c₀ }) (few : ks.length ≤ sizeLine)
    (hR : ∀ h' tk d' acc' c' ss, (∀ b o, b ≠ S → s.heap.get? b = some o → h'.get? b = some o) → h'.get? S = some { cls := .type "list", dict := none, data := .seq acc' c', slots := #[] } → StrsAre acc'.toList ss → ss.Perm ks → R (.ok (.ret res)) { s with heap := h', toks := tk, drawn := d' }) :
    wpAny (model prog w) A.in1 (Builtin.List.listExtendWith (.ref S) (.ref r) res)
      (fun fin s' => match fin with | .done f => R (.ok f) s' | .again c' => c'.quiet = true ∧ codeAny (model prog w) A c' R s') (fun e s' => R (.error e) s') s := by
  have ltS := Heap.lt_size hS
  unfold Builtin.List.listExtendWith
  refine wpAny_bind (wpAny_typeOf (T := "set") hok.typeIs ?_)
  have h1 : Builtin.List.listSameRef (.ref S) (.ref r) = false := by simp [Builtin.List.listSameRef, hSr]
  simp only [h1, show (Value.type "set" == Value.type "list") = false by decide, show (Value.type "set" == Value.type "tuple") = false by decide, Bool.or_false, Bool.false_eq_true, if_false]
  refine wpAny_bind (iter_setT hok fun I h1 d' fp vs ss St keep geI ltI hfp hst hpm W st => ?_)
  have hSf : S ∉ fp := fun z => by
    rcases hfp S z with e | e
    · exact hSr e
    · exact Nat.lt_irrefl _ (Nat.lt_of_lt_of_le ltS e)
  have hlen : vs.length ≤ sizeLine := by rw [strs_len hst, hpm.length_eq]; exact few
  have key : ∀ (h : Heap) (c₁ tk : Nat), St 0 h → (∀ b o, b ≠ S → s.heap.get? b = some o → h.get? b = some o) → h.get? S = some { cls := .type "list", data := .seq #[] c₁ } →
      codeAny (model prog w) A (.builtin "list.extend.loop" ⟨[.ref S, .ref I, res], []⟩) R { s with heap := h, toks := tk, drawn := d' } := by
    intro h c₁ tk hst0 hk hS₁
    refine codeAny_extend_loopS (W A.in1 hh).toS hlen S hSf res vs.length 0 _ #[] c₁ rfl (Nat.zero_le _) hst0 hS₁ (ItemsOf.nil _) fun s' acc' c' hm hS' hacc => ?_
    rw [Moved.eq_with hm]
    refine hR s'.heap s'.toks d' acc' c' ss (fun b o hb e => hm.heap b o (fun hmem => ?_) (hk b o hb e)) hS' (by rw [items_eq hacc]; exact hst) hpm
    rcases List.mem_cons.mp hmem with e' | hmem
    · exact hb e'
    · exact absurd (Heap.lt_size e) (by rw [List.mem_singleton.mp hmem]; exact Nat.not_lt.mpr geI)
  have hS₁ := keep _ _ hS
  have hok1 := hok.at (h' := h1) fun o e => keep _ _ e
  refine wpAny_bind (wpAny_holding (hint_set (s := { s with heap := h1, drawn := d' }) hok1.typeIs ?_))
  refine wpAny_ite_split (fun _ => ?_) (fun _ => wpAny_pure ⟨plainId_quiet PySem.F.plain_extend_loop _, key _ c₀ _ st (fun b o _ e => keep _ _ e) hS₁⟩)
  refine wpAny_bind (wpAny_rule ?_)
  refine wpAny_bind ?_
  show wpAny _ _ (updateSeq S (·.push .none) >>= fun _ => updateSeq S (·.pop)) _ _ _
  refine wpAny_bind (wpAny_updateSeq hS₁ rfl ?_)
  have hS₂ := Heap.get?_update_self (Obj.mapSeq (·.push Value.none)) hS₁ rfl
  refine wpAny_updateSeq (hz := by seq_fits) hS₂ rfl ?_
  have hS₃ := Heap.get?_update_self (Obj.mapSeq (·.pop)) hS₂ rfl
  refine wpAny_pure ⟨plainId_quiet PySem.F.plain_extend_loop _, key _ _ _ ?_ (fun b o hb e => ?_) hS₃⟩
  · refine (W A.in1 hh).frame 0 _ _ st fun b hb o e => ?_
    have hbS : b ≠ S := fun h => hSf (h ▸ hb)
    exact (Heap.get?_update_other _ _ (Ne.symm hbS)).trans ((Heap.get?_update_other _ _ (Ne.symm hbS)).trans e)
  · exact (Heap.get?_update_other _ _ (Ne.symm hb)).trans ((Heap.get?_update_other _ _ (Ne.symm hb)).trans (keep _ _ e))
theorem collect_set {r : Addr} {ks : List Str} {R : List Value → Shared → Prop} (calm : A.handled = none) (ok : SetT prog w (!w.params.followText "set-order") r ks s.heap) (few : ks.length ≤ sizeLine)
    (fin : ∀ (g : Heap) (k : Nat) (d' : Drawn) (got : List Value) (ss : List Str), (∀ b o, s.heap.get? b = some o → g.get? b = some o) → s.heap.objs.size < g.objs.size → StrsAre got ss → ss.Perm ks → R got { s with heap := g, toks := k, drawn := d' }) :
    wpAny (model prog w) A (collect (.ref r)) R E s := by
  have lr := ok.lt
  let new : Obj := { cls := .type "list", data := .seq ([] : List Value).toArray }
  have there : (s.heap.push new).get? s.heap.objs.size = some new := Heap.get?_push_size _ rfl
  have still := ok.at (h' := s.heap.push new) fun o e => Heap.get?_push_of_some (h := s.heap) new e
  have walked := extend_set (A := A) (s := { s with heap := s.heap.push new })
    (R := fun q t => ∃ (g : Heap) (k : Nat) (d' : Drawn) (got : Array Value) (c : Nat) (ss : List Str), q = Except.ok (Flow.ret (.ref s.heap.objs.size)) ∧ t = { s with heap := g, toks := k, drawn := d' } ∧ (∀ b o, s.heap.get? b = some o → g.get? b = some o) ∧
      g.get? s.heap.objs.size = some { cls := .type "list", dict := none, data := .seq got c, slots := #[] } ∧ StrsAre got.toList ss ∧ ss.Perm ks)
    calm still s.heap.objs.size (Nat.ne_of_gt lr) (.ref s.heap.objs.size) 0 there few
    (fun g k d' got c ss keep at' all pm => ⟨g, k, d', got, c, ss, rfl, rfl, fun b o e => keep b o (Nat.ne_of_lt (Heap.lt_size e)) (Heap.get?_push_of_some _ e), at', all, pm⟩)
  have done : ∀ (g : Heap) (k : Nat) (d' : Drawn) (got : Array Value) (c : Nat) (ss : List Str), (∀ b o, s.heap.get? b = some o → g.get? b = some o) → g.get? s.heap.objs.size = some { cls := .type "list", dict := none, data := .seq got c, slots := #[] } → StrsAre got.toList ss → ss.Perm ks →
      wpAny (model prog w) A (do match (← load s.heap.objs.size).data with
        | .seq xs _ => pure xs.toList
        | _ => unsupported "internal:collect") R E { s with heap := g, toks := k, drawn := d' } := fun g k d' got c ss keep at' all pm =>
    wpAny_bind (wpAny_load at' (wpAny_pure (fin g k d' got.toList ss keep (Heap.lt_size at') all pm)))
  unfold collect
  apply wpAny_bind
  apply wpAny_runValue
  apply codeAny_builtin entry_proto_collect'
  rw [Around.under_plainId F.plain_proto_collect _]
  show wpAny _ A.in1 (newList [] >>= fun z => again (.builtin "list.__iadd__" ⟨[z, .ref r], []⟩)) _ _ s
  apply wpAny_bind
  refine wpAny_newObj_type ?_
  apply wpAny_pure
  refine ⟨plainId_quiet F.plain_list_iadd _, ?_⟩
  apply codeAny_builtin entry_list_iadd'
  rw [Around.under_plainId F.plain_list_iadd _]
  refine wpAny_mono walked (fun f t q => ?_) (fun e t q => ?_)
  · cases f with
    | done f =>
      obtain ⟨g, k, d', got, c, ss, e, rfl, keep, at', all, pm⟩ := q
      cases e
      exact done g k d' got c ss keep at' all pm
    | again c1 =>
      refine ⟨q.1, codeAny_mono q.2 fun z t2 y => ?_⟩
      obtain ⟨g, k, d', got, c, ss, rfl, rfl, keep, at', all, pm⟩ := y
      exact done g k d' got c ss keep at' all pm
  · obtain ⟨_, _, _, _, _, _, e', _⟩ := q
    cases e'
end
end L2
set_option Elab.async false
set_option linter.all false
set_option maxRecDepth 100000
set_option maxHeartbeats 4000000
namespace L2
open PySem PySem.Spec PyProof.Rows
theorem Inv.drew {X : Cx} {pins : List (Addr × Obj)} {σ : St} {H : Hp} {s : Shared} (I : Inv X pins σ H s) (d : Drawn) : Inv X pins σ H { s with drawn := d } :=
  ⟨I.ok, I.os, I.bare, I.base, I.loc, I.cell, I.free, I.freeC, I.pin, I.hok, I.len⟩
/-- a set of texts -/
def SetO (P : Program) (w : World) (a : Addr) (ks : List Str) : HO := .ext fun h => SetT P w (!w.params.followText "set-order") a ks h
theorem setO_ok {P : Program} {w : World} {a : Addr} {ks : List Str} {H : Hp} {h : Heap} (x : SetT P w (!w.params.followText "set-order") a ks h) : ObjOk P w H h a (SetO P w a ks) :=
  ⟨x, let ⟨o, _, _, _, e, _⟩ := x; ⟨o, e⟩, fun _ _ y k => y.at k⟩
theorem call_set {X : Cx} (hc : X.calm = true) : CallR X (.type "set") (fun xs H Q => ∃ (p : Addr) (ss : List Str), xs = [.ref p] ∧ SqL X.K H p (ss.map V.str) ∧ ss.length ≤ 1000 ∧ ∀ l, H l = none → Q (.ref l) (upd H l (SetO X.prog X.w l (ss.foldl addN [])))) := by
  intro pins s σ H xs us Q I r h
  obtain ⟨p, ss, rfl, hS, hl, q⟩ := h
  obtain ⟨u, rfl, rx⟩ := vals1 r
  cases rx
  obtain ⟨its, rv, pl, _⟩ := I.list hS
  have hst := strsAre_of rv
  have hlen : its.length = ss.length := by have := rv.length; rw [List.length_map] at this; exact this.symm
  refine call_set_T (ss := ss) (I.ok.hd hc) pl.isList (by simpa using hst) (by rw [List.size_toArray]; show _ < 4096; omega) fun h' tk a1 a2 => ?_
  exact ⟨.ref s.heap.objs.size, _, I.laid (t' := tk) (fun b u hb => a2 b u (Heap.lt_size hb) hb) (Nat.le_refl _) (setO_ok a1), rfl, q _ (I.hok.fresh (Nat.le_refl _))⟩
theorem call_sorted_set {X : Cx} (hc : X.calm = true) : CallR X (.builtin "sorted") (fun xs H Q => ∃ p ks, xs = [.ref p] ∧ H p = some (SetO X.prog X.w p ks) ∧ ks.length < 64 ∧ ∀ l, H l = none → Q (.ref l) (upd H l (.lst ((sortS ks).map V.str)))) := by
  intro pins s σ H xs us Q I r h
  obtain ⟨p, ks, rfl, hp, hl, q⟩ := h
  obtain ⟨u, rfl, rx⟩ := vals1 r
  cases rx
  obtain ⟨hS, _, _⟩ := (show ObjOk X.prog X.w H s.heap p (SetO X.prog X.w p ks) from I.hok p _ hp)
  have hh : X.A.in1.handled = none := I.ok.hd hc
  refine Calls.call_function_entry kind_sorted plain_sorted entry_sorted (args_sorted1 _) ?_
  unfold Builtin.«sorted»
  refine wpAny_bind (m := checkCount "sorted" 1 1 _) (wpAny_pure ?_)
  refine wpAny_bind (collect_set (A := X.A.in1) hh hS (Nat.le_of_lt (small1000 (by omega))) fun h' tk d' acc ss hk hgr hst hpm => ?_)
  have hal : acc.length = ss.length := strs_len hst
  have hsl : ss.length = ks.length := hpm.length_eq
  refine wpAny_bind (wpAny_newList ?_ (by rw [hal]; exact Nat.le_of_lt (small1000 (by omega))))
  have hoL : (h'.push (seqObj "list" acc.toArray 0)).get? h'.objs.size = some (seqObj "list" acc.toArray 0) := Heap.get?_push_size _ rfl
  refine wpAny_bind (wpAny_holding (wpAny_call_entry slot_list_sort ⟨_, hoL, rfl⟩ entry_list_sort (list_sort_treeK strKind_oneLt hoL hst.keysOf (fun v₁ v₂ rest e => keyKind_strs (by rw [← e]; exact hst)) (by omega) fun st' a1 a2 => ⟨_, rfl, ?_⟩) (args_list_sort _)))
  refine wpAny_pure ⟨_, rfl, ?_⟩
  obtain ⟨ss', b1, b2, b3⟩ := sorted_out_str hst a1 a2
  obtain ⟨e, he⟩ := sortedHeap_at (out := (arrOf st').map (·.2)) hoL
  have es' : ss' = sortS ks := (sortS_eq b2 (sor_of b3)).trans (sortS_congr hpm)
  subst es'
  have hsz : s.heap.objs.size ≤ h'.objs.size := Nat.le_of_lt hgr
  have old : ∀ b u, s.heap.get? b = some u → (sortedHeap (h'.push (seqObj "list" acc.toArray 0)) h'.objs.size acc ((arrOf st').map (·.2))).get? b = some u := fun b u hb => by
    have hb' := hk b u hb
    have hlt := Heap.lt_size hb'
    rw [sortedHeap_old (Nat.ne_of_lt hlt) (by rw [size_push']; exact Nat.lt_succ_of_lt hlt)]
    exact Heap.get?_push_of_some _ hb'
  have J := I.laid (t' := tk) old hsz (show ObjOk X.prog X.w (upd H h'.objs.size (.lst ((sortS ks).map V.str))) _ _ (.lst ((sortS ks).map V.str)) from ⟨by rw [List.length_map, sortS_len]; exact Nat.le_of_lt (small1000 (by omega)), ((arrOf st').map (·.2)).toList, e, vals_strsAre b1, by rw [Array.toArray_toList]; exact he⟩)
  exact ⟨.ref h'.objs.size, _, J.drew d', rfl, q _ (I.hok.fresh hsz)⟩
end L2
set_option Elab.async false
set_option linter.all false
set_option maxRecDepth 100000
set_option maxHeartbeats 4000000
namespace L2
open PySem PySem.Spec PyProof.Rows
end L2
set_option Elab.async false
set_option linter.all false
set_option maxRecDepth 100000
set_option maxHeartbeats 4000000
namespace L2
open PySem PySem.Spec PyProof.Rows
theorem sub_tuple_set : isSubtype (.type "tuple") (.type "set") = pure false := by rw [isSubtype_type]; kernel_rfl
theorem sub_tuple_frozenset : isSubtype (.type "tuple") (.type "frozenset") = pure false := by rw [isSubtype_type]; kernel_rfl
section
variable {prog : Program} {w : World} {A : Around} {E : Value → Shared → Prop} {s : Shared}
set_option maxHeartbeats 3200000 in
theorem call_set_TT {l : Addr} {items : Array Value} {ss : List Str} {Q : Value → Shared → Prop} (hh : A.handled = none) (hl : s.heap.IsTuple l items) (hi : StrsAre items.toList ss) (hb : items.size + 1 < scanBound)
    (h : ∀ (h' : Heap) (tk : Nat), SetT prog w (!w.params.followText "set-order") s.heap.objs.size (ss.foldl addN []) h' → (∀ b o, b < s.heap.objs.size → s.heap.get? b = some o → h'.get? b = some o) → Q (.ref s.heap.objs.size) { s with heap := h', toks := tk }) :
    wpAny (model prog w) A (call (.type "set") [.ref l]) Q E s := by
  obtain ⟨c, tl, m1⟩ := F.called_set.mro
  have m2 := F.called_set.made
  have m3 := F.called_set.sub
  have m4 := F.called_set.notType
  have m5 := F.called_set.canCreate
  have m6 := F.typeCall_set_1 (.ref l)
  refine wpAny_call (codeAny_of_tree ?_)
  show wpAny _ _ (callAny (.type "set") _) _ _ _
  refine wpAny_pure ⟨Code.quiet_builtin _ (by decide +kernel), codeAny_builtin F.entry_type_call ?_⟩
  rw [Around.under_plain (weight_type_call_type "set" [.ref l] []) rfl]
  repeat (any_goals (first | assumption | wp_step))
  refine codeAny_mono (new_set_T (.ref l) (E := E) (R := fun z z1 => z = .ref s.heap.objs.size ∧ z1 = { s with heap := s.heap.push (setNew w) }) ⟨rfl, rfl⟩) fun r s₁ hr => ?_
  cases r with
  | error e => exact hr
  | ok fl =>
    cases fl with
    | ret z =>
      obtain ⟨rfl, rfl⟩ := hr
      have z1 : (s.heap.push (setNew w)).get? s.heap.objs.size = some (setNew w) := Heap.get?_push_size _ rfl
      have z2 : Shared.TypeIs { s with heap := s.heap.push (setNew w) } (.ref s.heap.objs.size) "set" := ⟨_, z1, rfl⟩
      have z3 := F.called_set.init.lookup
      have z4 := F.called_set.init.bind (.ref s.heap.objs.size)
      repeat (any_goals (first | assumption | wp_step))
      refine codeAny_mono (codeAny_call_builtin (R := wants (fun r s₂ => r = .none ∧ ∃ h' tk, s₂ = { s with heap := h', toks := tk } ∧ SetT prog w (!w.params.followText "set-order") s.heap.objs.size (ss.foldl addN []) h' ∧
          (∀ b o, b < s.heap.objs.size → s.heap.get? b = some o → h'.get? b = some o)) E) F.called_set.init.plain F.entry_set_init (check_set_init_1 z2 ?_)) fun r₂ s₂ hr₂ => ?_
      · obtain ⟨ol, e1, e2, nl, e3⟩ := hl
        obtain ⟨ocls, odict, odata, oslots⟩ := ol
        simp only at e2 e3
        subst e2; subst e3
        have y1 : (s.heap.push (setNew w)).get? l = some { cls := .type "tuple", dict := odict, data := .seq items nl, slots := oslots } := Heap.get?_push_of_some _ e1
        have y2 := sub_tuple_set
        have y3 := sub_tuple_frozenset
        have y4 : (Value.type "tuple" == Value.type "dict") = false := by decide
        have y5 : (s.heap.push (setNew w)).IsTuple l items := ⟨_, y1, rfl, nl, rfl⟩
        unfold Builtin.«set.__init__» noKeywords Builtin.Frozenset.updateFrom
        generalize hPI : pyIter = PI
        unfold setNew at z1 z2 y1 y5 ⊢
        wp_walk
        subst hPI
        refine wpAny_pyIter_tuple y5 ?_
        refine wpAny_bind (wpAny_runValue ?_)
        have lt : l < s.heap.objs.size := Heap.lt_size e1
        have q3 : A.in1.in1.in1.handled = none := by simp [hh]
        have ne : l ≠ (s.heap.push { cls := .type "set", dict := none, data := .set #[] 0 (.fresh 0 0 (!w.params.followText "set-order")) }).objs.size := by
          rw [Heap.size_push]; exact Nat.ne_of_lt (Nat.lt_succ_of_lt lt)
        have nf : s.heap.objs.size ∉ [(s.heap.push { cls := .type "set", dict := none, data := .set #[] 0 (.fresh 0 0 (!w.params.followText "set-order")) }).objs.size, l] := by
          rw [Heap.size_push]
          intro z
          rcases List.mem_cons.mp z with z | z
          · omega
          · rw [List.mem_singleton.mp z] at lt
            exact Nat.lt_irrefl _ lt
        have vl : ∀ (i : Nat) (v : Value), items[i]? = some v → ∃ t, v = .str ((fun i => ss.getD i "") i) t := fun i v e => strs_at hi i v (by rw [Array.getElem?_toList]; exact e)
        have es : metT (fun i => ss.getD i "") items.size = ss.foldl addN [] := by
          unfold metT
          rw [← Array.length_toList, strs_len hi, range_getD]
        refine set_loop_T (led := !w.params.followText "set-order") ((Walks.tuple q3 _ l ne items).toS) s.heap.objs.size nf (fun i => ss.getD i "") vl hb (items.size - 0) 0 _ (by omega) (Nat.zero_le _) ⟨⟨_, Heap.get?_push_size _ rfl, rfl, rfl⟩, y5.push _⟩ ?S0 ?R0
        case S0 => exact (new_T (prog := prog) (w := w) (s := s)).at fun o e => Heap.get?_push_of_some _ e
        case R0 =>
          intro s' hm hS'
          obtain ⟨h', g', d', tk', os'⟩ := s'
          have eg : g' = s.gens := hm.gens
          have ed : d' = s.drawn := hm.drawn
          have eo : os' = s.os := hm.os
          subst eg; subst ed; subst eo
          rw [es] at hS'
          refine wpAny_pure (wpAny_pure ⟨rfl, h', tk', rfl, hS', fun b o hb e => ?_⟩)
          refine hm.heap b o (fun z => ?_) (Heap.get?_push_of_some _ (Heap.get?_push_of_some _ e))
          rcases List.mem_cons.mp z with z | z
          · exact absurd z (Nat.ne_of_lt hb)
          · have z := List.mem_singleton.mp z
            rw [Heap.size_push] at z
            exact absurd z (Nat.ne_of_lt (Nat.lt_succ_of_lt hb))
      · cases r₂ with
        | error e => exact hr₂
        | ok fl₂ =>
          cases fl₂ with
          | ret r =>
            obtain ⟨rfl, h', tk, rfl, a1, a2⟩ := hr₂
            repeat (any_goals (first | assumption | wp_step))
            exact h _ _ a1 a2
          | _ => exact hr₂.elim
    | _ => exact hr.elim
end
theorem call_setTup {X : Cx} (hc : X.calm = true) : CallR X (.type "set") (fun xs H Q => ∃ (p : Addr) (ss : List Str), xs = [.ref p] ∧ SqT X.K H p (ss.map V.str) ∧ ss.length ≤ 1000 ∧ ∀ l, H l = none → Q (.ref l) (upd H l (SetO X.prog X.w l (ss.foldl addN [])))) := by
  intro pins s σ H xs us Q I r h
  obtain ⟨p, ss, rfl, hS, hl, q⟩ := h
  obtain ⟨u, rfl, rx⟩ := vals1 r
  cases rx
  obtain ⟨its, rv, pl, _⟩ := I.tuple hS
  have hst := strsAre_of rv
  have hlen : its.length = ss.length := by have := rv.length; rw [List.length_map] at this; exact this.symm
  refine call_set_TT (ss := ss) (I.ok.hd hc) pl (by simpa using hst) (by rw [List.size_toArray]; show _ < 4096; omega) fun h' tk a1 a2 => ?_
  exact ⟨.ref s.heap.objs.size, _, I.laid (t' := tk) (fun b u hb => a2 b u (Heap.lt_size hb) hb) (Nat.le_refl _) (setO_ok a1), rfl, q _ (I.hok.fresh (Nat.le_refl _))⟩
end L2
set_option Elab.async false
set_option linter.all false
set_option maxRecDepth 100000
set_option maxHeartbeats 4000000
namespace L2
open PySem PySem.Spec PyProof.Rows
def dd (ss : List Str) : List Str := ss.foldl addN []
theorem ddf_mem : ∀ (ss acc : List Str) {x : Str}, x ∈ ss.foldl addN acc ↔ x ∈ acc ∨ x ∈ ss
  | [], acc, x => by simp
  | y :: ss, acc, x => by
    rw [List.foldl_cons, ddf_mem ss (addN acc y), mem_add, List.mem_cons, or_assoc]
theorem ddf_nd : ∀ (ss acc : List Str), acc.Nodup → (ss.foldl addN acc).Nodup
  | [], _, h => h
  | y :: ss, acc, h => ddf_nd ss (addN acc y) (add_nd h)
theorem mem_dd {ss : List Str} {x : Str} : x ∈ dd ss ↔ x ∈ ss := by unfold dd; rw [ddf_mem]; simp
theorem dd_nd (ss : List Str) : (dd ss).Nodup := ddf_nd ss [] List.nodup_nil
theorem ddf_len : ∀ (ss acc : List Str), (ss.foldl addN acc).length ≤ acc.length + ss.length
  | [], acc => by simp
  | y :: ss, acc => by
    have ih := ddf_len ss (addN acc y)
    have : (addN acc y).length ≤ acc.length + 1 := by unfold addN; split <;> simp
    rw [List.foldl_cons, List.length_cons]
    omega
theorem dd_len (ss : List Str) : (dd ss).length ≤ ss.length := by have := ddf_len ss []; simpa [dd] using this
def SS (ss : List Str) : List Str := sortS (dd ss)
theorem mem_SS {ss : List Str} {x : Str} : x ∈ SS ss ↔ x ∈ ss := sortS_mem.trans mem_dd
theorem SS_congr {a b : List Str} (h : ∀ x, x ∈ a ↔ x ∈ b) : SS a = SS b := sortS_congr ((List.perm_ext_iff_of_nodup (dd_nd a) (dd_nd b)).mpr fun x => mem_dd.trans ((h x).trans mem_dd.symm))
theorem SS_nd (ss : List Str) : (SS ss).Nodup := (sortS_perm _).nodup_iff.mpr (dd_nd ss)
theorem SS_of {l : List Str} (hn : l.Nodup) : SS l = sortS l := sortS_congr ((List.perm_ext_iff_of_nodup (dd_nd l) hn).mpr fun x => mem_dd)
theorem SS_idem (l : List Str) : SS (SS l) = SS l := SS_congr fun _ => mem_SS
theorem call_setAny {X : Cx} (hc : X.calm = true) : CallR X (.type "set") (fun xs H Q => ∃ (p : Addr) (ss : List Str), xs = [.ref p] ∧ (SqL X.K H p (ss.map V.str) ∨ SqT X.K H p (ss.map V.str)) ∧ ss.length ≤ 1000 ∧ ∀ l, H l = none → Q (.ref l) (upd H l (SetO X.prog X.w l (dd ss)))) := by
  intro pins s σ H xs us Q I r h
  obtain ⟨p, ss, e, hS | hS, hl, q⟩ := h
  · exact call_set hc pins s σ H xs us Q I r ⟨p, ss, e, hS, hl, q⟩
  · exact call_setTup hc pins s σ H xs us Q I r ⟨p, ss, e, hS, hl, q⟩
end L2
namespace K25
open PySem L2
def top (i : Nat) : Stmt := PySem.Challenge.pw_mailroom_k25_words_of_names.main.body.getD i (.Pass ⟨0, 0, 0, 0⟩)
abbrev swall : Stmt := top 0
abbrev scheck_there : Stmt := top 5
abbrev scheck_new : Stmt := top 6
abbrev sl_draws : Stmt := top 10
abbrev sl_name_by : Stmt := top 11
abbrev sl_pool : Stmt := top 12
abbrev sl_is_list : Stmt := top 13
abbrev sl_done : Stmt := top 14
abbrev sl_looked : Stmt := top 15
abbrev sl_stands : Stmt := top 16
abbrev slaw : Stmt := top 17
abbrev sIndex_init : Stmt := inClass (top 8) 0
abbrev sIndex_add : Stmt := inClass (top 8) 1
abbrev sIndex_take_out : Stmt := inClass (top 8) 2
abbrev sIndex_having : Stmt := inClass (top 8) 3
abbrev sIndex_words : Stmt := inClass (top 8) 4
abbrev sIndex_all_words : Stmt := inClass (top 8) 5
abbrev n_check_there : List Str := ["name", "there"]
theorem sc_check_there : FnScope n_check_there ["name", "there"] (defScope scheck_there) := ⟨rfl, rfl, rfl, by decide +kernel, rfl, by decide +kernel, by decide +kernel⟩
abbrev n_check_new : List Str := ["name", "there"]
theorem sc_check_new : FnScope n_check_new ["name", "there"] (defScope scheck_new) := ⟨rfl, rfl, rfl, by decide +kernel, rfl, by decide +kernel, by decide +kernel⟩
abbrev n_l_draws : List Str := ["_law_script", "_law_many", "_law_found", "_law_more", "_law_k", "_law_cell"]
theorem sc_l_draws : FnScope n_l_draws ["_law_script", "_law_many"] (defScope sl_draws) := ⟨rfl, rfl, rfl, by decide +kernel, rfl, by decide +kernel, by decide +kernel⟩
abbrev n_l_name_by : List Str := ["_law_shape", "_law_k", "_law_signs", "_law_place", "_law_name", "_law_turn"]
theorem sc_l_name_by : FnScope n_l_name_by ["_law_shape", "_law_k"] (defScope sl_name_by) := ⟨rfl, rfl, rfl, by decide +kernel, rfl, by decide +kernel, by decide +kernel⟩
abbrev n_l_pool : List Str := ["_law_draws_here", "_law_many"]
theorem sc_l_pool : FnScope n_l_pool ["_law_draws_here"] (defScope sl_pool) := ⟨rfl, rfl, rfl, by decide +kernel, rfl, by decide +kernel, by decide +kernel⟩
abbrev n_l_is_list : List Str := ["_law_found", "_law_due"]
theorem sc_l_is_list : FnScope n_l_is_list ["_law_found", "_law_due"] (defScope sl_is_list) := ⟨rfl, rfl, rfl, by decide +kernel, rfl, by decide +kernel, by decide +kernel⟩
abbrev n_l_done : List Str := ["_law_index", "_law_rows", "_law_pool_here", "_law_words", "_law_draws_here", "_law_name", "_law_there", "_law_mine", "_law_draw", "_law_k", "_law_found"]
theorem sc_l_done : FnScope n_l_done ["_law_index", "_law_rows", "_law_pool_here", "_law_words", "_law_draws_here"] (defScope sl_done) := ⟨rfl, rfl, rfl, by decide +kernel, rfl, by decide +kernel, by decide +kernel⟩
abbrev n_l_looked : List Str := ["_law_index", "_law_rows", "_law_look", "_law_draw", "_law_words", "_law_word", "_law_row", "_law_found"]
theorem sc_l_looked : FnScope n_l_looked ["_law_index", "_law_rows", "_law_look", "_law_draw", "_law_words"] (defScope sl_looked) := ⟨rfl, rfl, rfl, by decide +kernel, rfl, by decide +kernel, by decide +kernel⟩
abbrev n_l_stands : List Str := ["_law_index", "_law_rows", "_law_words", "_law_draw", "_law_held", "_law_turn", "_law_pair"]
theorem sc_l_stands : FnScope n_l_stands ["_law_index", "_law_rows", "_law_words", "_law_draw", "_law_held"] (defScope sl_stands) := ⟨rfl, rfl, rfl, by decide +kernel, rfl, by decide +kernel, by decide +kernel⟩
abbrev n_law : List Str := ["_law_script", "_law_draws_here", "_law_pool_here", "_law_words", "_law_index", "_law_other", "_law_rows", "_law_held", "_law_k"]
theorem sc_law : FnScope n_law ["_law_script"] (defScope slaw) := ⟨rfl, rfl, rfl, by decide +kernel, rfl, by decide +kernel, by decide +kernel⟩
abbrev n_Index_init : List Str := ["self"]
theorem sc_Index_init : FnScope n_Index_init ["self"] (defScope sIndex_init) := ⟨rfl, rfl, rfl, by decide +kernel, rfl, by decide +kernel, by decide +kernel⟩
abbrev n_Index_add : List Str := ["self", "name", "words", "word"]
theorem sc_Index_add : FnScope n_Index_add ["self", "name", "words"] (defScope sIndex_add) := ⟨rfl, rfl, rfl, by decide +kernel, rfl, by decide +kernel, by decide +kernel⟩
abbrev n_Index_take_out : List Str := ["self", "name", "words", "word"]
theorem sc_Index_take_out : FnScope n_Index_take_out ["self", "name"] (defScope sIndex_take_out) := ⟨rfl, rfl, rfl, by decide +kernel, rfl, by decide +kernel, by decide +kernel⟩
abbrev n_Index_having : List Str := ["self", "word"]
theorem sc_Index_having : FnScope n_Index_having ["self", "word"] (defScope sIndex_having) := ⟨rfl, rfl, rfl, by decide +kernel, rfl, by decide +kernel, by decide +kernel⟩
abbrev n_Index_words : List Str := ["self", "name"]
theorem sc_Index_words : FnScope n_Index_words ["self", "name"] (defScope sIndex_words) := ⟨rfl, rfl, rfl, by decide +kernel, rfl, by decide +kernel, by decide +kernel⟩
abbrev n_Index_all_words : List Str := ["self"]
theorem sc_Index_all_words : FnScope n_Index_all_words ["self"] (defScope sIndex_all_words) := ⟨rfl, rfl, rfl, by decide +kernel, rfl, by decide +kernel, by decide +kernel⟩
/-- where the top's things stand -/
structure Adr where
  f_wall : Addr
  f_check_there : Addr
  f_check_new : Addr
  f_l_draws : Addr
  f_l_name_by : Addr
  f_l_pool : Addr
  f_l_is_list : Addr
  f_l_done : Addr
  f_l_looked : Addr
  f_l_stands : Addr
  f_law : Addr
  f_Index_init : Addr
  f_Index_add : Addr
  f_Index_take_out : Addr
  f_Index_having : Addr
  f_Index_words : Addr
  f_Index_all_words : Addr
  C_Index : Addr
  dummy : Nat := 0
structure Txt (K : PySem.W.Frag) (mg : Str → Option Value) (a : Adr) : Prop where
  m_wall : mg "_wall" = some (.ref a.f_wall)
  m_check_there : mg "check_there" = some (.ref a.f_check_there)
  m_check_new : mg "check_new" = some (.ref a.f_check_new)
  m_l_draws : mg "_law_draws" = some (.ref a.f_l_draws)
  m_l_name_by : mg "_law_name_by" = some (.ref a.f_l_name_by)
  m_l_pool : mg "_law_pool" = some (.ref a.f_l_pool)
  m_l_is_list : mg "_law_is_list" = some (.ref a.f_l_is_list)
  m_l_done : mg "_law_done" = some (.ref a.f_l_done)
  m_l_looked : mg "_law_looked" = some (.ref a.f_l_looked)
  m_l_stands : mg "_law_stands" = some (.ref a.f_l_stands)
  m_law : mg "law" = some (.ref a.f_law)
  b_len : mg "len" = none
  b_range : mg "range" = none
  b_isinstance : mg "isinstance" = none
  b_str : mg "str" = none
  b_list : mg "list" = none
  b_set : mg "set" = none
  b_all : mg "all" = none
  b_sorted : mg "sorted" = none
  b_repr : mg "repr" = none
  mc_Index : mg "Index" = some (.ref a.C_Index)
  c_Index : Cls K a.C_Index
  k_Index : Mk K a.C_Index a.f_Index_init
  M_Index_add : Meth K a.C_Index "add" a.f_Index_add
  M_Index_take_out : Meth K a.C_Index "take_out" a.f_Index_take_out
  M_Index_having : Meth K a.C_Index "having" a.f_Index_having
  M_Index_words : Meth K a.C_Index "words" a.f_Index_words
  M_Index_all_words : Meth K a.C_Index "all_words" a.f_Index_all_words
  n_Index_entries : NoAttr K a.C_Index "entries"
  n_Index_bearers : NoAttr K a.C_Index "bearers"
  top_ : True
structure Funs (K : PySem.W.Frag) (a : Adr) : Prop where
  F_wall : ∃ fd, Fun K "_wall" "_wall" swall a.f_wall fd ∧ Binds K fd ["k"] []
  F_check_there : ∃ fd, Fun K "check_there" "check_there" scheck_there a.f_check_there fd ∧ Binds K fd ["name", "there"] []
  F_check_new : ∃ fd, Fun K "check_new" "check_new" scheck_new a.f_check_new fd ∧ Binds K fd ["name", "there"] []
  F_l_draws : ∃ fd, Fun K "_law_draws" "_law_draws" sl_draws a.f_l_draws fd ∧ Binds K fd ["_law_script", "_law_many"] []
  F_l_name_by : ∃ fd, Fun K "_law_name_by" "_law_name_by" sl_name_by a.f_l_name_by fd ∧ Binds K fd ["_law_shape", "_law_k"] []
  F_l_pool : ∃ fd, Fun K "_law_pool" "_law_pool" sl_pool a.f_l_pool fd ∧ Binds K fd ["_law_draws_here"] []
  F_l_is_list : ∃ fd, Fun K "_law_is_list" "_law_is_list" sl_is_list a.f_l_is_list fd ∧ Binds K fd ["_law_found", "_law_due"] []
  F_l_done : ∃ fd, Fun K "_law_done" "_law_done" sl_done a.f_l_done fd ∧ Binds K fd ["_law_index", "_law_rows", "_law_pool_here", "_law_words", "_law_draws_here"] []
  F_l_looked : ∃ fd, Fun K "_law_looked" "_law_looked" sl_looked a.f_l_looked fd ∧ Binds K fd ["_law_index", "_law_rows", "_law_look", "_law_draw", "_law_words"] []
  F_l_stands : ∃ fd, Fun K "_law_stands" "_law_stands" sl_stands a.f_l_stands fd ∧ Binds K fd ["_law_index", "_law_rows", "_law_words", "_law_draw", "_law_held"] []
  F_law : ∃ fd, Fun K "law" "law" slaw a.f_law fd ∧ Binds K fd ["_law_script"] []
  F_Index_init : ∃ fd, Fun K "__init__" "Index.__init__" sIndex_init a.f_Index_init fd ∧ Binds K fd ["self"] []
  F_Index_add : ∃ fd, Fun K "add" "Index.add" sIndex_add a.f_Index_add fd ∧ Binds K fd ["self", "name", "words"] []
  F_Index_take_out : ∃ fd, Fun K "take_out" "Index.take_out" sIndex_take_out a.f_Index_take_out fd ∧ Binds K fd ["self", "name"] []
  F_Index_having : ∃ fd, Fun K "having" "Index.having" sIndex_having a.f_Index_having fd ∧ Binds K fd ["self", "word"] []
  F_Index_words : ∃ fd, Fun K "words" "Index.words" sIndex_words a.f_Index_words fd ∧ Binds K fd ["self", "name"] []
  F_Index_all_words : ∃ fd, Fun K "all_words" "Index.all_words" sIndex_all_words a.f_Index_all_words fd ∧ Binds K fd ["self"] []
def spThereD : Sp := fun vs H Q _ => ∃ (nm : Str) (L : Addr) (kvs : List (Key × V)) (v : V), vs = [.str nm, .ref L] ∧ H L = some (.dK kvs) ∧ valV kvs (Sum.inr nm) = some v ∧ Q .non H
def spNewD : Sp := fun vs H Q _ => ∃ (nm : Str) (L : Addr) (kvs : List (Key × V)), vs = [.str nm, .ref L] ∧ H L = some (.dK kvs) ∧ valV kvs (Sum.inr nm) = none ∧ Q .non H
theorem kitSS {K : PySem.W.Frag} : PySem.W.kitOne K (.type "str") (.type "str") = some true := by unfold PySem.W.kitOne; rw [if_pos (beq_self_eq_true _)]
section
variable {P : Program} {w : World} {K : PySem.W.Frag} {mg : Str → Option Value} {base : Heap} {a : Adr}
theorem ok_there {fd : FuncData} (F : Fun K "check_there" "check_there" scheck_there a.f_check_there fd) (T : Txt K mg a) : FnOk P w K mg base CX0 1 a.f_check_there fd ["name", "there"] spThereD := by
  refine F.ok sc_check_there (fun vs H Q E h => ?_) (fun cdv A outer st H vs Q E hr h => ?_)
  · obtain ⟨nm, L, kvs, v, rfl, _⟩ := h; rfl
  · obtain ⟨nm, L, kvs, v, rfl, hL, hv, k⟩ := h
    have hu := hu_of hr
    refine ⟨_, (pss_one (ps_if (pt_cmp (pc_dnotin hu (pv 0) (pv 1))) (pss_one ps_never) pss_nil)), ?_⟩
    refine ⟨_, rfl, _, rfl, L, _, rfl, DGet.k (k := Sum.inr nm) hL, _, rfl, ?_⟩
    rw [hv]
    exact iteF k
theorem ok_new {fd : FuncData} (F : Fun K "check_new" "check_new" scheck_new a.f_check_new fd) (T : Txt K mg a) : FnOk P w K mg base CX0 1 a.f_check_new fd ["name", "there"] spNewD := by
  refine F.ok sc_check_new (fun vs H Q E h => ?_) (fun cdv A outer st H vs Q E hr h => ?_)
  · obtain ⟨nm, L, kvs, rfl, _⟩ := h; rfl
  · obtain ⟨nm, L, kvs, rfl, hL, hv, k⟩ := h
    have hu := hu_of hr
    refine ⟨_, (pss_one (ps_if (PW.pt (pw_or (pt_not (pt_val (pe_callB call_isinst rfl T.b_isinstance PyProof.Rows.boot_isinstance (pac (pv 0) (pac (pe_bltn (v := .ty "str") rfl T.b_str PyProof.Rows.boot_str rfl) pa_nil))))) (pw_or1 (pt_cmp (pc_din hu (pv 0) (pv 1)))))) (pss_one ps_never) pss_nil)), ?_⟩
    refine ⟨_, rfl, _, _, _, _, _, rfl, rfl, TyOf.str nm, kitSS, _, rfl, iteF ?_⟩
    refine ⟨_, rfl, _, rfl, L, _, rfl, DGet.k (k := Sum.inr nm) hL, _, rfl, ?_⟩
    rw [hv]
    exact iteF k
end
def spLaw (K : PySem.W.Frag) : Sp := fun vs H Q _ => ∃ (a : Addr) (ns : List Int), vs = [.ref a] ∧ SqL K H a (ns.map V.int) ∧ ns.length ≤ 63 ∧ ∀ H', Q (.bl true) H'
theorem kitLL {K : PySem.W.Frag} : PySem.W.kitOne K (.type "list") (.type "list") = some true := by unfold PySem.W.kitOne; rw [if_pos (beq_self_eq_true _)]
theorem dec_str {a b : Str} : decide (V.str a = V.str b) = decide (a = b) := by
  by_cases h : a = b
  · rw [h, decide_eq_true rfl, decide_eq_true rfl]
  · rw [decide_eq_false h, decide_eq_false fun z => h (V.str.inj z)]
section
variable {α : Type}
def dG (f : α → Str) (g : α → V) (xs : List α) : List (Key × V) := xs.map fun r => (Sum.inr (f r), g r)
theorem dG_none {f : α → Str} {g : α → V} {n : Str} : ∀ {xs : List α}, ¬ n ∈ xs.map f → valV (dG f g xs) (Sum.inr n) = none
  | [], _ => rfl
  | r :: xs, h => by
    show valV ((Sum.inr (f r), g r) :: dG f g xs) (Sum.inr n) = _
    rw [valV_neg fun e => h (by rw [← Sum.inr.inj e]; exact List.mem_cons_self)]
    exact dG_none fun z => h (List.mem_cons_of_mem _ z)
theorem dG_some {f : α → Str} {g : α → V} {r : α} : ∀ {xs : List α}, (xs.map f).Nodup → r ∈ xs → valV (dG f g xs) (Sum.inr (f r)) = some (g r)
  | [], _, h => nomatch h
  | y :: xs, nd, h => by
    rw [List.map_cons, List.nodup_cons] at nd
    show valV ((Sum.inr (f y), g y) :: dG f g xs) (Sum.inr (f r)) = _
    rcases List.mem_cons.mp h with rfl | h
    · exact valV_pos rfl
    · rw [valV_neg fun e => nd.1 (by rw [Sum.inr.inj e]; exact List.mem_map.mpr ⟨r, h, rfl⟩)]
      exact dG_some nd.2 h
theorem dG_put {f : α → Str} {g : α → V} {xs : List α} {n : Str} {v : V} (r : α) (h : ¬ n ∈ xs.map f) (e1 : f r = n) (e2 : g r = v) : putK (dG f g xs) (Sum.inr n) v = dG f g (xs ++ [r]) := by
  rw [putK_new _ (dG_none h)]
  simp [dG, e1, e2]
theorem dG_drop (f : α → Str) (g : α → V) (n : Str) : ∀ xs : List α, dropK (dG f g xs) (Sum.inr n) = dG f g (xs.filter fun r => decide (f r ≠ n))
  | [] => rfl
  | r :: xs => by
    show dropK ((Sum.inr (f r), g r) :: dG f g xs) (Sum.inr n) = _
    by_cases h : f r = n
    · rw [dropK_pos (by rw [h]), dG_drop f g n xs]
      simp [List.filter_cons, h]
    · rw [dropK_neg (fun e => h (Sum.inr.inj e)), dG_drop f g n xs]
      simp [List.filter_cons, h, dG]
theorem dG_len (f : α → Str) (g : α → V) (xs : List α) : (dG f g xs).length = xs.length := List.length_map _
theorem dG_keys (f : α → Str) (g : α → V) (xs : List α) : (dG f g xs).map (fun kv => kV kv.1) = (xs.map f).map V.str := by
  unfold dG
  rw [List.map_map, List.map_map]
  rfl
end
abbrev NW := List (Str × List Str)
def bear (R : NW) (t : Str) : List Str := (R.filter fun r => decide (t ∈ r.2)).map (·.1)
theorem bear_snoc (R : NW) (n : Str) (ws : List Str) (t : Str) : bear (R ++ [(n, ws)]) t = bear R t ++ if t ∈ ws then [n] else [] := by
  unfold bear
  rw [List.filter_append, List.map_append]
  by_cases h : t ∈ ws <;> simp [List.filter_cons, h]
theorem bear_mem {R : NW} {t n : Str} : n ∈ bear R t ↔ ∃ ws, (n, ws) ∈ R ∧ t ∈ ws := by
  unfold bear
  constructor
  · intro h
    obtain ⟨r, hr, rfl⟩ := List.mem_map.mp h
    exact ⟨r.2, (List.mem_filter.mp hr).1, of_decide_eq_true (List.mem_filter.mp hr).2⟩
  · rintro ⟨ws, h1, h2⟩
    exact List.mem_map.mpr ⟨(n, ws), List.mem_filter.mpr ⟨h1, decide_eq_true h2⟩, rfl⟩
theorem bear_sub {R : NW} {t n : Str} (h : n ∈ bear R t) : n ∈ R.map (·.1) := let ⟨ws, h1, _⟩ := bear_mem.mp h; List.mem_map.mpr ⟨(n, ws), h1, rfl⟩
theorem bear_len (R : NW) (t : Str) : (bear R t).length ≤ R.length := by unfold bear; rw [List.length_map]; exact List.length_filter_le _ _
def noN (R : NW) (n : Str) : NW := R.filter fun r => decide (r.1 ≠ n)
theorem bear_noN (R : NW) (n t : Str) : bear (noN R n) t = (bear R t).filter fun m => decide (m ≠ n) := by
  unfold bear noN
  rw [List.filter_map, List.filter_filter, List.filter_filter]
  congr 1
  refine List.filter_congr fun r _ => ?_
  show (decide (t ∈ r.2) && decide (r.1 ≠ n)) = (decide (r.1 ≠ n) && decide (t ∈ r.2))
  rw [Bool.and_comm]
theorem nw_one {R : NW} (nd : (R.map (·.1)).Nodup) {n : Str} {a b : List Str} (h1 : (n, a) ∈ R) (h2 : (n, b) ∈ R) : a = b := by
  induction R with
  | nil => cases h1
  | cons r R ih =>
    rw [List.map_cons, List.nodup_cons] at nd
    rcases List.mem_cons.mp h1 with e1 | h1
    · rcases List.mem_cons.mp h2 with e2 | h2
      · rw [← e2] at e1; exact (Prod.mk.inj e1).2
      · exact absurd (List.mem_map.mpr ⟨_, h2, by rw [← e1]⟩) nd.1
    · rcases List.mem_cons.mp h2 with e2 | h2
      · exact absurd (List.mem_map.mpr ⟨_, h1, by rw [← e2]⟩) nd.1
      · exact ih nd.2 h1 h2
/-- bearers but of one word -/
def putB (bf : Str → List Str) (w : Str) (ys : List Str) : Str → List Str := fun t => if t = w then ys else bf t
theorem putB_same (bf : Str → List Str) (w : Str) (ys : List Str) : putB bf w ys w = ys := if_pos rfl
theorem putB_ne {bf : Str → List Str} {w t : Str} {ys : List Str} (h : t ≠ w) : putB bf w ys t = bf t := if_neg h
abbrev brK (bs : List (Str × Addr)) : List (Key × V) := dG (·.1) (fun b => V.ref b.2) bs
structure BD (H : Hp) (E B : Addr) (bs : List (Str × Addr)) (bf : Str → List Str) (W : List Str) : Prop where
  nd : (bs.map (·.1)).Nodup
  nda : (bs.map (·.2)).Nodup
  at_ : ∀ p ∈ bs, H p.2 = some (.dK (keysT (bf p.1))) ∧ p.2 ≠ E ∧ p.2 ≠ B ∧ bf p.1 ≠ [] ∧ p.1 ∈ W
  no_ : ∀ t, ¬ t ∈ bs.map (·.1) → bf t = []
theorem BD.len {H : Hp} {E B : Addr} {bs : List (Str × Addr)} {bf : Str → List Str} {W : List Str} (h : BD H E B bs bf W) : bs.length ≤ W.length := by
  have := nodup_le h.nd fun m hm => by
    obtain ⟨p, hp, rfl⟩ := List.mem_map.mp hm
    exact (h.at_ p hp).2.2.2.2
  rw [List.length_map] at this
  exact this
theorem BD.congr {H H' : Hp} {E B : Addr} {bs : List (Str × Addr)} {bf bf' : Str → List Str} {W : List Str} (h : BD H E B bs bf W) (k : ∀ p ∈ bs, ∀ o, H p.2 = some o → H' p.2 = some o) (e : ∀ t, bf' t = bf t) : BD H' E B bs bf' W :=
  ⟨h.nd, h.nda, fun p hp => by rw [e]; exact ⟨k p hp _ (h.at_ p hp).1, (h.at_ p hp).2⟩, fun t ht => by rw [e]; exact h.no_ t ht⟩
theorem map_inj_of {α β : Type} {f : α → β} {xs : List α} (nd : (xs.map f).Nodup) {a b : α} (ha : a ∈ xs) (hb : b ∈ xs) (e : f a = f b) : a = b := by
  induction xs with
  | nil => cases ha
  | cons x xs ih =>
    rw [List.map_cons, List.nodup_cons] at nd
    rcases List.mem_cons.mp ha with h1 | h1
    · rcases List.mem_cons.mp hb with h2 | h2
      · rw [h1, h2]
      · exact absurd (List.mem_map.mpr ⟨b, h2, by rw [← e, h1]⟩) nd.1
    · rcases List.mem_cons.mp hb with h2 | h2
      · exact absurd (List.mem_map.mpr ⟨a, h1, by rw [e, h2]⟩) nd.1
      · exact ih nd.2 h1 h2
theorem snoc_nodup {α : Type} {xs : List α} {a : α} (h : xs.Nodup) (n : ¬ a ∈ xs) : (xs ++ [a]).Nodup := by
  rw [List.nodup_append]
  exact ⟨h, List.pairwise_singleton _ _, fun x hx y hy e => n (by rw [List.mem_singleton.mp hy] at e; rw [← e]; exact hx)⟩
theorem BD.new {H H' : Hp} {E B p : Addr} {bs : List (Str × Addr)} {bf : Str → List Str} {W ys : List Str} {w : Str} (h : BD H E B bs bf W) (hw : ¬ w ∈ bs.map (·.1)) (hp : ¬ p ∈ bs.map (·.2)) (pE : p ≠ E) (pB : p ≠ B) (wW : w ∈ W) (hy : ys ≠ [])
    (k : ∀ q ∈ bs, ∀ o, H q.2 = some o → H' q.2 = some o) (e : H' p = some (.dK (keysT ys))) : BD H' E B (bs ++ [(w, p)]) (putB bf w ys) W := by
  refine ⟨by rw [List.map_append]; exact snoc_nodup h.nd hw, by rw [List.map_append]; exact snoc_nodup h.nda hp, fun q hq => ?_, fun t ht => ?_⟩
  · rcases List.mem_append.mp hq with z | z
    · rw [putB_ne (fun e => hw (by rw [← e]; exact List.mem_map.mpr ⟨q, z, rfl⟩))]
      exact ⟨k q z _ (h.at_ q z).1, (h.at_ q z).2⟩
    · rw [List.mem_singleton.mp z]
      show H' p = some (.dK (keysT (putB bf w ys w))) ∧ p ≠ E ∧ p ≠ B ∧ putB bf w ys w ≠ [] ∧ w ∈ W
      rw [putB_same]
      exact ⟨e, pE, pB, hy, wW⟩
  · rw [List.map_append] at ht
    rw [putB_ne (fun e => ht (List.mem_append_right _ (by rw [e]; exact List.mem_cons_self)))]
    exact h.no_ t fun z => ht (List.mem_append_left _ z)
theorem BD.set {H H' : Hp} {E B d : Addr} {bs : List (Str × Addr)} {bf : Str → List Str} {W ys : List Str} {w : Str} (h : BD H E B bs bf W) (hw : (w, d) ∈ bs) (hy : ys ≠ [])
    (k : ∀ q ∈ bs, q.2 ≠ d → ∀ o, H q.2 = some o → H' q.2 = some o) (e : H' d = some (.dK (keysT ys))) : BD H' E B bs (putB bf w ys) W := by
  refine ⟨h.nd, h.nda, fun q hq => ?_, fun t ht => ?_⟩
  · by_cases z : q.1 = w
    · have eq : q = (w, d) := map_inj_of h.nd hq hw z
      rw [eq]
      show H' d = some (.dK (keysT (putB bf w ys w))) ∧ d ≠ E ∧ d ≠ B ∧ putB bf w ys w ≠ [] ∧ w ∈ W
      rw [putB_same]
      have := h.at_ _ hw
      exact ⟨e, this.2.1, this.2.2.1, hy, this.2.2.2.2⟩
    · rw [putB_ne z]
      refine ⟨k q hq (fun u => z ?_) _ (h.at_ q hq).1, (h.at_ q hq).2⟩
      have : q = (w, d) := map_inj_of h.nda hq hw u
      rw [this]
  · rw [putB_ne (fun e => ht (by rw [e]; exact List.mem_map.mpr ⟨_, hw, rfl⟩))]
    exact h.no_ t ht
theorem BD.del {H H' : Hp} {E B d : Addr} {bs : List (Str × Addr)} {bf : Str → List Str} {W : List Str} {w : Str} (h : BD H E B bs bf W) (hw : (w, d) ∈ bs)
    (k : ∀ q ∈ bs, q.2 ≠ d → ∀ o, H q.2 = some o → H' q.2 = some o) : BD H' E B (bs.filter fun r => decide (r.1 ≠ w)) (putB bf w []) W := by
  refine ⟨h.nd.sublist (List.filter_sublist.map _), h.nda.sublist (List.filter_sublist.map _), fun q hq => ?_, fun t ht => ?_⟩
  · obtain ⟨q1, q2⟩ := List.mem_filter.mp hq
    have z : q.1 ≠ w := of_decide_eq_true q2
    rw [putB_ne z]
    refine ⟨k q q1 (fun u => z ?_) _ (h.at_ q q1).1, (h.at_ q q1).2⟩
    have : q = (w, d) := map_inj_of h.nda q1 hw u
    rw [this]
  · by_cases e : t = w
    · rw [e, putB_same]
    · rw [putB_ne e]
      refine h.no_ t fun z => ht ?_
      obtain ⟨q, hq, rfl⟩ := List.mem_map.mp z
      exact List.mem_map.mpr ⟨q, List.mem_filter.mpr ⟨hq, decide_eq_true e⟩, rfl⟩
theorem bd_find {bs : List (Str × Addr)} {w : Str} (h : w ∈ bs.map (·.1)) : ∃ d, (w, d) ∈ bs := by
  obtain ⟨p, hp, rfl⟩ := List.mem_map.mp h
  exact ⟨p.2, hp⟩
abbrev IRow := Str × Addr × List Str
abbrev entK (rows : List IRow) : List (Key × V) := dG (·.1) (fun r => V.ref r.2.1) rows
def nwOf (rows : List IRow) : NW := rows.map fun r => (r.1, r.2.2)
theorem nw_names (rows : List IRow) : (nwOf rows).map (·.1) = rows.map (·.1) := by unfold nwOf; rw [List.map_map]; rfl
theorem nw_len (rows : List IRow) : (nwOf rows).length = rows.length := List.length_map _
structure IX (a : Adr) (H : Hp) (x dx E B : Addr) (rows : List IRow) (bs : List (Str × Addr)) (W : List Str) : Prop where
  obj : H x = some (.ins a.C_Index dx [("entries", .ref E), ("bearers", .ref B)])
  en : H E = some (.dK (entK rows))
  br : H B = some (.dK (brK bs))
  eb : E ≠ B
  ls : ∀ r ∈ rows, H r.2.1 = some (.lst (r.2.2.map V.str)) ∧ SS r.2.2 = r.2.2 ∧ ∀ w ∈ r.2.2, w ∈ W
  nd : (rows.map (·.1)).Nodup
  few : rows.length ≤ 40
  wf : W.length ≤ 20
  bd : BD H E B bs (bear (nwOf rows)) W
def ftp (E B : Addr) (rows : List IRow) (bs : List (Str × Addr)) : List Addr := E :: B :: (bs.map (·.2) ++ rows.map (·.2.1))
def IXs (a : Adr) (H : Hp) (x : Addr) (R : NW) (W : List Str) (n : Nat) (F : List Addr) : Prop := ∃ dx E B rows bs, IX a H x dx E B rows bs W ∧ nwOf rows = R ∧ R.length ≤ n ∧ F = ftp E B rows bs
theorem mem_ftp {E B : Addr} {rows : List IRow} {bs : List (Str × Addr)} {c : Addr} : c ∈ ftp E B rows bs ↔ c = E ∨ c = B ∨ c ∈ bs.map (·.2) ∨ c ∈ rows.map (·.2.1) := by
  unfold ftp
  rw [List.mem_cons, List.mem_cons, List.mem_append]
theorem IX.keep {a : Adr} {H H' : Hp} {x dx E B : Addr} {rows : List IRow} {bs : List (Str × Addr)} {W : List Str} (h : IX a H x dx E B rows bs W) (k : ∀ c o, (c = x ∨ c ∈ ftp E B rows bs) → H c = some o → H' c = some o) : IX a H' x dx E B rows bs W :=
  ⟨k _ _ (.inl rfl) h.obj, k _ _ (.inr (mem_ftp.mpr (.inl rfl))) h.en, k _ _ (.inr (mem_ftp.mpr (.inr (.inl rfl)))) h.br, h.eb,
    fun r hr => ⟨k _ _ (.inr (mem_ftp.mpr (.inr (.inr (.inr (List.mem_map.mpr ⟨r, hr, rfl⟩)))))) (h.ls r hr).1, (h.ls r hr).2⟩, h.nd, h.few, h.wf,
    h.bd.congr (fun p hp o e => k _ _ (.inr (mem_ftp.mpr (.inr (.inr (.inl (List.mem_map.mpr ⟨p, hp, rfl⟩)))))) e) fun _ => rfl⟩
theorem IXs.keep {a : Adr} {H H' : Hp} {x : Addr} {R : NW} {W : List Str} {n : Nat} {F : List Addr} (h : IXs a H x R W n F) (k : ∀ c o, (c = x ∨ c ∈ F) → H c = some o → H' c = some o) : IXs a H' x R W n F := by
  obtain ⟨dx, E, B, rows, bs, i, e1, e2, rfl⟩ := h
  exact ⟨dx, E, B, rows, bs, i.keep k, e1, e2, rfl⟩
theorem IXs.same {a : Adr} {H H' : Hp} {x : Addr} {R : NW} {W : List Str} {n : Nat} {F : List Addr} (h : IXs a H x R W n F) (s : Same H H') : IXs a H' x R W n F := h.keep fun c o _ e => s c o e
theorem IXs.up {a : Adr} {H : Hp} {x : Addr} {R : NW} {W : List Str} {n : Nat} {F : List Addr} (h : IXs a H x R W n F) : IXs a H x R W (n + 1) F := by
  obtain ⟨dx, E, B, rows, bs, i, e1, e2, e3⟩ := h
  exact ⟨dx, E, B, rows, bs, i, e1, by omega, e3⟩
theorem IXs.kind {a : Adr} {H : Hp} {x : Addr} {R : NW} {W : List Str} {n : Nat} {F : List Addr} (h : IXs a H x R W n F) {c : Addr} (hc : c ∈ F) : (∃ kvs, H c = some (.dK kvs)) ∨ ∃ xs, H c = some (.lst xs) := by
  obtain ⟨dx, E, B, rows, bs, i, e1, e2, rfl⟩ := h
  rcases mem_ftp.mp hc with z | z | z | z
  · rw [z]; exact .inl ⟨_, i.en⟩
  · rw [z]; exact .inl ⟨_, i.br⟩
  · obtain ⟨p, hp, rfl⟩ := List.mem_map.mp z
    exact .inl ⟨_, (i.bd.at_ p hp).1⟩
  · obtain ⟨r, hr, rfl⟩ := List.mem_map.mp z
    exact .inr ⟨_, (i.ls r hr).1⟩
theorem IXs.notIn {a : Adr} {H : Hp} {x : Addr} {R : NW} {W : List Str} {n : Nat} {F : List Addr} (h : IXs a H x R W n F) {c : Addr} (hc : H c = none) : ¬ c ∈ F := fun z => by
  rcases h.kind z with ⟨_, e⟩ | ⟨_, e⟩ <;> rw [hc] at e <;> cases e
theorem IXs.notTup {a : Adr} {H : Hp} {x : Addr} {R : NW} {W : List Str} {n : Nat} {F : List Addr} (h : IXs a H x R W n F) {c : Addr} {vs : List V} (hc : H c = some (.tup vs)) : ¬ c ∈ F := fun z => by
  rcases h.kind z with ⟨_, e⟩ | ⟨_, e⟩ <;> rw [hc] at e <;> cases e
theorem IXs.notIns {a : Adr} {H : Hp} {x : Addr} {R : NW} {W : List Str} {n : Nat} {F : List Addr} (h : IXs a H x R W n F) {c C d : Addr} {fs : List (Str × V)} (hc : H c = some (.ins C d fs)) : ¬ c ∈ F := fun z => by
  rcases h.kind z with ⟨_, e⟩ | ⟨_, e⟩ <;> rw [hc] at e <;> cases e
theorem IXs.obj {a : Adr} {H : Hp} {x : Addr} {R : NW} {W : List Str} {n : Nat} {F : List Addr} (h : IXs a H x R W n F) : ∃ dx E B, H x = some (.ins a.C_Index dx [("entries", .ref E), ("bearers", .ref B)]) := let ⟨_, _, _, _, _, i, _⟩ := h; ⟨_, _, _, i.obj⟩
theorem IXs.nd {a : Adr} {H : Hp} {x : Addr} {R : NW} {W : List Str} {n : Nat} {F : List Addr} (h : IXs a H x R W n F) : (R.map (·.1)).Nodup := by
  obtain ⟨dx, E, B, rows, bs, i, rfl, e2, rfl⟩ := h
  rw [nw_names]; exact i.nd
theorem IXs.words {a : Adr} {H : Hp} {x : Addr} {R : NW} {W : List Str} {n : Nat} {F : List Addr} (h : IXs a H x R W n F) {r : Str × List Str} (hr : r ∈ R) : SS r.2 = r.2 ∧ ∀ w ∈ r.2, w ∈ W := by
  obtain ⟨dx, E, B, rows, bs, i, rfl, e2, rfl⟩ := h
  obtain ⟨q, hq, rfl⟩ := List.mem_map.mp hr
  exact (i.ls q hq).2
theorem IXs.few {a : Adr} {H : Hp} {x : Addr} {R : NW} {W : List Str} {n : Nat} {F : List Addr} (h : IXs a H x R W n F) : R.length ≤ 40 ∧ W.length ≤ 20 := by
  obtain ⟨dx, E, B, rows, bs, i, rfl, e2, rfl⟩ := h
  rw [nw_len]; exact ⟨i.few, i.wf⟩
theorem IXs.len {a : Adr} {H : Hp} {x : Addr} {R : NW} {W : List Str} {n : Nat} {F : List Addr} (h : IXs a H x R W n F) : R.length ≤ n := let ⟨_, _, _, _, _, _, _, e, _⟩ := h; e
/-- all but what stands in F stays -/
def KpF (F : List Addr) (H H' : Hp) : Prop := ∀ c o, ¬ c ∈ F → H c = some o → H' c = some o
def spIInit (a : Adr) : Sp := fun vs H Q _ => ∃ (x dx : Addr) (W : List Str), vs = [.ref x] ∧ W.length ≤ 20 ∧ H x = some (.ins a.C_Index dx []) ∧ ∀ H' F, (∀ c o, c ≠ x → H c = some o → H' c = some o) → (∀ c ∈ F, H c = none) → IXs a H' x [] W 0 F → Q .non H'
def spIAdd (a : Adr) : Sp := fun vs H Q _ => ∃ (x p : Addr) (R : NW) (W : List Str) (n : Nat) (F : List Addr) (nm : Str) (ss : List Str), vs = [.ref x, .str nm, .ref p] ∧ IXs a H x R W n F ∧ n < 40 ∧ ¬ nm ∈ R.map (·.1) ∧ H p = some (.lst (ss.map V.str)) ∧ (∀ w ∈ ss, w ∈ W) ∧ ss.length ≤ 60 ∧
  ∀ H' F', IXs a H' x (R ++ [(nm, SS ss)]) W (n + 1) F' → KpF F H H' → (∀ c ∈ F', c ∈ F ∨ H c = none) → Q .non H'
def spITake (a : Adr) : Sp := fun vs H Q _ => ∃ (x : Addr) (R : NW) (W : List Str) (n : Nat) (F : List Addr) (nm : Str), vs = [.ref x, .str nm] ∧ IXs a H x R W n F ∧ nm ∈ R.map (·.1) ∧
  ∀ H' F', IXs a H' x (noN R nm) W n F' → KpF F H H' → (∀ c ∈ F', c ∈ F) → Q .non H'
def spHaving (a : Adr) : Sp := fun vs H Q _ => ∃ (x : Addr) (R : NW) (W : List Str) (n : Nat) (F : List Addr) (t : Str), vs = [.ref x, .str t] ∧ IXs a H x R W n F ∧ ∀ l H', H l = none → Same H H' → H' l = some (.lst ((sortS (bear R t)).map V.str)) → Q (.ref l) H'
def spWords (a : Adr) : Sp := fun vs H Q _ => ∃ (x : Addr) (R : NW) (W : List Str) (n : Nat) (F : List Addr) (nm : Str) (ws : List Str), vs = [.ref x, .str nm] ∧ IXs a H x R W n F ∧ (nm, ws) ∈ R ∧ ∀ l H', H l = none → Same H H' → H' l = some (.lst (ws.map V.str)) → Q (.ref l) H'
def spAllWords (a : Adr) : Sp := fun vs H Q _ => ∃ (x : Addr) (R : NW) (W : List Str) (n : Nat) (F : List Addr), vs = [.ref x] ∧ IXs a H x R W n F ∧ ∀ l H' ks, ks.Nodup → ks.length ≤ 20 → (∀ t, t ∈ ks ↔ ∃ r ∈ R, t ∈ r.2) → H l = none → Same H H' → H' l = some (.lst ((sortS ks).map V.str)) → Q (.ref l) H'
theorem flds_ent (E B : Addr) : ([("entries", V.ref E), ("bearers", V.ref B)] : List (Str × V)).lookup ("entries" : Str) = some (V.ref E) := by simp [List.lookup]
theorem flds_bea (E B : Addr) : ([("entries", V.ref E), ("bearers", V.ref B)] : List (Str × V)).lookup ("bearers" : Str) = some (V.ref B) := by
  have e : (("bearers" : Str) == ("entries" : Str)) = false := by decide +kernel
  simp [List.lookup, e]
section
variable {P : Program} {w : World} {K : PySem.W.Frag} {mg : Str → Option Value} {base : Heap} {a : Adr}
theorem ok_iinit {fd : FuncData} (F : Fun K "__init__" "Index.__init__" sIndex_init a.f_Index_init fd) (T : Txt K mg a) : FnOk P w K mg base CX0 1 a.f_Index_init fd ["self"] (spIInit a) := by
  refine F.ok sc_Index_init (fun vs H Q E h => ?_) (fun cdv A outer st H vs Q E hr h => ?_)
  · obtain ⟨x, dx, W, rfl, _⟩ := h; rfl
  · obtain ⟨x, dx, W, rfl, hW, hx, k⟩ := h
    refine ⟨_, (pss_cons (ps_fld (pv 0) pe_dnewK rfl)
        (pss_one (ps_fld (pv 0) pe_dnewK rfl))), ?_⟩
    intro L hL
    have ne1 : x ≠ L := ne_of_none hx hL
    refine ⟨_, rfl, x, _, dx, _, rfl, (by rw [upd_ne ne1]; exact hx), T.c_Index, T.n_Index_entries, by decide, ?_⟩
    intro B hB
    have hx1 : (upd (upd H L (.dK [])) x (.ins a.C_Index dx (putF "entries" (.ref L) []))) x = some (.ins a.C_Index dx (putF "entries" (.ref L) [])) := upd_same
    have hL1 : (upd (upd H L (.dK [])) x (.ins a.C_Index dx (putF "entries" (.ref L) []))) L = some (.dK []) := by rw [upd_ne ne1.symm]; exact upd_same
    have ne2 : x ≠ B := ne_of_none hx1 hB
    have ne3 : L ≠ B := ne_of_none hL1 hB
    refine ⟨_, rfl, x, _, dx, _, rfl, (by rw [upd_ne ne2]; exact hx1), T.c_Index, T.n_Index_bearers, (by show 1 < 1000; decide), ?_⟩
    have hB0 : H B = none := by rw [upd_ne ne2.symm, upd_ne ne3.symm] at hB; exact hB
    refine k _ (ftp L B [] []) (fun c o ne e => ?_) (fun c hc => ?_) ⟨dx, L, B, [], [], ⟨upd_same, ?_, ?_, ne3, (fun _ z => nomatch z), List.nodup_nil, Nat.zero_le _, hW, ⟨List.nodup_nil, List.nodup_nil, (fun _ z => nomatch z), fun _ _ => rfl⟩⟩, rfl, Nat.le_refl _, rfl⟩
    · rw [upd_ne ne, upd_ne (ne_of_none (by rw [upd_ne ne, upd_ne (ne_of_none e hL)]; exact e) hB), upd_ne ne, upd_ne (ne_of_none e hL)]
      exact e
    · rcases mem_ftp.mp hc with z | z | z | z
      · rw [z]; exact hL
      · rw [z]; exact hB0
      · cases z
      · cases z
    · rw [upd_ne ne1.symm, upd_ne ne3, upd_ne ne1.symm]; exact upd_same
    · rw [upd_ne ne2.symm]; exact upd_same
theorem ok_having {fd : FuncData} (F : Fun K "having" "Index.having" sIndex_having a.f_Index_having fd) (T : Txt K mg a) : FnOk P w K mg base CX0 1 a.f_Index_having fd ["self", "word"] (spHaving a) := by
  refine F.ok sc_Index_having (fun vs H Q E h => ?_) (fun cdv A outer st H vs Q E hr h => ?_)
  · obtain ⟨x, R, W, n, F, t, rfl, _⟩ := h; rfl
  · obtain ⟨x, R, W, n, F, t, rfl, ⟨dx, E, B, rows, bs, i, rfl, _, rfl⟩, k⟩ := h
    have hu := hu_of hr
    refine ⟨_, (pss_one (ps_ret (pe_callB (call_sorted_dict rfl) rfl T.b_sorted PyProof.Rows.boot_sorted (pac (pe_dget2 hu (pe_fld (pv 0) rfl) (pv 1) pe_dnewK ⟨rfl, rfl, rfl, rfl⟩) pa_nil)))), ?_⟩
    refine ⟨_, rfl, x, _, dx, _, _, rfl, i.obj, T.c_Index, T.n_Index_bearers, flds_bea E B, B, rfl, .inl ⟨_, .inl i.br⟩, _, rfl, fun p hp => ?_⟩
    have s1 : Same H (upd H p (.dK [])) := Same.upd_new hp
    have hfew := i.few
    have hbl := bear_len (nwOf rows) t
    rw [nw_len] at hbl
    refine ⟨_, DGet.k (k := Sum.inr t) (s1 _ _ i.br), ?_⟩
    by_cases ht : t ∈ bs.map (·.1)
    · obtain ⟨d, hd⟩ := bd_find ht
      have hv : valV (brK bs) (Sum.inr t) = some (V.ref d) := dG_some (r := ((t, d) : Str × Addr)) i.bd.nd hd
      rw [hv]
      refine ⟨d, keysT (bear (nwOf rows) t), bear (nwOf rows) t, rfl, s1 _ _ (i.bd.at_ _ hd).1, ?_, by omega, fun l hl => k l _ (s1.free hl) (s1.upd_of (s1.free hl)) upd_same⟩
      unfold keysT
      rw [List.map_map]
      rfl
    · have hv : valV (brK bs) (Sum.inr t) = none := dG_none ht
      rw [hv]
      refine ⟨p, [], [], rfl, upd_same, rfl, by decide, fun l hl => ?_⟩
      refine k l _ (s1.free hl) (s1.upd_of (s1.free hl)) ?_
      rw [upd_same, i.bd.no_ t ht]
theorem ok_allwords {fd : FuncData} (F : Fun K "all_words" "Index.all_words" sIndex_all_words a.f_Index_all_words fd) (T : Txt K mg a) : FnOk P w K mg base CX0 1 a.f_Index_all_words fd ["self"] (spAllWords a) := by
  refine F.ok sc_Index_all_words (fun vs H Q E h => ?_) (fun cdv A outer st H vs Q E hr h => ?_)
  · obtain ⟨x, R, W, n, F, rfl, _⟩ := h; rfl
  · obtain ⟨x, R, W, n, F, rfl, ⟨dx, E, B, rows, bs, i, rfl, _, rfl⟩, k⟩ := h
    have hbl := i.bd.len
    have hwf := i.wf
    refine ⟨_, (pss_one (ps_ret (pe_callB (call_sorted_dict rfl) rfl T.b_sorted PyProof.Rows.boot_sorted (pac (pe_fld (pv 0) rfl) pa_nil)))), ?_⟩
    refine ⟨_, rfl, x, _, dx, _, _, rfl, i.obj, T.c_Index, T.n_Index_bearers, flds_bea E B, B, brK bs, bs.map (·.1), rfl, i.br, dG_keys _ _ _, by rw [List.length_map]; omega, fun l hl => k l _ (bs.map (·.1)) i.bd.nd (by rw [List.length_map]; omega) (fun t => ?_) hl (Same.upd_new hl) upd_same⟩
    constructor
    · intro ht
      obtain ⟨d, hd⟩ := bd_find ht
      obtain ⟨m, ms, e⟩ := List.exists_cons_of_ne_nil (i.bd.at_ _ hd).2.2.2.1
      obtain ⟨ws, h1, h2⟩ := bear_mem.mp (show m ∈ bear (nwOf rows) t by rw [e]; exact List.mem_cons_self)
      exact ⟨_, h1, h2⟩
    · rintro ⟨r, h1, h2⟩
      refine Classical.byContradiction fun z => ?_
      have e := i.bd.no_ t z
      have := bear_mem.mpr ⟨r.2, h1, h2⟩
      rw [e] at this
      cases this
theorem nw_find {rows : List IRow} {nm : Str} {ws : List Str} (h : (nm, ws) ∈ nwOf rows) : ∃ l, ((nm, l, ws) : IRow) ∈ rows := by
  obtain ⟨r, hr, e⟩ := List.mem_map.mp h
  obtain ⟨e1, e2⟩ := Prod.mk.inj e
  exact ⟨r.2.1, by rw [← e1, ← e2]; exact hr⟩
theorem ok_iwords {fd : FuncData} (F : Fun K "words" "Index.words" sIndex_words a.f_Index_words fd) (T : Txt K mg a) (FF : Funs K a) : FnOk P w K mg base CX0 2 a.f_Index_words fd ["self", "name"] (spWords a) := by
  obtain ⟨fdC, F_check_there, b_check_there⟩ := FF.F_check_there
  have G_check_there : FnOk P w K mg base CX0 1 a.f_check_there fdC ["name", "there"] spThereD := ok_there F_check_there T
  refine F.ok sc_Index_words (fun vs H Q E h => ?_) (fun cdv A outer st H vs Q E hr h => ?_)
  · obtain ⟨x, R, W, n, F, nm, ws, rfl, _⟩ := h; rfl
  · obtain ⟨x, R, W, n, F, nm, ws, rfl, ⟨dx, E, B, rows, bs, i, rfl, _, rfl⟩, hm, k⟩ := h
    have hu := hu_of hr
    have hr_check_there : Room 1 _ := hr
    refine ⟨_, (pss_cons (ps_expr (pe_call G_check_there hr_check_there rfl T.m_check_there F_check_there.kp b_check_there .nil pass0 (pac (pv 1) (pac (pe_fld (pv 0) rfl) pa_nil))))
        (pss_one (ps_ret (pe_callTy call_list_of rfl T.b_list PyProof.Rows.boot_list (pac (pe_dget hu (pe_fld (pv 0) rfl) (pv 1) (fun _ _ => rfl)) pa_nil))))), ?_⟩
    obtain ⟨l0, hl0⟩ := nw_find hm
    have hv : valV (entK rows) (Sum.inr nm) = some (V.ref l0) := dG_some (r := ((nm, l0, ws) : IRow)) i.nd hl0
    refine ⟨_, rfl, _, rfl, x, _, dx, _, _, rfl, i.obj, T.c_Index, T.n_Index_entries, flds_ent E B, nm, E, _, _, rfl, i.en, hv, ?_⟩
    refine ⟨_, rfl, x, _, dx, _, _, rfl, i.obj, T.c_Index, T.n_Index_entries, flds_ent E B, _, rfl, E, _, rfl, (by rw [← hv]; exact DGet.k (k := Sum.inr nm) i.en), l0, _, rfl, .inl (SqL.of (i.ls _ hl0).1), fun l hl => ?_⟩
    exact k l _ hl (Same.upd_new hl) upd_same
end
theorem KpF.upd {F : List Addr} {H H1 : Hp} {b : Addr} {o : HO} (k : KpF F H H1) (h : b ∈ F ∨ H b = none) : KpF F H (upd H1 b o) := fun c u hc e => by
  have : c ≠ b := fun z => h.elim (fun q => hc (by rw [z]; exact q)) fun q => by rw [z, q] at e; cases e
  rw [upd_ne this]
  exact k c u hc e
def bfi (R : NW) (nm : Str) (pre : List Str) : Str → List Str := fun t => bear R t ++ if t ∈ pre then [nm] else []
theorem bfi_snoc {R : NW} {nm y : Str} {pre : List Str} (h : ¬ y ∈ pre) (t : Str) : bfi R nm (pre ++ [y]) t = putB (bfi R nm pre) y (bfi R nm pre y ++ [nm]) t := by
  by_cases e : t = y
  · subst e
    rw [putB_same]
    unfold bfi
    rw [if_neg h, if_pos (List.mem_append_right _ List.mem_cons_self), List.append_nil]
  · rw [putB_ne e]
    unfold bfi
    have : t ∈ pre ++ [y] ↔ t ∈ pre := by rw [List.mem_append, List.mem_singleton]; exact ⟨fun z => z.elim id fun q => absurd q e, .inl⟩
    by_cases z : t ∈ pre
    · rw [if_pos z, if_pos (this.mpr z)]
    · rw [if_neg z, if_neg fun q => z (this.mp q)]
def bft (R : NW) (nm : Str) (pre : List Str) : Str → List Str := fun t => if t ∈ pre then (bear R t).filter fun m => decide (m ≠ nm) else bear R t
theorem bft_snoc {R : NW} {nm y : Str} {pre : List Str} (t : Str) : bft R nm (pre ++ [y]) t = putB (bft R nm pre) y ((bear R y).filter fun m => decide (m ≠ nm)) t := by
  by_cases e : t = y
  · subst e
    rw [putB_same]
    exact if_pos (List.mem_append_right _ List.mem_cons_self)
  · rw [putB_ne e]
    unfold bft
    have : t ∈ pre ++ [y] ↔ t ∈ pre := by rw [List.mem_append, List.mem_singleton]; exact ⟨fun z => z.elim id fun q => absurd q e, .inl⟩
    by_cases z : t ∈ pre
    · rw [if_pos z, if_pos (this.mpr z)]
    · rw [if_neg z, if_neg fun q => z (this.mp q)]
theorem nw_snoc (rows : List IRow) (r : IRow) : nwOf (rows ++ [r]) = nwOf rows ++ [(r.1, r.2.2)] := by unfold nwOf; rw [List.map_append]; rfl
theorem nw_noN (rows : List IRow) (nm : Str) : nwOf (rows.filter fun r => decide (r.1 ≠ nm)) = noN (nwOf rows) nm := by
  unfold nwOf noN
  rw [List.filter_map]
  rfl
theorem pick_i {xs : List Str} {i : Nat} {v : V} (h : (xs.map V.str)[i]? = some v) : ∃ y, xs[i]? = some y ∧ v = V.str y := by
  rw [List.getElem?_map] at h
  cases e : xs[i]? with
  | none => rw [e] at h; cases h
  | some t => rw [e] at h; exact ⟨t, rfl, (Option.some.inj h).symm⟩
theorem take_one {xs : List Str} {i : Nat} {y : Str} (h : xs[i]? = some y) : xs.take (i + 1) = xs.take i ++ [y] := by rw [List.take_add_one, h]; rfl
theorem nd_pre {xs : List Str} {i : Nat} {y : Str} (nd : xs.Nodup) (h : xs[i]? = some y) : ¬ y ∈ xs.take i := fun z => by
  have h1 : (xs.take i ++ [y]).Nodup := by rw [← take_one h]; exact nd.sublist (List.take_sublist _ _)
  rw [List.nodup_append] at h1
  exact h1.2.2 y z y List.mem_cons_self rfl
section
variable {P : Program} {w : World} {K : PySem.W.Frag} {mg : Str → Option Value} {base : Heap} {a : Adr}
theorem ok_iadd {fd : FuncData} (F : Fun K "add" "Index.add" sIndex_add a.f_Index_add fd) (T : Txt K mg a) (FF : Funs K a) : FnOk P w K mg base CX0 2 a.f_Index_add fd ["self", "name", "words"] (spIAdd a) := by
  obtain ⟨fdC, F_check_new, b_check_new⟩ := FF.F_check_new
  have G_check_new : FnOk P w K mg base CX0 1 a.f_check_new fdC ["name", "there"] spNewD := ok_new F_check_new T
  refine F.ok sc_Index_add (fun vs H Q E h => ?_) (fun cdv A outer st H vs Q E hr h => ?_)
  · obtain ⟨x, p, R, W, n, F, nm, ss, rfl, _⟩ := h; rfl
  · obtain ⟨x, p, R, W, n, F, nm, ss, rfl, ⟨dx, E, B, rows, bs, i, rfl, hRn, rfl⟩, hn40, hnm, hp, hW, hss, k⟩ := h
    have hu := hu_of hr
    have hr_check_new : Room 1 _ := hr
    rw [nw_names] at hnm
    rw [nw_len] at hRn
    have hwf := i.wf
    have hdd := dd_len ss
    have hv0 : valV (entK rows) (Sum.inr nm) = none := dG_none hnm
    refine ⟨_, (pss_cons (ps_expr (pe_call G_check_new hr_check_new rfl T.m_check_new F_check_new.kp b_check_new .nil pass0 (pac (pv 1) (pac (pe_fld (pv 0) rfl) pa_nil))))
        (pss_cons (ps_dput hu (pe_fld (pv 0) rfl) (pv 1) (pe_callB (call_sorted_set rfl) rfl T.b_sorted PyProof.Rows.boot_sorted (pac (pe_callTy (call_setAny rfl) rfl T.b_set PyProof.Rows.boot_set (pac (pv 2) pa_nil)) pa_nil)) rfl)
        (pss_one (ps_for PassesOwn.never rfl (pi_list (pe_dget hu (pe_fld (pv 0) rfl) (pv 1) (fun _ _ => rfl))) (pg_name (i := 3) sc_Index_add.nd rfl (Or.inl rfl)) (pss_cons (ps_if (pt_cmp (pc_dnotin hu (pv 3) (pe_fld (pv 0) rfl))) (pss_one (ps_dput hu (pe_fld (pv 0) rfl) (pv 3) pe_dnewK rfl)) pss_nil)
        (pss_one (ps_dput hu (pe_dget hu (pe_fld (pv 0) rfl) (pv 3) (fun _ _ => rfl)) (pv 1) pe_bl rfl))))))), ?_⟩
    refine ⟨_, rfl, _, rfl, x, _, dx, _, _, rfl, i.obj, T.c_Index, T.n_Index_entries, flds_ent E B, nm, E, _, rfl, i.en, hv0, ?_⟩
    refine ⟨_, rfl, p, ss, rfl, .inl (SqL.of hp), by omega, fun u hu0 => ⟨u, dd ss, rfl, upd_same, by omega, fun l hl => ?_⟩⟩
    have s1 : Same H (upd H u (SetO P w u (dd ss))) := Same.upd_new hu0
    have l0 : H l = none := s1.free hl
    have s2 : Same H (upd (upd H u (SetO P w u (dd ss))) l (.lst ((SS ss).map V.str))) := s1.upd_of l0
    have l2 : (upd (upd H u (SetO P w u (dd ss))) l (.lst ((SS ss).map V.str))) l = some (.lst ((SS ss).map V.str)) := upd_same
    refine ⟨_, rfl, x, _, dx, _, _, rfl, s2 _ _ i.obj, T.c_Index, T.n_Index_entries, flds_ent E B, _, rfl, E, _, rfl, DPut.k (k := Sum.inr nm) (s2 _ _ i.en) (by rw [dG_len]; exact small1000 (by omega)), ?_⟩
    rw [dG_put ((nm, l, SS ss) : IRow) hnm rfl rfl]
    have xE : x ≠ E := ne_of i.obj i.en fun z => nomatch z
    have lE : l ≠ E := (ne_of_none i.en l0).symm
    have obj3 : (upd (upd (upd H u (SetO P w u (dd ss))) l (.lst ((SS ss).map V.str))) E (.dK (entK (rows ++ [((nm, l, SS ss) : IRow)])))) x = some (.ins a.C_Index dx [("entries", .ref E), ("bearers", .ref B)]) := by rw [upd_ne xE]; exact s2 _ _ i.obj
    have en3 : (upd (upd (upd H u (SetO P w u (dd ss))) l (.lst ((SS ss).map V.str))) E (.dK (entK (rows ++ [((nm, l, SS ss) : IRow)])))) E = some (.dK (entK (rows ++ [((nm, l, SS ss) : IRow)]))) := upd_same
    have br3 : (upd (upd (upd H u (SetO P w u (dd ss))) l (.lst ((SS ss).map V.str))) E (.dK (entK (rows ++ [((nm, l, SS ss) : IRow)])))) B = some (.dK (brK bs)) := by rw [upd_ne i.eb.symm]; exact s2 _ _ i.br
    have l3 : (upd (upd (upd H u (SetO P w u (dd ss))) l (.lst ((SS ss).map V.str))) E (.dK (entK (rows ++ [((nm, l, SS ss) : IRow)])))) l = some (.lst ((SS ss).map V.str)) := by rw [upd_ne lE]; exact l2
    have ls3 : ∀ r ∈ rows, (upd (upd (upd H u (SetO P w u (dd ss))) l (.lst ((SS ss).map V.str))) E (.dK (entK (rows ++ [((nm, l, SS ss) : IRow)])))) r.2.1 = some (.lst (r.2.2.map V.str)) := fun r hr => by
      rw [upd_ne (ne_of (i.ls r hr).1 i.en fun z => nomatch z)]; exact s2 _ _ (i.ls r hr).1
    have bd3 : BD (upd (upd (upd H u (SetO P w u (dd ss))) l (.lst ((SS ss).map V.str))) E (.dK (entK (rows ++ [((nm, l, SS ss) : IRow)])))) E B bs (bfi (nwOf rows) nm []) W := i.bd.congr (fun q hq o e => by rw [upd_ne (i.bd.at_ q hq).2.1]; exact s2 _ _ e) fun t => by
      show bear (nwOf rows) t ++ (if t ∈ ([] : List Str) then [nm] else []) = _
      rw [if_neg (fun z => nomatch z), List.append_nil]
    have kp3 : KpF (ftp E B rows bs) H (upd (upd (upd H u (SetO P w u (dd ss))) l (.lst ((SS ss).map V.str))) E (.dK (entK (rows ++ [((nm, l, SS ss) : IRow)])))) := KpF.upd (fun c o _ e => s2 c o e) (.inl (mem_ftp.mpr (.inl rfl)))
    show tSeq _ _ _ _ (upd (upd (upd H u (SetO P w u (dd ss))) l (.lst ((SS ss).map V.str))) E (.dK (entK (rows ++ [((nm, l, SS ss) : IRow)]))))
    generalize upd (upd (upd H u (SetO P w u (dd ss))) l (.lst ((SS ss).map V.str))) E (.dK (entK (rows ++ [((nm, l, SS ss) : IRow)]))) = H3 at obj3 en3 br3 l3 ls3 bd3 kp3
    have nd3 : ((rows ++ [((nm, l, SS ss) : IRow)]).map (·.1)).Nodup := by rw [List.map_append]; exact snoc_nodup i.nd hnm
    have hv3 : valV (entK (rows ++ [((nm, l, SS ss) : IRow)])) (Sum.inr nm) = some (V.ref l) := dG_some (r := ((nm, l, SS ss) : IRow)) nd3 (List.mem_append_right _ List.mem_cons_self)
    have hfew := i.few
    have ndS := SS_nd ss
    refine ⟨_, rfl, x, _, dx, _, _, rfl, obj3, T.c_Index, T.n_Index_entries, flds_ent E B, _, rfl, E, _, rfl, (by rw [← hv3]; exact DGet.k (k := Sum.inr nm) en3), l, rfl, ⟨_, SqL.of l3⟩, for_list (K := K) (a := l) (xs := (SS ss).map V.str)
      (fun j σ H4 => ∃ (bs4 : List (Str × Addr)) (o : Option V), σ = [some (.ref x), some (.str nm), some (.ref p), o] ∧ H4 x = some (.ins a.C_Index dx [("entries", .ref E), ("bearers", .ref B)]) ∧ H4 E = some (.dK (entK (rows ++ [((nm, l, SS ss) : IRow)]))) ∧ H4 B = some (.dK (brK bs4)) ∧ H4 l = some (.lst ((SS ss).map V.str)) ∧
        (∀ r ∈ rows, H4 r.2.1 = some (.lst (r.2.2.map V.str))) ∧ BD H4 E B bs4 (bfi (nwOf rows) nm ((SS ss).take j)) W ∧ KpF (ftp E B rows bs) H H4 ∧ (∀ q ∈ bs4, q.2 ∈ ftp E B rows bs ∨ H q.2 = none))
      ⟨bs, none, rfl, obj3, en3, br3, l3, ls3, by rw [List.take_zero]; exact bd3, kp3, fun q hq => .inl (mem_ftp.mpr (.inr (.inr (.inl (List.mem_map.mpr ⟨q, hq, rfl⟩)))))⟩ ?_ ?_ ?_⟩
    · rintro j σ H4 _ ⟨bs4, o, rfl, obj4, en4, br4, l4, ls4, bd4, kp4, in4⟩
      exact SqL.of l4
    · rintro j v σ H4 hv ⟨bs4, o, rfl, obj4, en4, br4, l4, ls4, bd4, kp4, in4⟩
      obtain ⟨y, hy, rfl⟩ := pick_i hv
      have ym : y ∈ SS ss := List.mem_of_getElem? hy
      have yW : y ∈ W := hW y (mem_SS.mp ym)
      have npre := nd_pre ndS hy
      have hl4 := bd4.len
      have hBF : B ∈ ftp E B rows bs := mem_ftp.mpr (.inr (.inl rfl))
      refine ⟨_, rfl, _, rfl, x, _, dx, _, _, rfl, obj4, T.c_Index, T.n_Index_bearers, flds_bea E B, B, _, rfl, DGet.k (k := Sum.inr y) br4, _, rfl, ?_⟩
      by_cases hyb : y ∈ bs4.map (·.1)
      · obtain ⟨d, hd⟩ := bd_find hyb
        have hvd : valV (brK bs4) (Sum.inr y) = some (V.ref d) := dG_some (r := ((y, d) : Str × Addr)) bd4.nd hd
        obtain ⟨ed, dE, dB, _, _⟩ := bd4.at_ _ hd
        have ed : H4 d = some (.dK (keysT (bfi (nwOf rows) nm ((SS ss).take j) y))) := ed
        rw [hvd]
        have nrep : ¬ nm ∈ bfi (nwOf rows) nm ((SS ss).take j) y := fun z => by
          unfold bfi at z
          rw [if_neg npre, List.append_nil] at z
          exact hnm (by rw [← nw_names]; exact bear_sub z)
        have lenb : (bfi (nwOf rows) nm ((SS ss).take j) y).length ≤ 40 := by
          unfold bfi
          rw [if_neg npre, List.append_nil]
          have := bear_len (nwOf rows) y
          rw [nw_len] at this
          omega
        refine iteF ⟨_, rfl, x, _, dx, _, _, rfl, obj4, T.c_Index, T.n_Index_bearers, flds_bea E B, _, rfl, B, _, rfl, (by rw [← hvd]; exact DGet.k (k := Sum.inr y) br4), _, rfl, d, _, rfl, DPut.k (k := Sum.inr nm) ed (by rw [keysT, List.length_map]; exact small1000 (by omega)), ?_⟩
        rw [put_keys nrep]
        have xd : x ≠ d := ne_of obj4 ed fun z => nomatch z
        have ld : l ≠ d := ne_of l4 ed fun z => nomatch z
        refine ⟨bs4, _, rfl, by rw [upd_ne xd]; exact obj4, by rw [upd_ne dE.symm]; exact en4, by rw [upd_ne dB.symm]; exact br4, by rw [upd_ne ld]; exact l4, fun r hr => by rw [upd_ne (ne_of (ls4 r hr) ed fun z => nomatch z)]; exact ls4 r hr, ?_, kp4.upd (in4 _ hd), in4⟩
        rw [take_one hy]
        exact (bd4.set hd (by simp) (fun q _ ne o e => by rw [upd_ne ne]; exact e) upd_same).congr (fun _ _ _ e => e) fun t => bfi_snoc npre t
      · have hvd : valV (brK bs4) (Sum.inr y) = none := dG_none hyb
        rw [hvd]
        refine iteT ?_
        intro d hd0
        have xd : x ≠ d := ne_of_none obj4 hd0
        have Ed : E ≠ d := ne_of_none en4 hd0
        have Bd : B ≠ d := ne_of_none br4 hd0
        have ld : l ≠ d := ne_of_none l4 hd0
        have xB : x ≠ B := ne_of obj4 br4 fun z => nomatch z
        have lB : l ≠ B := ne_of l4 br4 fun z => nomatch z
        have dn : d ∈ ftp E B rows bs ∨ H d = none := by
          cases e : H d with
          | none => exact .inr rfl
          | some o =>
            by_cases hin : d ∈ ftp E B rows bs
            · exact .inl hin
            · have := kp4 d o hin e
              rw [hd0] at this
              cases this
        refine ⟨_, rfl, x, _, dx, _, _, rfl, (by rw [upd_ne xd]; exact obj4), T.c_Index, T.n_Index_bearers, flds_bea E B, _, rfl, B, _, rfl, DPut.k (k := Sum.inr y) (by rw [upd_ne Bd]; exact br4) (by rw [dG_len]; exact small1000 (by omega)), ?_⟩
        rw [dG_put ((y, d) : Str × Addr) hyb rfl rfl]
        have nd5 : ((bs4 ++ [((y, d) : Str × Addr)]).map (·.1)).Nodup := by rw [List.map_append]; exact snoc_nodup bd4.nd hyb
        have hv5 : valV (brK (bs4 ++ [((y, d) : Str × Addr)])) (Sum.inr y) = some (V.ref d) := dG_some (r := ((y, d) : Str × Addr)) nd5 (List.mem_append_right _ List.mem_cons_self)
        have br5 : (upd (upd H4 d (.dK [])) B (.dK (brK (bs4 ++ [((y, d) : Str × Addr)])))) B = some (.dK (brK (bs4 ++ [((y, d) : Str × Addr)]))) := upd_same
        have d5 : (upd (upd H4 d (.dK [])) B (.dK (brK (bs4 ++ [((y, d) : Str × Addr)])))) d = some (.dK []) := by rw [upd_ne Bd.symm]; exact upd_same
        refine ⟨_, rfl, x, _, dx, _, _, rfl, (by rw [upd_ne xB, upd_ne xd]; exact obj4), T.c_Index, T.n_Index_bearers, flds_bea E B, _, rfl, B, _, rfl, (by rw [← hv5]; exact DGet.k (k := Sum.inr y) br5), _, rfl, d, _, rfl, DPut.k (k := Sum.inr nm) d5 (by decide), ?_⟩
        have ek : putK ([] : List (Key × V)) (Sum.inr nm) (.bl true) = keysT [nm] := rfl
        rw [ek]
        have e0 : bfi (nwOf rows) nm ((SS ss).take j) y = [] := bd4.no_ y hyb
        refine ⟨bs4 ++ [((y, d) : Str × Addr)], _, rfl, by rw [upd_ne xd, upd_ne xB, upd_ne xd]; exact obj4, by rw [upd_ne Ed, upd_ne i.eb, upd_ne Ed]; exact en4, by rw [upd_ne Bd]; exact upd_same, by rw [upd_ne ld, upd_ne lB, upd_ne ld]; exact l4, fun r hr => ?_, ?_, ((kp4.upd dn).upd (.inl hBF)).upd dn, fun q hq => ?_⟩
        · rw [upd_ne (ne_of_none (ls4 r hr) hd0), upd_ne (ne_of (ls4 r hr) br4 fun z => nomatch z), upd_ne (ne_of_none (ls4 r hr) hd0)]
          exact ls4 r hr
        · rw [take_one hy]
          refine (bd4.new (p := d) (ys := bfi (nwOf rows) nm ((SS ss).take j) y ++ [nm]) hyb (fun z => ?_) Ed.symm Bd.symm yW (by simp) (fun q hq o e => ?_) ?_).congr (fun _ _ _ e => e) fun t => bfi_snoc npre t
          · obtain ⟨q, hq, eq⟩ := List.mem_map.mp z
            have := (bd4.at_ q hq).1
            rw [eq, hd0] at this
            cases this
          · rw [upd_ne (ne_of_none e hd0), upd_ne (bd4.at_ q hq).2.2.1, upd_ne (ne_of_none e hd0)]
            exact e
          · rw [e0, upd_same]; rfl
        · rcases List.mem_append.mp hq with z | z
          · exact in4 q z
          · rw [List.mem_singleton.mp z]; exact dn
    · rintro σ H4 ⟨bs4, o, rfl, obj4, en4, br4, l4, ls4, bd4, kp4, in4⟩
      rw [List.length_map, List.take_length] at bd4
      refine k H4 (ftp E B (rows ++ [((nm, l, SS ss) : IRow)]) bs4) ⟨dx, E, B, rows ++ [((nm, l, SS ss) : IRow)], bs4, ⟨obj4, en4, br4, i.eb, fun r hr => ?_, nd3, by rw [List.length_append, List.length_singleton]; omega, i.wf, bd4.congr (fun _ _ _ e => e) fun t => ?_⟩, nw_snoc _ _, ?_, rfl⟩ kp4 fun c hc => ?_
      · rcases List.mem_append.mp hr with z | z
        · exact ⟨ls4 r z, (i.ls r z).2⟩
        · rw [List.mem_singleton.mp z]
          exact ⟨l4, SS_idem ss, fun y hy => hW y (mem_SS.mp hy)⟩
      · rw [nw_snoc]
        exact bear_snoc _ _ _ _
      · rw [List.length_append, List.length_singleton, nw_len]; omega
      · rcases mem_ftp.mp hc with z | z | z | z
        · exact .inl (mem_ftp.mpr (.inl z))
        · exact .inl (mem_ftp.mpr (.inr (.inl z)))
        · obtain ⟨q, hq, rfl⟩ := List.mem_map.mp z
          exact in4 q hq
        · rw [List.map_append] at z
          rcases List.mem_append.mp z with y | y
          · exact .inl (mem_ftp.mpr (.inr (.inr (.inr y))))
          · rw [List.mem_singleton.mp y]; exact .inr l0
end
section
variable {P : Program} {w : World} {K : PySem.W.Frag} {mg : Str → Option Value} {base : Heap} {a : Adr}
theorem ok_itake {fd : FuncData} (F : Fun K "take_out" "Index.take_out" sIndex_take_out a.f_Index_take_out fd) (T : Txt K mg a) (FF : Funs K a) : FnOk P w K mg base CX0 2 a.f_Index_take_out fd ["self", "name"] (spITake a) := by
  obtain ⟨fdC, F_check_there, b_check_there⟩ := FF.F_check_there
  have G_check_there : FnOk P w K mg base CX0 1 a.f_check_there fdC ["name", "there"] spThereD := ok_there F_check_there T
  refine F.ok sc_Index_take_out (fun vs H Q E h => ?_) (fun cdv A outer st H vs Q E hr h => ?_)
  · obtain ⟨x, R, W, n, F, nm, rfl, _⟩ := h; rfl
  · obtain ⟨x, R, W, n, F, nm, rfl, ⟨dx, E, B, rows, bs, i, rfl, hRn, rfl⟩, hm, k⟩ := h
    have hu := hu_of hr
    have hr_check_there : Room 1 _ := hr
    obtain ⟨r0, hr0, e0⟩ := List.mem_map.mp hm
    obtain ⟨nm0, ws⟩ := r0
    obtain rfl : nm0 = nm := e0
    obtain ⟨l, hl⟩ := nw_find hr0
    have hnd : ((nwOf rows).map (·.1)).Nodup := by rw [nw_names]; exact i.nd
    have hv0 : valV (entK rows) (Sum.inr nm0) = some (V.ref l) := dG_some (r := ((nm0, l, ws) : IRow)) i.nd hl
    obtain ⟨el, eS, eW⟩ := i.ls _ hl
    have eS : SS ws = ws := eS
    refine ⟨_, (pss_cons (ps_expr (pe_call G_check_there hr_check_there rfl T.m_check_there F_check_there.kp b_check_there .nil pass0 (pac (pv 1) (pac (pe_fld (pv 0) rfl) pa_nil))))
        (pss_cons (ps_set (i := 2) sc_Index_take_out.nd rfl (Or.inl rfl) (pe_dpop1 (pe_fld (pv 0) rfl) (pv 1) ⟨rfl, rfl, rfl, rfl⟩))
        (pss_one (ps_for PassesOwn.never rfl (pi_list (pv 2)) (pg_name (i := 3) sc_Index_take_out.nd rfl (Or.inl rfl)) (pss_cons (ps_expr (pe_dpop1 (pe_dget hu (pe_fld (pv 0) rfl) (pv 3) (fun _ _ => rfl)) (pv 1) ⟨rfl, rfl, rfl, rfl⟩))
        (pss_one (ps_if (pt_not (pt_truth (pe_dget hu (pe_fld (pv 0) rfl) (pv 3) (fun _ _ => rfl)) (fun _ => rfl))) (pss_one (ps_expr (pe_dpop1 (pe_fld (pv 0) rfl) (pv 3) ⟨rfl, rfl, rfl, rfl⟩))) pss_nil))))))), ?_⟩
    refine ⟨_, rfl, _, rfl, x, _, dx, _, _, rfl, i.obj, T.c_Index, T.n_Index_entries, flds_ent E B, nm0, E, _, _, rfl, i.en, hv0, ?_⟩
    refine ⟨_, rfl, x, _, dx, _, _, rfl, i.obj, T.c_Index, T.n_Index_entries, flds_ent E B, E, rfl, .inl ⟨_, .inl i.en⟩, _, rfl, _, Sum.inr nm0, .ref l, i.en, rfl, hv0, ?_⟩
    rw [dG_drop]
    have xE : x ≠ E := ne_of i.obj i.en fun z => nomatch z
    have obj3 : (upd H E (.dK (entK (rows.filter fun r => decide (r.1 ≠ nm0))))) x = some (.ins a.C_Index dx [("entries", .ref E), ("bearers", .ref B)]) := by rw [upd_ne xE]; exact i.obj
    have en3 : (upd H E (.dK (entK (rows.filter fun r => decide (r.1 ≠ nm0))))) E = some (.dK (entK (rows.filter fun r => decide (r.1 ≠ nm0)))) := upd_same
    have br3 : (upd H E (.dK (entK (rows.filter fun r => decide (r.1 ≠ nm0))))) B = some (.dK (brK bs)) := by rw [upd_ne i.eb.symm]; exact i.br
    have ls3 : ∀ r ∈ rows, (upd H E (.dK (entK (rows.filter fun r => decide (r.1 ≠ nm0))))) r.2.1 = some (.lst (r.2.2.map V.str)) := fun r hr => by
      rw [upd_ne (ne_of (i.ls r hr).1 i.en fun z => nomatch z)]; exact (i.ls r hr).1
    have bd3 : BD (upd H E (.dK (entK (rows.filter fun r => decide (r.1 ≠ nm0))))) E B bs (bft (nwOf rows) nm0 []) W := i.bd.congr (fun q hq o e => by rw [upd_ne (i.bd.at_ q hq).2.1]; exact e) fun t => if_neg fun z => nomatch z
    have kp3 : KpF (ftp E B rows bs) H (upd H E (.dK (entK (rows.filter fun r => decide (r.1 ≠ nm0))))) := KpF.upd (fun c o _ e => e) (.inl (mem_ftp.mpr (.inl rfl)))
    show tSeq _ _ _ _ (upd H E (.dK (entK (rows.filter fun r => decide (r.1 ≠ nm0)))))
    generalize upd H E (.dK (entK (rows.filter fun r => decide (r.1 ≠ nm0)))) = H3 at obj3 en3 br3 ls3 bd3 kp3
    have ndS : ws.Nodup := by rw [← eS]; exact SS_nd ws
    refine ⟨_, rfl, l, rfl, ⟨_, SqL.of (ls3 _ hl)⟩, for_list (K := K) (a := l) (xs := ws.map V.str)
      (fun j σ H4 => ∃ (bs4 : List (Str × Addr)) (o : Option V), σ = [some (.ref x), some (.str nm0), some (.ref l), o] ∧ H4 x = some (.ins a.C_Index dx [("entries", .ref E), ("bearers", .ref B)]) ∧ H4 E = some (.dK (entK (rows.filter fun r => decide (r.1 ≠ nm0)))) ∧ H4 B = some (.dK (brK bs4)) ∧
        (∀ r ∈ rows, H4 r.2.1 = some (.lst (r.2.2.map V.str))) ∧ BD H4 E B bs4 (bft (nwOf rows) nm0 (ws.take j)) W ∧ KpF (ftp E B rows bs) H H4 ∧ (∀ q ∈ bs4, q ∈ bs))
      ⟨bs, none, rfl, obj3, en3, br3, ls3, by rw [List.take_zero]; exact bd3, kp3, fun q hq => hq⟩ ?_ ?_ ?_⟩
    · rintro j σ H4 _ ⟨bs4, o, rfl, obj4, en4, br4, ls4, bd4, kp4, in4⟩
      exact SqL.of (ls4 _ hl)
    · rintro j v σ H4 hv ⟨bs4, o, rfl, obj4, en4, br4, ls4, bd4, kp4, in4⟩
      obtain ⟨y, hy, rfl⟩ := pick_i hv
      have ym : y ∈ ws := List.mem_of_getElem? hy
      have npre := nd_pre ndS hy
      have hbe : bft (nwOf rows) nm0 (ws.take j) y = bear (nwOf rows) y := if_neg npre
      have hin : nm0 ∈ bear (nwOf rows) y := bear_mem.mpr ⟨ws, hr0, ym⟩
      have hyb : y ∈ bs4.map (·.1) := Classical.byContradiction fun z => by
        have := bd4.no_ y z
        rw [hbe] at this
        rw [this] at hin
        cases hin
      obtain ⟨d, hd⟩ := bd_find hyb
      have hvd : valV (brK bs4) (Sum.inr y) = some (V.ref d) := dG_some (r := ((y, d) : Str × Addr)) bd4.nd hd
      obtain ⟨ed, dE, dB, _, _⟩ := bd4.at_ _ hd
      have ed : H4 d = some (.dK (keysT (bear (nwOf rows) y))) := by rw [ed]; show some (HO.dK (keysT (bft (nwOf rows) nm0 (ws.take j) y))) = _; rw [hbe]
      have xd : x ≠ d := ne_of obj4 ed fun z => nomatch z
      have xB : x ≠ B := ne_of obj4 br4 fun z => nomatch z
      have hdF : d ∈ ftp E B rows bs := mem_ftp.mpr (.inr (.inr (.inl (List.mem_map.mpr ⟨_, in4 _ hd, rfl⟩))))
      have hBF : B ∈ ftp E B rows bs := mem_ftp.mpr (.inr (.inl rfl))
      refine ⟨_, rfl, x, _, dx, _, _, rfl, obj4, T.c_Index, T.n_Index_bearers, flds_bea E B, _, rfl, B, _, rfl, (by rw [← hvd]; exact DGet.k (k := Sum.inr y) br4), d, rfl, .inl ⟨_, .inl ed⟩, _, rfl, _, Sum.inr nm0, .bl true, ed, rfl, (by rw [val_keys, if_pos hin]), ?_⟩
      rw [drop_keys]
      have obj5 : (upd H4 d (.dK (keysT ((bear (nwOf rows) y).filter fun m => decide (m ≠ nm0))))) x = some (.ins a.C_Index dx [("entries", .ref E), ("bearers", .ref B)]) := by rw [upd_ne xd]; exact obj4
      have en5 : (upd H4 d (.dK (keysT ((bear (nwOf rows) y).filter fun m => decide (m ≠ nm0))))) E = some (.dK (entK (rows.filter fun r => decide (r.1 ≠ nm0)))) := by rw [upd_ne dE.symm]; exact en4
      have br5 : (upd H4 d (.dK (keysT ((bear (nwOf rows) y).filter fun m => decide (m ≠ nm0))))) B = some (.dK (brK bs4)) := by rw [upd_ne dB.symm]; exact br4
      have d5 : (upd H4 d (.dK (keysT ((bear (nwOf rows) y).filter fun m => decide (m ≠ nm0))))) d = some (.dK (keysT ((bear (nwOf rows) y).filter fun m => decide (m ≠ nm0)))) := upd_same
      have ls5 : ∀ r ∈ rows, (upd H4 d (.dK (keysT ((bear (nwOf rows) y).filter fun m => decide (m ≠ nm0))))) r.2.1 = some (.lst (r.2.2.map V.str)) := fun r hr => by rw [upd_ne (ne_of (ls4 r hr) ed fun z => nomatch z)]; exact ls4 r hr
      have kp5 : KpF (ftp E B rows bs) H (upd H4 d (.dK (keysT ((bear (nwOf rows) y).filter fun m => decide (m ≠ nm0))))) := kp4.upd (.inl hdF)
      have ot5 : ∀ q ∈ bs4, q.2 ≠ d → ∀ o, H4 q.2 = some o → (upd H4 d (.dK (keysT ((bear (nwOf rows) y).filter fun m => decide (m ≠ nm0))))) q.2 = some o := fun q _ ne o e => by rw [upd_ne ne]; exact e
      show tSeq _ _ _ _ (upd H4 d (.dK (keysT ((bear (nwOf rows) y).filter fun m => decide (m ≠ nm0)))))
      generalize upd H4 d (.dK (keysT ((bear (nwOf rows) y).filter fun m => decide (m ≠ nm0)))) = H5 at obj5 en5 br5 d5 ls5 kp5 ot5
      refine ⟨_, rfl, x, _, dx, _, _, rfl, obj5, T.c_Index, T.n_Index_bearers, flds_bea E B, _, rfl, B, .ref d, rfl, (by rw [← hvd]; exact DGet.k (k := Sum.inr y) br5), !(keysT ((bear (nwOf rows) y).filter fun m => decide (m ≠ nm0))).isEmpty, Or.inr (Or.inr ⟨_, d5, rfl⟩), ?_⟩
      cases hys : (bear (nwOf rows) y).filter fun m => decide (m ≠ nm0) with
      | cons z zs =>
        refine iteF ⟨bs4, _, rfl, obj5, en5, br5, ls5, ?_, kp5, in4⟩
        rw [take_one hy]
        rw [hys] at d5
        refine (bd4.set hd (ys := z :: zs) (by simp) ot5 d5).congr (fun _ _ _ e => e) fun t => ?_
        rw [bft_snoc, hys]
      | nil =>
        refine iteT ⟨_, rfl, x, _, dx, _, _, rfl, obj5, T.c_Index, T.n_Index_bearers, flds_bea E B, B, rfl, .inl ⟨_, .inl br5⟩, _, rfl, _, Sum.inr y, .ref d, br5, rfl, hvd, ?_⟩
        rw [dG_drop]
        refine ⟨bs4.filter fun r => decide (r.1 ≠ y), _, rfl, by rw [upd_ne xB]; exact obj5, by rw [upd_ne i.eb]; exact en5, upd_same, fun r hr => by rw [upd_ne (ne_of (ls5 r hr) br5 fun z => nomatch z)]; exact ls5 r hr, ?_, kp5.upd (.inl hBF), fun q hq => in4 q (List.mem_filter.mp hq).1⟩
        rw [take_one hy]
        refine (bd4.del hd fun q hq ne o e => ?_).congr (fun _ _ _ e => e) fun t => ?_
        · rw [upd_ne (bd4.at_ q hq).2.2.1]; exact ot5 q hq ne o e
        · rw [bft_snoc, hys]
    · rintro σ H4 ⟨bs4, o, rfl, obj4, en4, br4, ls4, bd4, kp4, in4⟩
      rw [List.length_map, List.take_length] at bd4
      have hfl : (rows.filter fun r => decide (r.1 ≠ nm0)).length ≤ rows.length := List.length_filter_le _ _
      have hfew := i.few
      rw [nw_len] at hRn
      refine k H4 (ftp E B (rows.filter fun r => decide (r.1 ≠ nm0)) bs4) ⟨dx, E, B, _, bs4, ⟨obj4, en4, br4, i.eb, fun r hr => ⟨ls4 r (List.mem_filter.mp hr).1, (i.ls r (List.mem_filter.mp hr).1).2⟩, i.nd.sublist (List.filter_sublist.map _), by omega, i.wf, bd4.congr (fun _ _ _ e => e) fun t => ?_⟩, nw_noN _ _, by rw [← nw_noN, nw_len]; omega, rfl⟩ kp4 fun c hc => ?_
      · rw [nw_noN, bear_noN]
        by_cases ht : t ∈ ws
        · exact (if_pos ht).symm
        · have e : bft (nwOf rows) nm0 ws t = bear (nwOf rows) t := if_neg ht
          rw [e]
          refine List.filter_eq_self.mpr fun m hm => decide_eq_true fun z => ht ?_
          obtain ⟨ws2, h1, h2⟩ := bear_mem.mp hm
          rw [z] at h1
          rw [nw_one hnd hr0 h1]
          exact h2
      · rcases mem_ftp.mp hc with z | z | z | z
        · exact mem_ftp.mpr (.inl z)
        · exact mem_ftp.mpr (.inr (.inl z))
        · obtain ⟨q, hq, rfl⟩ := List.mem_map.mp z
          exact mem_ftp.mpr (.inr (.inr (.inl (List.mem_map.mpr ⟨q, in4 q hq, rfl⟩))))
        · obtain ⟨q, hq, rfl⟩ := List.mem_map.mp z
          exact mem_ftp.mpr (.inr (.inr (.inr (List.mem_map.mpr ⟨q, (List.mem_filter.mp hq).1, rfl⟩))))
end
def spDraws (K : PySem.W.Frag) : Sp := fun vs H Q _ => ∃ (a : Addr) (ns : List Int) (n : Nat), vs = [.ref a, .int n] ∧ SqL K H a (ns.map V.int) ∧ n ≤ 1000 ∧
  ∀ (p : Addr) (rs : List Int) (H' : Hp), rs.length = n → (∀ r ∈ rs, 0 ≤ r ∧ r < 2147483629) → Same H H' → H' p = some (.lst (rs.map V.int)) → Q (.ref p) H'
theorem ok_draws {P : Program} {w : World} {K : PySem.W.Frag} {mg : Str → Option Value} {base : Heap} {a : Adr} {fd : FuncData} (F : Fun K "_law_draws" "_law_draws" sl_draws a.f_l_draws fd) (T : Txt K mg a) : FnOk P w K mg base CX0 1 a.f_l_draws fd ["_law_script", "_law_many"] (spDraws K) := by
  refine F.ok sc_l_draws (fun vs H Q E h => ?_) (fun cdv A outer s H vs Q E hr h => ?_)
  · obtain ⟨x, ns, n, rfl, _⟩ := h; rfl
  · obtain ⟨q, ns, n, rfl, hS, hn, k⟩ := h
    refine ⟨_, (pss_cons (ps_set (i := 2) sc_l_draws.nd rfl (Or.inl rfl) (pe_lstS pas_nil))
        (pss_cons (ps_set (i := 3) sc_l_draws.nd rfl (Or.inl rfl) pe_int)
        (pss_cons (ps_for PassesOwn.never rfl (pi_range1 rfl T.b_range (pac (pv 1) pa_nil)) (pg_name (i := 4) sc_l_draws.nd rfl (Or.inl rfl)) (pss_cons (ps_set (i := 5) sc_l_draws.nd rfl (Or.inl rfl) pe_int)
        (pss_cons (ps_if (pt_cmpR op_gt (pe_callB call_len_seq rfl T.b_len PySem.boot_len (pac (pv 0) pa_nil)) pe_int (nomark _)) (pss_one (ps_set (i := 5) sc_l_draws.nd rfl (Or.inl rfl) (pe_ix ix_list (pv 0) (pe_op op_mod (pv 4) (pe_callB call_len_seq rfl T.b_len PySem.boot_len (pac (pv 0) pa_nil))) (fun _ _ => rfl)))) pss_nil)
        (pss_cons (ps_set (i := 3) sc_l_draws.nd rfl (Or.inl rfl) (pe_op op_mod (pe_op op_add (pe_op op_add (pe_op op_add (pe_op op_mul (pv 3) pe_int) (pv 5)) (pv 4)) pe_int) pe_int))
        (pss_one (ps_expr (pe_bm PySem.F.plainAttrs_list PySem.F.slot_list_append PySem.F.type_list_append mt_append (pv 2) (pac (pe_op op_mod (pe_op op_mul (pv 3) (pv 3)) pe_int) pa_nil))))))))
        (pss_one (ps_ret (pv 2)))))), ?_⟩
    refine ⟨Nat.zero_le _, fun p hp => ?_⟩
    refine ⟨_, rfl, (n : Int), rfl, by omega, by omega, for_range (n := (n : Int).toNat) (fun i σ H2 => ∃ (rs : List Int) (more : Int) (c1 c2 : Option V), σ = [some (.ref q), some (.int n), some (.ref p), some (.int more), c1, c2] ∧ 0 ≤ more ∧ more < 2147483647 ∧
      rs.length = i ∧ (∀ r ∈ rs, 0 ≤ r ∧ r < 2147483629) ∧ H2 p = some (.lst (rs.map V.int)) ∧ Same H H2)
      ⟨[], 7, none, none, rfl, by decide, by decide, rfl, (fun _ h => nomatch h), upd_same, Same.upd_new hp⟩ ?_ ?_⟩
    · rintro i σ H2 hi ⟨rs, more, c1, c2, rfl, h0, h1, hl, hb, hp2, hs⟩
      have hS2 := hs.seq hS
      have hin : i < n := by omega
      have rest : ∀ z : Int, ∃ x : V, ([some (.ref q), some (.int n), some (.ref p), some (.int more), some (.int (0 + (i : Int))), some (.int z)] : St)[3]? = some (some x) ∧ True := fun z => ⟨_, rfl, trivial⟩
      refine ⟨_, rfl, q, _, rfl, .inl hS2, _, _, rfl, rfl, _, rfl, ?_⟩
      refine ite2 (fun hpos => ?_) (fun hneg => ?_)
      · have hpos' : 0 < (ns.map V.int).length := by simpa using hpos
        obtain ⟨v, hv, hm, _⟩ := atI_mod (xs := ns.map V.int) (0 + (i : Int)) hpos'
        obtain ⟨z, rfl, _⟩ := mem_map_int hm
        refine ⟨_, rfl, _, rfl, _, rfl, q, _, rfl, .inl hS2, _, _, rfl, rfl, (by omega), q, _, _, _, rfl, rfl, hS2, hv, ?_⟩
        refine ⟨_, rfl, _, _, rfl, rfl, .inl ⟨by omega, by omega⟩, _, rfl, _, _, rfl, rfl, _, rfl, _, _, rfl, rfl, _, _, rfl, rfl, _, _, rfl, rfl, (by show (0 : Int) < 2147483647; decide), ?_⟩
        have b0 : 0 ≤ (more * 48271 + z + (0 + (i : Int)) + 1) % 2147483647 := Int.emod_nonneg _ (by decide)
        have b1 : (more * 48271 + z + (0 + (i : Int)) + 1) % 2147483647 < 2147483647 := Int.emod_lt_of_pos _ (by decide)
        refine ⟨_, rfl, .inl ⟨rfl, _, SqL.of hp2⟩, _, rfl, _, rfl, _, _, rfl, rfl, .inl ⟨by omega, by omega⟩, _, _, rfl, rfl, (by show (0 : Int) < 2147483629; decide), p, _, _, rfl, rfl, hp2, (by rw [List.length_map]; exact small1000 (by omega)), ?_⟩
        refine ⟨rs ++ [_], _, _, _, rfl, b0, b1, by rw [List.length_append, hl]; rfl, fun r hr => ?_, by rw [List.map_append]; exact upd_same, hs.upd_of hp⟩
        rcases List.mem_append.mp hr with hr | hr
        · exact hb r hr
        · rw [List.mem_singleton.mp hr]
          exact ⟨Int.emod_nonneg _ (by decide), Int.emod_lt_of_pos _ (by decide)⟩
      · refine ⟨_, rfl, _, _, rfl, rfl, .inl ⟨by omega, by omega⟩, _, rfl, _, _, rfl, rfl, _, rfl, _, _, rfl, rfl, _, _, rfl, rfl, _, _, rfl, rfl, (by show (0 : Int) < 2147483647; decide), ?_⟩
        have b0 : 0 ≤ (more * 48271 + 0 + (0 + (i : Int)) + 1) % 2147483647 := Int.emod_nonneg _ (by decide)
        have b1 : (more * 48271 + 0 + (0 + (i : Int)) + 1) % 2147483647 < 2147483647 := Int.emod_lt_of_pos _ (by decide)
        refine ⟨_, rfl, .inl ⟨rfl, _, SqL.of hp2⟩, _, rfl, _, rfl, _, _, rfl, rfl, .inl ⟨by omega, by omega⟩, _, _, rfl, rfl, (by show (0 : Int) < 2147483629; decide), p, _, _, rfl, rfl, hp2, (by rw [List.length_map]; exact small1000 (by omega)), ?_⟩
        refine ⟨rs ++ [_], _, _, _, rfl, b0, b1, by rw [List.length_append, hl]; rfl, fun r hr => ?_, by rw [List.map_append]; exact upd_same, hs.upd_of hp⟩
        rcases List.mem_append.mp hr with hr | hr
        · exact hb r hr
        · rw [List.mem_singleton.mp hr]
          exact ⟨Int.emod_nonneg _ (by decide), Int.emod_lt_of_pos _ (by decide)⟩
    · rintro σ H2 ⟨rs, more, c1, c2, rfl, h0, h1, hl, hb, hp2, hs⟩
      refine ⟨_, rfl, k p rs H2 (by omega) hb hs hp2⟩
def spNameBy : Sp := fun vs H Q _ => ∃ (b k : Int), vs = [.int b, .int k] ∧ 0 ≤ b ∧ b < 2147483629 ∧ 0 ≤ k ∧ k ≤ 100 ∧ ∀ x : Str, WordS x → Q (.str x) H
def spPool (K : PySem.W.Frag) : Sp := fun vs H Q _ => ∃ (a : Addr) (rs : List Int), vs = [.ref a] ∧ H a = some (.lst (rs.map V.int)) ∧ 2 ≤ rs.length ∧ (∀ r ∈ rs, 0 ≤ r ∧ r < 2147483629) ∧
  ∀ (p : Addr) (ws : List Str) (H' : Hp), 2 ≤ ws.length → ws.length ≤ 10 → (∀ x ∈ ws, WordS x) → Same H H' → H' p = some (.lst (ws.map V.str)) → Q (.ref p) H'
def spIsList : Sp := fun vs H Q _ => ∃ (f d : Addr) (xs : List Str), vs = [.ref f, .ref d] ∧ H f = some (.lst (xs.map V.str)) ∧ H d = some (.lst (xs.map V.str)) ∧ (∀ x ∈ xs, Asc x) ∧ xs.length ≤ 900 ∧ ∀ H', Same H H' → Q (.bl true) H'
section
variable {P : Program} {w : World} {K : PySem.W.Frag} {mg : Str → Option Value} {base : Heap} {a : Adr}
theorem ok_nameby {fd : FuncData} (F : Fun K "_law_name_by" "_law_name_by" sl_name_by a.f_l_name_by fd) (T : Txt K mg a) : FnOk P w K mg base CX0 1 a.f_l_name_by fd ["_law_shape", "_law_k"] spNameBy := by
  refine F.ok sc_l_name_by (fun vs H Q E h => ?_) (fun cdv A outer s H vs Q E hr h => ?_)
  · obtain ⟨b, k, rfl, _⟩ := h; rfl
  · obtain ⟨b, kk, rfl, hb0, hb1, hk0, hk1, k⟩ := h
    have h36 := aZ_len
    have pick : ∀ z : Int, ∃ c, atI aZ.cps.toList (z % 36) = some c ∧ c ∈ aZ.cps.toList := fun z => pick_sign (Int.emod_nonneg _ (by decide)) (by rw [h36]; exact Int.emod_lt_of_pos _ (by decide))
    refine ⟨_, (pss_cons (ps_set (i := 2) sc_l_name_by.nd rfl (Or.inl rfl) pe_str)
        (pss_cons (ps_if (pt_cmpR op_eq (pe_op op_mod (pv 0) pe_int) pe_int (nomark _)) (pss_one (ps_ret (pe_op op_mul_str (pe_ix ix_str (pv 2) (pe_op op_mod (pe_op op_add (pe_op op_fdiv (pv 0) pe_int) (pe_op op_fdiv (pv 1) pe_int)) pe_int) (fun _ _ => rfl)) (pe_op op_add pe_int (pe_op op_mod (pv 1) pe_int))))) pss_nil)
        (pss_cons (ps_set (i := 3) sc_l_name_by.nd rfl (Or.inl rfl) (pe_op op_mod (pe_op op_fdiv (pv 0) pe_int) pe_int))
        (pss_cons (ps_set (i := 4) sc_l_name_by.nd rfl (Or.inl rfl) pe_str)
        (pss_cons (ps_for PassesOwn.never rfl (pi_range1 rfl T.b_range (pac (pe_op op_add (pe_op op_add (pv 3) pe_int) (pe_op op_mod (pe_op op_fdiv (pv 0) pe_int) (pe_op op_sub pe_int (pv 3)))) pa_nil)) (pg_name (i := 5) sc_l_name_by.nd rfl (Or.inl rfl)) (pss_one (ps_if (pt_cmpR op_eq (pv 5) (pv 3) (nomark _)) (pss_one (ps_set (i := 4) sc_l_name_by.nd rfl (Or.inl rfl) (pe_op op_add_str (pv 4) (pe_ix ix_str (pv 2) (pe_op op_mod (pe_op op_add (pe_op op_fdiv (pv 0) pe_int) (pe_op op_fdiv (pv 1) pe_int)) pe_int) (fun _ _ => rfl))))) (pss_one (ps_if (pt_cmpR op_eq (pv 5) (pe_op op_add (pv 3) pe_int) (nomark _)) (pss_one (ps_set (i := 4) sc_l_name_by.nd rfl (Or.inl rfl) (pe_op op_add_str (pv 4) (pe_ix ix_str (pv 2) (pe_op op_mod (pe_op op_add (pe_op op_fdiv (pv 0) pe_int) (pv 1)) pe_int) (fun _ _ => rfl))))) (pss_one (ps_set (i := 4) sc_l_name_by.nd rfl (Or.inl rfl) (pe_op op_add_str (pv 4) (pe_ix ix_str (pv 2) (pe_op op_mod (pe_op op_add (pe_op op_fdiv (pv 0) pe_int) (pe_op op_mul (pv 5) (pe_op op_add pe_int (pe_op op_mod (pv 0) pe_int)))) pe_int) (fun _ _ => rfl))))))))))
        (pss_one (ps_ret (pv 4)))))))), ?_⟩
    refine ⟨_, rfl, _, _, rfl, rfl, (by show (0 : Int) < 4; decide), rfl, _, rfl, ?_⟩
    refine ite2 (fun _ => ?_) (fun _ => ?_)
    · obtain ⟨c, hc, hcm⟩ := pick (b / 4 + kk / 20)
      have m0 : 0 ≤ kk % 20 := Int.emod_nonneg _ (by decide)
      have m1 : kk % 20 < 20 := Int.emod_lt_of_pos _ (by decide)
      refine ⟨_, rfl, _, rfl, _, _, rfl, rfl, ⟨by decide, by decide⟩, _, rfl, _, _, rfl, rfl, ⟨by decide, by decide⟩, _, _, rfl, rfl, _, _, rfl, rfl, (by show (0 : Int) < 36; decide), aZ, _, c, rfl, rfl, aZ_small, hc, ?_⟩
      refine ⟨_, rfl, _, _, rfl, rfl, (by show (0 : Int) < 20; decide), _, _, rfl, rfl, _, _, rfl, rfl, (by rw [one_len]; decide), by omega, by omega, ?_⟩
      have hl := mul_len (⟨#[c]⟩ : Str) (1 + kk % 20)
      rw [one_len, Nat.mul_one] at hl
      refine k _ ⟨by omega, by omega, fun d hd => ?_⟩
      have := mul_mem hd
      have e : d = c := by simpa using this
      rw [e]; exact hcm
    · have p0 : 0 ≤ b / 4 % 18 := Int.emod_nonneg _ (by decide)
      have p1 : b / 4 % 18 < 18 := Int.emod_lt_of_pos _ (by decide)
      have m0 : 0 ≤ b / 72 % (19 - b / 4 % 18) := Int.emod_nonneg _ (by omega)
      have m1 : b / 72 % (19 - b / 4 % 18) < 19 - b / 4 % 18 := Int.emod_lt_of_pos _ (by omega)
      have q7 : 0 ≤ b % 7 := Int.emod_nonneg _ (by decide)
      have q8 : b % 7 < 7 := Int.emod_lt_of_pos _ (by decide)
      refine ⟨_, rfl, _, _, rfl, rfl, ⟨by decide, by decide⟩, _, _, rfl, rfl, (by show (0 : Int) < 18; decide), ?_⟩
      refine ⟨_, rfl, _, _, rfl, rfl, _, rfl, _, _, rfl, rfl, ⟨by decide, by decide⟩, _, rfl, _, _, rfl, rfl, _, _, rfl, rfl, (by show (0 : Int) < 19 - b / 4 % 18; omega), _, _, rfl, rfl, _, rfl, by omega, by omega, for_range (n := (b / 4 % 18 + 2 + b / 72 % (19 - b / 4 % 18)).toNat) (fun i σ H2 => ∃ (y : Str) (o : Option V), σ = [some (.int b), some (.int kk), some (.str aZ), some (.int (b / 4 % 18)), some (.str y), o] ∧ y.length = i ∧ (∀ c ∈ y.cps.toList, c ∈ aZ.cps.toList) ∧ H2 = H)
        ⟨"", none, rfl, empty_len, (fun c hc => by rw [show ("" : Str).cps.toList = [] by decide +kernel] at hc; cases hc), rfl⟩ ?_ ?_⟩
      · rintro i σ H2 hi ⟨y, o, rfl, hy, hyc, rfl⟩
        have fit : ∀ c : Nat, y.length + (⟨#[c]⟩ : Str).length ≤ sizeLine := fun c => Nat.le_of_lt (small1000 (by rw [one_len]; omega))
        have step : ∀ c : Nat, c ∈ aZ.cps.toList → ∃ (y1 : Str) (o : Option V), ([some (.int b), some (.int kk), some (.str aZ), some (.int (b / 4 % 18)), some (.str (y ++ ⟨#[c]⟩)), some (.int (0 + (i : Int)))] : St) = [some (.int b), some (.int kk), some (.str aZ), some (.int (b / 4 % 18)), some (.str y1), o] ∧ y1.length = i + 1 ∧ (∀ c ∈ y1.cps.toList, c ∈ aZ.cps.toList) ∧ H2 = H2 := fun c hc =>
          ⟨_, _, rfl, by rw [cat_len, one_len, hy], fun d hd => by
            rw [cat_list] at hd
            rcases List.mem_append.mp hd with z | z
            · exact hyc d z
            · have e : d = c := by simpa using z
              rw [e]; exact hc, rfl⟩
        refine ⟨_, rfl, _, rfl, rfl, _, rfl, ?_⟩
        refine ite2 (fun _ => ?_) (fun _ => ?_)
        · obtain ⟨c, hc, hcm⟩ := pick (b / 1368 + kk / 36)
          exact ⟨_, rfl, _, rfl, _, rfl, _, _, rfl, rfl, ⟨by decide, by decide⟩, _, rfl, _, _, rfl, rfl, ⟨by decide, by decide⟩, _, _, rfl, rfl, _, _, rfl, rfl, (by show (0 : Int) < 36; decide), aZ, _, c, rfl, rfl, aZ_small, hc, _, _, rfl, rfl, fit c, step c hcm⟩
        · refine ⟨_, rfl, _, rfl, _, _, rfl, rfl, rfl, _, rfl, ?_⟩
          refine ite2 (fun _ => ?_) (fun _ => ?_)
          · obtain ⟨c, hc, hcm⟩ := pick (b / 49248 + kk)
            exact ⟨_, rfl, _, rfl, _, rfl, _, _, rfl, rfl, ⟨by decide, by decide⟩, _, rfl, _, _, rfl, rfl, _, _, rfl, rfl, (by show (0 : Int) < 36; decide), aZ, _, c, rfl, rfl, aZ_small, hc, _, _, rfl, rfl, fit c, step c hcm⟩
          · obtain ⟨c, hc, hcm⟩ := pick (b / 3 + (0 + (i : Int)) * (1 + b % 7))
            exact ⟨_, rfl, _, rfl, _, rfl, _, _, rfl, rfl, ⟨by decide, by decide⟩, _, rfl, _, rfl, _, _, rfl, rfl, (by show (0 : Int) < 7; decide), _, _, rfl, rfl, _, _, rfl, rfl, .inl ⟨by omega, by omega⟩, _, _, rfl, rfl, _, _, rfl, rfl, (by show (0 : Int) < 36; decide), aZ, _, c, rfl, rfl, aZ_small, hc, _, _, rfl, rfl, fit c, step c hcm⟩
      · rintro σ H2 ⟨y, o, rfl, hy, hyc, rfl⟩
        exact ⟨_, rfl, k y ⟨by omega, by omega, hyc⟩⟩
theorem ok_pool {fd : FuncData} (F : Fun K "_law_pool" "_law_pool" sl_pool a.f_l_pool fd) (T : Txt K mg a) (FF : Funs K a) : FnOk P w K mg base CX0 2 a.f_l_pool fd ["_law_draws_here"] (spPool K) := by
  obtain ⟨fdN, F_l_name_by, b_l_name_by⟩ := FF.F_l_name_by
  have G_l_name_by : FnOk P w K mg base CX0 1 a.f_l_name_by fdN ["_law_shape", "_law_k"] spNameBy := ok_nameby F_l_name_by T
  refine F.ok sc_l_pool (fun vs H Q E h => ?_) (fun cdv A outer s H vs Q E hr h => ?_)
  · obtain ⟨x, rs, rfl, _⟩ := h; rfl
  · obtain ⟨x, rs, rfl, hx, hl, hb, k⟩ := h
    have hr_l_name_by : Room 1 _ := hr
    refine ⟨_, (pss_cons (ps_set (i := 1) sc_l_pool.nd rfl (Or.inl rfl) (pe_op op_add pe_int (pe_op op_mod (pe_ix ix_list (pv 0) pe_int (fun _ _ => rfl)) pe_int)))
        (pss_one (ps_ret (pe_comp (sc := defScope sl_pool) (N := n_l_pool) (fr := [(0, "_law_draws_here")]) ⟨rfl, rfl, by decide +kernel, by decide +kernel, by decide +kernel, by decide +kernel, by decide +kernel⟩ rfl rfl rfl (pi_range1 rfl T.b_range (pac (pv 1) pa_nil)) (fun _ _ _ _ => pts_nil) (fun _ _ _ _ => (pe_call G_l_name_by hr_l_name_by rfl T.m_l_name_by F_l_name_by.kp b_l_name_by .nil pass0 (pac (pe_ix (ix_listK K) (pv 1) pe_int (fun _ _ => rfl)) (pac (pv 0) pa_nil)))))))), ?_⟩
    obtain ⟨z0, e0, b00, b01⟩ := row_pick hb 0 (by decide) (by omega)
    obtain ⟨z1, e1, b10, b11⟩ := row_pick hb 1 (by decide) (by omega)
    have m0 : 0 ≤ z1 % 9 := Int.emod_nonneg _ (by decide)
    have m1 : z1 % 9 < 9 := Int.emod_lt_of_pos _ (by decide)
    refine ⟨_, rfl, x, _, _, _, rfl, rfl, SqL.of hx, e1, _, _, rfl, rfl, (by show (0 : Int) < 9; decide), _, _, rfl, rfl, ?_⟩
    refine ⟨_, rfl, _, rfl, by omega, by omega, comp_rangeG (n := (2 + z1 % 9).toNat) (fun i ys => ∃ ws : List Str, ys = ws.map V.str ∧ ws.length = i ∧ ∀ x ∈ ws, WordS x) (Nat.le_of_lt (small1000 (by omega))) ⟨[], rfl, rfl, fun _ z => nomatch z⟩ (fun i ys ⟨ws, e, el, _⟩ => by rw [e, List.length_map, el]) ?_ ?_⟩
    · rintro i ys H3 Q' hi ⟨ws, rfl, el, hw⟩ s3 q
      refine ⟨_, rfl, x, _, _, _, rfl, rfl, SqL.of (s3 _ _ hx), e0, _, rfl, z0, 0 + (i : Int), rfl, b00, b01, by omega, by omega, fun y hy => q _ H3 ⟨ws ++ [y], by rw [List.map_append]; rfl, by rw [List.length_append, List.length_singleton, el], fun z hz => ?_⟩ (Same.refl H3)⟩
      rcases List.mem_append.mp hz with z' | z'
      · exact hw z z'
      · rw [List.mem_singleton.mp z']; exact hy
    · rintro D ys H2 hD ⟨ws, rfl, el, hw⟩ s2 hD2
      exact k D ws H2 (by omega) (by omega) hw s2 hD2
theorem ok_islist {fd : FuncData} (F : Fun K "_law_is_list" "_law_is_list" sl_is_list a.f_l_is_list fd) (T : Txt K mg a) : FnOk P w K mg base CX0 1 a.f_l_is_list fd ["_law_found", "_law_due"] spIsList := by
  refine F.ok sc_l_is_list (fun vs H Q E h => ?_) (fun cdv A outer s H vs Q E hr h => ?_)
  · obtain ⟨x, d, xs, rfl, _⟩ := h; rfl
  · obtain ⟨f, d, xs, rfl, hf, hd, hA, hl, k⟩ := h
    have hu64 := hr.units
    refine ⟨_, (pss_cons (ps_if (PW.pt (pw_or (pt_not (pt_val (pe_callB call_isinst rfl T.b_isinstance PyProof.Rows.boot_isinstance (pac (pv 0) (pac (pe_bltn (v := .ty "list") rfl T.b_list PyProof.Rows.boot_list rfl) pa_nil))))) (pw_or1 (pt_cmpR (op_neD hu64) (pv 0) (pv 1) (nomark _))))) (pss_one (ps_ret pe_bl)) pss_nil)
        (pss_one (ps_ret (pe_callB (call_all rfl) rfl T.b_all PyProof.Rows.boot_all (pac (pe_comp (sc := defScope sl_is_list) (N := n_l_is_list) (fr := []) ⟨rfl, rfl, by decide +kernel, by decide +kernel, by decide +kernel, by decide +kernel, by decide +kernel⟩ rfl rfl rfl (pi_list (pv 0)) (fun _ _ _ _ => pts_nil) (fun _ _ _ _ => (pe_callB (call_isinstsK K) rfl T.b_isinstance PyProof.Rows.boot_isinstance (pac (pv 0) (pac (pe_tupS (pas_cons (pe_bltn (v := .ty "str") rfl T.b_str PyProof.Rows.boot_str rfl) (pas_cons (pe_bltn (v := .ty "list") rfl T.b_list PyProof.Rows.boot_list rfl) pas_nil))) pa_nil))))) pa_nil))))), ?_⟩
    refine ⟨_, rfl, _, _, _, _, _, rfl, rfl, TyOf.lst hf, kitLL, _, rfl, iteF ?_⟩
    refine ⟨_, rfl, _, rfl, ne_same (SqL.of hf) (SqL.of hd) hA ⟨_, rfl, iteF ?_⟩⟩
    refine ⟨_, rfl, f, rfl, ⟨_, SqL.of hf⟩, comp_listG (K := K) (xs := xs.map V.str) (fun i ys => ys = List.replicate i (V.bl true)) (by rw [List.length_map]; exact Nat.le_of_lt (small1000 (by omega))) (SqL.of hf) rfl (fun i ys e => by rw [e, List.length_replicate]) ?_ ?_⟩
    · rintro i v ys H3 Q' hv rfl s3 q
      obtain ⟨t, _, ev⟩ : ∃ t, xs[i]? = some t ∧ V.str t = v := by
        rw [List.getElem?_map] at hv
        cases e : xs[i]? with
        | none => rw [e] at hv; cases hv
        | some t => rw [e] at hv; exact ⟨t, rfl, Option.some.inj hv⟩
      subst ev
      refine ⟨_, rfl, (by show 2 ≤ sizeLine; decide), fun p hp => ?_⟩
      refine ⟨_, .type "str", p, ["str", "list"], true, rfl, upd_same, .inl ⟨rfl, t, rfl⟩, kitS2, ?_⟩
      exact q _ _ (by rw [List.replicate_succ']) (Same.upd_new hp)
    · rintro D ys H2 hD rfl s2 hD2
      rw [List.length_map] at hD2
      refine ⟨D, List.replicate xs.length true, rfl, SqL.of (by rw [List.map_replicate]; exact hD2), ?_⟩
      rw [show (List.replicate xs.length true).all id = true by simp]
      exact k H2 s2
end
abbrev LRow := Addr × Str × Addr × List Str
structure RowsI (H : Hp) (r : Addr) (prs : List LRow) (F : List Addr) : Prop where
  l_ : H r = some (.lst (prs.map fun q => V.ref q.1))
  t_ : ∀ q ∈ prs, H q.1 = some (.tup [.str q.2.1, .ref q.2.2.1])
  w_ : ∀ q ∈ prs, H q.2.2.1 = some (.lst (q.2.2.2.map V.str)) ∧ q.2.2.1 ≠ r ∧ ¬ q.2.2.1 ∈ F
  nr : ¬ r ∈ F
def WdI (prs : List LRow) : Prop := ∀ q ∈ prs, WordS q.2.1 ∧ ∀ y ∈ q.2.2.2, WordS y
def nwR (prs : List LRow) : NW := prs.map fun q => (q.2.1, q.2.2.2)
theorem RowsI.keep {H H' : Hp} {r : Addr} {prs : List LRow} {F F' : List Addr} (h : RowsI H r prs F) (k : ∀ c o, (c = r ∨ ∃ q ∈ prs, c = q.1 ∨ c = q.2.2.1) → H c = some o → H' c = some o) (hF : ∀ c ∈ F', c ∈ F ∨ H c = none) : RowsI H' r prs F' :=
  ⟨k _ _ (.inl rfl) h.l_, fun q hq => k _ _ (.inr ⟨q, hq, .inl rfl⟩) (h.t_ q hq), fun q hq => ⟨k _ _ (.inr ⟨q, hq, .inr rfl⟩) (h.w_ q hq).1, (h.w_ q hq).2.1, fun z => (hF _ z).elim (h.w_ q hq).2.2 fun e => by rw [(h.w_ q hq).1] at e; cases e⟩,
    fun z => (hF _ z).elim h.nr fun e => by rw [h.l_] at e; cases e⟩
theorem RowsI.same {H H' : Hp} {r : Addr} {prs : List LRow} {F : List Addr} (h : RowsI H r prs F) (s : Same H H') : RowsI H' r prs F := h.keep (fun c o _ e => s c o e) fun _ z => .inl z
theorem RowsI.kpF {a : Adr} {H H' : Hp} {r x : Addr} {R : NW} {W : List Str} {n : Nat} {prs : List LRow} {F F' : List Addr} (h : RowsI H r prs F) (ix : IXs a H x R W n F) (k : KpF F H H') (hF : ∀ c ∈ F', c ∈ F ∨ H c = none) : RowsI H' r prs F' :=
  h.keep (fun c o hc e => k c o (by
    rcases hc with rfl | ⟨q, hq, rfl | rfl⟩
    · exact h.nr
    · exact ix.notTup (h.t_ q hq)
    · exact (h.w_ q hq).2.2) e) hF
def rowDI (q : LRow) : PyData := .tuple [.str q.2.1, .list (q.2.2.2.map PyData.str)]
theorem lay_rowI {q : LRow} (h : WordS q.2.1 ∧ ∀ y ∈ q.2.2.2, WordS y) : PyData.canLay0 (rowDI q) = true ∧ PyData.depth (rowDI q) = 2 := by
  have e := lay_strs fun y hy => (h.2 y hy).asc
  unfold rowDI
  simp only [PyData.canLay0, PyData.canLayAll0, PyData.depth, PyData.depthAll, e.1, e.2, h.1.asc.ok]
  exact ⟨rfl, rfl⟩
theorem shaped_rowI {q : LRow} (h : WordS q.2.1 ∧ ∀ y ∈ q.2.2.2, WordS y) : SeqAt.shaped (rowDI q) = true := by
  have e := lay_rowI h
  unfold SeqAt.shaped
  rw [e.1, e.2]
  rfl
theorem lay_rowsI : ∀ {prs : List LRow}, WdI prs → PyData.canLayAll0 (prs.map rowDI) = true ∧ PyData.depthAll (prs.map rowDI) ≤ 2
  | [], _ => ⟨rfl, Nat.zero_le _⟩
  | q :: prs, h => by
    have ih := lay_rowsI (prs := prs) fun z hz => h z (List.mem_cons_of_mem _ hz)
    have hq := lay_rowI (h q List.mem_cons_self)
    refine ⟨by rw [List.map_cons, PyData.canLayAll0, hq.1, ih.1]; rfl, ?_⟩
    have h2 := ih.2
    rw [List.map_cons, PyData.depthAll, hq.2]
    omega
theorem shaped_rowsI {prs : List LRow} (h : WdI prs) : SeqAt.shaped (.list (prs.map rowDI)) = true := by
  have e := lay_rowsI h
  have e2 := e.2
  unfold SeqAt.shaped
  rw [Bool.and_eq_true]
  refine ⟨by simp [PyData.canLay0, e.1], decide_eq_true ?_⟩
  simp only [PyData.depth]
  omega
theorem rd_rowI {K : PySem.W.Frag} {H : Hp} {q : LRow} (h : H q.1 = some (.tup [.str q.2.1, .ref q.2.2.1])) (h2 : H q.2.2.1 = some (.lst (q.2.2.2.map V.str))) : RD K H (.ref q.1) (rowDI q) := .tup (SqT.of h) (.cons (.str _) (.cons (rd_strs (SqL.of h2)) .nil))
theorem rds_rowsI {K : PySem.W.Frag} {H : Hp} : ∀ {prs : List LRow}, (∀ q ∈ prs, H q.1 = some (.tup [.str q.2.1, .ref q.2.2.1]) ∧ H q.2.2.1 = some (.lst (q.2.2.2.map V.str))) → RDs K H (prs.map fun q => V.ref q.1) (prs.map rowDI)
  | [], _ => .nil
  | q :: prs, h => .cons (rd_rowI (h q List.mem_cons_self).1 (h q List.mem_cons_self).2) (rds_rowsI fun z hz => h z (List.mem_cons_of_mem _ hz))
theorem ne_emptyI {K : PySem.W.Frag} {H : Hp} {r e : Addr} {prs : List LRow} {Q : VK} (hr : H r = some (.lst (prs.map fun q => V.ref q.1))) (hq : ∀ q ∈ prs, H q.1 = some (.tup [.str q.2.1, .ref q.2.2.1]) ∧ H q.2.2.1 = some (.lst (q.2.2.2.map V.str))) (ha : WdI prs) (he : H e = some (.lst [])) (q : Q (.bl (!prs.isEmpty)) H) : rNeD K (.ref r) (.ref e) H Q := by
  refine ⟨.list (prs.map rowDI), .list [], .lst (SqL.of hr) (rds_rowsI hq), .lst (SqL.of he) .nil, shaped_rowsI ha, by simp [SeqAt.shaped, PyData.canLay0, PyData.canLayAll0, PyData.depth, PyData.depthAll], ?_⟩
  have e : PyData.eqv (.list (prs.map rowDI)) (.list []) = prs.isEmpty := by
    cases prs with
    | nil => rfl
    | cons a l => rfl
  rw [e]
  exact q
theorem split_nameI {prs : List LRow} {n : Str} (nd : ((nwR prs).map (·.1)).Nodup) (h : n ∈ (nwR prs).map (·.1)) : ∃ pre q post, prs = pre ++ q :: post ∧ q.2.1 = n ∧ (∀ p ∈ pre, p.2.1 ≠ n) ∧ ∀ p ∈ post, p.2.1 ≠ n := by
  induction prs with
  | nil => cases h
  | cons r prs ih =>
    have e0 : (nwR (r :: prs)).map (·.1) = r.2.1 :: (nwR prs).map (·.1) := rfl
    rw [e0, List.nodup_cons] at nd
    rw [e0] at h
    by_cases e : r.2.1 = n
    · refine ⟨[], r, prs, rfl, e, (fun _ hp => nomatch hp), fun p hp z => nd.1 ?_⟩
      rw [e, ← z]
      exact List.mem_map.mpr ⟨(p.2.1, p.2.2.2), List.mem_map.mpr ⟨p, hp, rfl⟩, rfl⟩
    · obtain ⟨pre, q, post, e1, e2, e3, e4⟩ := ih nd.2 ((List.mem_cons.mp h).elim (fun z => absurd z.symm e) id)
      refine ⟨r :: pre, q, post, by rw [e1]; rfl, e2, fun p hp => ?_, e4⟩
      rcases List.mem_cons.mp hp with z | z
      · rw [z]; exact e
      · exact e3 p z
theorem filter_oneI {pre post : List LRow} {q : LRow} {n : Str} (h : q.2.1 = n) (h1 : ∀ p ∈ pre, p.2.1 ≠ n) (h2 : ∀ p ∈ post, p.2.1 ≠ n) : ((pre ++ q :: post).filter fun p => decide (p.2.1 = n)) = [q] := by
  rw [List.filter_append, List.filter_cons, if_pos (decide_eq_true h), List.filter_eq_nil_iff.mpr fun p hp z => h1 p hp (of_decide_eq_true z), List.filter_eq_nil_iff.mpr fun p hp z => h2 p hp (of_decide_eq_true z)]
  rfl
theorem noN_one {pre post : List LRow} {q : LRow} {n : Str} (h : q.2.1 = n) (h1 : ∀ p ∈ pre, p.2.1 ≠ n) (h2 : ∀ p ∈ post, p.2.1 ≠ n) : noN (nwR (pre ++ q :: post)) n = nwR (pre ++ post) := by
  unfold noN nwR
  rw [List.map_append, List.map_cons, List.filter_append, List.filter_cons, if_neg (by simp [h]), List.map_append]
  rw [List.filter_eq_self.mpr fun r hr => ?_, List.filter_eq_self.mpr fun r hr => ?_]
  · obtain ⟨p, hp, rfl⟩ := List.mem_map.mp hr
    exact decide_eq_true (h2 p hp)
  · obtain ⟨p, hp, rfl⟩ := List.mem_map.mp hr
    exact decide_eq_true (h1 p hp)
theorem remove_rowI {K : PySem.W.Frag} {H : Hp} {r : Addr} {pre post : List LRow} {q : LRow} {n : Str} {F : List Addr} {Q : VK} (hr : RowsI H r (pre ++ q :: post) F) (ha : WdI (pre ++ q :: post)) (h : q.2.1 = n) (h1 : ∀ p ∈ pre, p.2.1 ≠ n)
    (k : Q .non (upd H r (.lst ((pre ++ post).map fun q => V.ref q.1)))) : rRemove K (.ref r) [.ref q.1] H Q := by
  have hq : q ∈ pre ++ q :: post := List.mem_append_right _ List.mem_cons_self
  refine ⟨r, _, (pre ++ q :: post).map rowDI, _, rowDI q, pre.length, rfl, rfl, hr.l_, rds_rowsI fun z hz => ⟨hr.t_ z hz, (hr.w_ z hz).1⟩, rd_rowI (hr.t_ q hq) (hr.w_ q hq).1, fun e he => ?_, shaped_rowI (ha q hq), by simp, fun m e hm em => ?_, ?_⟩
  · obtain ⟨p, hp, rfl⟩ := List.mem_map.mp he
    exact shaped_rowI (ha p hp)
  · rw [List.getElem?_map] at em
    by_cases z : m = pre.length
    · rw [z, List.getElem?_append_right (Nat.le_refl _), Nat.sub_self] at em
      cases em
      rw [decide_eq_true z, SeqAt.eqv_refl _ (SeqAt.canLay_of_shaped (shaped_rowI (ha q hq)))]
    · have hlt : m < pre.length := by omega
      rw [List.getElem?_append_left hlt, List.getElem?_eq_getElem hlt] at em
      cases em
      rw [decide_eq_false z]
      have hne := h1 pre[m] (List.getElem_mem hlt)
      show (pre[m].2.1 == q.2.1 && _) = false
      rw [Bool.and_eq_false_iff]
      left
      rw [h]
      exact beq_eq_false_iff_ne.mpr hne
  · have e : ((pre ++ q :: post).map fun q => V.ref q.1).eraseIdx pre.length = (pre ++ post).map fun q => V.ref q.1 := by
      rw [List.map_append, List.map_cons, List.map_append]
      have hl : pre.length = (pre.map fun q => V.ref q.1).length := by rw [List.length_map]
      rw [hl, List.eraseIdx_append_of_length_le (Nat.le_refl _), Nat.sub_self]
      rfl
    rw [e]
    exact k
/-- all but r and what stands in F stays -/
def KpD (r : Addr) (F : List Addr) (H H' : Hp) : Prop := ∀ c o, c ≠ r → ¬ c ∈ F → H c = some o → H' c = some o
def spDone (a : Adr) : Sp := fun vs H Q _ => ∃ (x r p wl dr : Addr) (prs : List LRow) (ws W : List Str) (n : Nat) (F : List Addr) (d0 d1 : Int), vs = [.ref x, .ref r, .ref p, .ref wl, .ref dr] ∧ IXs a H x (nwR prs) W n F ∧ n < 39 ∧ RowsI H r prs F ∧ WdI prs ∧
  H p = some (.lst (ws.map V.str)) ∧ 0 < ws.length ∧ (∀ y ∈ ws, WordS y) ∧ H wl = some (.lst (W.map V.str)) ∧ wl ≠ r ∧ ¬ wl ∈ F ∧ 0 < W.length ∧ (∀ y ∈ W, WordS y) ∧ H dr = some (.lst [.int d0, .int d1]) ∧ 0 ≤ d0 ∧ 0 ≤ d1 ∧ d1 < 2147483629 ∧
  ∀ (H' : Hp) (prs' : List LRow) (F' : List Addr), IXs a H' x (nwR prs') W (n + 1) F' → RowsI H' r prs' F' → WdI prs' → KpD r F H H' → (∀ c ∈ F', c ∈ F ∨ H c = none) → (∀ q ∈ prs', q ∈ prs ∨ H q.2.2.1 = none) → Q (.bl true) H'
section
variable {P : Program} {w : World} {K : PySem.W.Frag} {mg : Str → Option Value} {base : Heap} {a : Adr}
theorem ok_done {fd : FuncData} (F : Fun K "_law_done" "_law_done" sl_done a.f_l_done fd) (T : Txt K mg a) (FF : Funs K a) : FnOk P w K mg base CX0 3 a.f_l_done fd ["_law_index", "_law_rows", "_law_pool_here", "_law_words", "_law_draws_here"] (spDone a) := by
  obtain ⟨fdT, F_take, b_Index_take_out⟩ := FF.F_Index_take_out
  obtain ⟨fdA, F_add, b_Index_add⟩ := FF.F_Index_add
  have G_Index_take_out : FnOk P w K mg base CX0 2 a.f_Index_take_out fdT ["self", "name"] (spITake a) := ok_itake F_take T FF
  have G_Index_add : FnOk P w K mg base CX0 2 a.f_Index_add fdA ["self", "name", "words"] (spIAdd a) := ok_iadd F_add T FF
  refine F.ok sc_l_done (fun vs H Q E h => ?_) (fun cdv A outer s H vs Q E hr h => ?_)
  · obtain ⟨x, r, p, wl, dr, prs, ws, W, n, F, d0, d1, rfl, _⟩ := h; rfl
  · obtain ⟨x, r, p, wl, dr, prs, ws, W, n, F, d0, d1, rfl, hix, hn, hR, hA, hp, hl, hw, hwl, nwl, nwF, hWl, hWw, hdr, h0, h1, h2, k⟩ := h
    have hr_Index_take_out : Room 2 _ := hr
    have hr_Index_add : Room 2 _ := hr
    have hu64 := hr.units
    have hu70 : (A.deeper (PyProof.Rows.envOfC "_law_done" (defScope sl_done) s.heap.objs.size a.f_l_done cdv)).units + 70 < cLine := by have := hr.un; omega
    obtain ⟨dx, _, _, hobj⟩ := hix.obj
    have hfew : prs.length ≤ 40 := by have := hix.few.1; rw [nwR, List.length_map] at this; exact this
    have at_ : ∀ (vs : List Str), (∀ y ∈ vs, WordS y) → ∀ i : Int, 0 ≤ i → i < (vs.length : Int) → ∃ y, atI (vs.map V.str) i = some (V.str y) ∧ WordS y ∧ y ∈ vs := fun vs hvs i h0 h1 => by
      obtain ⟨v, hv, hvm, _⟩ := atI_some (xs := vs.map V.str) h0 (by rw [List.length_map]; exact h1)
      obtain ⟨y, hy, rfl⟩ := List.mem_map.mp hvm
      exact ⟨y, hv, hvs y hy, hy⟩
    obtain ⟨nm, enm, wnm, _⟩ := at_ ws hw (d0 % (ws.length : Int)) (Int.emod_nonneg _ (by omega)) (Int.emod_lt_of_pos _ (by omega))
    obtain ⟨w0, ew0, _, _⟩ := at_ W hWw 0 (by decide) (by omega)
    refine ⟨_, (pss_cons (ps_set (i := 5) sc_l_done.nd rfl (Or.inr rfl) (pe_ix ix_list (pv 2) (pe_op op_mod (pe_ix ix_list (pv 4) pe_int (fun _ _ => rfl)) (pe_callB call_len_seq rfl T.b_len PySem.boot_len (pac (pv 2) pa_nil))) (fun _ _ => rfl)))
        (pss_cons (ps_setComp (sc := defScope sl_done) (N := n_l_done) (i := 6) (fr := [(5, "_law_name")]) ⟨rfl, rfl, by decide +kernel, by decide +kernel, by decide +kernel, by decide +kernel, by decide +kernel⟩ rfl rfl rfl sc_l_done.nd rfl rfl (pi_list (pv 1)) (fun _ _ _ _ => pts_one (pt_cmpR op_eq (pe_ix (ix_tupK K) (pv 0) pe_int (fun _ _ => rfl)) (pv 1) (nomark _))) (fun _ _ _ _ => (pv 0)))
        (pss_cons (ps_if (pt_cmpR (op_neD hu64) (pv 6) (pe_lstS pas_nil) (nomark _)) (pss_cons (ps_expr (pe_bm PySem.F.plainAttrs_list PySem.F.slot_list_remove PySem.F.type_list_remove (mt_remove hu70) (pv 1) (pac (pe_ix ix_list (pv 6) pe_int (fun _ _ => rfl)) pa_nil)))
        (pss_one (ps_ret (pe_cmpR op_isN (pe_meth (pv 0) T.c_Index T.M_Index_take_out G_Index_take_out hr_Index_take_out b_Index_take_out .nil pass0 (pac (pv 5) pa_nil)) pe_non (nomark _))))) pss_nil)
        (pss_cons (ps_set (i := 7) sc_l_done.nd rfl (Or.inl rfl) (pe_lstS pas_nil))
        (pss_cons (ps_set (i := 8) sc_l_done.nd rfl (Or.inl rfl) (pe_ix ix_list (pv 4) pe_int (fun _ _ => rfl)))
        (pss_cons (ps_for PassesOwn.never rfl (pi_range1 rfl T.b_range (pac (pe_op op_mod (pv 8) pe_int) pa_nil)) (pg_name (i := 9) sc_l_done.nd rfl (Or.inl rfl)) (pss_cons (ps_set (i := 8) sc_l_done.nd rfl (Or.inl rfl) (pe_op op_add (pe_op op_mod (pe_op op_mul (pv 8) (pv 8)) pe_int) pe_int))
        (pss_one (ps_expr (pe_bm PySem.F.plainAttrs_list PySem.F.slot_list_append PySem.F.type_list_append mt_append (pv 7) (pac (pe_ix ix_list (pv 3) (pe_op op_mod (pv 8) (pe_callB call_len_seq rfl T.b_len PySem.boot_len (pac (pv 3) pa_nil))) (fun _ _ => rfl)) pa_nil))))))
        (pss_cons (ps_expr (pe_bm PySem.F.plainAttrs_list PySem.F.slot_list_append PySem.F.type_list_append mt_append (pv 1) (pac (pe_tupS (pas_cons (pv 5) (pas_cons (pe_callB (call_sorted_set rfl) rfl T.b_sorted PyProof.Rows.boot_sorted (pac (pe_callTy (call_setAny rfl) rfl T.b_set PyProof.Rows.boot_set (pac (pv 7) pa_nil)) pa_nil)) pas_nil))) pa_nil)))
        (pss_cons (ps_set (i := 10) sc_l_done.nd rfl (Or.inl rfl) (pe_meth (pv 0) T.c_Index T.M_Index_add G_Index_add hr_Index_add b_Index_add .nil pass0 (pac (pv 5) (pac (pv 7) pa_nil))))
        (pss_cons (ps_expr (pe_bm PySem.F.plainAttrs_list PySem.F.slot_list_append PySem.F.type_list_append mt_append (pv 7) (pac (pe_ix ix_list (pv 3) pe_int (fun _ _ => rfl)) pa_nil)))
        (pss_cons (ps_expr (pe_bm0 PySem.F.plainAttrs_list PySem.F.slot_list_reverse PySem.F.type_list_reverse mt_reverse (pv 7)))
        (pss_one (ps_ret (pe_cmpR op_isN (pv 10) pe_non (nomark _)))))))))))))), ?_⟩
    refine ⟨_, rfl, _, rfl, dr, _, _, _, rfl, rfl, SqL.of hdr, rfl, _, rfl, p, _, rfl, .inl (SqL.of hp), _, _, rfl, rfl, (by rw [List.length_map]; omega), p, _, _, _, rfl, rfl, SqL.of hp, (by rw [List.length_map]; exact enm), ?_⟩
    refine ⟨_, rfl, r, rfl, ⟨_, SqL.of hR.l_⟩, comp_listFM (K := K) (xs := prs) (fun q => V.ref q.1) (fun q => decide (q.2.1 = nm)) (fun q => V.ref q.1) (Nat.le_of_lt (small1000 (by omega))) (SqL.of hR.l_) ?_ ?_ ?_⟩
    · intro q H3 Q' hq s3 q'
      refine ⟨_, rfl, q.1, _, _, _, rfl, rfl, SqT.of (s3 _ _ (hR.t_ q hq)), rfl, _, rfl, rfl, _, rfl, ?_⟩
      rw [dec_str]
      exact q'
    · intro q H3 Q' hq s3 _ q'
      exact ⟨_, rfl, q'⟩
    · intro D hD
      have s1 : Same H (upd H D (.lst ((prs.filter fun q => decide (q.2.1 = nm)).map fun q => V.ref q.1))) := Same.upd_new hD
      by_cases hin : nm ∈ (nwR prs).map (·.1)
      · obtain ⟨pre, q, post, rfl, eq1, epre, epost⟩ := split_nameI hix.nd hin
        rw [filter_oneI eq1 epre epost] at s1 ⊢
        have hqm : q ∈ pre ++ q :: post := List.mem_append_right _ List.mem_cons_self
        have hD1 : (upd H D (.lst [V.ref q.1])) D = some (.lst [V.ref q.1]) := upd_same
        have s1 : Same H (upd H D (.lst [V.ref q.1])) := s1
        show tSeq _ _ _ _ (upd H D (.lst [V.ref q.1]))
        generalize upd H D (.lst [V.ref q.1]) = H1 at s1 hD1
        have aq : WdI [q] := fun z hz => by rw [List.mem_singleton.mp hz]; exact hA q hqm
        refine ⟨_, rfl, (by show 0 ≤ sizeLine; decide), fun e he => ?_⟩
        have s2 : Same H (upd H1 e (.lst [])) := s1.upd_of (s1.free he)
        refine ne_emptyI (prs := [q]) (by rw [upd_ne (ne_of_none hD1 he)]; exact hD1) (fun z hz => by rw [List.mem_singleton.mp hz]; exact ⟨s2 _ _ (hR.t_ q hqm), s2 _ _ (hR.w_ q hqm).1⟩) aq upd_same ⟨_, rfl, iteT ?_⟩
        have hD3 : (upd H1 e (.lst [])) D = some (.lst [V.ref q.1]) := by rw [upd_ne (ne_of_none hD1 he)]; exact hD1
        generalize upd H1 e (.lst []) = H3 at s2 hD3
        have hR3 := hR.same s2
        have hix3 := hix.same s2
        refine ⟨_, rfl, .inl ⟨rfl, _, SqL.of hR3.l_⟩, _, rfl, D, _, _, _, rfl, rfl, SqL.of hD3, rfl, ?_⟩
        refine st_nil ?_
        refine remove_rowI (K := K) hR3 hA eq1 epre ?_
        have sub4 : ∀ z ∈ pre ++ post, z ∈ pre ++ q :: post := fun z hz => by
          rcases List.mem_append.mp hz with y | y
          · exact List.mem_append_left _ y
          · exact List.mem_append_right _ (List.mem_cons_of_mem _ y)
        have kp4 : ∀ c o, c ≠ r → H3 c = some o → (upd H3 r (.lst ((pre ++ post).map fun q => V.ref q.1))) c = some o := fun c o ne e => by rw [upd_ne ne]; exact e
        have xr : x ≠ r := ne_of (s2 _ _ hobj) hR3.l_ fun z => nomatch z
        have hR4 : RowsI (upd H3 r (.lst ((pre ++ post).map fun q => V.ref q.1))) r (pre ++ post) F := ⟨upd_same, fun z hz => kp4 _ _ (ne_of (hR3.t_ z (sub4 z hz)) hR3.l_ fun z => nomatch z) (hR3.t_ z (sub4 z hz)), fun z hz => ⟨kp4 _ _ (hR3.w_ z (sub4 z hz)).2.1 (hR3.w_ z (sub4 z hz)).1, (hR3.w_ z (sub4 z hz)).2⟩, hR3.nr⟩
        have hix4 : IXs a (upd H3 r (.lst ((pre ++ post).map fun q => V.ref q.1))) x (nwR (pre ++ q :: post)) W n F := hix3.keep fun c o hc e => kp4 c o (hc.elim (fun z => by rw [z]; exact xr) fun z y => hR3.nr (by rw [← y]; exact z)) e
        generalize upd H3 r (.lst ((pre ++ post).map fun q => V.ref q.1)) = H4 at kp4 hR4 hix4
        obtain ⟨dx4, _, _, hobj4⟩ := hix4.obj
        refine ⟨_, rfl, x, dx4, _, rfl, hobj4, rfl, _, rfl, x, _, W, n, F, nm, rfl, hix4, hin, fun H5 F5 hix5 kp5 sub5 => ?_⟩
        refine ⟨rfl, ?_⟩
        rw [decide_eq_true rfl]
        rw [noN_one eq1 epre epost] at hix5
        exact k H5 (pre ++ post) F5 hix5.up (hR4.kpF hix4 kp5 fun c hc => .inl (sub5 c hc)) (fun z hz => hA z (sub4 z hz)) (fun c o ne nF e => kp5 c o nF (kp4 c o ne (s2 _ _ e))) (fun c hc => .inl (sub5 c hc)) fun z hz => .inl (sub4 z hz)
      · have ef : (prs.filter fun q => decide (q.2.1 = nm)) = [] := List.filter_eq_nil_iff.mpr fun q hq z => hin (List.mem_map.mpr ⟨(q.2.1, q.2.2.2), List.mem_map.mpr ⟨q, hq, rfl⟩, of_decide_eq_true z⟩)
        rw [ef] at s1 ⊢
        have s1 : Same H (upd H D (.lst [])) := s1
        have hD1 : (upd H D (.lst [])) D = some (.lst []) := upd_same
        show tSeq _ _ _ _ (upd H D (.lst []))
        generalize upd H D (.lst []) = H1 at s1 hD1
        refine ⟨_, rfl, (by show 0 ≤ sizeLine; decide), fun e he => ?_⟩
        have s3 : Same H (upd H1 e (.lst [])) := s1.upd_of (s1.free he)
        have hD2 : (upd H1 e (.lst [])) D = some (.lst []) := by rw [upd_ne (ne_of_none hD1 he)]; exact hD1
        refine ne_emptyI (prs := []) hD2 (fun _ z => nomatch z) (fun _ z => nomatch z) upd_same ⟨_, rfl, iteF ?_⟩
        generalize upd H1 e (.lst []) = H3 at s3 hD2
        refine ⟨(by show 0 ≤ sizeLine; decide), fun m hm0 => ?_⟩
        have m0 : H m = none := s3.free hm0
        have s4 : Same H (upd H3 m (.lst [])) := s3.upd_of m0
        have m4 : (upd H3 m (.lst [])) m = some (.lst (([] : List Str).map V.str)) := upd_same
        show tSeq _ _ _ _ (upd H3 m (.lst []))
        generalize upd H3 m (.lst []) = H4 at s4 m4
        refine ⟨_, rfl, dr, _, _, _, rfl, rfl, SqL.of (s4 _ _ hdr), rfl, ?_⟩
        have b0 : 0 ≤ d1 % 7 := Int.emod_nonneg _ (by decide)
        have b1 : d1 % 7 < 7 := Int.emod_lt_of_pos _ (by decide)
        refine ⟨_, rfl, _, _, rfl, rfl, (by show (0 : Int) < 7; decide), _, rfl, by omega, by omega, for_range (n := (d1 % 7).toNat) (fun j σ H5 => ∃ (ms : List Str) (dz : Int) (o : Option V), σ = [some (.ref x), some (.ref r), some (.ref p), some (.ref wl), some (.ref dr), some (.str nm), some (.ref D), some (.ref m), some (.int dz), o, none] ∧ Same H H5 ∧ H5 m = some (.lst (ms.map V.str)) ∧ ms.length = j ∧ (∀ y ∈ ms, y ∈ W) ∧ 0 ≤ dz ∧ dz < 2147483640)
          ⟨[], d1, none, rfl, s4, m4, rfl, (fun _ z => nomatch z), h1, by omega⟩ ?_ ?_⟩
        · rintro j σ H5 hj ⟨ms, dz, o, rfl, s5, m5, el, hms, z0, z1⟩
          have q0 : 0 ≤ dz * dz % 2147483629 := Int.emod_nonneg _ (by decide)
          have q1 : dz * dz % 2147483629 < 2147483629 := Int.emod_lt_of_pos _ (by decide)
          refine ⟨_, rfl, _, rfl, _, _, rfl, rfl, .inl ⟨by omega, by omega⟩, _, _, rfl, rfl, (by show (0 : Int) < 2147483629; decide), _, _, rfl, rfl, ?_⟩
          obtain ⟨y, ey, _, yW⟩ := at_ W hWw ((dz * dz % 2147483629 + 7) % (W.length : Int)) (Int.emod_nonneg _ (by omega)) (Int.emod_lt_of_pos _ (by omega))
          refine ⟨_, rfl, .inl ⟨rfl, _, SqL.of m5⟩, _, rfl, _, rfl, _, rfl, wl, _, rfl, .inl (SqL.of (s5 _ _ hwl)), _, _, rfl, rfl, (by rw [List.length_map]; omega), wl, _, _, _, rfl, rfl, SqL.of (s5 _ _ hwl), (by rw [List.length_map]; exact ey), m, _, _, rfl, rfl, m5, (by rw [List.length_map]; exact small1000 (by omega)), ?_⟩
          refine ⟨ms ++ [y], _, _, rfl, s5.upd_of m0, by rw [List.map_append]; exact upd_same, by rw [List.length_append, List.length_singleton, el], fun z hz => ?_, by omega, by omega⟩
          rcases List.mem_append.mp hz with q | q
          · exact hms z q
          · rw [List.mem_singleton.mp q]; exact yW
        · rintro σ H5 ⟨ms, dz, o, rfl, s5, m5, el, hms, z0, z1⟩
          have hR5 := hR.same s5
          have hmsl : ms.length ≤ 7 := by omega
          have hdl := dd_len ms
          refine ⟨_, rfl, .inl ⟨rfl, _, SqL.of hR5.l_⟩, _, rfl, _, rfl, m, ms, rfl, .inl (SqL.of m5), by omega, fun u hu0 => ⟨u, dd ms, rfl, upd_same, by omega, fun l hl0 => ⟨(by show 2 ≤ sizeLine; decide), fun t ht0 => ?_⟩⟩⟩
          have s6 : Same H5 (upd H5 u (SetO P w u (dd ms))) := Same.upd_new hu0
          have l5 : H5 l = none := s6.free hl0
          have s7 : Same H5 (upd (upd H5 u (SetO P w u (dd ms))) l (.lst ((SS ms).map V.str))) := s6.upd_of l5
          have l7 : (upd (upd H5 u (SetO P w u (dd ms))) l (.lst ((SS ms).map V.str))) l = some (.lst ((SS ms).map V.str)) := upd_same
          have t5 : H5 t = none := s7.free ht0
          have s8 : Same H5 (upd (upd (upd H5 u (SetO P w u (dd ms))) l (.lst ((SS ms).map V.str))) t (.tup [.str nm, .ref l])) := s7.upd_of t5
          have t8 : (upd (upd (upd H5 u (SetO P w u (dd ms))) l (.lst ((SS ms).map V.str))) t (.tup [.str nm, .ref l])) t = some (.tup [.str nm, .ref l]) := upd_same
          have l8 : (upd (upd (upd H5 u (SetO P w u (dd ms))) l (.lst ((SS ms).map V.str))) t (.tup [.str nm, .ref l])) l = some (.lst ((SS ms).map V.str)) := by rw [upd_ne (ne_of_none l7 ht0)]; exact l7
          have hR8 := hR5.same s8
          refine ⟨r, _, _, rfl, rfl, hR8.l_, (by rw [List.length_map]; exact small1000 (by omega)), ?_⟩
          have elr : (prs.map fun q => V.ref q.1) ++ [V.ref t] = (prs ++ [((t, nm, l, SS ms) : LRow)]).map fun q => V.ref q.1 := by rw [List.map_append]; rfl
          rw [elr]
          have kp9 : ∀ c o, c ≠ r → H5 c = some o → (upd (upd (upd (upd H5 u (SetO P w u (dd ms))) l (.lst ((SS ms).map V.str))) t (.tup [.str nm, .ref l])) r (.lst ((prs ++ [((t, nm, l, SS ms) : LRow)]).map fun q => V.ref q.1))) c = some o := fun c o ne e => by rw [upd_ne ne]; exact s8 _ _ e
          have r9 : (upd (upd (upd (upd H5 u (SetO P w u (dd ms))) l (.lst ((SS ms).map V.str))) t (.tup [.str nm, .ref l])) r (.lst ((prs ++ [((t, nm, l, SS ms) : LRow)]).map fun q => V.ref q.1))) r = some (.lst ((prs ++ [((t, nm, l, SS ms) : LRow)]).map fun q => V.ref q.1)) := upd_same
          have tr : t ≠ r := ne_of t8 hR8.l_ fun z => nomatch z
          have lr : l ≠ r := (ne_of_none hR5.l_ l5).symm
          have t9 : (upd (upd (upd (upd H5 u (SetO P w u (dd ms))) l (.lst ((SS ms).map V.str))) t (.tup [.str nm, .ref l])) r (.lst ((prs ++ [((t, nm, l, SS ms) : LRow)]).map fun q => V.ref q.1))) t = some (.tup [.str nm, .ref l]) := by rw [upd_ne tr]; exact t8
          have l9 : (upd (upd (upd (upd H5 u (SetO P w u (dd ms))) l (.lst ((SS ms).map V.str))) t (.tup [.str nm, .ref l])) r (.lst ((prs ++ [((t, nm, l, SS ms) : LRow)]).map fun q => V.ref q.1))) l = some (.lst ((SS ms).map V.str)) := by rw [upd_ne lr]; exact l8
          show tSeq _ _ _ _ (upd (upd (upd (upd H5 u (SetO P w u (dd ms))) l (.lst ((SS ms).map V.str))) t (.tup [.str nm, .ref l])) r (.lst ((prs ++ [((t, nm, l, SS ms) : LRow)]).map fun q => V.ref q.1)))
          generalize upd (upd (upd (upd H5 u (SetO P w u (dd ms))) l (.lst ((SS ms).map V.str))) t (.tup [.str nm, .ref l])) r (.lst ((prs ++ [((t, nm, l, SS ms) : LRow)]).map fun q => V.ref q.1)) = H9 at kp9 r9 t9 l9
          have hix5 := hix.same s5
          have lF : ¬ l ∈ F := hix5.notIn l5
          have mF : ¬ m ∈ F := hix.notIn m0
          have mr : m ≠ r := (ne_of_none hR.l_ m0).symm
          have m9 : H9 m = some (.lst (ms.map V.str)) := kp9 _ _ mr m5
          have xr : x ≠ r := ne_of hobj hR.l_ fun z => nomatch z
          have hR9 : RowsI H9 r (prs ++ [((t, nm, l, SS ms) : LRow)]) F := ⟨r9, fun z hz => by
            rcases List.mem_append.mp hz with y | y
            · exact kp9 _ _ (ne_of (hR5.t_ z y) hR5.l_ fun z => nomatch z) (hR5.t_ z y)
            · rw [List.mem_singleton.mp y]; exact t9, fun z hz => by
            rcases List.mem_append.mp hz with y | y
            · exact ⟨kp9 _ _ (hR5.w_ z y).2.1 (hR5.w_ z y).1, (hR5.w_ z y).2⟩
            · rw [List.mem_singleton.mp y]; exact ⟨l9, lr, lF⟩, hR5.nr⟩
          have hix9 : IXs a H9 x (nwR prs) W n F := hix5.keep fun c o hc e => kp9 c o (hc.elim (fun z => by rw [z]; exact xr) fun z y => hR.nr (by rw [← y]; exact z)) e
          obtain ⟨dx9, _, _, hobj9⟩ := hix9.obj
          refine ⟨_, rfl, x, dx9, _, rfl, hobj9, rfl, _, rfl, _, rfl, x, m, _, W, n, F, nm, ms, rfl, hix9, by omega, hin, m9, hms, by omega, fun H10 F10 hix10 kp10 sub10 => ?_⟩
          have hR10 := hR9.kpF hix9 kp10 sub10
          have m10 := kp10 _ _ mF m9
          have wl10 : H10 wl = some (.lst (W.map V.str)) := kp10 _ _ nwF (kp9 _ _ nwl (s5 _ _ hwl))
          have mF10 : ¬ m ∈ F10 := fun z => (sub10 m z).elim mF fun e => by rw [m9] at e; cases e
          have mwl : m ≠ wl := (ne_of_none hwl m0).symm
          refine ⟨_, rfl, .inl ⟨rfl, _, SqL.of m10⟩, _, rfl, wl, _, _, _, rfl, rfl, SqL.of wl10, ew0, m, _, _, rfl, rfl, m10, (by rw [List.length_map]; exact small1000 (by omega)), ?_⟩
          have m11 : (upd H10 m (.lst (ms.map V.str ++ [.str w0]))) m = some (.lst (ms.map V.str ++ [.str w0])) := upd_same
          refine ⟨_, rfl, .inl ⟨rfl, _, SqL.of m11⟩, m, _, rfl, rfl, m11, ?_⟩
          rw [upd_upd]
          have kp12 : ∀ c o, c ≠ m → H10 c = some o → (upd H10 m (.lst (ms.map V.str ++ [V.str w0]).reverse)) c = some o := fun c o ne e => by rw [upd_ne ne]; exact e
          refine ⟨_, rfl, rfl, ?_⟩
          rw [decide_eq_true rfl]
          generalize upd H10 m (.lst (ms.map V.str ++ [V.str w0]).reverse) = H12 at kp12 ⊢
          have fr9 : ∀ c, H9 c = none → H c = none := fun c e => by
            cases q : H c with
            | none => rfl
            | some o =>
              by_cases z : c = r
              · rw [z, r9] at e; cases e
              · rw [kp9 c o z (s5 _ _ q)] at e; cases e
          have xm : x ≠ m := ne_of_none hobj m0
          have enw : nwR (prs ++ [((t, nm, l, SS ms) : LRow)]) = nwR prs ++ [(nm, SS ms)] := by unfold nwR; rw [List.map_append]; rfl
          refine k H12 (prs ++ [((t, nm, l, SS ms) : LRow)]) F10 ?_ ?_ (fun z hz => ?_) (fun c o ne nF e => kp12 c o (ne_of_none e m0) (kp10 c o nF (kp9 c o ne (s5 _ _ e)))) (fun c hc => (sub10 c hc).elim .inl fun e => .inr (fr9 c e)) fun z hz => ?_
          · rw [enw]
            exact hix10.keep fun c o hc e => kp12 c o (hc.elim (fun z => by rw [z]; exact xm) fun z y => mF10 (by rw [← y]; exact z)) e
          · refine hR10.keep (fun c o hc e => kp12 c o ?_ e) fun c hc => .inl hc
            rcases hc with rfl | ⟨q, hq, rfl | rfl⟩
            · exact mr.symm
            · exact ne_of (hR10.t_ q hq) m10 fun z => nomatch z
            · rcases List.mem_append.mp hq with y | y
              · exact ne_of_none (hR.w_ q y).1 m0
              · rw [List.mem_singleton.mp y]; exact (ne_of_none m5 l5).symm
          · rcases List.mem_append.mp hz with y | y
            · exact hA z y
            · rw [List.mem_singleton.mp y]; exact ⟨wnm, fun y hy => hWw y (hms y (mem_SS.mp hy))⟩
          · rcases List.mem_append.mp hz with y | y
            · exact .inl y
            · rw [List.mem_singleton.mp y]; exact .inr (s5.free l5)
end
theorem held_push {r h : Addr} {H : Hp} {hd : List HRow} {u l : Addr} {xs : List Str} (a : HeldAt r h H hd) (hu : H u = some (.tup [.ref l, .str (shownS xs)])) (hl : H l = some (.lst (xs.map V.str))) (lh : l ≠ h) (lr : l ≠ r) (b : xs.length ≤ 40 ∧ ∀ x ∈ xs, Asc x ∧ x.length ≤ 1000) :
    HeldAt r h (upd H h (.lst ((hd ++ [((u, l, xs) : HRow)]).map fun q => V.ref q.1))) (hd ++ [((u, l, xs) : HRow)]) := by
  have tn : ∀ c vs, H c = some (.tup vs) → c ≠ h := fun c vs e z => by rw [z, a.l_] at e; cases e
  refine ⟨upd_same, a.hr, fun q hq => ?_, fun q hq => ?_, fun q hq => ?_⟩
  · rcases List.mem_append.mp hq with y | y
    · rw [upd_ne (tn _ _ (a.t_ q y))]; exact a.t_ q y
    · rw [List.mem_singleton.mp y, upd_ne (tn _ _ hu)]; exact hu
  · rcases List.mem_append.mp hq with y | y
    · obtain ⟨z1, z2, z3⟩ := a.x_ q y
      rw [upd_ne z2]; exact ⟨z1, z2, z3⟩
    · rw [List.mem_singleton.mp y, upd_ne lh]; exact ⟨hl, lh, lr⟩
  · rcases List.mem_append.mp hq with y | y
    · exact a.b_ q y
    · rw [List.mem_singleton.mp y]; exact b
theorem rp1 (xs : List Str) : (PyData.list (xs.map PyData.str)).showable = true := by show PyData.showableAll (xs.map PyData.str) = true; exact showable_strs xs
theorem rp2 (xs : List Str) : (PyData.list (xs.map PyData.str)).hasDict = false := by show PyData.hasDictAll (xs.map PyData.str) = false; exact hasDict_strs xs
theorem rp3 {xs : List Str} (hx : ∀ x ∈ xs, Asc x ∧ x.length ≤ 1000) : (PyData.list (xs.map PyData.str)).depth ≤ 10 := by
  have := (lay_strs fun x hx' => (hx x hx').1).2
  show PyData.depthAll (xs.map PyData.str) + 1 ≤ 10
  omega
theorem rp4 (xs : List Str) : (PyData.list (xs.map PyData.str)).shown = shownS xs := rfl
theorem bear_rows (t : Str) (prs : List LRow) : (prs.filter fun q => decide (t ∈ q.2.2.2)).map (fun q => V.str q.2.1) = (bear (nwR prs) t).map V.str := by
  unfold bear nwR
  rw [List.filter_map, List.map_map, List.map_map]
  rfl
theorem nd_more {fs ws : List Str} (h1 : fs.Nodup) (h2 : ws.Nodup) : (fs ++ ws.filter fun y => !decide (y ∈ fs)).Nodup := by
  rw [List.nodup_append]
  refine ⟨h1, h2.filter _, fun a ha b hb e => ?_⟩
  have := (List.mem_filter.mp hb).2
  rw [← e, decide_eq_true ha] at this
  cases this
theorem mem_more {fs ws : List Str} {t : Str} : t ∈ fs ++ ws.filter (fun y => !decide (y ∈ fs)) ↔ t ∈ fs ∨ t ∈ ws := by
  rw [List.mem_append, List.mem_filter]
  constructor
  · rintro (h | h)
    · exact .inl h
    · exact .inr h.1
  · rintro (h | h)
    · exact .inl h
    · by_cases z : t ∈ fs
      · exact .inl z
      · exact .inr ⟨h, by rw [decide_eq_false z]; rfl⟩
def spLooked (a : Adr) : Sp := fun vs H Q _ => ∃ (x r wl : Addr) (prs : List LRow) (W : List Str) (n : Nat) (F : List Addr) (look d : Int), vs = [.ref x, .ref r, .int look, .int d, .ref wl] ∧ IXs a H x (nwR prs) W n F ∧ n ≤ 30 ∧ RowsI H r prs F ∧ WdI prs ∧ H wl = some (.lst (W.map V.str)) ∧ 0 < W.length ∧ (∀ y ∈ W, WordS y) ∧
  ∀ (H' : Hp) (pr f g : Addr) (xs dues : List Str), Same H H' → H' pr = some (.lst [.ref f, .ref g]) → H' f = some (.lst (xs.map V.str)) → H' g = some (.lst (dues.map V.str)) → H f = none → g ≠ f → pr ≠ f → xs = sortS dues → dues.length ≤ 30 → (∀ y ∈ xs, WordS y) → Q (.ref pr) H'
section
variable {P : Program} {w : World} {K : PySem.W.Frag} {mg : Str → Option Value} {base : Heap} {a : Adr}
theorem ok_looked {fd : FuncData} (F : Fun K "_law_looked" "_law_looked" sl_looked a.f_l_looked fd) (T : Txt K mg a) (FF : Funs K a) : FnOk P w K mg base CX0 3 a.f_l_looked fd ["_law_index", "_law_rows", "_law_look", "_law_draw", "_law_words"] (spLooked a) := by
  obtain ⟨fdH, F_hav, b_Index_having⟩ := FF.F_Index_having
  obtain ⟨fdW, F_wor, b_Index_words⟩ := FF.F_Index_words
  obtain ⟨fdA, F_all, b_Index_all_words⟩ := FF.F_Index_all_words
  have G_Index_having : FnOk P w K mg base CX0 1 a.f_Index_having fdH ["self", "word"] (spHaving a) := ok_having F_hav T
  have G_Index_words : FnOk P w K mg base CX0 2 a.f_Index_words fdW ["self", "name"] (spWords a) := ok_iwords F_wor T FF
  have G_Index_all_words : FnOk P w K mg base CX0 1 a.f_Index_all_words fdA ["self"] (spAllWords a) := ok_allwords F_all T
  refine F.ok sc_l_looked (fun vs H Q E h => ?_) (fun cdv A outer s H vs Q E hr h => ?_)
  · obtain ⟨x, r, wl, prs, W, n, F, look, d, rfl, _⟩ := h; rfl
  · obtain ⟨x, r, wl, prs, W, n, F, look, d, rfl, hix, hn30, hR, hA, hwl, hWl, hWw, k⟩ := h
    have hr_Index_having : Room 1 _ := hr.mono (by decide)
    have hr_Index_words : Room 2 _ := hr
    have hr_Index_all_words : Room 1 _ := hr.mono (by decide)
    have hu64 := hr.units
    obtain ⟨dx, _, _, hobj⟩ := hix.obj
    have hfew : prs.length ≤ 30 := by have := hix.len; rw [nwR, List.length_map] at this; omega
    have hWf := hix.few.2
    obtain ⟨vt, hvt, hvm, _⟩ := atI_some (xs := W.map V.str) (i := d % (W.length : Int)) (Int.emod_nonneg _ (by omega)) (by rw [List.length_map]; exact Int.emod_lt_of_pos _ (by omega))
    obtain ⟨t, ht, rfl⟩ := List.mem_map.mp hvm
    obtain ⟨t2, h2, sp2⟩ : ∃ tt, PSs (cxOf CX0 P w K mg base n_l_looked "_law_looked" (defScope sl_looked) a.f_l_looked cdv A outer s H E).nox ((defBody sl_looked).drop 2) tt ∧
        ∀ (H0 : Hp), Same H H0 → tt { nx := fun _ H' => Q .non H', rt := Q } [some (.ref x), some (.ref r), some (.int look), some (.int d), some (.ref wl), none, none, none] H0 := by
      refine ⟨_, (pss_cons (ps_set (i := 7) sc_l_looked.nd rfl (Or.inr rfl) (pe_lstS pas_nil))
        (pss_cons (ps_for PassesOwn.never rfl (pi_list (pv 1)) (pg_name (i := 6) sc_l_looked.nd rfl (Or.inl rfl)) (pss_one (ps_set (i := 7) sc_l_looked.nd rfl (Or.inr rfl) (pe_op op_cat (pv 7) (pe_comp (sc := defScope sl_looked) (N := n_l_looked) (fr := [(7, "_law_found")]) ⟨rfl, rfl, by decide +kernel, by decide +kernel, by decide +kernel, by decide +kernel, by decide +kernel⟩ rfl rfl rfl (pi_list (pe_ix ix_tup (pv 6) pe_int (fun _ _ => rfl))) (fun _ _ _ _ => pts_one (pt_cmpR (op_notIn_seqK K) (pv 0) (pv 1) (by with_unfolding_all rfl))) (fun _ _ _ _ => (pv 0)))))))
        (pss_one (ps_ret (pe_lstS (pas_cons (pe_meth0 (pv 0) T.c_Index T.M_Index_all_words G_Index_all_words hr_Index_all_words b_Index_all_words .nil pass0) (pas_cons (pv 7) pas_nil))))))), ?_⟩
      intro H0 s0
      refine ⟨(by show 0 ≤ sizeLine; decide), fun g0 hg0 => ?_⟩
      have s1 : Same H (upd H0 g0 (.lst [])) := s0.upd_of (s0.free hg0)
      have e1 : (upd H0 g0 (.lst [])) g0 = some (.lst (([] : List Str).map V.str)) := upd_same
      show tSeq _ _ _ _ (upd H0 g0 (.lst []))
      generalize upd H0 g0 (.lst []) = H1 at s1 e1
      refine ⟨_, rfl, r, rfl, ⟨_, SqL.of (s1 _ _ hR.l_)⟩, for_list (K := K) (a := r) (xs := prs.map fun q => V.ref q.1) (fun i σ H3 => ∃ (g : Addr) (fs : List Str) (o : Option V), σ = [some (.ref x), some (.ref r), some (.int look), some (.int d), some (.ref wl), none, o, some (.ref g)] ∧ Same H H3 ∧ H3 g = some (.lst (fs.map V.str)) ∧ fs.Nodup ∧ (∀ y ∈ fs, y ∈ W) ∧ ∀ y, y ∈ fs ↔ ∃ q ∈ prs.take i, y ∈ q.2.2.2)
        ⟨g0, [], none, rfl, s1, e1, List.nodup_nil, (fun _ z => nomatch z), fun y => ⟨(fun z => nomatch z), fun ⟨q, z, _⟩ => by rw [List.take_zero] at z; cases z⟩⟩ ?_ ?_ ?_⟩
      · rintro i σ H3 _ ⟨g, fs, o, rfl, s3, e3, nd3, w3, m3⟩
        exact SqL.of (s3 _ _ hR.l_)
      · rintro i v σ H3 hv ⟨g, fs, o, rfl, s3, e3, nd3, w3, m3⟩
        obtain ⟨q, hq, rfl⟩ : ∃ q, prs[i]? = some q ∧ V.ref q.1 = v := by
          rw [List.getElem?_map] at hv
          cases e : prs[i]? with
          | none => rw [e] at hv; cases hv
          | some q => rw [e] at hv; exact ⟨q, rfl, Option.some.inj hv⟩
        have hqm : q ∈ prs := List.mem_of_getElem? hq
        have et : prs.take (i + 1) = prs.take i ++ [q] := by rw [List.take_add_one, hq]; rfl
        have hqw := hix.words (List.mem_map.mpr ⟨q, hqm, rfl⟩ : (q.2.1, q.2.2.2) ∈ nwR prs)
        have ndq : q.2.2.2.Nodup := by rw [← hqw.1]; exact SS_nd _
        have hfl := nodup_le nd3 w3
        have hql := nodup_le ndq hqw.2
        refine ⟨_, rfl, _, rfl, q.1, _, _, _, rfl, rfl, SqT.of (s3 _ _ (hR.t_ q hqm)), rfl, q.2.2.1, rfl, ⟨_, SqL.of (s3 _ _ (hR.w_ q hqm).1)⟩, comp_listFM (K := K) (xs := q.2.2.2) V.str (fun y => !decide (y ∈ fs)) V.str (Nat.le_of_lt (small1000 (by omega))) (SqL.of (s3 _ _ (hR.w_ q hqm).1)) ?_ ?_ ?_⟩
        · intro y H4 Q' hy s4 q'
          refine ⟨_, rfl, _, rfl, g, _, rfl, .inl (SqL.of (s4 _ _ e3)), rfl, flat_strs _, _, rfl, ?_⟩
          rw [if_pos rfl, inV_strs]
          exact q'
        · intro y H4 Q' hy s4 _ q'
          exact ⟨_, rfl, q'⟩
        · intro D hD
          have s4 : Same H3 (upd H3 D (.lst ((q.2.2.2.filter fun y => !decide (y ∈ fs)).map V.str))) := Same.upd_new hD
          have hfl2 : (q.2.2.2.filter fun y => !decide (y ∈ fs)).length ≤ q.2.2.2.length := List.length_filter_le _ _
          refine ⟨g, D, _, _, rfl, rfl, s4 _ _ e3, upd_same, (by rw [List.length_map, List.length_map]; exact Nat.le_of_lt (small1000 (by omega))), fun g2 hg2 => ?_⟩
          rw [← List.map_append]
          refine ⟨g2, fs ++ q.2.2.2.filter (fun y => !decide (y ∈ fs)), _, rfl, ((s3.trans s4).trans (Same.upd_new hg2)), upd_same, nd_more nd3 ndq, fun y hy => (mem_more.mp hy).elim (w3 y) (hqw.2 y), fun y => ?_⟩
          rw [mem_more, m3, et]
          constructor
          · rintro (⟨z, h1, h2⟩ | h)
            · exact ⟨z, List.mem_append_left _ h1, h2⟩
            · exact ⟨q, List.mem_append_right _ List.mem_cons_self, h⟩
          · rintro ⟨z, h1, h2⟩
            rcases List.mem_append.mp h1 with u | u
            · exact .inl ⟨z, u, h2⟩
            · rw [List.mem_singleton.mp u] at h2; exact .inr h2
      · rintro σ H3 ⟨g, fs, o, rfl, s3, e3, nd3, w3, m3⟩
        rw [List.length_map, List.take_length] at m3
        have hfl := nodup_le nd3 w3
        refine ⟨_, rfl, x, dx, _, rfl, s3 _ _ hobj, rfl, x, _, W, n, F, rfl, hix.same s3, fun l H4 ks ndk kl km nl s4 e4 => ?_⟩
        refine ⟨_, rfl, (by show 2 ≤ sizeLine; decide), fun pr hpr => ?_⟩
        have s5 : Same H4 (upd H4 pr (.lst [.ref l, .ref g])) := Same.upd_new hpr
        have ek : sortS ks = sortS fs := sortS_congr ((List.perm_ext_iff_of_nodup ndk nd3).mpr fun y => by
          rw [km, m3]
          constructor
          · rintro ⟨z, h1, h2⟩
            obtain ⟨q, hq, rfl⟩ := List.mem_map.mp h1
            exact ⟨q, hq, h2⟩
          · rintro ⟨q, h1, h2⟩
            exact ⟨(q.2.1, q.2.2.2), List.mem_map.mpr ⟨q, h1, rfl⟩, h2⟩)
        refine k _ pr l g (sortS ks) fs (s3.trans (s4.trans s5)) upd_same (s5 _ _ e4) (s5 _ _ (s4 _ _ e3)) (s3.free nl) (ne_of_none e3 nl) (ne_of_none e4 hpr).symm ek (by omega) fun y hy => ?_
        rw [ek] at hy
        exact hWw y (w3 y (sortS_mem.mp hy))
    refine ⟨_, (pss_cons (ps_if (pt_cmpR op_eq (pv 2) pe_int (nomark _)) (pss_cons (ps_set (i := 5) sc_l_looked.nd rfl (Or.inr rfl) (pe_ix ix_list (pv 4) (pe_op op_mod (pv 3) (pe_callB call_len_seq rfl T.b_len PySem.boot_len (pac (pv 4) pa_nil))) (fun _ _ => rfl)))
        (pss_one (ps_ret (pe_lstS (pas_cons (pe_meth (pv 0) T.c_Index T.M_Index_having G_Index_having hr_Index_having b_Index_having .nil pass0 (pac (pv 5) pa_nil)) (pas_cons (pe_comp (sc := defScope sl_looked) (N := n_l_looked) (fr := [(5, "_law_word")]) ⟨rfl, rfl, by decide +kernel, by decide +kernel, by decide +kernel, by decide +kernel, by decide +kernel⟩ rfl rfl rfl (pi_list (pv 1)) (fun _ _ _ _ => pts_one (pt_cmpR (op_in_seqK K) (pv 1) (pe_ix (ix_tupK K) (pv 0) pe_int (fun _ _ => rfl)) (by with_unfolding_all rfl))) (fun _ _ _ _ => (pe_ix (ix_tupK K) (pv 0) pe_int (fun _ _ => rfl)))) pas_nil)))))) pss_nil)
        (pss_cons (ps_if (PW.pt (pw_and (pt_cmpR op_eq (pv 2) pe_int (nomark _)) (pw_and1 (pt_cmpR (op_neD hu64) (pv 1) (pe_lstS pas_nil) (nomark _))))) (pss_cons (ps_set (i := 6) sc_l_looked.nd rfl (Or.inl rfl) (pe_ix ix_list (pv 1) (pe_op op_mod (pv 3) (pe_callB call_len_seq rfl T.b_len PySem.boot_len (pac (pv 1) pa_nil))) (fun _ _ => rfl)))
        (pss_one (ps_ret (pe_lstS (pas_cons (pe_meth (pv 0) T.c_Index T.M_Index_words G_Index_words hr_Index_words b_Index_words .nil pass0 (pac (pe_ix ix_tup (pv 6) pe_int (fun _ _ => rfl)) pa_nil)) (pas_cons (pe_ix ix_tup (pv 6) pe_int (fun _ _ => rfl)) pas_nil)))))) pss_nil)
        h2)), ?_⟩
    refine ⟨_, rfl, rfl, _, rfl, ite2 (fun _ => ?_) (fun _ => ?_)⟩
    · refine ⟨_, rfl, _, rfl, _, rfl, wl, _, rfl, .inl (SqL.of hwl), _, _, rfl, rfl, (by rw [List.length_map]; omega), wl, _, _, _, rfl, rfl, SqL.of hwl, (by rw [List.length_map]; exact hvt), ?_⟩
      refine ⟨_, rfl, x, dx, _, rfl, hobj, rfl, _, rfl, x, _, W, n, F, t, rfl, hix, fun l H1 nl s1 e1 => ?_⟩
      have hR1 := hR.same s1
      refine ⟨_, rfl, r, rfl, ⟨_, SqL.of hR1.l_⟩, comp_listFM (K := K) (xs := prs) (fun q => V.ref q.1) (fun q => decide (t ∈ q.2.2.2)) (fun q => V.str q.2.1) (Nat.le_of_lt (small1000 (by omega))) (SqL.of hR1.l_) ?_ ?_ ?_⟩
      · intro q H3 Q' hq s3 q'
        refine ⟨_, rfl, _, rfl, q.1, _, _, _, rfl, rfl, SqT.of (s3 _ _ (hR1.t_ q hq)), rfl, q.2.2.1, _, rfl, .inl (SqL.of (s3 _ _ (hR1.w_ q hq).1)), rfl, flat_strs _, _, rfl, ?_⟩
        rw [if_neg Bool.false_ne_true, inV_strs]
        exact q'
      · intro q H3 Q' hq s3 _ q'
        exact ⟨_, rfl, q.1, _, _, _, rfl, rfl, SqT.of (s3 _ _ (hR1.t_ q hq)), rfl, q'⟩
      · intro D hD
        rw [bear_rows]
        have s2 : Same H1 (upd H1 D (.lst ((bear (nwR prs) t).map V.str))) := Same.upd_new hD
        have d2 : (upd H1 D (.lst ((bear (nwR prs) t).map V.str))) D = some (.lst ((bear (nwR prs) t).map V.str)) := upd_same
        have lD : l ≠ D := ne_of_none e1 hD
        generalize upd H1 D (.lst ((bear (nwR prs) t).map V.str)) = H2 at s2 d2
        refine ⟨(by show 2 ≤ sizeLine; decide), fun pr hpr => ?_⟩
        have s3 : Same H2 (upd H2 pr (.lst [.ref l, .ref D])) := Same.upd_new hpr
        have hbl := bear_len (nwR prs) t
        rw [nwR, List.length_map] at hbl
        refine k _ pr l D (sortS (bear (nwR prs) t)) (bear (nwR prs) t) (s1.trans (s2.trans s3)) upd_same (s3 _ _ (s2 _ _ e1)) (s3 _ _ d2) nl lD.symm (ne_of_none (s2 _ _ e1) hpr).symm rfl (by rw [nwR]; omega) fun y hy => ?_
        obtain ⟨ws, h1, _⟩ := bear_mem.mp (sortS_mem.mp hy)
        obtain ⟨q, hq, e⟩ := List.mem_map.mp h1
        have := (hA q hq).1
        rw [(Prod.mk.inj e).1] at this
        exact this
    · refine ⟨_, rfl, rfl, _, rfl, ?_⟩
      refine ite2 (fun _ => ?_) (fun _ => iteF (sp2 H (Same.refl H)))
      refine ⟨_, rfl, (by show 0 ≤ sizeLine; decide), fun e he => ?_⟩
      have s1 : Same H (upd H e (.lst [])) := Same.upd_new he
      have hR1 := hR.same s1
      refine ne_emptyI hR1.l_ (fun q hq => ⟨hR1.t_ q hq, (hR1.w_ q hq).1⟩) hA upd_same ⟨_, rfl, ?_⟩
      have hix1 := hix.same s1
      generalize upd H e (.lst []) = H1 at s1 hR1 hix1 ⊢
      cases hpe : prs.isEmpty with
      | true => exact iteF (sp2 H1 s1)
      | false =>
        have hpl : 0 < prs.length := by
          cases prs with
          | nil => cases hpe
          | cons _ _ => exact Nat.succ_pos _
        obtain ⟨v, hv, hvm2, _⟩ := atI_some (xs := prs.map fun q => V.ref q.1) (i := d % (prs.length : Int)) (Int.emod_nonneg _ (by omega)) (by rw [List.length_map]; exact Int.emod_lt_of_pos _ (by omega))
        obtain ⟨u, hu, rfl⟩ := List.mem_map.mp hvm2
        have hum : (u.2.1, u.2.2.2) ∈ nwR prs := List.mem_map.mpr ⟨u, hu, rfl⟩
        have huw := hix.words hum
        refine iteT ⟨_, rfl, _, rfl, _, rfl, r, _, rfl, .inl (SqL.of hR1.l_), _, _, rfl, rfl, (by rw [List.length_map]; omega), r, _, _, _, rfl, rfl, SqL.of hR1.l_, (by rw [List.length_map]; exact hv), ?_⟩
        refine ⟨_, rfl, x, dx, _, rfl, s1 _ _ hobj, rfl, _, rfl, u.1, _, _, _, rfl, rfl, SqT.of (hR1.t_ u hu), rfl, x, _, W, n, F, u.2.1, u.2.2.2, rfl, hix1, hum, fun l H2 nl s2 e2 => ?_⟩
        refine ⟨_, rfl, u.1, _, _, _, rfl, rfl, SqT.of (s2 _ _ (hR1.t_ u hu)), rfl, (by show 2 ≤ sizeLine; decide), fun pr hpr => ?_⟩
        have s3 : Same H2 (upd H2 pr (.lst [.ref l, .ref u.2.2.1])) := Same.upd_new hpr
        have hlw := nodup_le (show u.2.2.2.Nodup by rw [← huw.1]; exact SS_nd _) huw.2
        refine k _ pr l u.2.2.1 u.2.2.2 u.2.2.2 (s1.trans (s2.trans s3)) upd_same (s3 _ _ e2) (s3 _ _ (s2 _ _ (hR1.w_ u hu).1)) (s1.free nl) (ne_of_none (hR1.w_ u hu).1 nl) (ne_of_none e2 hpr).symm ?_ (by omega) fun y hy => (hA u hu).2 y hy
        rw [← SS_of (show u.2.2.2.Nodup by rw [← huw.1]; exact SS_nd _)]
        exact huw.1.symm
end
def spStands (a : Adr) : Sp := fun vs H Q _ => ∃ (x r wl h : Addr) (prs : List LRow) (W : List Str) (n : Nat) (F : List Addr) (d : Int) (hd : List HRow), vs = [.ref x, .ref r, .ref wl, .int d, .ref h] ∧ IXs a H x (nwR prs) W n F ∧ n ≤ 30 ∧ RowsI H r prs F ∧ WdI prs ∧ (∀ q ∈ prs, q.2.2.1 ≠ h) ∧ H wl = some (.lst (W.map V.str)) ∧ wl ≠ h ∧ 0 < W.length ∧ (∀ y ∈ W, WordS y) ∧
  HeldAt r h H hd ∧ ¬ h ∈ F ∧ hd.length < 800 ∧ ∀ (H' : Hp) (hd' : List HRow), HeldAt r h H' hd' → hd'.length ≤ hd.length + 4 → (∀ q ∈ hd', q ∈ hd ∨ H q.2.1 = none) → KpH h H H' → Q (.bl true) H'
theorem zz_ok : Asc "zz" ∧ ("zz" : Str).length ≤ 1000 := by
  refine ⟨fun c hc => ?_, by decide +kernel⟩
  have e : ("zz" : Str).cps.toList = [122, 122] := by decide +kernel
  rw [e] at hc
  have : c = 122 := by simpa using hc
  rw [this]; decide
section
variable {P : Program} {w : World} {K : PySem.W.Frag} {mg : Str → Option Value} {base : Heap} {a : Adr}
theorem ok_stands {fd : FuncData} (F : Fun K "_law_stands" "_law_stands" sl_stands a.f_l_stands fd) (T : Txt K mg a) (FF : Funs K a) : FnOk P w K mg base CX0 4 a.f_l_stands fd ["_law_index", "_law_rows", "_law_words", "_law_draw", "_law_held"] (spStands a) := by
  obtain ⟨fdL, F_l_looked, b_l_looked⟩ := FF.F_l_looked
  obtain ⟨fdI, F_l_is_list, b_l_is_list⟩ := FF.F_l_is_list
  have G_l_looked : FnOk P w K mg base CX0 3 a.f_l_looked fdL ["_law_index", "_law_rows", "_law_look", "_law_draw", "_law_words"] (spLooked a) := ok_looked F_l_looked T FF
  have G_l_is_list : FnOk P w K mg base CX0 1 a.f_l_is_list fdI ["_law_found", "_law_due"] spIsList := ok_islist F_l_is_list T
  refine F.ok sc_l_stands (fun vs H Q E h => ?_) (fun cdv A outer s H vs Q E hr h => ?_)
  · obtain ⟨x, r, wl, h, prs, W, n, F, d, hd, rfl, _⟩ := h; rfl
  · obtain ⟨x, r, wl, h, prs, W, n, F, d, hd, rfl, hix, hn30, hR, hA, hph, hwl, wlh, hWl, hWw, hh, hF, hdl, k⟩ := h
    have hr_l_looked : Room 3 _ := hr
    have hr_l_is_list : Room 1 _ := hr.mono (by decide)
    have hu64 := hr.units
    have hgd := hr.gd
    obtain ⟨dx, _, _, hobj⟩ := hix.obj
    have xh : x ≠ h := ne_of hobj hh.l_ fun z => nomatch z
    refine ⟨_, (pss_cons (ps_for PassesOwn.never rfl (pi_range1 rfl T.b_range (pac pe_int pa_nil)) (pg_name (i := 5) sc_l_stands.nd rfl (Or.inl rfl)) (pss_cons (ps_set (i := 6) sc_l_stands.nd rfl (Or.inl rfl) (pe_call G_l_looked hr_l_looked rfl T.m_l_looked F_l_looked.kp b_l_looked .nil pass0 (pac (pv 0) (pac (pv 1) (pac (pe_op op_mod (pe_op op_add (pv 3) (pv 5)) pe_int) (pac (pe_op op_fdiv (pv 3) pe_int) (pac (pv 2) pa_nil)))))))
        (pss_cons (ps_if (pt_not (pt_val (pe_call G_l_is_list hr_l_is_list rfl T.m_l_is_list F_l_is_list.kp b_l_is_list .nil pass0 (pac (pe_ix ix_list (pv 6) pe_int (fun _ _ => rfl)) (pac (pe_callB call_sorted rfl T.b_sorted PyProof.Rows.boot_sorted (pac (pe_ix ix_list (pv 6) pe_int (fun _ _ => rfl)) pa_nil)) pa_nil))))) (pss_one (ps_ret pe_bl)) pss_nil)
        (pss_cons (ps_if (pt_cmpR op_eq (pe_op op_mod (pe_op op_fdiv (pv 3) pe_int) pe_int) pe_int (nomark _)) (pss_one (ps_expr (pe_bm PySem.F.plainAttrs_list PySem.F.slot_list_append PySem.F.type_list_append mt_append (pe_ix ix_list (pv 6) pe_int (fun _ _ => rfl)) (pac pe_str pa_nil)))) pss_nil)
        (pss_one (ps_expr (pe_bm PySem.F.plainAttrs_list PySem.F.slot_list_append PySem.F.type_list_append mt_append (pv 4) (pac (pe_tupS (pas_cons (pe_ix ix_list (pv 6) pe_int (fun _ _ => rfl)) (pas_cons (pe_callB (call_repr hgd hu64) rfl T.b_repr PyProof.Rows.boot_repr (pac (pe_ix ix_list (pv 6) pe_int (fun _ _ => rfl)) pa_nil)) pas_nil))) pa_nil))))))))
        (pss_one (ps_ret pe_bl))), ?_⟩
    refine ⟨(4 : Int), rfl, by decide, by decide, for_range (n := 4) (fun i σ H3 => ∃ (o5 o6 : Option V) (hd3 : List HRow), σ = [some (.ref x), some (.ref r), some (.ref wl), some (.int d), some (.ref h), o5, o6] ∧ HeldAt r h H3 hd3 ∧ hd3.length ≤ hd.length + i ∧ (∀ q ∈ hd3, q ∈ hd ∨ H q.2.1 = none) ∧ KpH h H H3)
      ⟨none, none, hd, rfl, hh, Nat.le_refl _, fun q hq => .inl hq, fun _ _ _ e => e⟩ ?_ ?_⟩
    · rintro i σ H3 hi ⟨o5, o6, hd3, rfl, hh3, hl3, in3, kp3⟩
      have hix3 : IXs a H3 x (nwR prs) W n F := hix.keep fun c o hc e => kp3 c o (hc.elim (fun z => by rw [z]; exact xh) fun z y => hF (by rw [← y]; exact z)) e
      have hR3 : RowsI H3 r prs F := hR.keep (fun c o hc e => kp3 c o (by
        rcases hc with rfl | ⟨q, hq, rfl | rfl⟩
        · exact hh.hr.symm
        · exact ne_of (hR.t_ q hq) hh.l_ fun z => nomatch z
        · exact hph q hq) e) fun c hc => .inl hc
      refine ⟨_, rfl, _, rfl, _, rfl, _, rfl, _, _, rfl, rfl, _, _, rfl, rfl, (by show (0 : Int) < 3; decide), _, rfl, _, _, rfl, rfl, ⟨by decide, by decide⟩, _, rfl, x, r, wl, prs, W, n, F, _, _, rfl, hix3, hn30, hR3, hA, kp3 _ _ wlh hwl, hWl, hWw, ?_⟩
      intro H4 pr f g xs dues s4 epr ef eg nf gf prf exs hdl4 hxw
      have fh : f ≠ h := (ne_of_none hh3.l_ nf).symm
      have fr : f ≠ r := (ne_of_none hR3.l_ nf).symm
      have nf0 : H f = none := by
        cases e : H f with
        | none => rfl
        | some o => rw [kp3 f o fh e] at nf; cases nf
      have hxl : xs.length ≤ 30 := by rw [exs, sortS_len]; exact hdl4
      have hxa : ∀ y ∈ xs, Asc y ∧ y.length ≤ 1000 := fun y hy => ⟨(hxw y hy).asc, by have := (hxw y hy).hi; omega⟩
      refine ⟨_, rfl, pr, _, _, _, rfl, rfl, SqL.of epr, rfl, _, rfl, pr, _, _, _, rfl, rfl, SqL.of epr, rfl, g, dues, rfl, SqL.of eg, by omega, fun l2 hl2 => ?_⟩
      rw [← exs]
      have s5 : Same H4 (upd H4 l2 (.lst (xs.map V.str))) := Same.upd_new hl2
      have e5 : (upd H4 l2 (.lst (xs.map V.str))) l2 = some (.lst (xs.map V.str)) := upd_same
      generalize upd H4 l2 (.lst (xs.map V.str)) = H5 at s5 e5
      refine ⟨f, l2, xs, rfl, s5 _ _ ef, e5, (fun y hy => (hxa y hy).1), by omega, fun H6 s6 => ⟨_, rfl, iteF ?_⟩⟩
      have s7 := s4.trans (s5.trans s6)
      have epr6 := s6 _ _ (s5 _ _ epr)
      have ef6 := s6 _ _ (s5 _ _ ef)
      have hh6 := hh3.same s7
      have kp6 : KpH h H H6 := kp3.trans s7.kph
      have nd6 : ∀ q ∈ hd3, q.2.1 ≠ f := fun q hq => ne_of_none (hh3.x_ q hq).1 nf
      have fin : ∀ (H7 : Hp) (zs : List Str), HeldAt r h H7 hd3 → H7 pr = some (.lst [.ref f, .ref g]) → H7 f = some (.lst (zs.map V.str)) → zs.length ≤ 41 → (∀ y ∈ zs, Asc y ∧ y.length ≤ 1000) → KpH h H H7 → zs.length ≤ 40 →
          ∀ (u : Addr), H7 u = none → ∃ (hd' : List HRow), HeldAt r h (upd (upd H7 u (.tup [.ref f, .str (shownS zs)])) h (.lst ((hd3.map fun q => V.ref q.1) ++ [V.ref u]))) hd' ∧ hd'.length ≤ hd.length + (i + 1) ∧ (∀ q ∈ hd', q ∈ hd ∨ H q.2.1 = none) ∧ KpH h H (upd (upd H7 u (.tup [.ref f, .str (shownS zs)])) h (.lst ((hd3.map fun q => V.ref q.1) ++ [V.ref u]))) := by
        intro H7 zs hh7 epr7 ef7 hz1 hz2 kp7 hz3 u hu
        have s8 : Same H7 (upd H7 u (.tup [.ref f, .str (shownS zs)])) := Same.upd_new hu
        have el : (hd3.map fun q => V.ref q.1) ++ [V.ref u] = (hd3 ++ [((u, f, zs) : HRow)]).map fun q => V.ref q.1 := by rw [List.map_append]; rfl
        rw [el]
        refine ⟨_, held_push (hh7.same s8) upd_same (s8 _ _ ef7) fh fr ⟨hz3, hz2⟩, by rw [List.length_append, List.length_singleton]; omega, fun q hq => ?_, fun c o ne e => by rw [upd_ne ne]; exact s8 _ _ (kp7 _ _ ne e)⟩
        rcases List.mem_append.mp hq with y | y
        · exact in3 q y
        · rw [List.mem_singleton.mp y]; exact .inr nf0
      refine ⟨_, rfl, _, _, rfl, rfl, ⟨by decide, by decide⟩, _, _, rfl, rfl, (by show (0 : Int) < 2; decide), rfl, _, rfl, ?_⟩
      refine ite2 (fun _ => ?_) (fun _ => ?_)
      · refine ⟨_, rfl, pr, _, _, _, rfl, rfl, SqL.of epr6, rfl, .inl ⟨rfl, _, SqL.of ef6⟩, f, _, _, rfl, rfl, ef6, (by rw [List.length_map]; exact small1000 (by omega)), ?_⟩
        have kpf : ∀ c o, c ≠ f → H6 c = some o → (upd H6 f (.lst (xs.map V.str ++ [.str "zz"]))) c = some o := fun c o ne e => by rw [upd_ne ne]; exact e
        have ef7 : (upd H6 f (.lst (xs.map V.str ++ [.str "zz"]))) f = some (.lst ((xs ++ [("zz" : Str)]).map V.str)) := by rw [upd_same, List.map_append]; rfl
        show tSeq _ _ _ _ (upd H6 f (.lst (xs.map V.str ++ [.str "zz"])))
        generalize upd H6 f (.lst (xs.map V.str ++ [.str "zz"])) = H7 at kpf ef7
        have hh7 : HeldAt r h H7 hd3 := ⟨kpf _ _ fh.symm hh6.l_, hh6.hr, fun q hq => kpf _ _ (ne_of (hh6.t_ q hq) ef6 fun z => nomatch z) (hh6.t_ q hq), fun q hq => ⟨kpf _ _ (nd6 q hq) (hh6.x_ q hq).1, (hh6.x_ q hq).2⟩, hh6.b_⟩
        have epr7 := kpf _ _ prf epr6
        have kp7 : KpH h H H7 := fun c o ne e => kpf _ _ (ne_of_none e nf0) (kp6 _ _ ne e)
        have hza : ∀ y ∈ xs ++ [("zz" : Str)], Asc y ∧ y.length ≤ 1000 := fun y hy => by
          rcases List.mem_append.mp hy with z | z
          · exact hxa y z
          · rw [List.mem_singleton.mp z]; exact zz_ok
        have hzl : (xs ++ [("zz" : Str)]).length ≤ 40 := by rw [List.length_append, List.length_singleton]; omega
        refine ⟨_, rfl, .inl ⟨rfl, _, SqL.of hh7.l_⟩, _, rfl, pr, _, _, _, rfl, rfl, SqL.of epr7, rfl, _, rfl, pr, _, _, _, rfl, rfl, SqL.of epr7, rfl, f, .list ((xs ++ [("zz" : Str)]).map PyData.str), rfl, rd_strs (SqL.of ef7), rp1 _, rp2 _, rp3 hza, shown_len hzl hza, ?_⟩
        rw [rp4]
        refine ⟨(by show 2 ≤ sizeLine; decide), fun u hu => ?_⟩
        refine ⟨h, _, _, rfl, rfl, (Same.upd_new hu) _ _ hh7.l_, (by rw [List.length_map]; exact small1000 (by omega)), ?_⟩
        obtain ⟨hd', g1, g2, g3, g4⟩ := fin _ (xs ++ [("zz" : Str)]) hh7 epr7 ef7 (by omega) hza kp7 hzl u hu
        exact ⟨_, _, hd', rfl, g1, g2, g3, g4⟩
      · have hh7 := hh6
        have epr7 := epr6
        have ef7 := ef6
        have kp7 := kp6
        have hza := hxa
        have hzl : xs.length ≤ 40 := by omega
        refine ⟨_, rfl, .inl ⟨rfl, _, SqL.of hh7.l_⟩, _, rfl, pr, _, _, _, rfl, rfl, SqL.of epr7, rfl, _, rfl, pr, _, _, _, rfl, rfl, SqL.of epr7, rfl, f, .list (xs.map PyData.str), rfl, rd_strs (SqL.of ef7), rp1 _, rp2 _, rp3 hza, shown_len hzl hza, ?_⟩
        rw [rp4]
        refine ⟨(by show 2 ≤ sizeLine; decide), fun u hu => ?_⟩
        refine ⟨h, _, _, rfl, rfl, (Same.upd_new hu) _ _ hh7.l_, (by rw [List.length_map]; exact small1000 (by omega)), ?_⟩
        obtain ⟨hd', g1, g2, g3, g4⟩ := fin _ xs hh7 epr7 ef7 (by omega) hza kp7 hzl u hu
        exact ⟨_, _, hd', rfl, g1, g2, g3, g4⟩
    · rintro σ H3 ⟨o5, o6, hd3, rfl, hh3, hl3, in3, kp3⟩
      exact k H3 hd3 hh3 hl3 in3 kp3
end
theorem cut_two {rs : List Int} {m : Int} (hb : ∀ r ∈ rs, 0 ≤ r ∧ r < m) {lo hi : Int} (v : Nat) (e1 : lo = (v : Int)) (e2 : hi = ((v + 2 : Nat) : Int)) (h : v + 2 ≤ rs.length) :
    ∃ d0 d1 : Int, cutV (rs.map V.int) (some lo) (some hi) = [V.int d0, V.int d1] ∧ 0 ≤ d0 ∧ 0 ≤ d1 ∧ d1 < m := by
  subst e1 e2
  unfold cutV
  rw [HT.sIx_nat, HT.sIx_nat, List.length_map, Nat.min_eq_left h, Nat.min_eq_left (show v ≤ rs.length by omega), Nat.add_sub_cancel_left]
  rw [← List.map_drop, List.drop_eq_getElem_cons (by omega), List.drop_eq_getElem_cons (by omega)]
  exact ⟨_, _, rfl, (hb _ (List.getElem_mem _)).1, (hb _ (List.getElem_mem _)).1, (hb _ (List.getElem_mem _)).2⟩
theorem sortS_one (t : Str) : sortS [t] = [t] := List.perm_singleton.mp (sortS_perm [t])
theorem sortS_none : sortS [] = [] := List.perm_nil.mp (sortS_perm [])
theorem bear_one (p t : Str) (ws : List Str) : bear [(p, ws)] t = if t ∈ ws then [p] else [] := bear_snoc [] p ws t
theorem ix_zero {n : Nat} (h : 0 < n) : ixN n 0 = some 0 := by
  unfold ixN
  rw [if_pos (by decide), if_pos (by omega)]
  rfl
structure LS (a : Adr) (H : Hp) (x y r h D p wl : Addr) (rs : List Int) (ws W : List Str) (Ro : NW) (Fo F : List Addr) (prs : List LRow) (hd : List HRow) (n : Nat) : Prop where
  ix : IXs a H x (nwR prs) W n F
  ro : RowsI H r prs F
  wd : WdI prs
  ph : ∀ q ∈ prs, q.2.2.1 ≠ h
  he : HeldAt r h H hd
  hf : ∀ q ∈ hd, ¬ q.2.1 ∈ F
  hn : ¬ h ∈ F
  ot : IXs a H y Ro W 1 Fo
  dj : ∀ c ∈ Fo, ¬ c ∈ F
  orh : ¬ r ∈ Fo ∧ ¬ h ∈ Fo
  d_ : H D = some (.lst (rs.map V.int))
  p_ : H p = some (.lst (ws.map V.str))
  w_ : H wl = some (.lst (W.map V.str))
  nF : ¬ D ∈ F ∧ ¬ p ∈ F ∧ ¬ wl ∈ F
  nr : D ≠ r ∧ p ≠ r ∧ wl ≠ r
  nh : D ≠ h ∧ p ≠ h ∧ wl ≠ h
theorem LS.same {a : Adr} {H H' : Hp} {x y r h D p wl : Addr} {rs : List Int} {ws W : List Str} {Ro : NW} {Fo F : List Addr} {prs : List LRow} {hd : List HRow} {n : Nat} (l : LS a H x y r h D p wl rs ws W Ro Fo F prs hd n) (s : Same H H') : LS a H' x y r h D p wl rs ws W Ro Fo F prs hd n :=
  ⟨l.ix.same s, l.ro.same s, l.wd, l.ph, l.he.same s, l.hf, l.hn, l.ot.same s, l.dj, l.orh, s _ _ l.d_, s _ _ l.p_, s _ _ l.w_, l.nF, l.nr, l.nh⟩
theorem LS.done {a : Adr} {H H' : Hp} {x y r h D p wl : Addr} {rs : List Int} {ws W : List Str} {Ro : NW} {Fo F F' : List Addr} {prs prs' : List LRow} {hd : List HRow} {n m : Nat} (l : LS a H x y r h D p wl rs ws W Ro Fo F prs hd n)
    (ix' : IXs a H' x (nwR prs') W m F') (ro' : RowsI H' r prs' F') (wd' : WdI prs') (k : KpD r F H H') (sub : ∀ c ∈ F', c ∈ F ∨ H c = none) (ps : ∀ q ∈ prs', q ∈ prs ∨ H q.2.2.1 = none) : LS a H' x y r h D p wl rs ws W Ro Fo F' prs' hd m := by
  have nF' : ∀ c o, ¬ c ∈ F → H c = some o → ¬ c ∈ F' := fun c o n e z => (sub c z).elim n fun q => by rw [e] at q; cases q
  obtain ⟨dy, _, _, ey⟩ := l.ot.obj
  have yr : y ≠ r := ne_of ey l.ro.l_ fun z => nomatch z
  have alo : ∀ c ∈ Fo, ∃ o, H c = some o := fun c hc => (l.ot.kind hc).elim (fun ⟨_, e⟩ => ⟨_, e⟩) fun ⟨_, e⟩ => ⟨_, e⟩
  refine ⟨ix', ro', wd', fun q hq => ?_, ⟨k _ _ l.he.hr l.hn l.he.l_, l.he.hr, fun q hq => k _ _ (ne_of (l.he.t_ q hq) l.ro.l_ fun z => nomatch z) (l.ix.notTup (l.he.t_ q hq)) (l.he.t_ q hq), fun q hq => ⟨k _ _ (l.he.x_ q hq).2.2 (l.hf q hq) (l.he.x_ q hq).1, (l.he.x_ q hq).2⟩, l.he.b_⟩, fun q hq => nF' _ _ (l.hf q hq) (l.he.x_ q hq).1, nF' _ _ l.hn l.he.l_,
    l.ot.keep fun c o hc e => k c o (hc.elim (fun z => by rw [z]; exact yr) fun z q => l.orh.1 (by rw [← q]; exact z)) (hc.elim (fun z => by rw [z]; exact l.ix.notIns ey) (l.dj c)) e,
    fun c hc => let ⟨o, e⟩ := alo c hc; nF' c o (l.dj c hc) e, l.orh, k _ _ l.nr.1 l.nF.1 l.d_, k _ _ l.nr.2.1 l.nF.2.1 l.p_, k _ _ l.nr.2.2 l.nF.2.2 l.w_, ⟨nF' _ _ l.nF.1 l.d_, nF' _ _ l.nF.2.1 l.p_, nF' _ _ l.nF.2.2 l.w_⟩, l.nr, l.nh⟩
  rcases ps q hq with z | z
  · exact l.ph q z
  · exact (ne_of_none l.he.l_ z).symm
theorem LS.told {a : Adr} {H H' : Hp} {x y r h D p wl : Addr} {rs : List Int} {ws W : List Str} {Ro : NW} {Fo F : List Addr} {prs : List LRow} {hd hd' : List HRow} {n : Nat} (l : LS a H x y r h D p wl rs ws W Ro Fo F prs hd n)
    (he' : HeldAt r h H' hd') (k : KpH h H H') (hs : ∀ q ∈ hd', q ∈ hd ∨ H q.2.1 = none) : LS a H' x y r h D p wl rs ws W Ro Fo F prs hd' n := by
  obtain ⟨dx, _, _, ex⟩ := l.ix.obj
  obtain ⟨dy, _, _, ey⟩ := l.ot.obj
  have xh : x ≠ h := ne_of ex l.he.l_ fun z => nomatch z
  have yh : y ≠ h := ne_of ey l.he.l_ fun z => nomatch z
  refine ⟨l.ix.keep fun c o hc e => k c o (hc.elim (fun z => by rw [z]; exact xh) fun z q => l.hn (by rw [← q]; exact z)) e, l.ro.keep (fun c o hc e => k c o ?_ e) (fun c hc => .inl hc), l.wd, l.ph, he', fun q hq => (hs q hq).elim (l.hf q) l.ix.notIn, l.hn,
    l.ot.keep fun c o hc e => k c o (hc.elim (fun z => by rw [z]; exact yh) fun z q => l.orh.2 (by rw [← q]; exact z)) e, l.dj, l.orh, k _ _ l.nh.1 l.d_, k _ _ l.nh.2.1 l.p_, k _ _ l.nh.2.2 l.w_, l.nF, l.nr, l.nh⟩
  rcases hc with rfl | ⟨q, hq, rfl | rfl⟩
  · exact l.he.hr.symm
  · exact ne_of (l.ro.t_ q hq) l.he.l_ fun z => nomatch z
  · exact l.ph q hq
section
variable {P : Program} {w : World} {K : PySem.W.Frag} {mg : Str → Option Value} {base : Heap} {a : Adr}
theorem ok_law {fd : FuncData} (F : Fun K "law" "law" slaw a.f_law fd) (T : Txt K mg a) (FF : Funs K a) : FnOk P w K mg base CX0 12 a.f_law fd ["_law_script"] (spLaw K) := by
  obtain ⟨fdR, F_l_draws, b_l_draws⟩ := FF.F_l_draws
  obtain ⟨fdP, F_l_pool, b_l_pool⟩ := FF.F_l_pool
  obtain ⟨fdB, F_l_name_by, b_l_name_by⟩ := FF.F_l_name_by
  obtain ⟨fdI, F_init, b_Index_init⟩ := FF.F_Index_init
  obtain ⟨fdA, F_add, b_Index_add⟩ := FF.F_Index_add
  obtain ⟨fdH, F_hav, b_Index_having⟩ := FF.F_Index_having
  obtain ⟨fdW, F_all, b_Index_all_words⟩ := FF.F_Index_all_words
  obtain ⟨fdN, F_l_done, b_l_done⟩ := FF.F_l_done
  obtain ⟨fdS, F_l_stands, b_l_stands⟩ := FF.F_l_stands
  have G_l_draws : FnOk P w K mg base CX0 1 a.f_l_draws fdR ["_law_script", "_law_many"] (spDraws K) := ok_draws F_l_draws T
  have G_l_pool : FnOk P w K mg base CX0 2 a.f_l_pool fdP ["_law_draws_here"] (spPool K) := ok_pool F_l_pool T FF
  have G_l_name_by : FnOk P w K mg base CX0 1 a.f_l_name_by fdB ["_law_shape", "_law_k"] spNameBy := ok_nameby F_l_name_by T
  have G_Index_init : FnOk P w K mg base CX0 1 a.f_Index_init fdI ["self"] (spIInit a) := ok_iinit F_init T
  have G_Index_add : FnOk P w K mg base CX0 2 a.f_Index_add fdA ["self", "name", "words"] (spIAdd a) := ok_iadd F_add T FF
  have G_Index_having : FnOk P w K mg base CX0 1 a.f_Index_having fdH ["self", "word"] (spHaving a) := ok_having F_hav T
  have G_Index_all_words : FnOk P w K mg base CX0 1 a.f_Index_all_words fdW ["self"] (spAllWords a) := ok_allwords F_all T
  have G_l_done : FnOk P w K mg base CX0 3 a.f_l_done fdN ["_law_index", "_law_rows", "_law_pool_here", "_law_words", "_law_draws_here"] (spDone a) := ok_done F_l_done T FF
  have G_l_stands : FnOk P w K mg base CX0 4 a.f_l_stands fdS ["_law_index", "_law_rows", "_law_words", "_law_draw", "_law_held"] (spStands a) := ok_stands F_l_stands T FF
  refine F.ok sc_law (fun vs H Q E h => ?_) (fun cdv A outer s H vs Q E hr h => ?_)
  · obtain ⟨x, ns, rfl, _⟩ := h; rfl
  · obtain ⟨q, ns, rfl, hS, hlen, k⟩ := h
    have hr_l_draws : Room 1 _ := hr.mono (by decide)
    have hr_l_pool : Room 2 _ := hr.mono (by decide)
    have hr_l_name_by : Room 1 _ := hr.mono (by decide)
    have hr_Index_mk : Room 2 _ := hr.mono (by decide)
    have hr_Index_add : Room 2 _ := hr.mono (by decide)
    have hr_Index_having : Room 1 _ := hr.mono (by decide)
    have hr_Index_all_words : Room 1 _ := hr.mono (by decide)
    have hr_l_done : Room 3 _ := hr.mono (by decide)
    have hr_l_stands : Room 4 _ := hr.mono (by decide)
    have hu64 := hr.units
    have hgd := hr.gd
    have pick0 : ∀ (vs : List Str) (i : Int), (∀ y ∈ vs, WordS y) → 0 ≤ i → i < (vs.length : Int) → ∃ y, atI (vs.map V.str) i = some (V.str y) ∧ WordS y ∧ y ∈ vs := fun vs i hvs h0 h1 => by
      obtain ⟨v, hv, hvm, _⟩ := atI_some (xs := vs.map V.str) h0 (by rw [List.length_map]; exact h1)
      obtain ⟨y, hy, rfl⟩ := List.mem_map.mp hvm
      exact ⟨y, hv, hvs y hy, hy⟩
    obtain ⟨t12, h12, sp12⟩ : ∃ tt, PSs (cxOf CX0 P w K mg base n_law "law" (defScope slaw) a.f_law cdv A outer s H E).nox ((defBody slaw).drop 12) tt ∧
        ∀ (H6 : Hp) (σ : St) (r h : Addr) (hd : List HRow), σ[7]? = some (some (.ref h)) → σ.length = 9 → HeldAt r h H6 hd → hd.length ≤ 60 → tt { nx := fun _ H' => Q .non H', rt := Q } σ H6 := by
      refine ⟨_, (pss_one (ps_ret (pe_callB (call_all rfl) rfl T.b_all PyProof.Rows.boot_all (pac (pe_comp2 (sc := defScope slaw) (N := n_law) (fr := []) ⟨rfl, rfl, rfl, by decide +kernel, by decide +kernel, by decide +kernel, by decide +kernel, by decide +kernel⟩ rfl rfl rfl (pi_list (pv 7)) (fun _ _ _ _ => (pe_cmpR op_eq (pe_callB (call_reprK K hgd hu64) rfl T.b_repr PyProof.Rows.boot_repr (pac (pv 0) pa_nil)) (pv 1) (nomark _)))) pa_nil)))), ?_⟩
      intro H6 σ r h hd hσ hσl hh6 hl6
      refine ⟨_, hσ, h, rfl, ⟨_, SqL.of hh6.l_⟩, fun D0 hD0 => ⟨fun i m ys H7 => m = hd.length - i ∧ i ≤ hd.length ∧ ys = List.replicate i (V.bl true) ∧ Same H6 H7 ∧ H7 D0 = some (.lst ys), ⟨_, rfl, Nat.zero_le _, rfl, Same.upd_new hD0, upd_same⟩, ?_⟩⟩
      rintro i m ys H7 ⟨rfl, hi, rfl, s7, e7⟩
      have hh7 := hh6.same s7
      refine ⟨e7, ?_⟩
      by_cases hlt : i < hd.length
      · refine .inr ⟨⟨_, V.ref hd[i].1, SqL.of hh7.l_, by simp [hlt]⟩, ?_⟩
        rintro v H8 ⟨rfl, y⟩
        have ev := y _ (SqL.of hh7.l_)
        have ev' : v = V.ref hd[i].1 := by
          rw [List.getElem?_map, List.getElem?_eq_getElem hlt] at ev
          exact (Option.some.inj ev).symm
        have hm := List.getElem_mem hlt
        refine ⟨hd[i].1, _, _, ev', SqT.of (hh7.t_ _ hm), ?_⟩
        refine ⟨_, rfl, _, .list (hd[i].2.2.map PyData.str), rfl, rd_strs (SqL.of (hh7.x_ _ hm).1), rp1 _, rp2 _, rp3 (hh7.b_ _ hm).2, shown_len (hh7.b_ _ hm).1 (hh7.b_ _ hm).2, ?_⟩
        rw [rp4]
        refine ⟨_, rfl, rfl, ?_⟩
        rw [decide_eq_true rfl]
        exact ⟨e7, by rw [List.length_replicate]; exact small1000 (by omega), hd.length - (i + 1), by omega, rfl, by omega, by rw [List.replicate_succ'], s7.upd_of hD0, upd_same⟩
      · have ei : i = hd.length := by omega
        refine .inl ⟨⟨_, SqL.of hh7.l_, by rw [List.length_map]; omega⟩, ?_⟩
        refine ⟨D0, List.replicate i true, rfl, SqL.of (by rw [List.map_replicate]; exact e7), ?_⟩
        rw [show (List.replicate i true).all id = true by simp]
        exact k H7
    obtain ⟨t4, h4, sp4⟩ : ∃ tt, PSs (cxOf CX0 P w K mg base n_law "law" (defScope slaw) a.f_law cdv A outer s H E).nox ((defBody slaw).drop 4) tt ∧
        ∀ (H3 : Hp) (D p wl : Addr) (rs : List Int) (ws W : List Str), rs.length = 60 → (∀ r ∈ rs, 0 ≤ r ∧ r < 2147483629) → 2 ≤ ws.length → (∀ y ∈ ws, WordS y) → 2 ≤ W.length → W.length ≤ 20 → (∀ y ∈ W, WordS y) → H3 D = some (.lst (rs.map V.int)) → H3 p = some (.lst (ws.map V.str)) → H3 wl = some (.lst (W.map V.str)) →
          tt { nx := fun _ H' => Q .non H', rt := Q } [some (.ref q), some (.ref D), some (.ref p), some (.ref wl), none, none, none, none, none] H3 := by
      refine ⟨_, (pss_cons (ps_set (i := 4) sc_law.nd rfl (Or.inl rfl) (pe_make0 T.k_Index G_Index_init hr_Index_mk rfl T.mc_Index b_Index_init .nil pass0))
        (pss_cons (ps_set (i := 5) sc_law.nd rfl (Or.inl rfl) (pe_make0 T.k_Index G_Index_init hr_Index_mk rfl T.mc_Index b_Index_init .nil pass0))
        (pss_cons (ps_expr (pe_meth (pv 5) T.c_Index T.M_Index_add G_Index_add hr_Index_add b_Index_add .nil pass0 (pac (pe_ix ix_list (pv 2) pe_int (fun _ _ => rfl)) (pac (pe_lstS (pas_cons (pe_ix ix_list (pv 3) pe_int (fun _ _ => rfl)) pas_nil)) pa_nil))))
        (pss_cons (ps_set (i := 6) sc_law.nd rfl (Or.inl rfl) (pe_lstS pas_nil))
        (pss_cons (ps_set (i := 7) sc_law.nd rfl (Or.inl rfl) (pe_lstS pas_nil))
        (pss_cons (ps_for PassesOwn.never rfl (pi_range1 rfl T.b_range (pac (pe_op op_add pe_int (pe_op op_mod (pe_ix ix_list (pv 1) pe_int (fun _ _ => rfl)) pe_int)) pa_nil)) (pg_name (i := 8) sc_law.nd rfl (Or.inl rfl)) (pss_cons (ps_if (pt_not (pt_val (pe_call G_l_done hr_l_done rfl T.m_l_done F_l_done.kp b_l_done .nil pass0 (pac (pv 4) (pac (pv 6) (pac (pv 2) (pac (pv 3) (pac (pe_slice sl_list (pv 1) (po_some (pe_op op_add pe_int (pe_op op_mul pe_int (pv 8)))) (po_some (pe_op op_add pe_int (pe_op op_mul pe_int (pv 8))))) pa_nil)))))))) (pss_one (ps_ret pe_bl)) pss_nil)
        (pss_one (ps_if (pt_not (pt_val (pe_call G_l_stands hr_l_stands rfl T.m_l_stands F_l_stands.kp b_l_stands .nil pass0 (pac (pv 4) (pac (pv 6) (pac (pv 3) (pac (pe_ix ix_list (pv 1) (pe_op op_add pe_int (pe_op op_mul pe_int (pv 8))) (fun _ _ => rfl)) (pac (pv 7) pa_nil)))))))) (pss_one (ps_ret pe_bl)) pss_nil))))
        (pss_cons (ps_if (PW.pt (pw_or (pt_cmpR (op_neD hu64) (pe_meth (pv 5) T.c_Index T.M_Index_having G_Index_having hr_Index_having b_Index_having .nil pass0 (pac (pe_ix ix_list (pv 3) pe_int (fun _ _ => rfl)) pa_nil)) (pe_lstS (pas_cons (pe_ix ix_list (pv 2) pe_int (fun _ _ => rfl)) pas_nil)) (nomark _)) (pw_or1 (pt_cmpR (op_neD hu64) (pe_meth0 (pv 5) T.c_Index T.M_Index_all_words G_Index_all_words hr_Index_all_words b_Index_all_words .nil pass0) (pe_lstS (pas_cons (pe_ix ix_list (pv 3) pe_int (fun _ _ => rfl)) pas_nil)) (nomark _))))) (pss_one (ps_ret pe_bl)) pss_nil)
        (pss_cons (ps_if (PW.pt (pw_and (pt_cmpR op_ne (pe_ix ix_list (pv 3) pe_int (fun _ _ => rfl)) (pe_ix ix_list (pv 3) pe_int (fun _ _ => rfl)) (nomark _)) (pw_and1 (pt_cmpR (op_neD hu64) (pe_meth (pv 5) T.c_Index T.M_Index_having G_Index_having hr_Index_having b_Index_having .nil pass0 (pac (pe_ix ix_list (pv 3) pe_int (fun _ _ => rfl)) pa_nil)) (pe_lstS pas_nil) (nomark _))))) (pss_one (ps_ret pe_bl)) pss_nil)
        h12)))))))), ?_⟩
      intro H3 D p wl rs ws W hrl hrb hws hww hW2 hW20 hWw hD hp hwl
      obtain ⟨p0, ep0, wp0, _⟩ := pick0 ws 0 hww (by decide) (by omega)
      obtain ⟨w0, ew0, ww0, mw0⟩ := pick0 W 0 hWw (by decide) (by omega)
      obtain ⟨w1, ew1, ww1, _⟩ := pick0 W 1 hWw (by decide) (by omega)
      intro x dx nx nd ne
      refine ⟨x, dx, W, rfl, hW20, upd_same, fun H4 Fx hs4 hf4 hix4 => ⟨rfl, ?_⟩⟩
      have s4 : Same H3 H4 := fun c o e => hs4 c o (ne_of_none e nx) (by rw [upd_ne (ne_of_none e nx), upd_ne (ne_of_none e nd)]; exact e)
      have nFx : ∀ c o, H3 c = some o → ¬ c ∈ Fx := fun c o e z => by
        have := hf4 c z
        rw [upd_ne (ne_of_none e nx), upd_ne (ne_of_none e nd), e] at this
        cases this
      intro y dy ny nd2 ne2
      refine ⟨y, dy, W, rfl, hW20, upd_same, fun H5 Fy hs5 hf5 hiy5 => ⟨rfl, ?_⟩⟩
      have s5 : Same H4 H5 := fun c o e => hs5 c o (ne_of_none e ny) (by rw [upd_ne (ne_of_none e ny), upd_ne (ne_of_none e nd2)]; exact e)
      have nFy : ∀ c o, H4 c = some o → ¬ c ∈ Fy := fun c o e z => by
        have := hf5 c z
        rw [upd_ne (ne_of_none e ny), upd_ne (ne_of_none e nd2), e] at this
        cases this
      have alx : ∀ c ∈ Fx, ∃ o, H4 c = some o := fun c hc => (hix4.kind hc).elim (fun ⟨_, e⟩ => ⟨_, e⟩) fun ⟨_, e⟩ => ⟨_, e⟩
      obtain ⟨dx4, _, _, ex4⟩ := hix4.obj
      obtain ⟨dy5, _, _, ey5⟩ := hiy5.obj
      have hix5 := hix4.same s5
      have s35 := s4.trans s5
      refine ⟨_, rfl, y, dy5, _, rfl, ey5, rfl, _, rfl, p, _, _, _, rfl, rfl, SqL.of (s35 _ _ hp), ep0, _, rfl, wl, _, _, _, rfl, rfl, SqL.of (s35 _ _ hwl), ew0, (by show 1 ≤ sizeLine; decide), fun m hm => ?_⟩
      have s6 : Same H5 (upd H5 m (.lst [.str w0])) := Same.upd_new hm
      have m6 : (upd H5 m (.lst [.str w0])) m = some (.lst ([w0].map V.str)) := upd_same
      generalize upd H5 m (.lst [.str w0]) = H6 at s6 m6
      refine ⟨y, m, [], W, 0, Fy, p0, [w0], rfl, hiy5.same s6, by decide, (fun z => nomatch z), m6, (fun z hz => by rw [List.mem_singleton.mp hz]; exact mw0), (by show 1 ≤ 60; decide), fun H7 Fo hiy7 kp7 sub7 => ?_⟩
      have hRo : ([] : NW) ++ [(p0, SS [w0])] = [(p0, SS [w0])] := rfl
      rw [hRo] at hiy7
      have k37 : ∀ c o, H4 c = some o → H7 c = some o := fun c o e => kp7 c o (nFy c o e) (s6 _ _ (s5 _ _ e))
      have nFo : ∀ c o, H4 c = some o → ¬ c ∈ Fo := fun c o e z => (sub7 c z).elim (nFy c o e) fun q => by rw [s6 _ _ (s5 _ _ e)] at q; cases q
      have hix7 : IXs a H7 x [] W 0 Fx := hix4.same k37
      refine ⟨(by show 0 ≤ sizeLine; decide), fun r hr0 => ?_⟩
      have s8 : Same H7 (upd H7 r (.lst [])) := Same.upd_new hr0
      have r8 : (upd H7 r (.lst [])) r = some (.lst []) := upd_same
      show tSeq _ _ _ _ (upd H7 r (.lst []))
      generalize upd H7 r (.lst []) = H8 at s8 r8
      refine ⟨(by show 0 ≤ sizeLine; decide), fun h hh0 => ?_⟩
      have s9 : Same H8 (upd H8 h (.lst [])) := Same.upd_new hh0
      have h9 : (upd H8 h (.lst [])) h = some (.lst []) := upd_same
      have rh : r ≠ h := ne_of_none r8 hh0
      show tSeq _ _ _ _ (upd H8 h (.lst []))
      generalize upd H8 h (.lst []) = H9 at s9 h9
      have s79 := s8.trans s9
      have hn7 : H7 h = none := s8.free hh0
      have k39 : ∀ c o, H3 c = some o → H9 c = some o := fun c o e => s79 c o (k37 c o (s4 _ _ e))
      have ls0 : LS a H9 x y r h D p wl rs ws W [(p0, SS [w0])] Fo Fx [] [] 0 := ⟨hix7.same s79, ⟨s9 _ _ r8, (fun _ z => nomatch z), (fun _ z => nomatch z), hix7.notIn hr0⟩, (fun _ z => nomatch z), (fun _ z => nomatch z), ⟨h9, rh.symm, (fun _ z => nomatch z), (fun _ z => nomatch z), (fun _ z => nomatch z)⟩, (fun _ z => nomatch z), hix7.notIn hn7,
        hiy7.same s79, fun c hc z => let ⟨o, e⟩ := alx c z; nFo c o e hc, ⟨hiy7.notIn hr0, hiy7.notIn hn7⟩, k39 _ _ hD, k39 _ _ hp, k39 _ _ hwl, ⟨nFx _ _ hD, nFx _ _ hp, nFx _ _ hwl⟩, ⟨ne_of_none (k37 _ _ (s4 _ _ hD)) hr0, ne_of_none (k37 _ _ (s4 _ _ hp)) hr0, ne_of_none (k37 _ _ (s4 _ _ hwl)) hr0⟩, ⟨ne_of_none (k37 _ _ (s4 _ _ hD)) hn7, ne_of_none (k37 _ _ (s4 _ _ hp)) hn7, ne_of_none (k37 _ _ (s4 _ _ hwl)) hn7⟩⟩
      obtain ⟨z2, e2, _, _⟩ := row_pick hrb 2 (by decide) (by omega)
      have m0 : 0 ≤ z2 % 14 := Int.emod_nonneg _ (by decide)
      have m1 : z2 % 14 < 14 := Int.emod_lt_of_pos _ (by decide)
      refine ⟨_, rfl, D, _, _, _, rfl, rfl, SqL.of ls0.d_, e2, _, _, rfl, rfl, (by show (0 : Int) < 14; decide), _, _, rfl, rfl, _, rfl, by omega, by omega, for_range (n := (1 + z2 % 14).toNat) (fun i σ G => ∃ (o : Option V) (prs : List LRow) (hd : List HRow) (F : List Addr), σ = [some (.ref q), some (.ref D), some (.ref p), some (.ref wl), some (.ref x), some (.ref y), some (.ref r), some (.ref h), o] ∧ LS a G x y r h D p wl rs ws W [(p0, SS [w0])] Fo F prs hd i ∧ hd.length ≤ 4 * i)
        ⟨none, [], [], Fx, rfl, ls0, Nat.zero_le _⟩ ?_ ?_⟩
      · rintro i σ G hi ⟨o, prs, hd, F, rfl, ls, hl⟩
        have hi14 : i < 14 := by omega
        obtain ⟨d0, d1, ec, g0, g1, g2⟩ := cut_two hrb (lo := 5 + 3 * (0 + (i : Int))) (hi := 7 + 3 * (0 + (i : Int))) (5 + 3 * i) (by omega) (by omega) (by omega)
        refine ⟨_, rfl, _, rfl, _, rfl, _, rfl, _, rfl, _, rfl, _, _, rfl, rfl, .inl ⟨by omega, by omega⟩, _, _, rfl, rfl, _, rfl, _, rfl, _, _, rfl, rfl, .inl ⟨by omega, by omega⟩, _, _, rfl, rfl, _, rfl, D, _, rfl, SqL.of ls.d_, fun dr hdr => ?_⟩
        rw [ec]
        have sA : Same G (upd G dr (.lst [V.int d0, V.int d1])) := Same.upd_new hdr
        have ed : (upd G dr (.lst [V.int d0, V.int d1])) dr = some (.lst [V.int d0, V.int d1]) := upd_same
        generalize upd G dr (.lst [V.int d0, V.int d1]) = G1 at sA ed
        have ls1 := ls.same sA
        refine ⟨x, r, p, wl, dr, prs, ws, W, i, F, d0, d1, rfl, ls1.ix, by omega, ls1.ro, ls1.wd, ls1.p_, by omega, hww, ls1.w_, ls1.nr.2.2, ls1.nF.2.2, by omega, hWw, ed, g0, g1, g2, fun G2 prs2 F2 ix2 ro2 wd2 kp2 sub2 ps2 => ⟨_, rfl, iteF ?_⟩⟩
        have ls2 := ls1.done ix2 ro2 wd2 kp2 sub2 ps2
        obtain ⟨z6, e6, z60, z61⟩ := row_pick hrb (7 + 3 * (0 + (i : Int))) (by omega) (by omega)
        refine ⟨_, rfl, _, rfl, _, rfl, _, rfl, _, rfl, _, _, rfl, rfl, .inl ⟨by omega, by omega⟩, _, _, rfl, rfl, D, _, _, _, rfl, rfl, SqL.of ls2.d_, e6, _, rfl, x, r, wl, h, prs2, W, i + 1, F2, z6, hd, rfl, ls2.ix, by omega, ls2.ro, ls2.wd, ls2.ph, ls2.w_, ls2.nh.2.2, by omega, hWw, ls2.he, ls2.hn, by omega, fun G3 hd3 he3 hl3 hs3 kp3 => ⟨_, rfl, iteF ?_⟩⟩
        exact ⟨_, prs2, hd3, F2, rfl, ls2.told he3 kp3 hs3, by omega⟩
      · rintro σ G ⟨o, prs, hd, F, rfl, ls, hl⟩
        obtain ⟨dyo, _, _, eyo⟩ := ls.ot.obj
        have inw : ∀ t, t ∈ SS [w0] ↔ t = w0 := fun t => by rw [mem_SS, List.mem_singleton]
        refine ⟨_, rfl, y, dyo, _, rfl, eyo, rfl, _, rfl, wl, _, _, _, rfl, rfl, SqL.of ls.w_, ew0, y, _, W, 1, Fo, w0, rfl, ls.ot, fun l1 G1 nl1 s1 e1 => ?_⟩
        have b1 : sortS (bear [(p0, SS [w0])] w0) = [p0] := by rw [bear_one, if_pos ((inw w0).mpr rfl)]; exact sortS_one p0
        rw [b1] at e1
        have ls1 := ls.same s1
        refine ⟨_, rfl, p, _, _, _, rfl, rfl, SqL.of ls1.p_, ep0, (by show 1 ≤ sizeLine; decide), fun m1 hm1 => ?_⟩
        have s2 : Same G1 (upd G1 m1 (.lst [.str p0])) := Same.upd_new hm1
        refine ne_same (xs := [p0]) (SqL.of (s2 _ _ e1)) (SqL.of upd_same) (fun z hz => by rw [List.mem_singleton.mp hz]; exact wp0.asc) ⟨_, rfl, iteF ?_⟩
        have ls2 := ls1.same s2
        generalize upd G1 m1 (.lst [.str p0]) = G2 at s2 ls2 ⊢
        refine ⟨_, rfl, y, dyo, _, rfl, s2 _ _ (s1 _ _ eyo), rfl, y, _, W, 1, Fo, rfl, ls2.ot, fun l2 G3 ks ndk kl km nl2 s3 e3 => ?_⟩
        have b2 : sortS ks = [w0] := List.perm_singleton.mp ((sortS_perm ks).trans ((List.perm_ext_iff_of_nodup ndk (List.pairwise_singleton _ _)).mpr fun t => by
          rw [km, List.mem_singleton]
          constructor
          · rintro ⟨z, h1, h2⟩
            rw [List.mem_singleton.mp h1] at h2
            exact (inw t).mp h2
          · intro e
            exact ⟨_, List.mem_cons_self, (inw t).mpr e⟩))
        rw [b2] at e3
        have ls3 := ls2.same s3
        refine ⟨_, rfl, wl, _, _, _, rfl, rfl, SqL.of ls3.w_, ew0, (by show 1 ≤ sizeLine; decide), fun m2 hm2 => ?_⟩
        have s4 : Same G3 (upd G3 m2 (.lst [.str w0])) := Same.upd_new hm2
        refine ne_same (xs := [w0]) (SqL.of (s4 _ _ e3)) (SqL.of upd_same) (fun z hz => by rw [List.mem_singleton.mp hz]; exact ww0.asc) ⟨_, rfl, iteF ?_⟩
        have ls4 := ls3.same s4
        have s04 := s1.trans (s2.trans (s3.trans s4))
        generalize upd G3 m2 (.lst [.str w0]) = G4 at s4 ls4 s04 ⊢
        refine ⟨_, rfl, wl, _, _, _, rfl, rfl, SqL.of ls4.w_, ew1, _, rfl, wl, _, _, _, rfl, rfl, SqL.of ls4.w_, ew0, rfl, _, rfl, ?_⟩
        refine ite2 (fun hne => ?_) (fun _ => iteF (sp12 G4 _ r h hd rfl rfl ls4.he (by omega)))
        have hne' : ¬ w1 = w0 := fun z => by rw [z, decide_eq_true rfl] at hne; cases hne
        refine ⟨_, rfl, y, dyo, _, rfl, s04 _ _ eyo, rfl, _, rfl, wl, _, _, _, rfl, rfl, SqL.of ls4.w_, ew1, y, _, W, 1, Fo, w1, rfl, ls4.ot, fun l3 G5 nl3 s5 e5 => ?_⟩
        have b3 : sortS (bear [(p0, SS [w0])] w1) = [] := by rw [bear_one, if_neg fun z => hne' ((inw w1).mp z)]; exact sortS_none
        rw [b3] at e5
        refine ⟨(by show 0 ≤ sizeLine; decide), fun m3 hm3 => ?_⟩
        have s6 : Same G5 (upd G5 m3 (.lst [])) := Same.upd_new hm3
        refine ne_same (xs := []) (SqL.of (s6 _ _ e5)) (SqL.of upd_same) (fun _ z => nomatch z) ⟨_, rfl, iteF ?_⟩
        exact sp12 _ _ r h hd rfl rfl ((ls4.same s5).same s6).he (by omega)
    refine ⟨_, (pss_cons (ps_set (i := 1) sc_law.nd rfl (Or.inr rfl) (pe_call G_l_draws hr_l_draws rfl T.m_l_draws F_l_draws.kp b_l_draws .nil pass0 (pac (pv 0) (pac pe_int pa_nil))))
        (pss_cons (ps_set (i := 2) sc_law.nd rfl (Or.inl rfl) (pe_call G_l_pool hr_l_pool rfl T.m_l_pool F_l_pool.kp b_l_pool .nil pass0 (pac (pv 1) pa_nil)))
        (pss_cons (ps_setComp (sc := defScope slaw) (N := n_law) (i := 3) (fr := [(1, "_law_draws_here")]) ⟨rfl, rfl, by decide +kernel, by decide +kernel, by decide +kernel, by decide +kernel, by decide +kernel⟩ rfl rfl rfl sc_law.nd rfl rfl (pi_range1 rfl T.b_range (pac (pe_op op_add pe_int (pe_op op_mod (pe_ix ix_list (pv 1) pe_int (fun _ _ => rfl)) pe_int)) pa_nil)) (fun _ _ _ _ => pts_nil) (fun _ _ _ _ => (pe_call G_l_name_by hr_l_name_by rfl T.m_l_name_by F_l_name_by.kp b_l_name_by .nil pass0 (pac (pe_ix (ix_listK K) (pv 1) pe_int (fun _ _ => rfl)) (pac (pe_op op_add pe_int (pv 0)) pa_nil)))))
        (pss_cons (ps_if (pt_cmpR op_eq (pe_op op_mod (pe_ix ix_list (pv 1) pe_int (fun _ _ => rfl)) pe_int) pe_int (nomark _)) (pss_one (ps_asg (pe_ix ix_list (pv 2) pe_int (fun _ _ => rfl)) (pg_sub (pv 3) pe_int set_list))) pss_nil)
        h4)))), ?_⟩
    refine ⟨_, rfl, q, ns, 60, rfl, hS, by decide, fun D rs H1 hrl hrb s1 hD => ?_⟩
    refine ⟨_, rfl, D, rs, rfl, hD, by omega, hrb, fun p ws H2 hw2 hw10 hww s2 hp => ?_⟩
    have hD2 := s2 _ _ hD
    obtain ⟨z3, e3, b30, b31⟩ := row_pick hrb 3 (by decide) (by omega)
    obtain ⟨z4, e4, _, _⟩ := row_pick hrb 4 (by decide) (by omega)
    have m0 : 0 ≤ z4 % 8 := Int.emod_nonneg _ (by decide)
    have m1 : z4 % 8 < 8 := Int.emod_lt_of_pos _ (by decide)
    refine ⟨_, rfl, D, _, _, _, rfl, rfl, SqL.of hD2, e4, _, _, rfl, rfl, (by show (0 : Int) < 8; decide), _, _, rfl, rfl, _, rfl, by omega, by omega, comp_rangeG (n := (2 + z4 % 8).toNat) (fun i ys => ∃ vs : List Str, ys = vs.map V.str ∧ vs.length = i ∧ ∀ x ∈ vs, WordS x) (Nat.le_of_lt (small1000 (by omega))) ⟨[], rfl, rfl, fun _ z => nomatch z⟩ (fun i ys ⟨vs, e, el, _⟩ => by rw [e, List.length_map, el]) ?_ ?_⟩
    · rintro i ys H3 Q' hi ⟨vs, rfl, el, hw⟩ s3 q'
      refine ⟨_, rfl, D, _, _, _, rfl, rfl, SqL.of (s3 _ _ hD2), e3, _, rfl, _, _, rfl, rfl, z3, 3 + (0 + (i : Int)), rfl, b30, b31, by omega, by omega, fun y hy => q' _ H3 ⟨vs ++ [y], by rw [List.map_append]; rfl, by rw [List.length_append, List.length_singleton, el], fun z hz => ?_⟩ (Same.refl H3)⟩
      rcases List.mem_append.mp hz with z' | z'
      · exact hw z z'
      · rw [List.mem_singleton.mp z']; exact hy
    · rintro wl ys H3 hwl0 ⟨W, rfl, el, hWw⟩ s3 hwl
      have hD3 := s3 _ _ hD2
      have hp3 := s3 _ _ hp
      obtain ⟨p0, ep0, wp0, _⟩ := pick0 ws 0 hww (by decide) (by omega)
      refine ⟨_, rfl, D, _, _, _, rfl, rfl, SqL.of hD3, e3, _, _, rfl, rfl, (by show (0 : Int) < 5; decide), rfl, _, rfl, ?_⟩
      refine ite2 (fun _ => ?_) (fun _ => sp4 H3 D p wl rs ws W hrl hrb hw2 hww (by omega) (by omega) hWw hD3 hp3 hwl)
      refine ⟨_, rfl, p, _, _, _, rfl, rfl, SqL.of hp3, ep0, _, rfl, wl, _, _, _, rfl, rfl, hwl, ix_zero (by rw [List.length_map]; omega), ?_⟩
      have eW : (W.map V.str).set 0 (V.str p0) = (W.set 0 p0).map V.str := (List.map_set ..).symm
      rw [eW]
      refine sp4 _ D p wl rs ws (W.set 0 p0) hrl hrb hw2 hww (by rw [List.length_set]; omega) (by rw [List.length_set]; omega) (fun y hy => ?_) (by rw [upd_ne (ne_of_none hD2 hwl0)]; exact hD3) (by rw [upd_ne (ne_of_none hp hwl0)]; exact hp3) upd_same
      rcases List.mem_or_eq_of_mem_set hy with z | z
      · exact hWw y z
      · rw [z]; exact wp0
end
theorem all_mk {l : PySem.W.OpenLaw} {w : World} {K : PySem.W.Frag} {h : Heap} {mg : Str → Option Value} {fa : Addr} (X : K.In h) (G : h.Ns mainGlobals mg) (hfa : mg "law" = some (.ref fa))
    {f1 : Addr} {od1 an1 : Option Addr} {sl1 : Array (Option Value)} {oc1 kV1 dc1 pm1 cd1 ct1 : Value}
    {f2 : Addr} {od2 an2 : Option Addr} {sl2 : Array (Option Value)} {oc2 kV2 dc2 pm2 cd2 ct2 : Value}
    {f3 : Addr} {od3 an3 : Option Addr} {sl3 : Array (Option Value)} {oc3 kV3 dc3 pm3 cd3 ct3 : Value}
    {f4 : Addr} {od4 an4 : Option Addr} {sl4 : Array (Option Value)} {oc4 kV4 dc4 pm4 cd4 ct4 : Value}
    {f5 : Addr} {od5 an5 : Option Addr} {sl5 : Array (Option Value)} {oc5 kV5 dc5 pm5 cd5 ct5 : Value}
    {f6 : Addr} {od6 an6 : Option Addr} {sl6 : Array (Option Value)} {oc6 kV6 dc6 pm6 cd6 ct6 : Value}
    {f7 : Addr} {od7 an7 : Option Addr} {sl7 : Array (Option Value)} {oc7 kV7 dc7 pm7 cd7 ct7 : Value}
    {f8 : Addr} {od8 an8 : Option Addr} {sl8 : Array (Option Value)} {oc8 kV8 dc8 pm8 cd8 ct8 : Value}
    {f9 : Addr} {od9 an9 : Option Addr} {sl9 : Array (Option Value)} {oc9 kV9 dc9 pm9 cd9 ct9 : Value}
    {f10 : Addr} {od10 an10 : Option Addr} {sl10 : Array (Option Value)} {oc10 kV10 dc10 pm10 cd10 ct10 : Value}
    {f11 : Addr} {od11 an11 : Option Addr} {sl11 : Array (Option Value)} {oc11 kV11 dc11 pm11 cd11 ct11 : Value}
    {f12 : Addr} {od12 an12 : Option Addr} {sl12 : Array (Option Value)} {oc12 kV12 dc12 pm12 cd12 ct12 : Value}
    {f13 : Addr} {od13 an13 : Option Addr} {sl13 : Array (Option Value)} {oc13 kV13 dc13 pm13 cd13 ct13 : Value}
    {f14 : Addr} {od14 an14 : Option Addr} {sl14 : Array (Option Value)} {oc14 kV14 dc14 pm14 cd14 ct14 : Value}
    {f15 : Addr} {od15 an15 : Option Addr} {sl15 : Array (Option Value)} {oc15 kV15 dc15 pm15 cd15 ct15 : Value}
    {f16 : Addr} {od16 an16 : Option Addr} {sl16 : Array (Option Value)} {oc16 kV16 dc16 pm16 cd16 ct16 : Value}
    {f17 : Addr} {od17 an17 : Option Addr} {sl17 : Array (Option Value)} {oc17 kV17 dc17 pm17 cd17 ct17 : Value}
    {C_Index : Addr}
    (q_Index : PySem.W.nsIn K mainGlobals "Index" = some (some (.ref C_Index)))
    (a1 : PySem.W.nsIn K mainGlobals "_wall" = some (some (.ref f1)))
    (l1 : K.lookup f1 = some ⟨oc1, od1, .func (PySem.W.fnOf "_wall" "_wall" (defArgs swall) (defBody swall) (defScope swall) .none kV1 dc1 pm1 an1 cd1 ct1), sl1⟩)
    (c1 : PySem.W.codeIn K cd1 "_wall" = true)
    (k1 : PySem.W.keepIn K (.ref f1) = true)
    (a2 : PySem.W.nsIn K mainGlobals "check_there" = some (some (.ref f2)))
    (l2 : K.lookup f2 = some ⟨oc2, od2, .func (PySem.W.fnOf "check_there" "check_there" (defArgs scheck_there) (defBody scheck_there) (defScope scheck_there) .none kV2 dc2 pm2 an2 cd2 ct2), sl2⟩)
    (c2 : PySem.W.codeIn K cd2 "check_there" = true)
    (k2 : PySem.W.keepIn K (.ref f2) = true)
    (a3 : PySem.W.nsIn K mainGlobals "check_new" = some (some (.ref f3)))
    (l3 : K.lookup f3 = some ⟨oc3, od3, .func (PySem.W.fnOf "check_new" "check_new" (defArgs scheck_new) (defBody scheck_new) (defScope scheck_new) .none kV3 dc3 pm3 an3 cd3 ct3), sl3⟩)
    (c3 : PySem.W.codeIn K cd3 "check_new" = true)
    (k3 : PySem.W.keepIn K (.ref f3) = true)
    (a4 : PySem.W.nsIn K mainGlobals "_law_draws" = some (some (.ref f4)))
    (l4 : K.lookup f4 = some ⟨oc4, od4, .func (PySem.W.fnOf "_law_draws" "_law_draws" (defArgs sl_draws) (defBody sl_draws) (defScope sl_draws) .none kV4 dc4 pm4 an4 cd4 ct4), sl4⟩)
    (c4 : PySem.W.codeIn K cd4 "_law_draws" = true)
    (k4 : PySem.W.keepIn K (.ref f4) = true)
    (a5 : PySem.W.nsIn K mainGlobals "_law_name_by" = some (some (.ref f5)))
    (l5 : K.lookup f5 = some ⟨oc5, od5, .func (PySem.W.fnOf "_law_name_by" "_law_name_by" (defArgs sl_name_by) (defBody sl_name_by) (defScope sl_name_by) .none kV5 dc5 pm5 an5 cd5 ct5), sl5⟩)
    (c5 : PySem.W.codeIn K cd5 "_law_name_by" = true)
    (k5 : PySem.W.keepIn K (.ref f5) = true)
    (a6 : PySem.W.nsIn K mainGlobals "_law_pool" = some (some (.ref f6)))
    (l6 : K.lookup f6 = some ⟨oc6, od6, .func (PySem.W.fnOf "_law_pool" "_law_pool" (defArgs sl_pool) (defBody sl_pool) (defScope sl_pool) .none kV6 dc6 pm6 an6 cd6 ct6), sl6⟩)
    (c6 : PySem.W.codeIn K cd6 "_law_pool" = true)
    (k6 : PySem.W.keepIn K (.ref f6) = true)
    (a7 : PySem.W.nsIn K mainGlobals "_law_is_list" = some (some (.ref f7)))
    (l7 : K.lookup f7 = some ⟨oc7, od7, .func (PySem.W.fnOf "_law_is_list" "_law_is_list" (defArgs sl_is_list) (defBody sl_is_list) (defScope sl_is_list) .none kV7 dc7 pm7 an7 cd7 ct7), sl7⟩)
    (c7 : PySem.W.codeIn K cd7 "_law_is_list" = true)
    (k7 : PySem.W.keepIn K (.ref f7) = true)
    (a8 : PySem.W.nsIn K mainGlobals "_law_done" = some (some (.ref f8)))
    (l8 : K.lookup f8 = some ⟨oc8, od8, .func (PySem.W.fnOf "_law_done" "_law_done" (defArgs sl_done) (defBody sl_done) (defScope sl_done) .none kV8 dc8 pm8 an8 cd8 ct8), sl8⟩)
    (c8 : PySem.W.codeIn K cd8 "_law_done" = true)
    (k8 : PySem.W.keepIn K (.ref f8) = true)
    (a9 : PySem.W.nsIn K mainGlobals "_law_looked" = some (some (.ref f9)))
    (l9 : K.lookup f9 = some ⟨oc9, od9, .func (PySem.W.fnOf "_law_looked" "_law_looked" (defArgs sl_looked) (defBody sl_looked) (defScope sl_looked) .none kV9 dc9 pm9 an9 cd9 ct9), sl9⟩)
    (c9 : PySem.W.codeIn K cd9 "_law_looked" = true)
    (k9 : PySem.W.keepIn K (.ref f9) = true)
    (a10 : PySem.W.nsIn K mainGlobals "_law_stands" = some (some (.ref f10)))
    (l10 : K.lookup f10 = some ⟨oc10, od10, .func (PySem.W.fnOf "_law_stands" "_law_stands" (defArgs sl_stands) (defBody sl_stands) (defScope sl_stands) .none kV10 dc10 pm10 an10 cd10 ct10), sl10⟩)
    (c10 : PySem.W.codeIn K cd10 "_law_stands" = true)
    (k10 : PySem.W.keepIn K (.ref f10) = true)
    (a11 : PySem.W.nsIn K mainGlobals "law" = some (some (.ref f11)))
    (l11 : K.lookup f11 = some ⟨oc11, od11, .func (PySem.W.fnOf "law" "law" (defArgs slaw) (defBody slaw) (defScope slaw) .none kV11 dc11 pm11 an11 cd11 ct11), sl11⟩)
    (c11 : PySem.W.codeIn K cd11 "law" = true)
    (k11 : PySem.W.keepIn K (.ref f11) = true)
    (a12 : PySem.W.findIn K (.ref C_Index) "__init__" = some (some (.ref f12)))
    (i12 : PySem.W.isFn K (.ref f12) = true)
    (l12 : K.lookup f12 = some ⟨oc12, od12, .func (PySem.W.fnOf "__init__" "Index.__init__" (defArgs sIndex_init) (defBody sIndex_init) (defScope sIndex_init) .none kV12 dc12 pm12 an12 cd12 ct12), sl12⟩)
    (c12 : PySem.W.codeIn K cd12 "Index.__init__" = true)
    (k12 : PySem.W.keepIn K (.ref f12) = true)
    (a13 : PySem.W.findIn K (.ref C_Index) "add" = some (some (.ref f13)))
    (i13 : PySem.W.isFn K (.ref f13) = true)
    (l13 : K.lookup f13 = some ⟨oc13, od13, .func (PySem.W.fnOf "add" "Index.add" (defArgs sIndex_add) (defBody sIndex_add) (defScope sIndex_add) .none kV13 dc13 pm13 an13 cd13 ct13), sl13⟩)
    (c13 : PySem.W.codeIn K cd13 "Index.add" = true)
    (k13 : PySem.W.keepIn K (.ref f13) = true)
    (a14 : PySem.W.findIn K (.ref C_Index) "take_out" = some (some (.ref f14)))
    (i14 : PySem.W.isFn K (.ref f14) = true)
    (l14 : K.lookup f14 = some ⟨oc14, od14, .func (PySem.W.fnOf "take_out" "Index.take_out" (defArgs sIndex_take_out) (defBody sIndex_take_out) (defScope sIndex_take_out) .none kV14 dc14 pm14 an14 cd14 ct14), sl14⟩)
    (c14 : PySem.W.codeIn K cd14 "Index.take_out" = true)
    (k14 : PySem.W.keepIn K (.ref f14) = true)
    (a15 : PySem.W.findIn K (.ref C_Index) "having" = some (some (.ref f15)))
    (i15 : PySem.W.isFn K (.ref f15) = true)
    (l15 : K.lookup f15 = some ⟨oc15, od15, .func (PySem.W.fnOf "having" "Index.having" (defArgs sIndex_having) (defBody sIndex_having) (defScope sIndex_having) .none kV15 dc15 pm15 an15 cd15 ct15), sl15⟩)
    (c15 : PySem.W.codeIn K cd15 "Index.having" = true)
    (k15 : PySem.W.keepIn K (.ref f15) = true)
    (a16 : PySem.W.findIn K (.ref C_Index) "words" = some (some (.ref f16)))
    (i16 : PySem.W.isFn K (.ref f16) = true)
    (l16 : K.lookup f16 = some ⟨oc16, od16, .func (PySem.W.fnOf "words" "Index.words" (defArgs sIndex_words) (defBody sIndex_words) (defScope sIndex_words) .none kV16 dc16 pm16 an16 cd16 ct16), sl16⟩)
    (c16 : PySem.W.codeIn K cd16 "Index.words" = true)
    (k16 : PySem.W.keepIn K (.ref f16) = true)
    (a17 : PySem.W.findIn K (.ref C_Index) "all_words" = some (some (.ref f17)))
    (i17 : PySem.W.isFn K (.ref f17) = true)
    (l17 : K.lookup f17 = some ⟨oc17, od17, .func (PySem.W.fnOf "all_words" "Index.all_words" (defArgs sIndex_all_words) (defBody sIndex_all_words) (defScope sIndex_all_words) .none kV17 dc17 pm17 an17 cd17 ct17), sl17⟩)
    (c17 : PySem.W.codeIn K cd17 "Index.all_words" = true)
    (k17 : PySem.W.keepIn K (.ref f17) = true)
    (pg_Index : PySem.W.plainGet K C_Index Str.empty = true)
    (hd_Index : PySem.W.hasDictIn K C_Index = true)
    (po_Index : PySem.W.plainOver K C_Index = true)
    (sa_Index : PySem.W.findIn K (.ref C_Index) "__setattr__" = some (some (.builtin "object.__setattr__")))
    (kc_Index : PySem.W.keepIn K (.ref C_Index) = true)
    (mk_Index : PySem.W.makesIn K C_Index = true)
    (n_Index_entries : PySem.W.findIn K (.ref C_Index) "entries" = some none)
    (n_Index_bearers : PySem.W.findIn K (.ref C_Index) "bearers" = some none)
    (z1 : PySem.W.nsIn K mainGlobals "len" = some none)
    (z2 : PySem.W.nsIn K mainGlobals "range" = some none)
    (z3 : PySem.W.nsIn K mainGlobals "isinstance" = some none)
    (z4 : PySem.W.nsIn K mainGlobals "str" = some none)
    (z5 : PySem.W.nsIn K mainGlobals "list" = some none)
    (z6 : PySem.W.nsIn K mainGlobals "set" = some none)
    (z7 : PySem.W.nsIn K mainGlobals "all" = some none)
    (z8 : PySem.W.nsIn K mainGlobals "sorted" = some none)
    (z9 : PySem.W.nsIn K mainGlobals "repr" = some none) :
    ∃ fd : FuncData, (∀ (s : Shared) (v : Value), BindsTo s fd ⟨[v], []⟩ [("_law_script", v)]) ∧ ∀ base : Heap, K.In base → base.Ns mainGlobals mg → FnOk l.prog w K mg base CX0 12 fa fd ["_law_script"] (spLaw K) := by
  have e := hfa.symm.trans (PySem.W.mg_of X G a11)
  cases e
  have F1 := fun_mk (st := swall) l1 c1 k1
  have b1 := F1.binds (ps := ["k"]) fun _ _ _ _ _ _ us hl => match us, hl with | [_], _ => rfl
  have F2 := fun_mk (st := scheck_there) l2 c2 k2
  have b2 := F2.binds (ps := ["name", "there"]) fun _ _ _ _ _ _ us hl => match us, hl with | [_, _], _ => rfl
  have F3 := fun_mk (st := scheck_new) l3 c3 k3
  have b3 := F3.binds (ps := ["name", "there"]) fun _ _ _ _ _ _ us hl => match us, hl with | [_, _], _ => rfl
  have F4 := fun_mk (st := sl_draws) l4 c4 k4
  have b4 := F4.binds (ps := ["_law_script", "_law_many"]) fun _ _ _ _ _ _ us hl => match us, hl with | [_, _], _ => rfl
  have F5 := fun_mk (st := sl_name_by) l5 c5 k5
  have b5 := F5.binds (ps := ["_law_shape", "_law_k"]) fun _ _ _ _ _ _ us hl => match us, hl with | [_, _], _ => rfl
  have F6 := fun_mk (st := sl_pool) l6 c6 k6
  have b6 := F6.binds (ps := ["_law_draws_here"]) fun _ _ _ _ _ _ us hl => match us, hl with | [_], _ => rfl
  have F7 := fun_mk (st := sl_is_list) l7 c7 k7
  have b7 := F7.binds (ps := ["_law_found", "_law_due"]) fun _ _ _ _ _ _ us hl => match us, hl with | [_, _], _ => rfl
  have F8 := fun_mk (st := sl_done) l8 c8 k8
  have b8 := F8.binds (ps := ["_law_index", "_law_rows", "_law_pool_here", "_law_words", "_law_draws_here"]) fun _ _ _ _ _ _ us hl => match us, hl with | [_, _, _, _, _], _ => rfl
  have F9 := fun_mk (st := sl_looked) l9 c9 k9
  have b9 := F9.binds (ps := ["_law_index", "_law_rows", "_law_look", "_law_draw", "_law_words"]) fun _ _ _ _ _ _ us hl => match us, hl with | [_, _, _, _, _], _ => rfl
  have F10 := fun_mk (st := sl_stands) l10 c10 k10
  have b10 := F10.binds (ps := ["_law_index", "_law_rows", "_law_words", "_law_draw", "_law_held"]) fun _ _ _ _ _ _ us hl => match us, hl with | [_, _, _, _, _], _ => rfl
  have F11 := fun_mk (st := slaw) l11 c11 k11
  have b11 := F11.binds (ps := ["_law_script"]) fun _ _ _ _ _ _ us hl => match us, hl with | [_], _ => rfl
  have F12 := fun_mk (st := sIndex_init) l12 c12 k12
  have b12 := F12.binds (ps := ["self"]) fun _ _ _ _ _ _ us hl => match us, hl with | [_], _ => rfl
  have F13 := fun_mk (st := sIndex_add) l13 c13 k13
  have b13 := F13.binds (ps := ["self", "name", "words"]) fun _ _ _ _ _ _ us hl => match us, hl with | [_, _, _], _ => rfl
  have F14 := fun_mk (st := sIndex_take_out) l14 c14 k14
  have b14 := F14.binds (ps := ["self", "name"]) fun _ _ _ _ _ _ us hl => match us, hl with | [_, _], _ => rfl
  have F15 := fun_mk (st := sIndex_having) l15 c15 k15
  have b15 := F15.binds (ps := ["self", "word"]) fun _ _ _ _ _ _ us hl => match us, hl with | [_, _], _ => rfl
  have F16 := fun_mk (st := sIndex_words) l16 c16 k16
  have b16 := F16.binds (ps := ["self", "name"]) fun _ _ _ _ _ _ us hl => match us, hl with | [_, _], _ => rfl
  have F17 := fun_mk (st := sIndex_all_words) l17 c17 k17
  have b17 := F17.binds (ps := ["self"]) fun _ _ _ _ _ _ us hl => match us, hl with | [_], _ => rfl
  let A : Adr := { f_wall := f1, f_check_there := f2, f_check_new := f3, f_l_draws := f4, f_l_name_by := f5, f_l_pool := f6, f_l_is_list := f7, f_l_done := f8, f_l_looked := f9, f_l_stands := f10, f_law := fa, f_Index_init := f12, f_Index_add := f13, f_Index_take_out := f14, f_Index_having := f15, f_Index_words := f16, f_Index_all_words := f17, C_Index := C_Index }
  have T : Txt K mg A := ⟨PySem.W.mg_of X G a1, PySem.W.mg_of X G a2, PySem.W.mg_of X G a3, PySem.W.mg_of X G a4, PySem.W.mg_of X G a5, PySem.W.mg_of X G a6, PySem.W.mg_of X G a7, PySem.W.mg_of X G a8, PySem.W.mg_of X G a9, PySem.W.mg_of X G a10, PySem.W.mg_of X G a11, PySem.W.mg_none_of X G z1, PySem.W.mg_none_of X G z2, PySem.W.mg_none_of X G z3, PySem.W.mg_none_of X G z4, PySem.W.mg_none_of X G z5, PySem.W.mg_none_of X G z6, PySem.W.mg_none_of X G z7, PySem.W.mg_none_of X G z8, PySem.W.mg_none_of X G z9, PySem.W.mg_of X G q_Index, ⟨pg_Index, hd_Index, po_Index, sa_Index⟩, ⟨mk_Index, a12, i12, kc_Index⟩, ⟨a13, i13, k13⟩, ⟨a14, i14, k14⟩, ⟨a15, i15, k15⟩, ⟨a16, i16, k16⟩, ⟨a17, i17, k17⟩, n_Index_entries, n_Index_bearers, trivial⟩
  have FF : Funs K A := ⟨⟨_, F1, b1⟩, ⟨_, F2, b2⟩, ⟨_, F3, b3⟩, ⟨_, F4, b4⟩, ⟨_, F5, b5⟩, ⟨_, F6, b6⟩, ⟨_, F7, b7⟩, ⟨_, F8, b8⟩, ⟨_, F9, b9⟩, ⟨_, F10, b10⟩, ⟨_, F11, b11⟩, ⟨_, F12, b12⟩, ⟨_, F13, b13⟩, ⟨_, F14, b14⟩, ⟨_, F15, b15⟩, ⟨_, F16, b16⟩, ⟨_, F17, b17⟩⟩
  exact ⟨PySem.W.fnOf "law" "law" (defArgs slaw) (defBody slaw) (defScope slaw) .none kV11 dc11 pm11 an11 cd11 ct11, fun s v => .of_eq rfl, fun base _ _ => ok_law F11 T FF⟩
theorem walk {l : PySem.W.OpenLaw} {q : Program} {loose : List Str} {XP : (Str → Option Value) → Heap → Prop} {YP : World → Heap → Prop} {d : DefRec} {K : Params → PySem.W.Frag} (hn : l.most = some 63) (hdf : d.params.defaults = [])
    (hY : ∀ (w : World) (h : Heap), YP w h → (K w.params).In h)
    (F : ∀ (w : World) (mg : Str → Option Value) (fa : Addr) (h : Heap), (K w.params).In h → h.Ns mainGlobals mg → mg d.name = some (.ref fa) →
      ∃ fd : FuncData, (∀ (s : Shared) (u : Value), BindsTo s fd ⟨[u], []⟩ [("_law_script", u)]) ∧ ∀ base : Heap, (K w.params).In base → base.Ns mainGlobals mg → FnOk l.prog w (K w.params) mg base CX0 12 fa fd ["_law_script"] (spLaw (K w.params))) :
    PySem.W.WalkO q loose XP YP l.row.toRowW d [] (fun f vs => PySem.call f vs) :=
  L2.walk_of (n := 63) (k := 12) (x := "_law_script") (CX := fun _ => CX0) (sp := fun w => spLaw (K w.params)) hn (by decide) hdf ⟨rfl, by decide, by decide, rfl⟩ hY F (fun _ _ a ns hl _ hS => ⟨a, ns, rfl, hS, hl, fun _ => rfl⟩) fun _ _ _ _ _ z => z
end K25
open PySem PySem.W PyProof.Rows
set_option maxRecDepth 100000 in
set_option maxHeartbeats 0 in
theorem PySem.Challenge.cw_mailroom_k25_words_of_names_holds : PySem.Challenge.rw_mailroom_k25_words_of_names.Holds := by
  w_on; o_law; k_head; (case hw => w_witness2)
  k_fill
  refine K25.walk (l := PySem.Challenge.rw_mailroom_k25_words_of_names) rfl rfl (fun w h Y => PySem.W.kIn_of Y) ?F
  case F =>
    intro w mg fa h KX G hmg
    refine' K25.all_mk KX G hmg ?q_Index ?a1 ?l1 ?c1 ?k1 ?a2 ?l2 ?c2 ?k2 ?a3 ?l3 ?c3 ?k3 ?a4 ?l4 ?c4 ?k4 ?a5 ?l5 ?c5 ?k5 ?a6 ?l6 ?c6 ?k6 ?a7 ?l7 ?c7 ?k7 ?a8 ?l8 ?c8 ?k8 ?a9 ?l9 ?c9 ?k9 ?a10 ?l10 ?c10 ?k10 ?a11 ?l11 ?c11 ?k11 ?a12 ?i12 ?l12 ?c12 ?k12 ?a13 ?i13 ?l13 ?c13 ?k13 ?a14 ?i14 ?l14 ?c14 ?k14 ?a15 ?i15 ?l15 ?c15 ?k15 ?a16 ?i16 ?l16 ?c16 ?k16 ?a17 ?i17 ?l17 ?c17 ?k17 ?pg_Index ?hd_Index ?po_Index ?sa_Index ?kc_Index ?mk_Index ?n_Index_entries ?n_Index_bearers ?z1 ?z2 ?z3 ?z4 ?z5 ?z6 ?z7 ?z8 ?z9
    (case q_Index => k_is)
    (case a1 => k_is)
    (case l1 => k_is)
    (case c1 => k_is)
    (case k1 => k_is)
    (case a2 => k_is)
    (case l2 => k_is)
    (case c2 => k_is)
    (case k2 => k_is)
    (case a3 => k_is)
    (case l3 => k_is)
    (case c3 => k_is)
    (case k3 => k_is)
    (case a4 => k_is)
    (case l4 => k_is)
    (case c4 => k_is)
    (case k4 => k_is)
    (case a5 => k_is)
    (case l5 => k_is)
    (case c5 => k_is)
    (case k5 => k_is)
    (case a6 => k_is)
    (case l6 => k_is)
    (case c6 => k_is)
    (case k6 => k_is)
    (case a7 => k_is)
    (case l7 => k_is)
    (case c7 => k_is)
    (case k7 => k_is)
    (case a8 => k_is)
    (case l8 => k_is)
    (case c8 => k_is)
    (case k8 => k_is)
    (case a9 => k_is)
    (case l9 => k_is)
    (case c9 => k_is)
    (case k9 => k_is)
    (case a10 => k_is)
    (case l10 => k_is)
    (case c10 => k_is)
    (case k10 => k_is)
    (case a11 => k_is)
    (case l11 => k_is)
    (case c11 => k_is)
    (case k11 => k_is)
    (case a12 => k_is)
    (case i12 => k_is)
    (case l12 => k_is)
    (case c12 => k_is)
    (case k12 => k_is)
    (case a13 => k_is)
    (case i13 => k_is)
    (case l13 => k_is)
    (case c13 => k_is)
    (case k13 => k_is)
    (case a14 => k_is)
    (case i14 => k_is)
    (case l14 => k_is)
    (case c14 => k_is)
    (case k14 => k_is)
    (case a15 => k_is)
    (case i15 => k_is)
    (case l15 => k_is)
    (case c15 => k_is)
    (case k15 => k_is)
    (case a16 => k_is)
    (case i16 => k_is)
    (case l16 => k_is)
    (case c16 => k_is)
    (case k16 => k_is)
    (case a17 => k_is)
    (case i17 => k_is)
    (case l17 => k_is)
    (case c17 => k_is)
    (case k17 => k_is)
    (case pg_Index => k_is)
    (case hd_Index => k_is)
    (case po_Index => k_is)
    (case sa_Index => k_is)
    (case kc_Index => k_is)
    (case mk_Index => k_is)
    (case n_Index_entries => k_is)
    (case n_Index_bearers => k_is)
    (case z1 => k_is)
    (case z2 => k_is)
    (case z3 => k_is)
    (case z4 => k_is)
    (case z5 => k_is)
    (case z6 => k_is)
    (case z7 => k_is)
    (case z8 => k_is)
    (case z9 => k_is)
#print axioms PySem.Challenge.cw_mailroom_k25_words_of_names_holds
