import PyProof.Rows.All
import Wide.All
import OpenK.AllK
import Wide.FinOn
import Lean
import PyProof.EqAt
import PyProof.EqKinds
import PyProof.TupleCall
import PyProof.P3In
import KE.KDictLaws
import PyProof.Rows.SetFrom
import KE.KRevSl
import KE.KIntText
import KE.KLcPair
import KE.KIsAll
import PyProof.ExcArgsOwn
import PyProof.ExcAttrAll.ValueError
import PyProof.NsDelKeeps
import PyProof.Rows.CountFlat
import KE.RegKIsAll
import PyProof.FString5
import KE.KListMore
import PySem.Challenge.RW_mailroom_k07_texts_of_letters_read
noncomputable section
set_option Elab.async false
set_option linter.all false
set_option maxRecDepth 100000
namespace L2
open PySem PySem.Spec PyProof.Rows
/-- a key: an int or a str -/
abbrev Key := Sum Int Str
def keyIs : Key → Value → Bool
  | .inl k, v => Value.isInt k v
  | .inr x, v => Value.isStrOf x v
def keyH (w : World) : Key → Int
  | .inl k => hashInt k
  | .inr x => hashStr w x
theorem keyIs_shape : ∀ {k : Key} {v : Value}, keyIs k v = true → (∃ i t, k = Sum.inl i ∧ v = Value.int i t) ∨ (∃ x t, k = Sum.inr x ∧ v = Value.str x t)
  | .inl i, v, h => by
    obtain ⟨t, e⟩ := Value.isInt_shape (k := i) (v := v) h
    exact .inl ⟨i, t, rfl, e⟩
  | .inr x, v, h => by
    obtain ⟨t, e⟩ := Value.isStrOf_shape (x := x) (v := v) h
    exact .inr ⟨x, t, rfl, e⟩
theorem key_ll (a b : Int) : decide ((Sum.inl a : Key) = Sum.inl b) = (a == b) := by
  by_cases e : a = b
  · subst e; simp
  · have h : ¬ (Sum.inl a : Key) = Sum.inl b := fun q => e (Sum.inl.inj q)
    rw [decide_eq_false h]
    exact (beq_eq_false_iff_ne.mpr e).symm
theorem key_rr (a b : Str) : decide ((Sum.inr a : Key) = Sum.inr b) = decide (a = b) := by
  by_cases e : a = b
  · subst e; simp
  · have h : ¬ (Sum.inr a : Key) = Sum.inr b := fun q => e (Sum.inr.inj q)
    rw [decide_eq_false h, decide_eq_false e]
theorem key_lr (a : Int) (b : Str) : decide ((Sum.inl a : Key) = Sum.inr b) = false := decide_eq_false (fun q => nomatch q)
theorem key_rl (a : Str) (b : Int) : decide ((Sum.inr a : Key) = Sum.inl b) = false := decide_eq_false (fun q => nomatch q)
def mixKind (prog : Program) (w : World) : PySem.KeyKind prog w Key where
  is := keyIs
  hash := keyH w
  inj := fun v a b ha hb => by
    rcases keyIs_shape ha with ⟨i, t, rfl, rfl⟩ | ⟨x, t, rfl, rfl⟩
    · rcases keyIs_shape hb with ⟨j, u, rfl, e⟩ | ⟨y, u, rfl, e⟩
      · injection e with e1 _; rw [e1]
      · exact nomatch e
    · rcases keyIs_shape hb with ⟨j, u, rfl, e⟩ | ⟨y, u, rfl, e⟩
      · exact nomatch e
      · injection e with e1 _; rw [e1]
  byValue := fun k v h => by
    rcases keyIs_shape h with ⟨i, t, rfl, rfl⟩ | ⟨x, t, rfl, rfl⟩ <;> rfl
  pyHash := fun hv h => by
    rcases keyIs_shape hv with ⟨i, t, rfl, rfl⟩ | ⟨x, t, rfl, rfl⟩
    · exact wpAny_pyHash_int h
    · exact wpAny_pyHash_str h
  eqBool := fun hu hv h => by
    rcases keyIs_shape hu with ⟨i, t, rfl, rfl⟩ | ⟨x, t, rfl, rfl⟩
    · rcases keyIs_shape hv with ⟨j, u, rfl, rfl⟩ | ⟨y, u, rfl, rfl⟩
      · rw [key_ll] at h; exact wpAny_eqBool_int h
      · rw [key_lr] at h; exact SeqAt.EqAt.int_str i t y u _ _ _ _ h
    · rcases keyIs_shape hv with ⟨j, u, rfl, rfl⟩ | ⟨y, u, rfl, rfl⟩
      · rw [key_rl] at h; exact SeqAt.EqAt.str_int x t j u _ _ _ _ h
      · rw [key_rr] at h; exact wpAny_eqBool_str h
  «strs» := fun k x t v h => by
    rcases keyIs_shape h with ⟨i, u, rfl, e⟩ | ⟨y, u, rfl, e⟩
    · exact nomatch e
    · injection e with e1 _
      subst e1
      cases v <;> rfl
end L2
namespace L2
open PySem PySem.Spec PyProof.Rows
/-- a value, without the heap -/
inductive V where
  | non | bl (b : Bool) | int (i : Int) | str (x : Str) | byt (b : Array UInt8) | flt (b : UInt64) | ref (a : Addr) | ty (n : String)
  deriving DecidableEq
def RelV : V → Value → Prop
  | .non, u => u = Value.none
  | .bl b, u => u = Value.bool b
  | .int i, u => ∃ t, u = Value.int i t
  | .str x, u => ∃ t, u = Value.str x t
  | .byt b, u => ∃ t, u = Value.bytes b t
  | .flt b, u => ∃ t, u = Value.float b t
  | .ref a, u => u = Value.ref a
  | .ty n, u => u = Value.type n
abbrev Vals : List V → List Value → Prop := Paired RelV
theorem Vals.length {xs : List V} {us : List Value} (r : Vals xs us) : xs.length = us.length := Paired.length r
theorem Vals.get : ∀ {xs : List V} {us : List Value} {i : Nat} {x : V}, Vals xs us → xs[i]? = some x → ∃ u, us[i]? = some u ∧ RelV x u
  | _, _, _, _, .nil, e => by simp at e
  | _, _, 0, _, .cons r _, e => by simp at e; subst e; exact ⟨_, rfl, r⟩
  | _, _, i + 1, x, .cons _ t, e => by
    obtain ⟨u, h1, h2⟩ := Vals.get (i := i) (x := x) t (by simpa using e)
    exact ⟨u, by simpa using h1, h2⟩
theorem Vals.set {x : V} {u : Value} (r : RelV x u) : ∀ {xs : List V} {us : List Value} (i : Nat), Vals xs us → Vals (xs.set i x) (us.set i u)
  | _, _, _, .nil => .nil
  | _, _, 0, .cons _ t => .cons r t
  | _, _, i + 1, .cons q t => .cons q (Vals.set r i t)
theorem Vals.append : ∀ {xs ys : List V} {us ws : List Value}, Vals xs us → Vals ys ws → Vals (xs ++ ys) (us ++ ws)
  | _, _, _, _, .nil, s => s
  | _, _, _, _, .cons r t, s => .cons r (Vals.append t s)
theorem Vals.take : ∀ {xs : List V} {us : List Value} (n : Nat), Vals xs us → Vals (xs.take n) (us.take n)
  | _, _, 0, _ => .nil
  | _, _, _ + 1, .nil => .nil
  | _, _, n + 1, .cons r t => .cons r (Vals.take n t)
theorem Vals.drop : ∀ {xs : List V} {us : List Value} (n : Nat), Vals xs us → Vals (xs.drop n) (us.drop n)
  | _, _, 0, r => r
  | _, _, _ + 1, .nil => .nil
  | _, _, n + 1, .cons _ t => Vals.drop n t
theorem Vals.none_of : ∀ {xs : List V} {us : List Value} {i : Nat}, Vals xs us → xs[i]? = none → us[i]? = none := fun {xs us i} r e => by
  have h1 := r.length
  have h2 : xs.length ≤ i := List.getElem?_eq_none_iff.mp e
  exact List.getElem?_eq_none_iff.mpr (by omega)
def RelO : Option V → Option Value → Prop
  | some v, some u => RelV v u
  | none, none => True
  | _, _ => False
def KV {κ : Type} : List (κ × V) → List (κ × Value) → Prop := Paired fun (p : κ × V) (q : κ × Value) => p.1 = q.1 ∧ RelV p.2 q.2
/-- a key of a dict (00_mix): an int or a text -/
def kV : Key → V
  | .inl i => .int i
  | .inr x => .str x
/-- what stands at a tracked address -/
inductive HO where
  /-- a list -/
  | lst (xs : List V)
  /-- a tuple (never changes) -/
  | tup (xs : List V)
  /-- a dict whose keys are ints and texts; one whose keys are tuples of ints and texts (the empty one is both) -/
  | dK (kvs : List (Key × V)) | dT (kvs : List (List Key × V))
  /-- a set of ints: its members, its size -/
  | set (S : Int → Bool) (n : Nat)
  /-- an instance of the class at C, its dict at dx, its attributes -/
  | ins (C dx : Addr) (fs : List (Str × V))
  /-- the dict of the instance at x -/
  | own (x : Addr)
  /-- the dict of an exception -/
  | xd (fs : List (Str × V))
  /-- a bound method, f of x -/
  | met (f x : Addr)
  /-- a range object lo, lo + 1, .. below hi -/
  | rng (lo hi : Int)
  /-- a thing that is known to the object (the script; a dict while a loop walks it): read, never written while it is so -/
  | frz (o : Obj) (u : HO)
  /-- a code object's table -/
  | tbl (ps : Array Value)
  /-- any other thing, by what is true of its one object (a def of one's own: SetO a S n := HO.ext fun h => ..) -/
  | ext (φ : Heap → Prop)
abbrev Hp := Addr → Option HO
def upd (H : Hp) (a : Addr) (o : HO) : Hp := fun b => if b = a then some o else H b
theorem upd_same {H : Hp} {a : Addr} {o : HO} : upd H a o a = some o := by unfold upd; rw [if_pos rfl]
theorem upd_ne {H : Hp} {a b : Addr} {o : HO} (h : b ≠ a) : upd H a o b = H b := by unfold upd; rw [if_neg h]
theorem upd_upd {H : Hp} {a : Addr} {o u : HO} : upd (upd H a o) a u = upd H a u := by
  funext b; unfold upd; split <;> rfl
/-- two objects of different content stand apart -/
theorem ne_of {H : Hp} {a b : Addr} {o u : HO} (h : H a = some o) (h' : H b = some u) (d : o ≠ u) : a ≠ b := by
  intro e; subst e; rw [h] at h'; exact d (Option.some.inj h')
theorem ne_of_none {H : Hp} {a b : Addr} {o : HO} (h : H a = some o) (h' : H b = none) : a ≠ b := by
  intro e; subst e; rw [h] at h'; cases h'
section
variable (P : Program) (w : World)
def ObjOk (H : Hp) (h : Heap) (a : Addr) : HO → Prop
  | .lst xs => xs.length ≤ sizeLine ∧ ∃ (its : List Value) (n : Nat), Vals xs its ∧ h.get? a = some { cls := .type "list", data := .seq its.toArray n }
  | .tup xs => xs.length ≤ sizeLine ∧ ∃ its : List Value, Vals xs its ∧ IsTup h a its.toArray
  | .dK kvs => kvs.length ≤ sizeLine ∧ (a == sysModules) = false ∧ ∃ vs, KV kvs vs ∧ h.DictOf (mixKind P w) a vs
  | .dT kvs => kvs.length ≤ sizeLine ∧ (a == sysModules) = false ∧ ∃ xs : List (List Key × Addr × Value),
      Paired (fun (p : List Key × V) (q : List Key × Addr × Value) => p.1 = q.1 ∧ H q.2.1 = some (.tup (p.1.map kV)) ∧ RelV p.2 q.2.2) kvs xs ∧
      ∃ o es ep, h.get? a = some o ∧ o.ExactDict ∧ o.data = .dict es ep ∧ es.toList = xs.map (entryOfKey (tupleKind (mixKind P w))) ∧ (xs.map (·.1)).Nodup
  | .set S n => h.SetOf (intKind P w) a S n
  | .ins C dx fs => H dx = some (.own a) ∧ fs.length ≤ 1000 ∧ dx ≠ a ∧ h.get? a = some (PySem.W.instObj C dx) ∧
      ∃ mA, h.Ns1 dx mA ∧ (∀ f, RelO (fs.lookup f) (mA f)) ∧ PySem.Within mA (fs.map (·.1))
  | .own _ => ∃ o, h.get? a = some o
  | .xd fs => ∃ mA, h.Ns1 a mA ∧ ∀ f, RelO (fs.lookup f) (mA f)
  | .rng lo hi => ∃ t u v, h.get? a = some { cls := .type "range", data := .fields #[.int lo t, .int hi u, .int 1 v] }
  | .frz o u => h.get? a = some o ∧ ObjOk H h a u
  | .tbl ps => h.get? a = some { cls := .none, data := .fields ps }
  | .met f x => h.get? a = some (PySem.W.methodObj (.ref f) (.ref x))
  | .ext φ => φ h ∧ (∃ o, h.get? a = some o) ∧ ∀ h1 h2 : Heap, φ h1 → (∀ o, h1.get? a = some o → h2.get? a = some o) → φ h2
/-- the abstract heap is held -/
def HOk (H : Hp) (h : Heap) : Prop := ∀ a o, H a = some o → ObjOk P w H h a o
end
section
variable {P : Program} {w : World} {H H' : Hp} {h h' : Heap} {a : Addr} {o : HO}
theorem ObjOk.lt (x : ObjOk P w H h a o) : a < h.objs.size := by
  cases o with
  | lst xs => obtain ⟨_, _, _, _, e⟩ := x; exact Heap.lt_size e
  | tup xs => obtain ⟨_, _, _, p⟩ := x; exact p.lt
  | dK kvs => obtain ⟨_, _, _, _, o, _, _, e, _⟩ := x; exact Heap.lt_size e
  | dT kvs => obtain ⟨_, _, _, _, o, _, _, e, _⟩ := x; exact Heap.lt_size e
  | set S n => obtain ⟨o, _, _, _, e, _⟩ := x; exact Heap.lt_size e
  | ins C dx fs => obtain ⟨_, _, _, e, _⟩ := x; exact Heap.lt_size e
  | own y => obtain ⟨_, e⟩ := x; exact Heap.lt_size e
  | xd fs => obtain ⟨_, ⟨_, _, _, e, _⟩, _⟩ := x; exact Heap.lt_size e
  | rng lo hi => obtain ⟨_, _, _, e⟩ := x; exact Heap.lt_size e
  | frz ob u => obtain ⟨e, _⟩ := x; exact Heap.lt_size e
  | tbl ps => exact Heap.lt_size (show h.get? a = some _ from x)
  | met f y => exact Heap.lt_size (show h.get? a = some _ from x)
  | ext φ => obtain ⟨_, ⟨_, e⟩, _⟩ := x; exact Heap.lt_size e
theorem Paired.mapP {α β : Type} {F G : α → β → Prop} : ∀ {l₁ : List α} {l₂ : List β}, Paired F l₁ l₂ → (∀ a b, F a b → G a b) → Paired G l₁ l₂
  | _, _, .nil, _ => .nil
  | _, _, .cons r t, f => .cons (f _ _ r) (Paired.mapP t f)
/-- what an object's description leans on: its own object, its own dict, the tuples -/
theorem ObjOk.stay (x : ObjOk P w H h a o) (k : ∀ b u, (b = a ∨ H b = some (.own a)) → h.get? b = some u → h'.get? b = some u)
    (ho : ∀ b, H b = some (.own a) → H' b = some (.own a)) (ht : ∀ b xs, H b = some (.tup xs) → H' b = some (.tup xs)) : ObjOk P w H' h' a o := by
  induction o with
  | lst xs => obtain ⟨z, its, n, r, e⟩ := x; exact ⟨z, its, n, r, k _ _ (.inl rfl) e⟩
  | tup xs => obtain ⟨z, its, r, ob, e, c⟩ := x; exact ⟨z, its, r, ob, k _ _ (.inl rfl) e, c⟩
  | dK kvs => obtain ⟨z, y, vs, r, ob, es, ep, e, c⟩ := x; exact ⟨z, y, vs, r, ob, es, ep, k _ _ (.inl rfl) e, c⟩
  | dT kvs =>
    obtain ⟨z, y, xs, r, ob, es, ep, e, c⟩ := x
    exact ⟨z, y, xs, Paired.mapP r fun p q z => ⟨z.1, ht _ _ z.2.1, z.2.2⟩, ob, es, ep, k _ _ (.inl rfl) e, c⟩
  | set S n => obtain ⟨ob, es, ep, t, e, c⟩ := x; exact ⟨ob, es, ep, t, k _ _ (.inl rfl) e, c⟩
  | ins C dx fs =>
    obtain ⟨d, z, ne, e, mA, ⟨od, es, ep, e2, c⟩, r⟩ := x
    exact ⟨ho _ d, z, ne, k _ _ (.inl rfl) e, mA, ⟨od, es, ep, k _ _ (.inr d) e2, c⟩, r⟩
  | own y => obtain ⟨ob, e⟩ := x; exact ⟨ob, k _ _ (.inl rfl) e⟩
  | xd fs => obtain ⟨mA, ⟨od, es, ep, e, c⟩, r⟩ := x; exact ⟨mA, ⟨od, es, ep, k _ _ (.inl rfl) e, c⟩, r⟩
  | rng lo hi => obtain ⟨t, u, v, e⟩ := x; exact ⟨t, u, v, k _ _ (.inl rfl) e⟩
  | frz ob u ih => obtain ⟨e, q⟩ := x; exact ⟨k _ _ (.inl rfl) e, ih q⟩
  | tbl ps =>
    have e : h.get? a = some { cls := .none, data := .fields ps } := x
    show h'.get? a = some { cls := .none, data := .fields ps }
    exact k a _ (.inl rfl) e
  | met f y =>
    have e : h.get? a = some (PySem.W.methodObj (.ref f) (.ref y)) := x
    show h'.get? a = some (PySem.W.methodObj (.ref f) (.ref y))
    exact k a _ (.inl rfl) e
  | ext φ => obtain ⟨p, ⟨o, e⟩, st⟩ := x; exact ⟨st _ _ p fun o q => k _ _ (.inl rfl) q, ⟨o, k _ _ (.inl rfl) e⟩, st⟩
theorem HOk.lt (x : HOk P w H h) (e : H a = some o) : a < h.objs.size := (x a o e).lt
theorem HOk.fresh (x : HOk P w H h) (e : h.objs.size ≤ a) : H a = none := by
  cases q : H a with
  | none => rfl
  | some u => exact absurd (Nat.lt_of_lt_of_le (x.lt q) e) (Nat.lt_irrefl _)
/-- every object of the heap is kept -/
theorem HOk.kept (x : HOk P w H h) (k : ∀ b u, h.get? b = some u → h'.get? b = some u) : HOk P w H h' := fun a o e =>
  (x a o e).stay (fun b u _ q => k b u q) (fun _ q => q) fun _ _ q => q
/-- a new object is laid and tracked -/
theorem HOk.laid (x : HOk P w H h) (k : ∀ b u, h.get? b = some u → h'.get? b = some u) (hp : h.objs.size ≤ a) (new : ObjOk P w (upd H a o) h' a o) : HOk P w (upd H a o) h' := fun b u e => by
  have hn := x.fresh hp
  by_cases hb : b = a
  · subst hb; rw [upd_same] at e; cases e; exact new
  · rw [upd_ne hb] at e
    exact (x b u e).stay (fun c v _ q => k c v q) (fun c q => by rw [upd_ne (ne_of_none q hn)]; exact q) fun c xs q => by rw [upd_ne (ne_of_none q hn)]; exact q
end
/-- what may be read as u: it is u, or a known u -/
def Rd (H : Hp) (a : Addr) (u : HO) : Prop := H a = some u ∨ ∃ o, H a = some (.frz o u)
theorem Rd.of {H : Hp} {a : Addr} {u : HO} (h : H a = some u) : Rd H a u := .inl h
theorem Rd.ok {P : Program} {w : World} {H : Hp} {h : Heap} {a : Addr} {u : HO} (r : Rd H a u) (x : HOk P w H h) : ObjOk P w H h a u := by
  rcases r with r | ⟨o, r⟩
  · exact x a u r
  · obtain ⟨_, q⟩ := x a _ r
    exact q
/-- what may be written -/
def Mut : Option HO → Prop
  | some (.lst _) => True
  | some (.dK _) => True
  | some (.dT _) => True
  | some (.set _ _) => True
  | some (.ins _ _ _) => True
  | some (.ext _) => True
  | _ => False
section
variable {P : Program} {w : World} {H : Hp} {h h' : Heap} {x e : Addr} {o' : HO}
/-- the object at e is changed: x itself, or the dict of the instance x -/
theorem HOk.write (ok : HOk P w H h) (mu : Mut (H x)) (he : e = x ∨ H e = some (.own x)) (k : ∀ b u, b ≠ e → h.get? b = some u → h'.get? b = some u) (heo : ∃ u, h'.get? e = some u)
    (new : ObjOk P w (upd H x o') h' x o') : HOk P w (upd H x o') h' := fun b u q => by
  have nown : ∀ c y, H c = some (.own y) → c ≠ x := fun c y r z => by subst z; rw [r] at mu; exact mu
  have ntup : ∀ c xs, H c = some (.tup xs) → c ≠ x := fun c xs r z => by subst z; rw [r] at mu; exact mu
  by_cases hb : b = x
  · subst hb; rw [upd_same] at q; cases q; exact new
  · rw [upd_ne hb] at q
    by_cases hbe : b = e
    · have q' : H b = some (.own x) := by
        rcases he with z | z
        · exact absurd (hbe.trans z) hb
        · rw [hbe]; exact z
      rw [q] at q'; cases q'
      obtain ⟨v, hv⟩ := heo
      exact ⟨v, by rw [hbe]; exact hv⟩
    · refine (ok b u q).stay (fun c v hc r => k c v ?_ r) (fun c r => by rw [upd_ne (nown c b r)]; exact r) fun c xs r => by rw [upd_ne (ntup c xs r)]; exact r
      rcases hc with rfl | hc
      · exact hbe
      · rintro rfl
        rcases he with z | z
        · exact nown c b hc z
        · rw [hc] at z; cases z; exact hb rfl
end
structure Un (fs ex : List Addr) (H H' : Hp) (h h' : Heap) : Prop where
  keep : ∀ b o, h.get? b = some o → H b = none → b ∉ fs → b ∉ ex → h'.get? b = some o
  slot : ∀ b o, h.get? b = some o → H b = none → b ∈ fs → b ∉ ex → ∃ sl, h'.get? b = some { o with slots := sl }
  free : ∀ b o, h.get? b = some o → H b = none → b ∉ ex → H' b = none
  there : ∀ b o, h.get? b = some o → b ∉ ex → ∃ o', h'.get? b = some o'
  tups : ∀ b xs, H b = some (.tup xs) → H' b = some (.tup xs)
  frzs : ∀ b o u, H b = some (.frz o u) → H' b = some (.frz o u)
  tbls : ∀ b ps, H b = some (.tbl ps) → ∃ more, H' b = some (.tbl (ps ++ more))
section
variable {fs fs' ex ex' : List Addr} {H H1 H2 : Hp} {h h1 h2 h' : Heap} {a x e : Addr} {o : HO}
theorem Un.any (u : Un fs ex H H1 h h1) {b : Addr} {ob : Obj} (q : h.get? b = some ob) (n : H b = none) (hx : b ∉ ex) : ∃ sl, h1.get? b = some { ob with slots := sl } := by
  by_cases hb : b ∈ fs
  · exact u.slot b ob q n hb hx
  · exact ⟨ob.slots, u.keep b ob q n hb hx⟩
theorem Un.trans (a : Un fs ex H H1 h h1) (b : Un fs ex H1 H2 h1 h2) : Un fs ex H H2 h h2 where
  keep := fun c ob q n hc hx => b.keep c ob (a.keep c ob q n hc hx) (a.free c ob q n hx) hc hx
  slot := fun c ob q n hc hx => by
    obtain ⟨sl, e1⟩ := a.slot c ob q n hc hx
    obtain ⟨sl', e2⟩ := b.slot c _ e1 (a.free c ob q n hx) hc hx
    exact ⟨sl', e2⟩
  free := fun c ob q n hx => by
    obtain ⟨o', e1⟩ := a.there c ob q hx
    exact b.free c o' e1 (a.free c ob q n hx) hx
  there := fun c ob q hx => by
    obtain ⟨o', e1⟩ := a.there c ob q hx
    exact b.there c o' e1 hx
  tups := fun c xs q => b.tups c xs (a.tups c xs q)
  frzs := fun c ob xs q => b.frzs c ob xs (a.frzs c ob xs q)
  tbls := fun c ps q => by
    obtain ⟨m1, e1⟩ := a.tbls c ps q
    obtain ⟨m2, e2⟩ := b.tbls c _ e1
    exact ⟨m1 ++ m2, by rw [e2, Array.append_assoc]⟩
theorem Un.kept (k : ∀ b u, h.get? b = some u → h'.get? b = some u) : Un fs ex H H h h' :=
  ⟨fun b ob q _ _ _ => k b ob q, fun b ob q _ _ _ => ⟨ob.slots, k b ob q⟩, fun _ _ _ n _ => n, fun b ob q _ => ⟨ob, k b ob q⟩, fun _ _ q => q, fun _ _ _ q => q, fun _ ps q => ⟨#[], by rw [q]; simp⟩⟩
theorem Un.refl : Un fs ex H H h h := Un.kept fun _ _ q => q
theorem Un.laid (k : ∀ b u, h.get? b = some u → h'.get? b = some u) (hp : h.objs.size ≤ a) (hn : H a = none) : Un fs ex H (upd H a o) h h' where
  keep := fun b u q _ _ _ => k b u q
  slot := fun b u q _ _ _ => ⟨u.slots, k b u q⟩
  free := fun b u q n _ => by rw [upd_ne (Nat.ne_of_lt (Nat.lt_of_lt_of_le (Heap.lt_size q) hp))]; exact n
  there := fun b u q _ => ⟨u, k b u q⟩
  tups := fun b xs q => by rw [upd_ne (ne_of_none q hn)]; exact q
  frzs := fun b u xs q => by rw [upd_ne (ne_of_none q hn)]; exact q
  tbls := fun b ps q => ⟨#[], by rw [upd_ne (ne_of_none q hn), q]; simp⟩
theorem Un.write (mu : Mut (H x)) (he : e = x ∨ H e = some (.own x)) (k : ∀ b u, b ≠ e → h.get? b = some u → h'.get? b = some u) (heo : ∃ u, h'.get? e = some u) : Un fs ex H (upd H x o) h h' := by
  have hx : ∀ b, H b = none → b ≠ x := fun b n z => by subst z; rw [n] at mu; exact mu
  have hb : ∀ b, H b = none → b ≠ e := fun b n z => by
    subst z
    rcases he with r | r
    · exact hx b n r
    · rw [n] at r; cases r
  have hm : ∀ b u, H b = some u → ¬ Mut (some u) → b ≠ x := fun b u q nm z => by subst z; rw [q] at mu; exact nm mu
  refine ⟨fun b u q n _ _ => k b u (hb b n) q, fun b u q n _ _ => ⟨u.slots, k b u (hb b n) q⟩, fun b u q n _ => by rw [upd_ne (hx b n)]; exact n, fun b u q _ => ?_,
    fun b xs q => by rw [upd_ne (hm b _ q fun z => z)]; exact q, fun b u xs q => by rw [upd_ne (hm b _ q fun z => z)]; exact q, fun b ps q => ⟨#[], by rw [upd_ne (hm b _ q fun z => z), q]; simp⟩⟩
  by_cases hbe : b = e
  · subst hbe; exact heo
  · exact ⟨u, k b u hbe q⟩
theorem Un.mono (u : Un fs ex H H1 h h1) (hs : ∀ b ∈ fs, b ∈ fs') (hx : ∀ b ∈ ex, b ∈ ex') : Un fs' ex' H H1 h h1 :=
  ⟨fun b ob q n hb he => u.keep b ob q n (fun z => hb (hs b z)) fun z => he (hx b z), fun _ _ q n _ he => u.any q n fun z => he (hx _ z), fun b ob q n he => u.free b ob q n fun z => he (hx b z), fun b ob q he => u.there b ob q fun z => he (hx b z), u.tups, u.frzs, u.tbls⟩
end
def trk (h : Heap) (H : Hp) : List Addr := (List.range h.objs.size).filter fun a => (H a).isSome
def hidT (h : Heap) (H : Hp) : Heap := PySem.W.hideAll h (trk h H)
theorem hidT_size (h : Heap) (H : Hp) : (hidT h H).objs.size = h.objs.size := PySem.W.hideAll_size _ _
theorem hidT_get {h : Heap} {H : Hp} {b : Addr} {o : Obj} (e : h.get? b = some o) (n : H b = none) : (hidT h H).get? b = some o :=
  PySem.W.hideAll_get _ e fun hm => by
    have q : (H b).isSome = true := (List.mem_filter.mp hm).2
    rw [n] at q; simp at q
theorem of_hidT {h : Heap} {H : Hp} {b : Addr} {o : Obj} (e : (hidT h H).get? b = some o) : h.get? b = some o ∧ H b = none := by
  have e' : h.get? b = some o := PySem.W.of_hideAll (trk h H) e
  refine ⟨e', ?_⟩
  cases q : H b with
  | none => rfl
  | some x =>
    have hm : b ∈ trk h H := List.mem_filter.mpr ⟨List.mem_range.mpr (Heap.lt_size e'), by simp [q]⟩
    have z : (hidT h H).get? b = none := PySem.W.hideAll_none (trk h H) hm
    rw [z] at e; cases e
def allNews (g h : Heap) (L : Addr) : List (Addr × Obj) := (List.range h.objs.size).filterMap fun a => if a = L ∨ (g.get? a).isSome = true then none else (h.get? a).map fun o => (a, o)
def rest (g h : Heap) (L d : Addr) : List (Addr × Obj) := (allNews g h L).filter fun p => decide (p.1 ≠ d)
end L2
namespace L2
open PySem PySem.Spec PyProof.Rows
/-- the module's facts, over the base: the heap at the law's entry without what is tracked there -/
structure Mod (K : PySem.W.Frag) (mg : Str → Option Value) (base : Heap) : Prop where
  kin : K.In base
  glob : base.Ns mainGlobals mg
  blt : ∃ mb, base.Ns builtinsNs mb ∧ ∀ x : Str, x ≠ "__name__" → mb x = bootBuiltins x
  nolimit : base.NoLimit
/-- the context: a def's body (or a comprehension's block) running. base: fixed through the whole law; s₀, H₀: the entry; outer: the frames whose slots others may change (a def's callers); stack: all frames that run;
   ex: iterators that were made ahead of the entry and are walked here (a comprehension's); fn: the names whose cells were made at the entry (a def: all; a comprehension's block: its own); calm: not within an except suite; pn: pins that every state bears; xe: what is wanted of an exception that leaves the code -/
structure Cx where
  prog : Program
  w : World
  K : PySem.W.Frag
  mg : Str → Option Value
  base : Heap
  A : Around
  N : List Str
  s₀ : Shared
  H₀ : Hp
  env : Env
  outer : List Env
  stack : List Env
  ex : List Addr
  fn : Str → Bool
  calm : Bool
  pn : List (Addr × Obj)
  xe : Value → Shared → Prop
/-- the callers' frames -/
def frs (l : List Env) : List Addr := l.filterMap (·.frame)
abbrev Cx.fs (X : Cx) : List Addr := frs X.outer
def Vis (sc : Scope) (x : Str) : Prop := sc.names.lookup x = some .local ∨ sc.names.lookup x = some .cell ∨ sc.names.lookup x = some .free
def Loc (sc : Scope) (x : Str) : Prop := sc.names.lookup x = some .local ∨ sc.names.lookup x = some .cell
def Look (env : Env) (h : Heap) (m : Str → Option Value) (x : Str) (u : Value) : Prop :=
  (env.kindOf x = some .local ∧ m x = some u) ∨ ((env.kindOf x = some .cell ∨ env.kindOf x = some .free) ∧ ∃ c, env.cells.lookup x = some c ∧ h.IsCell c (some u))
structure Cx.Ok (X : Cx) : Prop where
  mod : Mod X.K X.mg X.base
  kind : X.env.scope.kind = .function
  glob : X.env.globals = mainGlobals
  blt : X.env.builtins = builtinsNs
  above : X.s₀.heap.objs.size ≤ X.env.locals
  inj : ∀ x y c, X.env.cells.lookup x = some c → X.env.cells.lookup y = some c → x = y
  has : ∀ x, (X.env.kindOf x = some .cell ∨ X.env.kindOf x = some .free) → ∃ c, X.env.cells.lookup x = some c
  cab : ∀ x c, X.fn x = true → X.env.cells.lookup x = some c → X.s₀.heap.objs.size ≤ c
  hd : X.calm = true → X.A.handled = none
  frames : X.A.frames = some X.stack
  stk : X.stack = X.outer ∨ (X.stack = X.env :: X.outer ∧ X.env.frame = some X.env.locals)
  exf : ∀ b ∈ X.ex, b ≠ X.env.locals ∧ ∀ x c, X.env.cells.lookup x = some c → c ≠ b
  bs : ∀ b o, X.base.get? b = some o → X.s₀.heap.get? b = some o ∧ X.H₀ b = none
  bsz : X.base.objs.size ≤ X.s₀.heap.objs.size
  noex : ∀ b o, X.base.get? b = some o → b ∉ X.ex
  exfs : ∀ b ∈ X.ex, b ∉ X.fs
  funs : X.s₀.heap.FunFrames X.base X.outer
  frf : ∀ b ∈ X.fs, X.H₀ b = none
structure Inv (X : Cx) (pins : List (Addr × Obj)) (σ : List (Option V)) (H : Hp) (s : Shared) : Prop where
  ok : X.Ok
  os : s.os = X.s₀.os
  bare : AllBare s.gens
  base : Un X.fs X.ex X.H₀ H X.s₀.heap s.heap
  loc : ∃ m, s.heap.Ns X.env.locals m ∧ ∀ (i : Nat) (x : Str) (v : V), X.N[i]? = some x → σ[i]? = some (some v) → Vis X.env.scope x → ∃ u, RelV v u ∧ Look X.env s.heap m x u
  cell : ∀ x c, X.env.cells.lookup x = some c → ∃ v, s.heap.IsCell c v
  free : H X.env.locals = none
  freeC : ∀ x c, X.env.cells.lookup x = some c → H c = none
  pin : ∀ p ∈ X.pn ++ pins, s.heap.get? p.1 = some p.2 ∧ H p.1 = none ∧ p.1 ≠ X.env.locals ∧ p.1 ∉ X.fs ∧ ∀ v, p.2.data ≠ .cell v
  hok : HOk X.prog X.w H s.heap
  len : σ.length = X.N.length
section
variable {X : Cx} {pins : List (Addr × Obj)} {σ : List (Option V)} {H H' : Hp} {s : Shared} {h' : Heap}
theorem Cx.Ok.nofr (ok : X.Ok) {b : Addr} {o : Obj} (e : X.base.get? b = some o) : b ∉ X.fs := fun hb => by
  have := (ok.funs.mem hb).1
  rw [e] at this; cases this
theorem Inv.bs (I : Inv X pins σ H s) : ∀ b o, X.base.get? b = some o → s.heap.get? b = some o ∧ H b = none := fun b o e =>
  ⟨I.base.keep b o (I.ok.bs b o e).1 (I.ok.bs b o e).2 (I.ok.nofr e) (I.ok.noex b o e), I.base.free b o (I.ok.bs b o e).1 (I.ok.bs b o e).2 (I.ok.noex b o e)⟩
theorem Inv.bk (I : Inv X pins σ H s) : ∀ b o, X.base.get? b = some o → s.heap.get? b = some o := fun b o e => (I.bs b o e).1
theorem Inv.mod (I : Inv X pins σ H s) : Mod X.K X.mg X.base := I.ok.mod
theorem Inv.kIn (I : Inv X pins σ H s) : X.K.In s.heap := I.ok.mod.kin.keeps I.bk
theorem Inv.nolimit (I : Inv X pins σ H s) : s.heap.NoLimit := I.ok.mod.nolimit.keeps I.bk
/-- the frame over the base: for OpenK's rules (K.In X.base is I.mod.kin) -/
theorem Inv.fr (I : Inv X pins σ H s) : ∃ m, Fr X.base X.env.locals s.heap m :=
  let ⟨m, hn, _⟩ := I.loc
  ⟨m, hn, I.bk, Nat.le_trans I.ok.bsz I.ok.above⟩
theorem Inv.lt (I : Inv X pins σ H s) : X.env.locals < s.heap.objs.size := let ⟨_, hn, _⟩ := I.loc; hn.lt
theorem Inv.sz (I : Inv X pins σ H s) : X.s₀.heap.objs.size ≤ s.heap.objs.size := Nat.le_trans I.ok.above (Nat.le_of_lt I.lt)
theorem Inv.nofs (I : Inv X pins σ H s) {a : Addr} (h : s.heap.objs.size ≤ a) : a ∉ X.fs := fun hb => by
  obtain ⟨_, o, ho, _⟩ := I.ok.funs.mem hb
  exact absurd (Nat.lt_of_lt_of_le (Heap.lt_size ho) (Nat.le_trans I.sz h)) (Nat.lt_irrefl _)
theorem Inv.cne (I : Inv X pins σ H s) : ∀ x c, X.env.cells.lookup x = some c → c ≠ X.env.locals := fun x c e z => by
  obtain ⟨v, o, ho, hd⟩ := I.cell x c e
  obtain ⟨m, ⟨o', es, ep, ho', hd', _⟩, _⟩ := I.loc
  rw [z, ho'] at ho; cases ho; rw [hd'] at hd; cases hd
theorem Inv.funs (I : Inv X pins σ H s) : s.heap.FunFrames X.base X.outer := by
  have all : ∀ (l : List Env), (∀ b ∈ frs l, b ∈ X.fs) → X.s₀.heap.FunFrames X.base l → s.heap.FunFrames X.base l := by
    intro l
    induction l with
    | nil => intro _ _; trivial
    | cons env r ih =>
      intro hs hl
      obtain ⟨hk, ⟨L, o, hf, hn, ho, hd⟩, hr⟩ := hl
      have hL : L ∈ X.fs := hs L (by unfold frs; rw [List.filterMap_cons, hf]; exact List.mem_cons_self)
      obtain ⟨sl, e⟩ := I.base.slot L o ho (I.ok.frf L hL) hL fun z => I.ok.exfs L z hL
      exact ⟨hk, ⟨L, _, hf, hn, e, hd⟩, ih (fun b hb => hs b (by unfold frs; rw [List.filterMap_cons, hf]; exact List.mem_cons_of_mem _ hb)) hr⟩
  exact all X.outer (fun _ hb => hb) I.ok.funs
/-- the frames that run, for a call -/
theorem Inv.stack (I : Inv X pins σ H s) : s.heap.FunFrames X.base X.stack := by
  rcases I.ok.stk with e | ⟨e, hf⟩
  · rw [e]; exact I.funs
  · rw [e]
    obtain ⟨m, hn, _⟩ := I.loc
    refine .cons (by rw [I.ok.kind]; decide) hf hn ?_ I.funs
    exact Heap.get?_none_of_le (Nat.le_trans I.ok.bsz I.ok.above)
theorem Inv.stkSub (I : Inv X pins σ H s) : ∀ b ∈ frs X.stack, b ∈ X.env.locals :: X.fs := fun b hb => by
  rcases I.ok.stk with e | ⟨e, hf⟩
  · rw [e] at hb; exact List.mem_cons_of_mem _ hb
  · rw [e] at hb
    unfold frs at hb
    rw [List.filterMap_cons, hf] at hb
    exact hb
theorem Inv.stkFree (I : Inv X pins σ H s) : ∀ b ∈ frs X.stack, H b = none := fun b hb => by
  rcases List.mem_cons.mp (I.stkSub b hb) with e | hb
  · rw [e]; exact I.free
  · obtain ⟨_, o, ho, _⟩ := I.ok.funs.mem hb
    exact I.base.free b o ho (I.ok.frf b hb) fun z => I.ok.exfs b z hb
/-- THE STEP: the untracked objects but the frame and the records at ch are kept (the callers' frames up to slots), the frame's map is kept, the new abstract heap is held -/
theorem Inv.step {g' : Array GenState} {t' : Nat} {d' : Drawn} {ch : List Addr} (I : Inv X pins σ H s)
    (hch : ∀ b ∈ ch, (b ∈ X.ex ∨ X.s₀.heap.objs.size ≤ b) ∧ b ≠ X.env.locals ∧ (∀ x c, X.env.cells.lookup x = some c → c ≠ b) ∧ ∀ p ∈ X.pn ++ pins, p.1 ≠ b)
    (keep : ∀ b o, b ≠ X.env.locals → b ∉ X.fs → b ∉ ch → s.heap.get? b = some o → H b = none → h'.get? b = some o)
    (slot : ∀ b o, b ≠ X.env.locals → b ∈ X.fs → b ∉ ch → s.heap.get? b = some o → H b = none → ∃ sl, h'.get? b = some { o with slots := sl }) (free : ∀ b o, b ∉ ch → s.heap.get? b = some o → H b = none → H' b = none)
    (there : ∀ b o, b ∉ ch → s.heap.get? b = some o → ∃ o', h'.get? b = some o')
    (tups : ∀ b xs, H b = some (.tup xs) → H' b = some (.tup xs)) (frzs : ∀ b o u, H b = some (.frz o u) → H' b = some (.frz o u)) (tbls : ∀ b ps, H b = some (.tbl ps) → ∃ more, H' b = some (.tbl (ps ++ more)))
    (ns : ∀ m, s.heap.Ns X.env.locals m → h'.Ns X.env.locals m) (hok : HOk X.prog X.w H' h') (hg : AllBare g') :
    Inv X pins σ H' { s with heap := h', gens := g', drawn := d', toks := t' } := by
  have neL : ∀ b o, X.s₀.heap.get? b = some o → b ≠ X.env.locals := fun b o e => Nat.ne_of_lt (Nat.lt_of_lt_of_le (Heap.lt_size e) I.ok.above)
  have neC : ∀ b o, X.s₀.heap.get? b = some o → b ∉ X.ex → b ∉ ch := fun b o e hx hb => by
    rcases (hch b hb).1 with z | z
    · exact hx z
    · exact absurd (Nat.lt_of_lt_of_le (Heap.lt_size e) z) (Nat.lt_irrefl _)
  have cellK : ∀ x c, X.env.cells.lookup x = some c → ∀ v, s.heap.IsCell c v → h'.IsCell c v := fun x c e v ⟨o, ho, hd⟩ => by
    have nch : c ∉ ch := fun z => (hch c z).2.2.1 x c e rfl
    by_cases hc : c ∈ X.fs
    · obtain ⟨sl, q⟩ := slot c o (I.cne x c e) hc nch ho (I.freeC x c e)
      exact ⟨_, q, hd⟩
    · exact ⟨o, keep c o (I.cne x c e) hc nch ho (I.freeC x c e), hd⟩
  refine ⟨I.ok, I.os, hg, ⟨fun b o e n hb hx => ?_, fun b o e n hb hx => ?_, fun b o e n hx => ?_, fun b o e hx => ?_, fun b xs e => tups b xs (I.base.tups b xs e), fun b o xs e => frzs b o xs (I.base.frzs b o xs e), fun b ps e => ?_⟩, ?_, fun x c e => ?_, ?_, fun x c e => ?_, fun p hp => ?_, hok, I.len⟩
  · exact keep b o (neL b o e) hb (neC b o e hx) (I.base.keep b o e n hb hx) (I.base.free b o e n hx)
  · obtain ⟨sl, e1⟩ := I.base.slot b o e n hb hx
    obtain ⟨sl', e2⟩ := slot b _ (neL b o e) hb (neC b o e hx) e1 (I.base.free b o e n hx)
    exact ⟨sl', e2⟩
  · obtain ⟨o', e1⟩ := I.base.there b o e hx
    exact free b o' (neC b o e hx) e1 (I.base.free b o e n hx)
  · obtain ⟨o', e1⟩ := I.base.there b o e hx
    exact there b o' (neC b o e hx) e1
  · obtain ⟨m1, e1⟩ := I.base.tbls b ps e
    obtain ⟨m2, e2⟩ := tbls b _ e1
    exact ⟨m1 ++ m2, by rw [e2, Array.append_assoc]⟩
  · obtain ⟨m, hn, hl⟩ := I.loc
    refine ⟨m, ns m hn, fun i x v e1 e2 e3 => ?_⟩
    obtain ⟨u, r, l⟩ := hl i x v e1 e2 e3
    refine ⟨u, r, ?_⟩
    rcases l with l | ⟨k, c, e, z⟩
    · exact .inl l
    · exact .inr ⟨k, c, e, cellK x c e _ z⟩
  · obtain ⟨v, z⟩ := I.cell x c e
    exact ⟨v, cellK x c e v z⟩
  · obtain ⟨m, ⟨o, _, _, ho, _⟩, _⟩ := I.loc
    exact free _ o (fun z => (hch _ z).2.1 rfl) ho I.free
  · obtain ⟨v, o, ho, hd⟩ := I.cell x c e
    exact free c o (fun z => (hch c z).2.2.1 x c e rfl) ho (I.freeC x c e)
  · obtain ⟨e, n, ne, nf, d⟩ := I.pin p hp
    have nch : p.1 ∉ ch := fun z => (hch p.1 z).2.2.2 p hp rfl
    exact ⟨keep p.1 p.2 ne nf nch e n, free p.1 p.2 nch e n, ne, nf, d⟩
/-- .. where the frame's own object is kept too -/
theorem Inv.un {t' : Nat} (I : Inv X pins σ H s) (u : Un X.fs [] H H' s.heap h') (hok : HOk X.prog X.w H' h') : Inv X pins σ H' { s with heap := h', toks := t' } := by
  obtain ⟨m, ⟨o, es, ep, ho, r⟩, _⟩ := id I.loc
  obtain ⟨sl, hL⟩ := u.any ho I.free (by simp)
  exact I.step (g' := s.gens) (d' := s.drawn) (ch := []) (fun _ z => nomatch z) (fun b o _ hb _ e n => u.keep b o e n hb (by simp)) (fun b o _ hb _ e n => u.slot b o e n hb (by simp)) (fun b o _ e n => u.free b o e n (by simp)) (fun b o _ e => u.there b o e (by simp)) u.tups u.frzs u.tbls (fun m' hm => by
    obtain ⟨o', es', ep', ho', r'⟩ := hm
    rw [ho] at ho'; cases ho'
    exact ⟨_, es', ep', hL, r'⟩) hok I.bare
/-- behind a call (or a comprehension's block): the slots of this frame may have changed too, the records at ch may have turned -/
theorem Inv.call {g' : Array GenState} {t' : Nat} {d' : Drawn} {ch : List Addr} (I : Inv X pins σ H s) (u : Un (frs X.stack) ch H H' s.heap h') (hok : HOk X.prog X.w H' h') (hg : AllBare g')
    (hch : ∀ b ∈ ch, (b ∈ X.ex ∨ X.s₀.heap.objs.size ≤ b) ∧ b ≠ X.env.locals ∧ (∀ x c, X.env.cells.lookup x = some c → c ≠ b) ∧ ∀ p ∈ X.pn ++ pins, p.1 ≠ b) :
    Inv X pins σ H' { s with heap := h', gens := g', drawn := d', toks := t' } := by
  obtain ⟨m, ⟨o, es, ep, ho, r⟩, _⟩ := id I.loc
  obtain ⟨sl, hL⟩ := u.any ho I.free fun z => (hch _ z).2.1 rfl
  exact I.step (ch := ch) hch (fun b o hL hb hc e n => u.keep b o e n (fun z => (List.mem_cons.mp (I.stkSub b z)).elim hL hb) hc) (fun b o _ _ hc e n => u.any e n hc) (fun b o hc e n => u.free b o e n hc) (fun b o hc e => u.there b o e hc) u.tups u.frzs u.tbls (fun m' hm => by
    obtain ⟨o', es', ep', ho', r'⟩ := hm
    rw [ho] at ho'; cases ho'
    exact ⟨_, es', ep', hL, r'⟩) hok hg
/-- an untracked record of ours (an iterator) has turned -/
theorem Inv.turned {t' : Nat} {it : Addr} (I : Inv X pins σ H s) (k : ∀ b o, b ≠ it → s.heap.get? b = some o → h'.get? b = some o) (hn : H it = none) (hL : it ≠ X.env.locals)
    (h1 : it ∈ X.ex ∨ X.s₀.heap.objs.size ≤ it) (h2 : ∀ x c, X.env.cells.lookup x = some c → c ≠ it) (h3 : ∀ p ∈ X.pn ++ pins, p.1 ≠ it) : Inv X pins σ H { s with heap := h', toks := t' } := by
  have nit : ∀ b u, H b = some u → b ≠ it := fun b u e z => by rw [z, hn] at e; cases e
  refine I.step (g' := s.gens) (d' := s.drawn) (ch := [it]) (fun b hb => ?_) (fun b o _ _ hc e _ => k b o (fun z => hc (by simp [z])) e) (fun b o _ _ hc e _ => ⟨o.slots, k b o (fun z => hc (by simp [z])) e⟩) (fun _ _ _ _ n => n)
    (fun b o hc e => ⟨o, k b o (fun z => hc (by simp [z])) e⟩) (fun _ _ e => e) (fun _ _ _ e => e) (fun b ps e => ⟨#[], by rw [e]; simp⟩) (fun m hm => ?_) (fun b u e => ?_) I.bare
  · have e : b = it := by simpa using hb
    subst e
    exact ⟨h1, hL, h2, h3⟩
  · obtain ⟨o, es, ep, ho, r⟩ := hm
    exact ⟨o, es, ep, k _ o (Ne.symm hL) ho, r⟩
  · refine (I.hok b u e).stay (fun c v hc q => k c v ?_ q) (fun _ q => q) fun _ _ q => q
    rcases hc with z | z
    · rw [z]; exact nit b u e
    · exact nit c _ z
theorem Inv.tok (I : Inv X pins σ H s) (t : Nat) : Inv X pins σ H { s with toks := t } := I.un (h' := s.heap) (t' := t) Un.refl I.hok
/-- all objects kept -/
theorem Inv.kept {t' : Nat} (I : Inv X pins σ H s) (k : ∀ b u, s.heap.get? b = some u → h'.get? b = some u) : Inv X pins σ H { s with heap := h', toks := t' } := I.un (Un.kept k) (I.hok.kept k)
/-- a new object laid and tracked -/
theorem Inv.laid {a : Addr} {o : HO} {t' : Nat} (I : Inv X pins σ H s) (k : ∀ b u, s.heap.get? b = some u → h'.get? b = some u) (hp : s.heap.objs.size ≤ a) (new : ObjOk X.prog X.w (upd H a o) h' a o) :
    Inv X pins σ (upd H a o) { s with heap := h', toks := t' } := I.un (Un.laid k hp (I.hok.fresh hp)) (I.hok.laid k hp new)
/-- an object written -/
theorem Inv.write {x e : Addr} {o : HO} {t' : Nat} (I : Inv X pins σ H s) (mu : Mut (H x)) (he : e = x ∨ H e = some (.own x)) (k : ∀ b u, b ≠ e → s.heap.get? b = some u → h'.get? b = some u) (heo : ∃ u, h'.get? e = some u)
    (new : ObjOk X.prog X.w (upd H x o) h' x o) : Inv X pins σ (upd H x o) { s with heap := h', toks := t' } := I.un (Un.write mu he k heo) (I.hok.write mu he k heo new)
theorem Inv.pins_of {pins' : List (Addr × Obj)} (I : Inv X pins σ H s) (h : ∀ p ∈ pins', s.heap.get? p.1 = some p.2 ∧ H p.1 = none ∧ p.1 ≠ X.env.locals ∧ p.1 ∉ X.fs ∧ ∀ v, p.2.data ≠ .cell v) : Inv X pins' σ H s :=
  ⟨I.ok, I.os, I.bare, I.base, I.loc, I.cell, I.free, I.freeC, fun p hp => (List.mem_append.mp hp).elim (fun z => I.pin p (List.mem_append_left _ z)) (h p), I.hok, I.len⟩
theorem nodup_ix {N : List Str} (hN : N.Nodup) {i j : Nat} {x : Str} (a : N[i]? = some x) (b : N[j]? = some x) : i = j := by
  obtain ⟨h1, e1⟩ := List.getElem?_eq_some_iff.mp a
  obtain ⟨h2, e2⟩ := List.getElem?_eq_some_iff.mp b
  exact (List.getElem_inj hN).mp (e1.trans e2.symm)
/-- a name is stored; what changed -/
theorem store_ok2 {M : Model} {A : Around} {E : Value → Shared → Prop} {i : Nat} {x : Str} {v : V} {u : Value} {Q : Unit → Shared → Prop} (I : Inv X pins σ H s) (hN : X.N.Nodup) (hi : X.N[i]? = some x) (hx : Loc X.env.scope x) (r : RelV v u)
    (h : ∀ s', Inv X pins (σ.set i (some v)) H s' → (∃ a, Heap.SameBut a s.heap s'.heap ∧ (a = X.env.locals ∨ X.env.cells.lookup x = some a)) → Q () s') (hf : X.fn x = true ∨ X.env.scope.names.lookup x = some .local := by first | exact .inl rfl | exact .inr rfl | assumption) : wpAny M A (storeName X.env x u) Q E s := by
  obtain ⟨m, hn, hl⟩ := id I.loc
  have hcls : (X.env.scope.kind == .class || (X.env.scope.kind == .module && X.env.locals != X.env.globals)) = false := by rw [I.ok.kind]; rfl
  have hiσ : i < σ.length := by rw [I.len]; exact (List.getElem?_eq_some_iff.mp hi).1
  have cne := I.cne
  have tracked : ∀ {a : Addr} {h' : Heap}, (∃ o, s.heap.get? a = some o ∧ H a = none) → Heap.SameBut a s.heap h' → HOk X.prog X.w H h' := fun {a h'} ha hs b ob e => by
    obtain ⟨_, _, hfree⟩ := ha
    refine (I.hok b ob e).stay (fun c w' hc q => (hs.2 c ?_).trans q) (fun _ q => q) fun _ _ q => q
    rintro rfl
    rcases hc with rfl | hc
    · rw [hfree] at e; cases e
    · rw [hfree] at hc; cases hc
  rcases hx with hk | hk
  · refine wpAny_storeName_local hk hn (fun h' hn' hs => ?_) hcls
    obtain ⟨oL, _, _, hoL, _⟩ := id hn
    refine h _ ⟨I.ok, I.os, I.bare, ⟨fun b o e n hb hx => ?_, fun b o e n hb hx => ?_, I.base.free, fun b o e hx => ?_, I.base.tups, I.base.frzs, I.base.tbls⟩, ⟨_, hn', fun j y v' e1 e2 e3 => ?_⟩, fun y c e => ?_, I.free, I.freeC, fun p hp => ?_, tracked ⟨oL, hoL, I.free⟩ hs, by simpa using I.len⟩ ⟨_, hs, .inl rfl⟩
    · exact (hs.2 b (Nat.ne_of_lt (Nat.lt_of_lt_of_le (Heap.lt_size e) I.ok.above))).trans (I.base.keep b o e n hb hx)
    · obtain ⟨sl, e1⟩ := I.base.slot b o e n hb hx
      exact ⟨sl, (hs.2 b (Nat.ne_of_lt (Nat.lt_of_lt_of_le (Heap.lt_size e) I.ok.above))).trans e1⟩
    · obtain ⟨o', e1⟩ := I.base.there b o e hx
      exact ⟨o', (hs.2 b (Nat.ne_of_lt (Nat.lt_of_lt_of_le (Heap.lt_size e) I.ok.above))).trans e1⟩
    · by_cases hj : j = i
      · subst hj
        rw [hi] at e1; cases e1
        rw [List.getElem?_set_self hiσ] at e2
        cases e2
        exact ⟨u, r, .inl ⟨hk, by simp⟩⟩
      · rw [List.getElem?_set_ne (Ne.symm hj)] at e2
        obtain ⟨u', r', q⟩ := hl j y v' e1 e2 e3
        refine ⟨u', r', ?_⟩
        rcases q with ⟨k, e⟩ | ⟨k, c, e, z⟩
        · refine .inl ⟨k, ?_⟩
          have : y ≠ x := fun e => hj (nodup_ix hN e1 (e ▸ hi))
          simp [this, e]
        · exact .inr ⟨k, c, e, z.sameBut hs (cne y c e)⟩
    · obtain ⟨w', z⟩ := I.cell y c e
      exact ⟨w', z.sameBut hs (cne y c e)⟩
    · obtain ⟨e, n, ne, nf, d⟩ := I.pin p hp
      exact ⟨(hs.2 p.1 ne).trans e, n, ne, nf, d⟩
  · have hfn : X.fn x = true := by
      rcases hf with z | z
      · exact z
      · rw [z] at hk; cases hk
    obtain ⟨c, hc⟩ := I.ok.has x (.inl hk)
    obtain ⟨w', z⟩ := I.cell x c hc
    refine wpAny_storeName_cell I.ok.kind hk hc z (fun h' hc' hs => ?_)
    obtain ⟨oc, hoc, hocd⟩ := id z
    refine h { s with heap := h' } ⟨I.ok, I.os, I.bare, ⟨fun b o e n hb hx => ?_, fun b o e n hb hx => ?_, I.base.free, fun b o e hx => ?_, I.base.tups, I.base.frzs, I.base.tbls⟩, ⟨m, hn.sameBut hs (Ne.symm (cne x c hc)), fun j y v' e1 e2 e3 => ?_⟩, fun y c' e => ?_, I.free, I.freeC, fun p hp => ?_, tracked ⟨oc, hoc, I.freeC x c hc⟩ hs, by simpa using I.len⟩ ⟨c, hs, .inr hc⟩
    · exact (hs.2 b (Nat.ne_of_lt (Nat.lt_of_lt_of_le (Heap.lt_size e) (I.ok.cab x c hfn hc)))).trans (I.base.keep b o e n hb hx)
    · obtain ⟨sl, e1⟩ := I.base.slot b o e n hb hx
      exact ⟨sl, (hs.2 b (Nat.ne_of_lt (Nat.lt_of_lt_of_le (Heap.lt_size e) (I.ok.cab x c hfn hc)))).trans e1⟩
    · obtain ⟨o', e1⟩ := I.base.there b o e hx
      exact ⟨o', (hs.2 b (Nat.ne_of_lt (Nat.lt_of_lt_of_le (Heap.lt_size e) (I.ok.cab x c hfn hc)))).trans e1⟩
    · by_cases hj : j = i
      · subst hj
        rw [hi] at e1; cases e1
        rw [List.getElem?_set_self hiσ] at e2
        cases e2
        exact ⟨u, r, .inr ⟨.inl hk, c, hc, hc'⟩⟩
      · rw [List.getElem?_set_ne (Ne.symm hj)] at e2
        obtain ⟨u', r', q⟩ := hl j y v' e1 e2 e3
        refine ⟨u', r', ?_⟩
        rcases q with q | ⟨k, c', e, z'⟩
        · exact .inl q
        · refine .inr ⟨k, c', e, z'.sameBut hs ?_⟩
          rintro rfl
          exact hj (nodup_ix hN e1 (I.ok.inj _ _ _ e hc ▸ hi))
    · by_cases hcc : c' = c
      · subst hcc; exact ⟨_, hc'⟩
      · obtain ⟨w2, z2⟩ := I.cell y c' e
        exact ⟨w2, z2.sameBut hs hcc⟩
    · obtain ⟨e, n, ne, nf, d⟩ := I.pin p hp
      refine ⟨(hs.2 p.1 ?_).trans e, n, ne, nf, d⟩
      intro q
      rw [q, hoc] at e
      have q' : oc = p.2 := Option.some.inj e
      exact d w' (by rw [← q']; exact hocd)
theorem store_ok {M : Model} {A : Around} {E : Value → Shared → Prop} {i : Nat} {x : Str} {v : V} {u : Value} {Q : Unit → Shared → Prop} (I : Inv X pins σ H s) (hN : X.N.Nodup) (hi : X.N[i]? = some x) (hx : Loc X.env.scope x) (r : RelV v u)
    (h : ∀ s', Inv X pins (σ.set i (some v)) H s' → Q () s') (hf : X.fn x = true ∨ X.env.scope.names.lookup x = some .local := by first | exact .inl rfl | exact .inr rfl | assumption) : wpAny M A (storeName X.env x u) Q E s :=
  store_ok2 I hN hi hx r (fun s' I' _ => h s' I') hf
/-- behind a call or a block, the state as it is -/
theorem Inv.call' {s' : Shared} {ch : List Addr} (I : Inv X pins σ H s) (ho : s'.os = s.os) (u : Un (frs X.stack) ch H H' s.heap s'.heap) (hok : HOk X.prog X.w H' s'.heap) (hg : AllBare s'.gens)
    (hch : ∀ b ∈ ch, (b ∈ X.ex ∨ X.s₀.heap.objs.size ≤ b) ∧ b ≠ X.env.locals ∧ (∀ x c, X.env.cells.lookup x = some c → c ≠ b) ∧ ∀ p ∈ X.pn ++ pins, p.1 ≠ b) : Inv X pins σ H' s' := by
  obtain ⟨h', g', d', t', o'⟩ := s'
  have e : o' = s.os := ho
  subst e
  exact I.call (g' := g') (t' := t') (d' := d') u hok hg hch
end
/-- an exception: its class, its own dict's address (where it has one), the abstract heap behind it -/
abbrev XK := Value → Option Addr → Hp → Prop
abbrev St := List (Option V)
abbrev VK := V → Hp → Prop
/-- an expression's reading; a test's; an argument list's -/
abbrev TE := St → Hp → VK → Prop
abbrev TT := St → Hp → (Bool → Hp → Prop) → Prop
abbrev TA := St → Hp → (List V → Hp → Prop) → Prop
/-- what is wanted behind a statement -/
structure Ends where
  nx : St → Hp → Prop
  rt : VK
  bk : St → Hp → Prop := fun _ _ => False
  ct : St → Hp → Prop := fun _ _ => False
abbrev TS := Ends → St → Hp → Prop
inductive EP (X : Cx) (pins : List (Addr × Obj)) (σ : St) (Q : VK) (u : Value) (s' : Shared) : Prop
  | mk : ∀ v H', Inv X pins σ H' s' → RelV v u → Q v H' → EP X pins σ Q u s'
inductive TP (X : Cx) (pins : List (Addr × Obj)) (σ : St) (Q : Bool → Hp → Prop) (b : Bool) (s' : Shared) : Prop
  | mk : ∀ H', Inv X pins σ H' s' → Q b H' → TP X pins σ Q b s'
inductive AP (X : Cx) (pins : List (Addr × Obj)) (σ : St) (Q : List V → Hp → Prop) (us : List Value) (s' : Shared) : Prop
  | mk : ∀ vs H', Inv X pins σ H' s' → Vals vs us → Q vs H' → AP X pins σ Q us s'
inductive SPn (X : Cx) (pins : List (Addr × Obj)) (N : St → Hp → Prop) (s' : Shared) : Prop
  | mk : ∀ σ' H', Inv X pins σ' H' s' → N σ' H' → SPn X pins N s'
inductive SPr (X : Cx) (pins : List (Addr × Obj)) (N : VK) (u : Value) (s' : Shared) : Prop
  | mk : ∀ v σ' H', Inv X pins σ' H' s' → RelV v u → N v H' → SPr X pins N u s'
def SP (X : Cx) (pins : List (Addr × Obj)) (D : Ends) (f : Flow) (s' : Shared) : Prop :=
  match f with
  | .next => SPn X pins D.nx s'
  | .brk => SPn X pins D.bk s'
  | .cont => SPn X pins D.ct s'
  | .ret u => SPr X pins D.rt u s'
def PE (X : Cx) (e : Expr) (t : TE) : Prop :=
  ∀ (pins : List (Addr × Obj)) (s : Shared) (σ : St) (H : Hp) (Q : VK), Inv X pins σ H s → t σ H Q → wpAny (model X.prog X.w) X.A (eval e X.env) (EP X pins σ Q) X.xe s
def PT (X : Cx) (e : Expr) (t : TT) : Prop :=
  ∀ (pins : List (Addr × Obj)) (s : Shared) (σ : St) (H : Hp) (Q : Bool → Hp → Prop), Inv X pins σ H s → t σ H Q → wpAny (model X.prog X.w) X.A (isTrue e X.env (eval e X.env)) (TP X pins σ Q) X.xe s
/-- a test whatever its 'whole' is (and, or) -/
def PW (X : Cx) (e : Expr) (t : TT) : Prop :=
  ∀ (whole : Sem Value) (pins : List (Addr × Obj)) (s : Shared) (σ : St) (H : Hp) (Q : Bool → Hp → Prop), Inv X pins σ H s → t σ H Q → wpAny (model X.prog X.w) X.A (isTrue e X.env whole) (TP X pins σ Q) X.xe s
theorem PW.pt {X : Cx} {e : Expr} {t : TT} (h : PW X e t) : PT X e t := h _
/-- an argument list (no star), from the left -/
def PA (X : Cx) (es : List Expr) (t : TA) : Prop :=
  ∀ (pos : Pos) (pins : List (Addr × Obj)) (s : Shared) (σ : St) (H : Hp) (Q : List V → Hp → Prop), Inv X pins σ H s → t σ H Q → wpAny (model X.prog X.w) X.A (spliced (backTo pos (starEach es X.env))) (AP X pins σ Q) X.xe s
def PS (X : Cx) (st : Stmt) (t : TS) : Prop :=
  ∀ (pins : List (Addr × Obj)) (s : Shared) (σ : St) (H : Hp) (D : Ends), Inv X pins σ H s → t D σ H → wpAny (model X.prog X.w) X.A (exec st X.env) (SP X pins D) X.xe s
def PSs (X : Cx) (st : List Stmt) (t : TS) : Prop :=
  ∀ (pins : List (Addr × Obj)) (s : Shared) (σ : St) (H : Hp) (D : Ends), Inv X pins σ H s → t D σ H → wpAny (model X.prog X.w) X.A (execs st X.env) (SP X pins D) X.xe s
/-- weaken the end -/
theorem thn {α : Type} {t : Sem α} {Q Q' : α → Shared → Prop} {M : Model} {A : Around} {E : Value → Shared → Prop} {s : Shared} (h : wpAny M A t Q E s) (hQ : ∀ a s, Q a s → Q' a s) : wpAny M A t Q' E s := wpAny_mono h hQ fun _ _ x => x
end L2
namespace L2
open PySem PySem.Spec PyProof.Rows
section
variable {X : Cx}
inductive tVar_I (i : Nat) (σ : St) (H : Hp) (Q : VK) : Prop
  | mk : ∀ v, σ[i]? = some (some v) → Q v H → tVar_I i σ H Q
def tVar (i : Nat) : TE := fun σ H Q => tVar_I i σ H Q
def tC (v : V) : TE := fun _ H Q => Q v H
theorem pe_var {i : Nat} {x : Str} {pos : Pos} (hN : X.N[i]? = some x) (hv : Vis X.env.scope x) (hd : (x == ("__debug__" : Str)) = false := by decide) (hcd : (x == ("__classdict__" : Str)) = false := by decide) : PE X (.Name x pos) (tVar i) := by
  intro pins s σ H Q I h
  obtain ⟨v, e, h⟩ := h
  obtain ⟨m, hn, hl⟩ := I.loc
  obtain ⟨u, r, l⟩ := hl i x v hN e hv
  have fin : EP X pins σ Q u s := ⟨v, H, I, r, h⟩
  rcases l with ⟨hk, hm⟩ | ⟨hk, c, hc, hcell⟩
  · exact wpAny_Name (wpAny_loadName_local I.ok.kind hk hn hm fin) hd
  · rcases hk with hk | hk
    · exact wpAny_Name (wpAny_loadName_cell I.ok.kind hk hc hcell fin) hd
    · exact wpAny_Name (wpAny_loadName_free I.ok.kind hk hc hcell fin hcd) hd
theorem pe_int {i j pos} : PE X (.Constant (.int i) j pos) (tC (.int i)) := fun _ _ _ H _ I h => wpAny_Constant_int ⟨.int i, H, I.tok _, ⟨_, rfl⟩, h⟩
theorem pe_bl {b j pos} : PE X (.Constant (.bool b) j pos) (tC (.bl b)) := fun _ _ _ H _ I h => Constant_bool ⟨.bl b, H, I, rfl, h⟩
theorem pe_non {j pos} : PE X (.Constant .none j pos) (tC .non) := fun _ _ _ H _ I h => Constant_none ⟨.non, H, I, rfl, h⟩
theorem pe_str {x j pos} : PE X (.Constant (.str x) j pos) (tC (.str x)) := fun _ _ _ H _ I h => Calls.Constant_str ⟨.str x, H, I.tok _, ⟨_, rfl⟩, h⟩
/-- a global name of the def -/
def Gl (X : Cx) (x : Str) : Prop := X.env.kindOf x = some .globalImplicit
theorem ld_glob {E : Value → Shared → Prop} {pins : List (Addr × Obj)} {s : Shared} {σ : St} {H : Hp} {x : Str} {u : Value} {pos : Pos} {Q : Value → Shared → Prop} (I : Inv X pins σ H s) (hg : Gl X x) (hm : X.mg x = some u) (h : Q u s)
    (hd : (x == ("__debug__" : Str)) = false := by decide) : wpAny (model X.prog X.w) X.A (eval (.Name x pos) X.env) Q E s :=
  Calls.Name_function_global I.ok.kind hg (Calls.loadGlobal_global (by rw [I.ok.glob]; exact I.mod.glob.keeps I.bk) hm h) hd
theorem ld_blt {E : Value → Shared → Prop} {pins : List (Addr × Obj)} {s : Shared} {σ : St} {H : Hp} {x : Str} {u : Value} {pos : Pos} {Q : Value → Shared → Prop} (I : Inv X pins σ H s) (hg : Gl X x) (hm : X.mg x = none) (hv : bootBuiltins x = some u) (h : Q u s)
    (hn : x ≠ "__name__" := by decide) (hd : (x == ("__debug__" : Str)) = false := by decide) : wpAny (model X.prog X.w) X.A (eval (.Name x pos) X.env) Q E s := by
  obtain ⟨mb, h1, h2⟩ := I.mod.blt
  exact Calls.Name_function_global I.ok.kind hg (Calls.loadGlobal_builtin (by rw [I.ok.glob]; exact I.mod.glob.keeps I.bk) hm (by rw [I.ok.blt]; exact h1.keeps I.bk) ((h2 x hn).trans hv) h) hd
/-- a module's constant, a class, a function, as a value -/
theorem pe_glob {x : Str} {v : V} {u : Value} {pos : Pos} (hg : Gl X x) (hm : X.mg x = some u) (r : RelV v u) (hd : (x == ("__debug__" : Str)) = false := by decide) : PE X (.Name x pos) (tC v) :=
  fun _ _ _ H _ I h => ld_glob I hg hm ⟨v, H, I, r, h⟩ hd
theorem pe_bltn {x : Str} {v : V} {u : Value} {pos : Pos} (hg : Gl X x) (hm : X.mg x = none) (hv : bootBuiltins x = some u) (r : RelV v u) (hn : x ≠ "__name__" := by decide) (hd : (x == ("__debug__" : Str)) = false := by decide) : PE X (.Name x pos) (tC v) :=
  fun _ _ _ H _ I h => ld_blt I hg hm hv ⟨v, H, I, r, h⟩ hn hd
variable {a b : Expr} {ta tb : TE} {pos : Pos}
/-- a comparison as a value, as a test -/
inductive tB_I (Q : (Bool → Hp → Prop)) (x : V) (H1 : Hp) : Prop
  | mk : ∀ c, x = .bl c → Q c H1 → tB_I Q x H1
def tB (t : TE) : TT := fun σ H Q => t σ H fun x H1 => tB_I Q x H1
/-- an expression whose value is a bool, as a test -/
theorem pt_val {e : Expr} {t : TE} (h : PE X e t) (he : ∀ whole, isTrue e X.env whole = (do let v ← whole; standAt e.pos; holding [v] (truthy v)) := by intro _; rfl) : PT X e (tB t) := by
  intro pins s σ H Q I hw
  refine isTrue_plain (thn (h pins s σ H _ I hw) fun v s1 ⟨x, H1, I1, r1, q1⟩ => ?_) (he _)
  obtain ⟨d, rfl, q⟩ := q1
  cases r1
  exact wpAny_truthy_bool ⟨H1, I1, q⟩
variable {tA tB' : TT} {rest : List Expr}
def tAnd (t u : TT) : TT := fun σ H Q => t σ H fun c H1 => if c = true then u σ H1 Q else Q false H1
def tOr (t u : TT) : TT := fun σ H Q => t σ H fun c H1 => if c = true then Q true H1 else u σ H1 Q
def tNot (t : TT) : TT := fun σ H Q => t σ H fun c H1 => Q (!c) H1
theorem pw_and1 (ha : PT X a tA) : PW X (.BoolOp .And [a] pos) tA := by
  intro wh pins s σ H Q I h
  refine isTrue_and (thn (ha pins s σ H Q I h) fun c s1 e => ?_)
  cases c with
  | true => exact isTrue_and_nil e
  | false => exact e
theorem pw_or1 (ha : PT X a tA) : PW X (.BoolOp .Or [a] pos) tA := by
  intro wh pins s σ H Q I h
  refine isTrue_or (thn (ha pins s σ H Q I h) fun c s1 e => ?_)
  cases c with
  | false => exact isTrue_or_nil e
  | true => exact e
theorem pw_and (ha : PT X a tA) (hb : PW X (.BoolOp .And (b :: rest) pos) tB') : PW X (.BoolOp .And (a :: b :: rest) pos) (tAnd tA tB') := by
  intro wh pins s σ H Q I h
  refine isTrue_and (thn (ha pins s σ H _ I h) fun c s1 ⟨H1, I1, q1⟩ => ?_)
  cases c with
  | true => exact hb wh pins s1 σ H1 Q I1 q1
  | false => exact ⟨H1, I1, q1⟩
theorem pw_or (ha : PT X a tA) (hb : PW X (.BoolOp .Or (b :: rest) pos) tB') : PW X (.BoolOp .Or (a :: b :: rest) pos) (tOr tA tB') := by
  intro wh pins s σ H Q I h
  refine isTrue_or (thn (ha pins s σ H _ I h) fun c s1 ⟨H1, I1, q1⟩ => ?_)
  cases c with
  | true => exact ⟨H1, I1, q1⟩
  | false => exact hb wh pins s1 σ H1 Q I1 q1
theorem pt_not (ha : PT X a tA) : PT X (.UnaryOp .Not a pos) (tNot tA) := by
  intro pins s σ H Q I h
  exact isTrue_not (thn (ha pins s σ H (fun c H1 => Q (!c) H1) I h) fun c s1 ⟨H1, I1, q1⟩ => ⟨H1, I1, q1⟩)
/-- .. as values (bools) -/
inductive tAndV_I (tb : TE) (σ : St) (Q : VK) (x : V) (H1 : Hp) : Prop
  | mk : ∀ c, x = .bl c → (if c = true then tb σ H1 Q else Q (.bl false) H1) → tAndV_I tb σ Q x H1
def tAndV (ta tb : TE) : TE := fun σ H Q => ta σ H fun x H1 => tAndV_I tb σ Q x H1
inductive tOrV_I (tb : TE) (σ : St) (Q : VK) (x : V) (H1 : Hp) : Prop
  | mk : ∀ c, x = .bl c → (if c = true then Q (.bl true) H1 else tb σ H1 Q) → tOrV_I tb σ Q x H1
def tOrV (ta tb : TE) : TE := fun σ H Q => ta σ H fun x H1 => tOrV_I tb σ Q x H1
inductive tNotV_I (Q : VK) (x : V) (H1 : Hp) : Prop
  | mk : ∀ c, x = .bl c → Q (.bl (!c)) H1 → tNotV_I Q x H1
def tNotV (ta : TE) : TE := fun σ H Q => ta σ H fun x H1 => tNotV_I Q x H1
theorem pe_one {op} {t : TE} (h : PE X a t) : PE X (.BoolOp op [a] pos) t := fun pins s σ H Q I hw => BoolOp_one (h pins s σ H Q I hw)
theorem pe_and (ha : PE X a ta) (hb : PE X (.BoolOp .And (b :: rest) pos) tb) : PE X (.BoolOp .And (a :: b :: rest) pos) (tAndV ta tb) := by
  intro pins s σ H Q I h
  refine BoolOp_and (thn (ha pins s σ H _ I h) fun v s1 ⟨x, H1, I1, r1, q1⟩ => ?_)
  obtain ⟨c, rfl, q1⟩ := q1
  cases r1
  refine wpAny_truthy_bool ?_
  cases c with
  | true => exact hb pins s1 σ H1 Q I1 q1
  | false => exact ⟨.bl false, H1, I1, rfl, q1⟩
theorem pe_or (ha : PE X a ta) (hb : PE X (.BoolOp .Or (b :: rest) pos) tb) : PE X (.BoolOp .Or (a :: b :: rest) pos) (tOrV ta tb) := by
  intro pins s σ H Q I h
  refine BoolOp_or (thn (ha pins s σ H _ I h) fun v s1 ⟨x, H1, I1, r1, q1⟩ => ?_)
  obtain ⟨c, rfl, q1⟩ := q1
  cases r1
  refine wpAny_truthy_bool ?_
  cases c with
  | false => exact hb pins s1 σ H1 Q I1 q1
  | true => exact ⟨.bl true, H1, I1, rfl, q1⟩
theorem pe_not (ha : PE X a ta) : PE X (.UnaryOp .Not a pos) (tNotV ta) := by
  intro pins s σ H Q I h
  refine UnaryOp_ (thn (ha pins s σ H _ I h) fun v s1 ⟨x, H1, I1, r1, q1⟩ => ?_)
  obtain ⟨c, rfl, q1⟩ := q1
  cases r1
  exact not_of (wpAny_truthy_bool ⟨.bl (!c), H1, I1, rfl, q1⟩)
/-- a if t else b -/
def tIf (t : TT) (ta tb : TE) : TE := fun σ H Q => t σ H fun c H1 => if c = true then ta σ H1 Q else tb σ H1 Q
theorem pe_ifExp {c : Expr} (hc : PT X c tA) (ha : PE X a ta) (hb : PE X b tb) : PE X (.IfExp c a b pos) (tIf tA ta tb) := by
  intro pins s σ H Q I h
  refine wpAny_IfExp (thn (hc pins s σ H _ I h) fun d s1 ⟨H1, I1, q1⟩ => ?_)
  cases d with
  | true => exact ha pins s1 σ H1 Q I1 q1
  | false => exact hb pins s1 σ H1 Q I1 q1
end
end L2
namespace L2
open PySem PySem.Spec PyProof.Rows
def SqL (K : PySem.W.Frag) (H : Hp) (a : Addr) (xs : List V) : Prop :=
  Rd H a (.lst xs) ∨
    ∃ (o : Obj) (its : Array Value) (n : Nat), K.lookup a = some o ∧ o.cls = .type "list" ∧ o.dict = none ∧ o.data = .seq its n ∧ its.size ≤ sizeLine ∧ Vals xs its.toList
def SqT (K : PySem.W.Frag) (H : Hp) (a : Addr) (xs : List V) : Prop :=
  Rd H a (.tup xs) ∨
    ∃ (o : Obj) (its : Array Value) (n : Nat), K.lookup a = some o ∧ o.cls = .type "tuple" ∧ o.data = .seq its n ∧ its.size ≤ sizeLine ∧ Vals xs its.toList
def absV : Value → Option V
  | .none => some .non
  | .bool b => some (.bl b)
  | .int i _ => some (.int i)
  | .str x _ => some (.str x)
  | .bytes b _ => some (.byt b)
  | .float b _ => some (.flt b)
  | .ref a => some (.ref a)
  | .type n => some (.ty n)
  | _ => none
theorem RelV.abs {x : V} {u : Value} (r : RelV x u) : absV u = some x := by
  cases x with
  | non => cases r; rfl
  | bl _ => cases r; rfl
  | int _ => obtain ⟨t, rfl⟩ := r; rfl
  | str _ => obtain ⟨t, rfl⟩ := r; rfl
  | byt _ => obtain ⟨t, rfl⟩ := r; rfl
  | flt _ => obtain ⟨t, rfl⟩ := r; rfl
  | ref _ => cases r; rfl
  | ty _ => cases r; rfl
theorem RelV.inj {x y : V} {u : Value} (r : RelV x u) (q : RelV y u) : x = y := Option.some.inj (r.abs.symm.trans q.abs)
theorem Vals.inj : ∀ {xs ys : List V} {us : List Value}, Vals xs us → Vals ys us → xs = ys
  | _, _, _, .nil, .nil => rfl
  | _, _, _, .cons r t, .cons r' t' => by rw [r.inj r', Vals.inj t t']
section
variable {X : Cx} {pins : List (Addr × Obj)} {σ : St} {H : Hp} {s : Shared} {a : Addr} {xs ys : List V}
theorem SqL.of {K : PySem.W.Frag} (h : H a = some (.lst xs)) : SqL K H a xs := .inl (.inl h)
theorem SqT.of {K : PySem.W.Frag} (h : H a = some (.tup xs)) : SqT K H a xs := .inl (.inl h)
theorem Inv.list (I : Inv X pins σ H s) (h : SqL X.K H a xs) : ∃ its : List Value, Vals xs its ∧ PlainL s.heap a its.toArray ∧ xs.length ≤ sizeLine := by
  rcases h with h | ⟨o, its, n, hk, hc, hd, hs, hz, r⟩
  · obtain ⟨z, its, n, r, e⟩ := h.ok I.hok
    exact ⟨its, r, ⟨_, n, e, rfl, rfl, rfl⟩, z⟩
  · refine ⟨its.toList, r, ⟨o, n, I.kIn a o hk, hc, hd, by simpa using hs⟩, ?_⟩
    have e := r.length
    simp only [Array.length_toList] at e
    omega
theorem Inv.tuple (I : Inv X pins σ H s) (h : SqT X.K H a xs) : ∃ its : List Value, Vals xs its ∧ IsTup s.heap a its.toArray ∧ xs.length ≤ sizeLine := by
  rcases h with h | ⟨o, its, n, hk, hc, hs, hz, r⟩
  · obtain ⟨z, its, r, p⟩ := h.ok I.hok
    exact ⟨its, r, p, z⟩
  · refine ⟨its.toList, r, ⟨o, I.kIn a o hk, hc, n, by simpa using hs⟩, ?_⟩
    have e := r.length
    simp only [Array.length_toList] at e
    omega
end
abbrev Cx.wish (X : Cx) (E : Value → Shared → Prop) : Cx := { X with xe := E }
/-- no exception leaves -/
abbrev Cx.nox (X : Cx) : Cx := X.wish fun _ _ => False
theorem Cx.Ok.wish {X : Cx} (ok : X.Ok) (E : Value → Shared → Prop) : (X.wish E).Ok :=
  ⟨ok.mod, ok.kind, ok.glob, ok.blt, ok.above, ok.inj, ok.has, ok.cab, ok.hd, ok.frames, ok.stk, ok.exf, ok.bs, ok.bsz, ok.noex, ok.exfs, ok.funs, ok.frf⟩
theorem Cx.Ok.unwish {X : Cx} {E : Value → Shared → Prop} (ok : (X.wish E).Ok) : X.Ok :=
  ⟨ok.mod, ok.kind, ok.glob, ok.blt, ok.above, ok.inj, ok.has, ok.cab, ok.hd, ok.frames, ok.stk, ok.exf, ok.bs, ok.bsz, ok.noex, ok.exfs, ok.funs, ok.frf⟩
section
variable {X : Cx} {pins : List (Addr × Obj)} {σ : St} {H : Hp} {s : Shared} {E : Value → Shared → Prop}
theorem Inv.wish (I : Inv X pins σ H s) (E : Value → Shared → Prop) : Inv (X.wish E) pins σ H s := ⟨I.ok.wish E, I.os, I.bare, I.base, I.loc, I.cell, I.free, I.freeC, I.pin, I.hok, I.len⟩
theorem Inv.unwish (I : Inv (X.wish E) pins σ H s) : Inv X pins σ H s := ⟨I.ok.unwish, I.os, I.bare, I.base, I.loc, I.cell, I.free, I.freeC, I.pin, I.hok, I.len⟩
theorem SP.unwish {D : Ends} {f : Flow} {s' : Shared} (h : SP (X.wish E) pins D f s') : SP X pins D f s' := by
  cases f with
  | next => obtain ⟨σ', H', I, q⟩ := h; exact ⟨σ', H', I.unwish, q⟩
  | brk => obtain ⟨σ', H', I, q⟩ := h; exact ⟨σ', H', I.unwish, q⟩
  | cont => obtain ⟨σ', H', I, q⟩ := h; exact ⟨σ', H', I.unwish, q⟩
  | ret u => obtain ⟨v, σ', H', I, r, q⟩ := h; exact ⟨v, σ', H', I.unwish, r, q⟩
theorem PE.nox {e : Expr} {t : TE} (h : PE X.nox e t) : PE X e t := fun pins s σ H Q I hw =>
  wpAny_mono (h pins s σ H Q (I.wish _) hw) (fun _ _ ⟨v, H', I', r, q⟩ => ⟨v, H', I'.unwish, r, q⟩) fun _ _ z => False.elim z
theorem PT.nox {e : Expr} {t : TT} (h : PT X.nox e t) : PT X e t := fun pins s σ H Q I hw =>
  wpAny_mono (h pins s σ H Q (I.wish _) hw) (fun _ _ ⟨H', I', q⟩ => ⟨H', I'.unwish, q⟩) fun _ _ z => False.elim z
theorem PSs.nox {st : List Stmt} {t : TS} (h : PSs X.nox st t) : PSs X st t := fun pins s σ H D I hw =>
  wpAny_mono (h pins s σ H D (I.wish _) hw) (fun _ _ q => q.unwish) fun _ _ z => False.elim z
end
section
variable {X : Cx} {st : Stmt} {rest : List Stmt} {t u : TS} {e : Expr} {te : TE} {pos : Pos}
def tNext : TS := fun D σ H => D.nx σ H
def tSeq (t u : TS) : TS := fun D σ H => t { D with nx := u D } σ H
theorem pss_nil : PSs X [] tNext := fun _ _ σ H _ I h => wpAny_execs_nil ⟨σ, H, I, h⟩
theorem pss_cons (h1 : PS X st t) (h2 : PSs X rest u) : PSs X (st :: rest) (tSeq t u) := by
  intro pins s σ H D I h
  refine wpAny_execs_cons (thn (h1 pins s σ H { D with nx := u D } I h) fun f s1 q => ?_)
  cases f with
  | next =>
    obtain ⟨σ', H', I', q⟩ := q
    exact h2 pins s1 σ' H' D I' q
  | ret v => exact q
  | brk => exact q
  | cont => exact q
theorem pss_one (h1 : PS X st t) : PSs X [st] t := by
  intro pins s σ H D I h
  refine wpAny_execs_cons (thn (h1 pins s σ H D I h) fun f s1 q => ?_)
  cases f with
  | next => exact wpAny_execs_nil q
  | ret v => exact q
  | brk => exact q
  | cont => exact q
/-- in a def's body nothing is shown -/
theorem Inv.quiet {pins : List (Addr × Obj)} {σ : St} {H : Hp} {s : Shared} (I : Inv X pins σ H s) : interactive X.env = false := by simp [interactive, I.ok.kind]
/-- an expression whose value is dropped -/
def tDrop (te : TE) : TS := fun D σ H => te σ H fun _ H1 => D.nx σ H1
theorem ps_expr (he : PE X e te) (hs : swapsWith e none pos.line X.env = pure false := by rfl) : PS X (.Expr e pos) (tDrop te) := by
  intro pins s σ H D I h
  exact wpAny_Expr_any (thn (he pins s σ H _ I h) fun v s1 ⟨x, H1, I1, r1, q1⟩ => ⟨σ, H1, I1, q1⟩) I.quiet hs
def tRet (te : TE) : TS := fun D σ H => te σ H D.rt
theorem ps_ret (he : PE X e te) : PS X (.Return (some e) pos) (tRet te) := by
  intro pins s σ H D I h
  exact wpAny_Return_some (thn (he pins s σ H _ I h) fun v s1 ⟨x, H1, I1, r1, q1⟩ => ⟨x, σ, H1, I1, r1, q1⟩)
def tIfS (c : TT) (t u : TS) : TS := fun D σ H => c σ H fun b H1 => if b = true then t D σ H1 else u D σ H1
theorem ps_if {c : Expr} {a b : List Stmt} {tc : TT} (hc : PT X c tc) (ha : PSs X a t) (hb : PSs X b u) : PS X (.If c a b pos) (tIfS tc t u) := by
  intro pins s σ H D I h
  refine wpAny_If (thn (hc pins s σ H _ I h) fun d s1 ⟨H1, I1, q1⟩ => ?_)
  cases d with
  | true => exact ha pins s1 σ H1 D I1 q1
  | false => exact hb pins s1 σ H1 D I1 q1
end
abbrev TG := V → St → Hp → (St → Hp → Prop) → Prop
def PG (X : Cx) (target : Expr) (t : TG) : Prop :=
  ∀ (pins : List (Addr × Obj)) (s : Shared) (σ : St) (H : Hp) (v : V) (u : Value) (Q : St → Hp → Prop), Inv X pins σ H s → RelV v u → t v σ H Q →
    wpAny (model X.prog X.w) X.A (assign target X.env u) (fun _ s' => ∃ σ' H', Inv X pins σ' H' s' ∧ Q σ' H') X.xe s
/-- o[i] = v, by values -/
abbrev TSet := V → V → V → Hp → (Hp → Prop) → Prop
def PSet (X : Cx) (t : TSet) : Prop :=
  ∀ (pins : List (Addr × Obj)) (s : Shared) (σ : St) (H : Hp) (o i v : V) (ov iv u : Value) (Q : Hp → Prop), Inv X pins σ H s → RelV o ov → RelV i iv → RelV v u → t o i v H Q →
    wpAny (model X.prog X.w) X.A (setItem ov iv u) (fun _ s' => ∃ H', Inv X pins σ H' s' ∧ Q H') X.xe s
/-- a op= b, by values -/
abbrev TIp := V → V → Hp → VK → Prop
def PIp (X : Cx) (op : Operator) (t : TIp) : Prop :=
  ∀ (pins : List (Addr × Obj)) (s : Shared) (σ : St) (H : Hp) (x y : V) (v u : Value) (Q : VK), Inv X pins σ H s → RelV x v → RelV y u → t x y H Q →
    wpAny (model X.prog X.w) X.A (inplaceOp op v u) (EP X pins σ Q) X.xe s
section
variable {X : Cx} {pos : Pos}
def gName (i : Nat) : TG := fun v σ H Q => Q (σ.set i (some v)) H
theorem pg_name {i : Nat} {x : Str} (hN : X.N.Nodup) (hi : X.N[i]? = some x) (hx : Loc X.env.scope x) (hf : X.fn x = true ∨ X.env.scope.names.lookup x = some .local := by first | exact .inl rfl | exact .inr rfl | assumption) : PG X (.Name x pos) (gName i) := by
  intro pins s σ H v u Q I r h
  exact wpAny_assign_Name (store_ok I hN hi hx r (fun s' I' => ⟨_, H, I', h⟩) hf)
/-- o[i] = .. -/
def gSub (to ti : TE) (t : TSet) : TG := fun v σ H Q => to σ H fun o H1 => ti σ H1 fun i H2 => t o i v H2 fun H3 => Q σ H3
theorem pg_sub {o i : Expr} {to ti : TE} {t : TSet} (ho : PE X o to) (hi : PE X i ti) (hs : PSet X t)
    (ha : ∀ v, assign (.Subscript o i pos) X.env v = (do
      let ov ← holding [v] (eval o X.env)
      let iv ← holding [v, ov] (eval i X.env)
      standAt pos
      holding [v, ov, iv] (setItem ov iv v)
      release [v, ov, iv] []) := by intro _; rfl) : PG X (.Subscript o i pos) (gSub to ti t) := by
  intro pins s σ H v u Q I r h
  rw [ha]
  refine wpAny_bind (wpAny_holding (thn (ho pins s σ H _ I h) fun ov s1 ⟨x, H1, I1, r1, q1⟩ => ?_))
  refine wpAny_bind (wpAny_holding (thn (hi pins s1 σ H1 _ I1 q1) fun iv s2 ⟨y, H2, I2, r2, q2⟩ => ?_))
  refine wpAny_bind (wpAny_standAt (wpAny_bind (wpAny_holding (thn (hs pins s2 σ H2 x y v ov iv u _ I2 r1 r2 r q2) fun _ s3 ⟨H3, I3, q3⟩ => ?_))))
  exact wpAny_release ⟨σ, H3, I3, q3⟩
/-- target = value -/
def tAsg (te : TE) (g : TG) : TS := fun D σ H => te σ H fun x H1 => g x σ H1 D.nx
theorem ps_asg {tg e : Expr} {te : TE} {g : TG} (he : PE X e te) (hg : PG X tg g) (hs : swapsWithSole [tg] e pos.line X.env = pure false := by rfl) (hw : swappedStores [tg] e X.env = pure none := by rfl)
    (h1 : (assignEach [tg] X.env).map (·.2) = [assign tg X.env] := by rfl) : PS X (.Assign [tg] e pos) (tAsg te g) := by
  intro pins s σ H D I h
  refine wpAny_Assign_stores (thn (he pins s σ H _ I h) fun v s1 ⟨x, H1, I1, r1, q1⟩ => ?_) hs hw
  rw [h1]
  exact thn (hg pins s1 σ H1 x v _ I1 r1 q1) fun _ s2 ⟨σ2, H2, I2, q2⟩ => ⟨σ2, H2, I2, q2⟩
/-- name = value -/
theorem ps_set {i : Nat} {x : Str} {e : Expr} {te : TE} {pos' : Pos} (hN : X.N.Nodup) (hi : X.N[i]? = some x) (hx : Loc X.env.scope x) (he : PE X e te) (hs : swapsWith e (some (.Name x pos')) pos.line X.env = pure false := by rfl) (hf : X.fn x = true ∨ X.env.scope.names.lookup x = some .local := by first | exact .inl rfl | exact .inr rfl | assumption) :
    PS X (.Assign [.Name x pos'] e pos) (tAsg te (gName i)) := by
  intro pins s σ H D I h
  refine wpAny_Assign_Name (thn (he pins s σ H _ I h) fun v s1 ⟨y, H1, I1, r1, q1⟩ => ?_) hs
  exact store_ok I1 hN hi hx r1 (fun s2 I2 => ⟨_, H1, I2, q1⟩) hf
/-- name op= e -/
inductive tAug_I (i : Nat) (te : TE) (ti : TIp) (D : Ends) (σ : St) (H : Hp) : Prop
  | mk : ∀ x, σ[i]? = some (some x) → (te σ H fun y H1 => ti x y H1 fun z H2 => D.nx (σ.set i (some z)) H2) → tAug_I i te ti D σ H
def tAug (i : Nat) (te : TE) (ti : TIp) : TS := fun D σ H => tAug_I i te ti D σ H
theorem ps_aug {i : Nat} {x : Str} {e : Expr} {te : TE} {op : Operator} {ti : TIp} {pos' : Pos} (hN : X.N.Nodup) (hi : X.N[i]? = some x) (hx : Loc X.env.scope x) (he : PE X e te) (ho : PIp X op ti) (hf : X.fn x = true ∨ X.env.scope.names.lookup x = some .local := by first | exact .inl rfl | exact .inr rfl | assumption) :
    PS X (.AugAssign (.Name x pos') op e pos) (tAug i te ti) := by
  intro pins s σ H D I h
  obtain ⟨v, e1, h⟩ := h
  obtain ⟨m, hn, hl⟩ := I.loc
  have vis : Vis X.env.scope x := by rcases hx with k | k; exact .inl k; exact .inr (.inl k)
  obtain ⟨u, r, l⟩ := hl i x v hi e1 vis
  refine wpAny_AugAssign_Name ?_
  have go : wpAny (model X.prog X.w) X.A (eval e X.env) (fun w s₂ => wpAny (model X.prog X.w) X.A (inplaceOp op u w) (fun r s₃ => wpAny (model X.prog X.w) X.A (storeName X.env x r) (fun _ => SP X pins D .next) X.xe s₃) X.xe s₂) X.xe s := by
    refine thn (he pins s σ H _ I h) fun w s1 ⟨y, H1, I1, r1, q1⟩ => ?_
    refine thn (ho pins s1 σ H1 v y u w _ I1 r r1 q1) fun z s2 ⟨zv, H2, I2, r2, q2⟩ => ?_
    exact store_ok I2 hN hi hx r2 (fun s3 I3 => ⟨_, H2, I3, q2⟩) hf
  rcases l with ⟨hk, hm⟩ | ⟨hk, c, hc, hcell⟩
  · exact wpAny_loadName_local I.ok.kind hk hn hm go
  · rcases hk with hk | hk
    · exact wpAny_loadName_cell I.ok.kind hk hc hcell go
    · rcases hx with k | k
      · have : X.env.scope.names.lookup x = some .free := hk
        rw [k] at this; cases this
      · have : X.env.scope.names.lookup x = some .free := hk
        rw [k] at this; cases this
end
section
variable {X : Cx} {pos : Pos}
end
/-- at turn i: it yields x (the heap may grow), or it stops -/
structure It where
  go : Nat → Hp → Prop
  yld : Nat → Hp → V → Hp → Prop
  stop : Nat → Hp → Prop
/-- the iterator's own objects may turn: they are not the frame's, not pinned, younger than the entry (or a comprehension's own) -/
def FpOk (X : Cx) (pins : List (Addr × Obj)) (H : Hp) (b : Addr) : Prop :=
  H b = none ∧ b ≠ X.env.locals ∧ b ∉ X.fs ∧ (b ∈ X.ex ∨ X.s₀.heap.objs.size ≤ b) ∧ (∀ x c, X.env.cells.lookup x = some c → c ≠ b) ∧ ∀ p ∈ X.pn ++ pins, p.1 ≠ b
theorem Inv.fpOk {X : Cx} {pins : List (Addr × Obj)} {σ : St} {H H' : Hp} {s : Shared} {b : Addr} (I : Inv X pins σ H s) (hb : s.heap.objs.size ≤ b) (hn : H' b = none) : FpOk X pins H' b := by
  refine ⟨hn, Nat.ne_of_gt (Nat.lt_of_lt_of_le I.lt hb), I.nofs hb, .inr (Nat.le_trans I.sz hb), fun x c e z => ?_, fun p hp z => ?_⟩
  · obtain ⟨v, q⟩ := I.cell x c e
    exact absurd (Nat.lt_of_lt_of_le q.lt (by rw [z]; exact hb)) (Nat.lt_irrefl _)
  · exact absurd (Nat.lt_of_lt_of_le (Heap.lt_size (I.pin p hp).1) (by rw [z]; exact hb)) (Nat.lt_irrefl _)
structure Turn (P : Program) (w : World) (K : PySem.W.Frag) (tg : Expr) (J : It) (fp : List Addr) (it : Addr) (tn : Nat → Heap → Prop) : Prop where
  mem : it ∈ fp
  obj : ∀ i h, tn i h → ∀ b ∈ fp, ∃ o, h.get? b = some o ∧ ∀ v, o.data ≠ .cell v
  keep : ∀ i h h', tn i h → (∀ b ∈ fp, ∀ o, h.get? b = some o → h'.get? b = some o) → tn i h'
  item : ∀ (X : Cx), X.prog = P → X.w = w → X.K = K → X.calm = true → ∀ (i : Nat) (pins : List (Addr × Obj)) (s : Shared) (σ : St) (H : Hp) (E : Value → Shared → Prop), Inv X pins σ H s → (∀ b ∈ fp, FpOk X pins H b) → tn i s.heap → J.go i H →
    wpAny (model P w) X.A (pyNext (.ref it)) (fun r s1 => ∃ u, r = some u ∧
      wpAny (model P w) X.A (letOwnedTupleGo tg (.ref it) u) (fun _ s2 => ∃ x H', Inv X pins σ H' s2 ∧ RelV x u ∧ J.yld i H x H' ∧ tn (i + 1) s2.heap ∧ ∀ b ∈ fp, H' b = none) E s1) E s
  done : ∀ (X : Cx), X.prog = P → X.w = w → X.K = K → X.calm = true → ∀ (i : Nat) (pins : List (Addr × Obj)) (s : Shared) (σ : St) (H : Hp) (E : Value → Shared → Prop), Inv X pins σ H s → (∀ b ∈ fp, FpOk X pins H b) → tn i s.heap → J.stop i H →
    wpAny (model P w) X.A (pyNext (.ref it)) (fun r s1 => r = none ∧ Inv X pins σ H s1) E s
  self : ∀ (A : Around) (i : Nat) (s : Shared) (Q : Value → Shared → Prop) (E : Value → Shared → Prop), tn i s.heap → Q (.ref it) s → wpAny (model P w) A (pyIter (.ref it)) Q E s
abbrev TI := St → Hp → (It → Hp → Prop) → Prop
/-- an iterator has come -/
def PIE (X : Cx) (pins : List (Addr × Obj)) (σ : St) (tg : Expr) (R : It → Hp → Prop) (itv : Value) (s2 : Shared) : Prop :=
  ∃ (it : Addr) (fp : List Addr) (tn : Nat → Heap → Prop) (J : It) (H' : Hp), itv = .ref it ∧ Inv X pins σ H' s2 ∧ Turn X.prog X.w X.K tg J fp it tn ∧ tn 0 s2.heap ∧ (∀ b ∈ fp, FpOk X pins H' b) ∧ R J H'
def PI (X : Cx) (tg iter : Expr) (wi : TI) : Prop :=
  ∀ (pins : List (Addr × Obj)) (s : Shared) (σ : St) (H : Hp) (R : It → Hp → Prop), Inv X pins σ H s → wi σ H R →
    wpAny (model X.prog X.w) X.A (eval iter X.env) (fun v s1 => wpAny (model X.prog X.w) X.A (pyIter v) (PIE X pins σ tg R) X.xe s1) X.xe s
/-- the step ahead of the store is nothing for an iterator that keeps no tuple -/
theorem go_of {M : Model} {A : Around} {E : Value → Shared → Prop} {s : Shared} {tg : Expr} {it : Addr} {u : Value} {o : Obj} {n : String} {vs : Array Value} {Q : Unit → Shared → Prop} (ho : s.heap.get? it = some o) (hc : o.cls = .type n) (hd : o.data = .fields vs)
    (hn : ["enumerate", "zip", "dict_itemiterator", "dict_reverseitemiterator", "odict_iterator", "itertools.zip_longest", "itertools.pairwise"].contains n = false) (hQ : Q () s) : wpAny M A (letOwnedTupleGo tg (.ref it) u) Q E s := by
  unfold letOwnedTupleGo
  cases tg <;> first
    | exact wpAny_pure hQ
    | (cases u <;> first
        | exact wpAny_pure hQ
        | (refine wpAny_bind (wpAny_load ho ?_)
           rw [hc, hd]
           show wpAny M A (if (["enumerate", "zip", "dict_itemiterator", "dict_reverseitemiterator", "odict_iterator", "itertools.zip_longest", "itertools.pairwise"].contains n && vs[0]? == some (rawInt _)) = true then _ else _) Q E s
           rw [if_neg (by intro h; rw [hn, Bool.false_and] at h; cases h)]
           exact wpAny_pure hQ))
/-- lo, lo + 1, .. (n of them) -/
def Itr (lo : Int) (n : Nat) : It := ⟨fun i _ => i < n, fun i H x H' => H' = H ∧ x = .int (lo + i), fun i _ => n ≤ i⟩
theorem turn_range {P : Program} {w : World} {K : PySem.W.Frag} {tg : Expr} (it : Addr) (lo : Int) (n : Nat) : Turn P w K tg (Itr lo n) [it] it (fun i h => IsRangeIter h it (lo + (i : Nat) * 1) ((n : Int) - (i : Nat)) 1) where
  mem := by simp
  obj := fun i h st b hb => by
    have e : b = it := by simpa using hb
    subst e
    exact ⟨_, st, fun v z => by
      have z' : Data.fields _ = Data.cell v := z
      cases z'⟩
  keep := fun i h h' st k => k it (by simp) _ st
  item := by
    intro X hP hw hK hc i pins s σ H E I hf st hg
    subst hP hw hK
    obtain ⟨f0, f1, f2, f3, f4, f5⟩ := hf it (by simp)
    have W := Walks.range (prog := X.prog) (w := X.w) (I.ok.hd hc) it lo 1 n
    refine W.item i s _ _ hg st fun v h' tk hv st' kk => ?_
    obtain ⟨t, rfl⟩ := hv
    have I1 : Inv X pins σ H { s with heap := h', toks := tk } := I.turned (fun b o hb e => kk b o (by simpa using hb) e) f0 f1 f3 f4 f5
    refine ⟨_, rfl, go_of (s := { s with heap := h', toks := tk }) (n := "range_iterator") st' rfl rfl (by decide) ⟨.int (lo + i), H, I1, ⟨t, ?_⟩, ⟨rfl, rfl⟩, st', fun b hb => (hf b hb).1⟩⟩
    rw [Int.mul_one]
  done := by
    intro X hP hw hK hc i pins s σ H E I hf st hg
    subst hP hw hK
    obtain ⟨f0, f1, f2, f3, f4, f5⟩ := hf it (by simp)
    exact wpAny_pyNext_range_end (I.ok.hd hc) st (by have : n ≤ i := hg; omega) fun h' eb => ⟨rfl, I.turned (t' := s.toks) (fun b o hb e => eb b o hb e) f0 f1 f3 f4 f5⟩
  self := fun _ _ _ _ _ st h => wpAny_pyIter_rangeiter st h
end L2
namespace L2
open PySem PySem.Spec PyProof.Rows
section
variable {X : Cx} {tg : Expr}
/-- a range object just made, walked -/
theorem range_it {pins : List (Addr × Obj)} {σ : St} {H : Hp} {s : Shared} {R : It → Hp → Prop} {E : Value → Shared → Prop} {lo hi : Int} {t u v : Tok} {tk : Nat} (I : Inv X pins σ H s) (h1 : -(2 ^ 62) ≤ lo) (h2 : lo < 2 ^ 62) (h3 : -(2 ^ 62) ≤ hi) (h4 : hi < 2 ^ 62)
    (q : R (Itr lo (hi - lo).toNat) H) : wpAny (model X.prog X.w) X.A (pyIter (.ref s.heap.objs.size)) (PIE X pins σ tg R) E { s with heap := s.heap.push { cls := .type "range", data := .fields #[.int lo t, .int hi u, .int 1 v] }, toks := tk } := by
  refine wpAny_pyIter_range (IsRange.new ..) (small_one h1 h2 h3 h4) ?_
  have I1 : Inv X pins σ H { s with heap := s.heap.push { cls := .type "range", data := .fields #[.int lo t, .int hi u, .int 1 v] }, toks := tk } := I.kept fun b o e => Heap.get?_push_of_some _ e
  refine ⟨(s.heap.push { cls := .type "range", data := .fields #[.int lo t, .int hi u, .int 1 v] }).objs.size, [(s.heap.push { cls := .type "range", data := .fields #[.int lo t, .int hi u, .int 1 v] }).objs.size], _, _, H, rfl,
    I1.kept (t' := tk) fun b o e => Heap.get?_push_of_some _ e, turn_range _ lo (hi - lo).toNat, ?_, fun b hb => ?_, q⟩
  · have e1 : lo + ((0 : Nat) : Int) * 1 = lo := by simp
    have e2 : (((hi - lo).toNat : Nat) : Int) - ((0 : Nat) : Int) = Builtin.Range.rangeSize lo hi 1 := by rw [rangeSize_one]; split <;> omega
    show IsRangeIter _ _ (lo + ((0 : Nat) : Int) * 1) ((((hi - lo).toNat : Nat) : Int) - ((0 : Nat) : Int)) 1
    rw [e1, e2]
    exact Heap.get?_push_size _ rfl
  · have e : b = (s.heap.push { cls := .type "range", data := .fields #[.int lo t, .int hi u, .int 1 v] }).objs.size := by simpa using hb
    subst e
    exact I1.fpOk (Nat.le_refl _) (I1.hok.fresh (Nat.le_refl _))
inductive iRng1_I (R : (It → Hp → Prop)) (vs : List V) (H1 : Hp) : Prop
  | mk : ∀ j : Int, vs = [.int j] → -(2 ^ 62) ≤ j → j < 2 ^ 62 → R (Itr 0 j.toNat) H1 → iRng1_I R vs H1
def iRng1 (ta : TA) : TI := fun σ H R => ta σ H fun vs H1 => iRng1_I R vs H1
theorem pi_range1 {a : Expr} {ta : TA} {p pos : Pos} (hg : Gl X "range") (hm : X.mg "range" = none) (ha : PA X [a] ta) (hs : starEach [a] X.env = [(false, eval a X.env)] := by rfl) : PI X tg (.Call (.Name "range" p) [a] [] pos) (iRng1 ta) := by
  intro pins s σ H R I h
  refine Call_ (ld_blt I hg hm boot_range (PyProof.Rows.callWith_type1 (thn (ha pos pins s σ H _ I h) fun us s1 ⟨vs, H1, I1, r1, q1⟩ => ?_) hs rfl))
  obtain ⟨j, e, q1, q2, q⟩ := q1
  subst e
  cases r1 with
  | cons r rr =>
    cases rr
    obtain ⟨t, rfl⟩ := r
    exact call_range_1 (range_it I1 (by omega) (by omega) q1 q2 (by simpa using q))
/-- W: the invariant by the turn and a measure; N: what the body is to reach -/
inductive tFor_I (g : TG) (tb : TS) (D : Ends) (σ : St) (J : It) (H1 : Hp) : Prop
  | mk : ∀ W : Nat → Nat → St → Hp → Prop, (∃ m, W 0 m σ H1) → (∀ i m σ H, W i m σ H → (J.stop i H ∧ D.nx σ H) ∨ (J.go i H ∧ ∃ N : St → Hp → Prop, (∀ σ' H', N σ' H' → ∃ m', m' < m ∧ W (i + 1) m' σ' H') ∧ ∀ x H', J.yld i H x H' → g x σ H' fun σ2 H2 => tb { D with nx := N, ct := N, bk := D.nx } σ2 H2)) → tFor_I g tb D σ J H1
def tFor (wi : TI) (g : TG) (tb : TS) : TS := fun D σ H => wi σ H fun J H1 => tFor_I g tb D σ J H1
/-- the records at fp as they stand -/
def pinsAt (fp : List Addr) (h : Heap) : List (Addr × Obj) := fp.filterMap fun b => (h.get? b).map fun o => (b, o)
theorem mem_pinsAt {fp : List Addr} {h : Heap} {b : Addr} {o : Obj} (hb : b ∈ fp) (e : h.get? b = some o) : (b, o) ∈ pinsAt fp h := List.mem_filterMap.mpr ⟨b, hb, by rw [e]; rfl⟩
theorem of_pinsAt {fp : List Addr} {h : Heap} {p : Addr × Obj} (hp : p ∈ pinsAt fp h) : p.1 ∈ fp ∧ h.get? p.1 = some p.2 := by
  obtain ⟨b, hb, e⟩ := List.mem_filterMap.mp hp
  cases q : h.get? b with
  | none => rw [q] at e; cases e
  | some o =>
    rw [q] at e
    have e' : (b, o) = p := Option.some.inj e
    subst e'
    exact ⟨hb, q⟩
theorem Inv.pinned {pins : List (Addr × Obj)} {σ : St} {H : Hp} {s : Shared} {fp : List Addr} (I : Inv X pins σ H s) (hf : ∀ b ∈ fp, FpOk X pins H b) (ho : ∀ b ∈ fp, ∃ o, s.heap.get? b = some o ∧ ∀ v, o.data ≠ .cell v) : Inv X (pins ++ pinsAt fp s.heap) σ H s :=
  I.pins_of fun p hp => (List.mem_append.mp hp).elim (fun z => I.pin p (List.mem_append_right _ z)) fun z => by
    obtain ⟨hb, e⟩ := of_pinsAt z
    obtain ⟨f0, f1, f2, _⟩ := hf p.1 hb
    obtain ⟨o, e', d⟩ := ho p.1 hb
    rw [e] at e'; cases e'
    exact ⟨e, f0, f1, f2, d⟩
theorem Inv.unpinned {pins pl : List (Addr × Obj)} {σ : St} {H : Hp} {s : Shared} (I : Inv X (pins ++ pl) σ H s) : Inv X pins σ H s := I.pins_of fun p hp => I.pin p (List.mem_append_right _ (List.mem_append_left _ hp))
theorem ps_for {iter : Expr} {body : List Stmt} {wi : TI} {g : TG} {tb : TS} {pos : Pos} (hp : PassesOwn (model X.prog X.w) X.A X.env X.xe) (hc : X.calm = true) (hi : PI X tg iter wi) (hg : PG X tg g) (hb : PSs X body tb)
    (hs : ∀ x, foldedSetIterable iter X.env x = pure x := by intro _; rfl) : PS X (.For tg iter body [] pos) (tFor wi g tb) := by
  intro pins s σ H D I h
  refine wpAny_For (thn (hi pins s σ H _ I h) fun v s1 h1 => thn h1 fun itv s2 h2 => ?_) hs
  obtain ⟨it, fp, tn, J, H2, e, I2, T, st2, f2, W, ⟨m0, w0⟩, turn⟩ := h2
  subst e
  -- what stays true of the iterator's objects through the loop
  have stat : ∀ {H' : Hp}, (∀ b ∈ fp, H' b = none) → ∀ b ∈ fp, FpOk X pins H' b := fun hn b hb => ⟨hn b hb, (f2 b hb).2⟩
  refine codeAny_forLoop_any (fun n s' => ∃ i σ' H', Inv X pins σ' H' s' ∧ tn i s'.heap ∧ (∀ b ∈ fp, H' b = none) ∧ W i n σ' H') ?_ m0 ⟨0, σ, H2, I2, st2, fun b hb => (f2 b hb).1, w0⟩
  rintro n s3 ⟨i, σ3, H3, I3, st3, fr3, w3⟩
  rcases turn i n σ3 H3 w3 with ⟨stop, qn⟩ | ⟨go, N, hN, step⟩
  · refine wpAny_passesOwn hp (thn (T.done X rfl rfl rfl hc i pins s3 σ3 H3 X.xe I3 (stat fr3) st3 stop) fun r s4 ⟨hr, I4⟩ => ?_)
    subst hr
    exact wpAny_execs_nil ⟨σ3, H3, I4, qn⟩
  · refine wpAny_passesOwn hp (thn (T.item X rfl rfl rfl hc i pins s3 σ3 H3 X.xe I3 (stat fr3) st3 go) fun r s4 ⟨u, hr, h4⟩ => ?_)
    subst hr
    refine wpAny_passesOwn hp (thn h4 fun _ s5 ⟨x, H5, I5, r5, y5, st5, fr5⟩ => ?_)
    have I5' := I5.pinned (stat fr5) (T.obj _ _ st5)
    refine wpAny_passesOwn hp (thn (hg _ s5 σ3 H5 x u _ I5' r5 (step x H5 y5)) fun _ s6 ⟨σ6, H6, I6, q6⟩ => ?_)
    refine wpAny_passesOwn hp (thn (hb _ s6 σ6 H6 _ I6 q6) fun f s7 q7 => ?_)
    have again : ∀ {σ7 : St} {H7 : Hp}, Inv X (pins ++ pinsAt fp s5.heap) σ7 H7 s7 → N σ7 H7 → ∃ m, m < n ∧ ∃ i σ' H', Inv X pins σ' H' s7 ∧ tn i s7.heap ∧ (∀ b ∈ fp, H' b = none) ∧ W i m σ' H' := fun {σ7 H7} I7 n7 => by
      obtain ⟨m', hm, w7⟩ := hN σ7 H7 n7
      refine ⟨m', hm, i + 1, σ7, H7, I7.unpinned, T.keep _ _ _ st5 fun b hb o e => (I7.pin (b, o) (List.mem_append_right _ (List.mem_append_right _ (mem_pinsAt hb e)))).1, fun b hb => ?_, w7⟩
      obtain ⟨o, e, d⟩ := T.obj _ _ st5 b hb
      exact (I7.pin (b, o) (List.mem_append_right _ (List.mem_append_right _ (mem_pinsAt hb e)))).2.1
    cases f with
    | next => obtain ⟨σ7, H7, I7, n7⟩ := q7; exact again I7 n7
    | cont => obtain ⟨σ7, H7, I7, n7⟩ := q7; exact again I7 n7
    | brk => obtain ⟨σ7, H7, I7, q7⟩ := q7; exact ⟨σ7, H7, I7.unpinned, q7⟩
    | ret v => obtain ⟨x7, σ7, H7, I7, r7, q7⟩ := q7; exact ⟨x7, σ7, H7, I7.unpinned, r7, q7⟩
end
theorem for_range {lo : Int} {n : Nat} {g : TG} {tb : TS} {D : Ends} {σ : St} {H : Hp} (Pv : Nat → St → Hp → Prop) (h0 : Pv 0 σ H)
    (hs : ∀ i σ H, i < n → Pv i σ H → g (.int (lo + i)) σ H fun σ2 H2 => tb { D with nx := Pv (i + 1), ct := Pv (i + 1), bk := D.nx } σ2 H2) (hd : ∀ σ H, Pv n σ H → D.nx σ H) :
    tFor_I g tb D σ (Itr lo n) H := by
  refine ⟨fun i m σ H => m = n - i ∧ i ≤ n ∧ Pv i σ H, ⟨n, by simp, Nat.zero_le _, h0⟩, ?_⟩
  rintro i m σ H ⟨rfl, hi, p⟩
  by_cases hlt : i < n
  · refine .inr ⟨hlt, Pv (i + 1), fun σ' H' p' => ⟨n - (i + 1), by omega, rfl, hlt, p'⟩, fun x H' y => ?_⟩
    obtain ⟨e, y⟩ := y
    subst e y
    exact hs i σ _ hlt p
  · have e : i = n := by omega
    subst e
    exact .inl ⟨Nat.le_refl _, hd σ H p⟩
end L2
namespace L2
open PySem PySem.Spec PyProof.Rows
abbrev R2 := V → V → Hp → VK → Prop
/-- a two-place operation on values: f is binaryOp op, inplaceOp op or compareOp op -/
def OpR (X : Cx) (f : Value → Value → Sem Value) (r : R2) : Prop :=
  ∀ (pins : List (Addr × Obj)) (s : Shared) (σ : St) (H : Hp) (x y : V) (v u : Value) (Q : VK), Inv X pins σ H s → RelV x v → RelV y u → r x y H Q →
    wpAny (model X.prog X.w) X.A (f v u) (EP X pins σ Q) X.xe s
/-- a one-place operation -/
def UnR (X : Cx) (f : Value → Sem Value) (r : V → Hp → VK → Prop) : Prop :=
  ∀ (pins : List (Addr × Obj)) (s : Shared) (σ : St) (H : Hp) (x : V) (v : Value) (Q : VK), Inv X pins σ H s → RelV x v → r x H Q →
    wpAny (model X.prog X.w) X.A (f v) (EP X pins σ Q) X.xe s
/-- a call of a value that is known (a builtin, a type) with values -/
def CallR (X : Cx) (f : Value) (r : List V → Hp → VK → Prop) : Prop :=
  ∀ (pins : List (Addr × Obj)) (s : Shared) (σ : St) (H : Hp) (xs : List V) (us : List Value) (Q : VK), Inv X pins σ H s → Vals xs us → r xs H Q →
    wpAny (model X.prog X.w) X.A (call f us) (EP X pins σ Q) X.xe s
def tOp (r : R2) (ta tb : TE) : TE := fun σ H Q => ta σ H fun x H1 => tb σ H1 fun y H2 => r x y H2 Q
def tUn (r : V → Hp → VK → Prop) (ta : TE) : TE := fun σ H Q => ta σ H fun x H1 => r x H1 Q
/-- ints in, under C, and a value out -/
inductive rI_I (C : Int → Int → Prop) (g : Int → Int → V) (x : V) (y : V) (H : Hp) (Q : VK) : Prop
  | mk : ∀ i j, x = .int i → y = .int j → C i j → Q (g i j) H → rI_I C g x y H Q
def rI (C : Int → Int → Prop) (g : Int → Int → V) : R2 := fun x y H Q => rI_I C g x y H Q
inductive rI0_I (g : Int → Int → V) (x : V) (y : V) (H : Hp) (Q : VK) : Prop
  | mk : ∀ i j, x = .int i → y = .int j → Q (g i j) H → rI0_I g x y H Q
def rI0 (g : Int → Int → V) : R2 := fun x y H Q => rI0_I g x y H Q
inductive rU_I (g : Int → V) (x : V) (H : Hp) (Q : VK) : Prop
  | mk : ∀ i, x = .int i → Q (g i) H → rU_I g x H Q
def rU (g : Int → V) : V → Hp → VK → Prop := fun x H Q => rU_I g x H Q
section
variable {X : Cx} {a b c : Expr} {ta tb tc : TE} {pos : Pos}
theorem binT (ha : PE X a ta) (hb : PE X b tb) {pins : List (Addr × Obj)} {s : Shared} {σ : St} {H : Hp} {R : V → V → Hp → Prop} (I : Inv X pins σ H s)
    (h : ta σ H fun x H1 => tb σ H1 fun y H2 => R x y H2) {Q : Value → Shared → Prop} {f : Value → Value → Sem Value}
    (hf : ∀ v u s2 x y H2, Inv X pins σ H2 s2 → RelV x v → RelV y u → R x y H2 → wpAny (model X.prog X.w) X.A (f v u) Q X.xe s2) :
    wpAny (model X.prog X.w) X.A (eval a X.env) (fun v s₁ => wpAny (model X.prog X.w) X.A (eval b X.env) (fun u s₂ => wpAny (model X.prog X.w) X.A (f v u) Q X.xe s₂) X.xe s₁) X.xe s := by
  refine thn (ha pins s σ H _ I h) fun v s1 ⟨x, H1, I1, r1, q1⟩ => ?_
  refine thn (hb pins s1 σ H1 _ I1 q1) fun u s2 ⟨y, H2, I2, r2, q2⟩ => ?_
  exact hf v u s2 x y H2 I2 r1 r2 q2
theorem pe_op {op : Operator} {r : R2} (ho : OpR X (binaryOp op) r) (ha : PE X a ta) (hb : PE X b tb) : PE X (.BinOp a op b pos) (tOp r ta tb) := by
  intro pins s σ H Q I h
  exact wpAny_BinOp (binT ha hb I h fun v u s2 x y H2 I2 rx ry q => ho pins s2 σ H2 x y v u Q I2 rx ry q)
theorem pe_un {op : UnaryOp} {r : V → Hp → VK → Prop} (ho : UnR X (unaryOp op) r) (ha : PE X a ta) : PE X (.UnaryOp op a pos) (tUn r ta) := by
  intro pins s σ H Q I h
  exact UnaryOp_ (thn (ha pins s σ H _ I h) fun v s1 ⟨x, H1, I1, r1, q1⟩ => ho pins s1 σ H1 x v Q I1 r1 q1)
theorem opI {f : Value → Value → Sem Value} {C : Int → Int → Prop} {g : Int → Int → Int}
    (rule : ∀ (i j : Int) (t u : Tok) (s : Shared) (Q : Value → Shared → Prop) (E : Value → Shared → Prop), C i j → Q (.int (g i j) s.toks) { s with toks := s.toks + 1 } → wpAny (model X.prog X.w) X.A (f (.int i t) (.int j u)) Q E s) :
    OpR X f (rI C fun i j => .int (g i j)) := by
  intro pins s σ H x y v u Q I rx ry h
  obtain ⟨i, j, rfl, rfl, hc, q⟩ := h
  obtain ⟨t, rfl⟩ := rx
  obtain ⟨t', rfl⟩ := ry
  exact rule i j t t' s _ _ hc ⟨.int (g i j), H, I.tok _, ⟨_, rfl⟩, q⟩
theorem opI0 {f : Value → Value → Sem Value} {g : Int → Int → Int}
    (rule : ∀ (i j : Int) (t u : Tok) (s : Shared) (Q : Value → Shared → Prop) (E : Value → Shared → Prop), Q (.int (g i j) s.toks) { s with toks := s.toks + 1 } → wpAny (model X.prog X.w) X.A (f (.int i t) (.int j u)) Q E s) :
    OpR X f (rI0 fun i j => .int (g i j)) := by
  intro pins s σ H x y v u Q I rx ry h
  obtain ⟨i, j, rfl, rfl, q⟩ := h
  obtain ⟨t, rfl⟩ := rx
  obtain ⟨t', rfl⟩ := ry
  exact rule i j t t' s _ _ ⟨.int (g i j), H, I.tok _, ⟨_, rfl⟩, q⟩
theorem opB0 {f : Value → Value → Sem Value} {g : Int → Int → Bool}
    (rule : ∀ (i j : Int) (t u : Tok) (s : Shared) (Q : Value → Shared → Prop) (E : Value → Shared → Prop), Q (.bool (g i j)) s → wpAny (model X.prog X.w) X.A (f (.int i t) (.int j u)) Q E s) :
    OpR X f (rI0 fun i j => .bl (g i j)) := by
  intro pins s σ H x y v u Q I rx ry h
  obtain ⟨i, j, rfl, rfl, q⟩ := h
  obtain ⟨t, rfl⟩ := rx
  obtain ⟨t', rfl⟩ := ry
  exact rule i j t t' s _ _ ⟨.bl (g i j), H, I, rfl, q⟩
def CDiv (i j : Int) : Prop := 0 < j ∧ j < 1073741824
def CMul (i j : Int) : Prop := (-(2 ^ 64) < i ∧ i < 2 ^ 64) ∨ (-(2 ^ 64) < j ∧ j < 2 ^ 64)
theorem CMul.ok {i j : Int} (h : CMul i j) : IntMulOk i j := by
  rcases h with ⟨h1, h2⟩ | ⟨h1, h2⟩
  · exact .of_left (intBits_le_64 h1 h2)
  · exact .of_right (intBits_le_64 h1 h2)
theorem op_add : OpR X (binaryOp .Add) (rI0 fun i j => .int (i + j)) := opI0 fun _ _ _ _ _ _ _ q => add_int q
theorem op_mul : OpR X (binaryOp .Mult) (rI CMul fun i j => .int (i * j)) := opI fun _ _ _ _ _ _ _ hc q => mul_int q hc.ok
/-- // by a positive divisor -/
theorem op_fdiv : OpR X (binaryOp .FloorDiv) (rI CDiv fun i j => .int (i / j)) := opI fun i j _ _ _ _ _ hc q => by
  have h1 : (0 : Int) < j := hc.1
  have h2 : j < 1073741824 := hc.2
  exact floordiv_int (by omega) (by rw [Int.fdiv_eq_ediv_of_nonneg i (by omega)]; exact q) (.inl (PyProof.noPylong_small (by omega)))
/-- % by a positive divisor of any size -/
theorem op_mod : OpR X (binaryOp .Mod) (rI (fun _ j => 0 < j) fun i j => .int (i % j)) := opI fun i j _ _ _ _ _ hc q => by
  have h1 : (0 : Int) < j := hc
  exact mod_int' (by omega) (by rw [Int.fmod_eq_emod_of_nonneg i (by omega)]; exact q)
theorem unI {f : Value → Sem Value} {g : Int → Int}
    (rule : ∀ (i : Int) (t : Tok) (s : Shared) (Q : Value → Shared → Prop) (E : Value → Shared → Prop), Q (.int (g i) s.toks) { s with toks := s.toks + 1 } → wpAny (model X.prog X.w) X.A (f (.int i t)) Q E s) :
    UnR X f (rU fun i => .int (g i)) := by
  intro pins s σ H x v Q I rx h
  obtain ⟨i, rfl, q⟩ := h
  obtain ⟨t, rfl⟩ := rx
  exact rule i t s _ _ ⟨.int (g i), H, I.tok _, ⟨_, rfl⟩, q⟩
theorem un_neg : UnR X (unaryOp .USub) (rU fun i => .int (-i)) := unI fun _ _ _ _ _ q => neg_int q
end
/-- the scalars that == tells apart as data does -/
def scal : V → V → Bool
  | .non, .non => true | .non, .int _ => true | .int _, .non => true | .non, .bl _ => true | .bl _, .non => true | .non, .str _ => true | .str _, .non => true
  | .int _, .int _ => true | .bl _, .bl _ => true | .str _, .str _ => true | .byt _, .byt _ => true
  | .int _, .str _ => true | .str _, .int _ => true | .bl _, .str _ => true | .str _, .bl _ => true
  | _, _ => false
def rEq : R2 := fun x y H Q => scal x y = true ∧ Q (.bl (decide (x = y))) H
def rNe : R2 := fun x y H Q => scal x y = true ∧ Q (.bl (!decide (x = y))) H
theorem dec_int {i j : Int} : decide (V.int i = V.int j) = (i == j) := by
  rw [Bool.eq_iff_iff]
  simp
theorem dec_bl {i j : Bool} : decide (V.bl i = V.bl j) = (i == j) := by
  rw [Bool.eq_iff_iff]
  simp
theorem dec_str {i j : Str} : decide (V.str i = V.str j) = (i == j) := by
  rw [Bool.eq_iff_iff]
  simp
theorem dec_byt {i j : Array UInt8} : decide (V.byt i = V.byt j) = (i.toList == j.toList) := by
  rw [Bool.eq_iff_iff]
  cases i
  cases j
  simp
section
variable {X : Cx} {a b c : Expr} {ta tb tc : TE} {pos : Pos}
theorem fin_bl {pins : List (Addr × Obj)} {σ : St} {H : Hp} {s : Shared} {Q : VK} {k k' : Bool} (I : Inv X pins σ H s) (q : Q (.bl k) H) (e : k = k') : EP X pins σ Q (.bool k') s := by
  subst e
  exact ⟨.bl k, H, I, rfl, q⟩
theorem op_eq : OpR X (compareOp .Eq) rEq := by
  intro pins s σ H x y v u Q I rx ry h
  obtain ⟨hs, q⟩ := h
  cases x with
  | non =>
    cases rx
    cases y with
    | non => cases ry; exact PySem.EqNone.eq_none_none (fin_bl I q (by simp))
    | bl j => cases ry; exact PySem.EqNone.eq_none_bool (fin_bl I q (by simp))
    | int j => obtain ⟨t', rfl⟩ := ry; exact PySem.EqNone.eq_none_int (fin_bl I q (by simp))
    | str j => obtain ⟨t', rfl⟩ := ry; exact PySem.EqNone.eq_none_str (fin_bl I q (by simp))
    | _ => exact absurd (show false = true from hs) Bool.false_ne_true
  | bl i =>
    cases rx
    cases y with
    | non => cases ry; exact PySem.EqNone.eq_bool_none (fin_bl I q (by simp))
    | bl j => cases ry; exact eq_bool (fin_bl I q dec_bl)
    | str j => obtain ⟨t', rfl⟩ := ry; exact PySem.EqMixed.eq_bool_str (fin_bl I q (by simp))
    | _ => exact absurd (show false = true from hs) Bool.false_ne_true
  | int i =>
    obtain ⟨t, rfl⟩ := rx
    cases y with
    | non => cases ry; exact PySem.EqNone.eq_int_none (fin_bl I q (by simp))
    | int j => obtain ⟨t', rfl⟩ := ry; exact eq_int (fin_bl I q dec_int)
    | str j => obtain ⟨t', rfl⟩ := ry; exact PySem.EqMixed.eq_int_str (fin_bl I q (by simp))
    | _ => exact absurd (show false = true from hs) Bool.false_ne_true
  | str i =>
    obtain ⟨t, rfl⟩ := rx
    cases y with
    | non => cases ry; exact PySem.EqNone.eq_str_none (fin_bl I q (by simp))
    | bl j => cases ry; exact PySem.EqMixed.eq_str_bool (fin_bl I q (by simp))
    | int j => obtain ⟨t', rfl⟩ := ry; exact PySem.EqMixed.eq_str_int (fin_bl I q (by simp))
    | str j => obtain ⟨t', rfl⟩ := ry; exact eq_str (fin_bl I q dec_str)
    | _ => exact absurd (show false = true from hs) Bool.false_ne_true
  | byt i =>
    obtain ⟨t, rfl⟩ := rx
    cases y with
    | byt j => obtain ⟨t', rfl⟩ := ry; exact PySem.W.eq_bytes (fin_bl I q dec_byt)
    | _ => exact absurd (show false = true from hs) Bool.false_ne_true
  | _ => cases y <;> exact absurd (show false = true from hs) Bool.false_ne_true
theorem op_ne : OpR X (compareOp .NotEq) rNe := by
  intro pins s σ H x y v u Q I rx ry h
  obtain ⟨hs, q⟩ := h
  cases x with
  | non =>
    cases rx
    cases y with
    | non => cases ry; exact PySem.EqNone.ne_none_none (fin_bl I q (by simp))
    | bl j => cases ry; exact PySem.EqNone.ne_none_bool (fin_bl I q (by simp))
    | int j => obtain ⟨t', rfl⟩ := ry; exact PySem.EqNone.ne_none_int (fin_bl I q (by simp))
    | str j => obtain ⟨t', rfl⟩ := ry; exact PySem.EqNone.ne_none_str (fin_bl I q (by simp))
    | _ => exact absurd (show false = true from hs) Bool.false_ne_true
  | bl i =>
    cases rx
    cases y with
    | non => cases ry; exact PySem.EqNone.ne_bool_none (fin_bl I q (by simp))
    | bl j => cases ry; exact ne_bool (fin_bl I q (congrArg not dec_bl))
    | str j => obtain ⟨t', rfl⟩ := ry; exact PySem.EqMixed.ne_bool_str (fin_bl I q (by simp))
    | _ => exact absurd (show false = true from hs) Bool.false_ne_true
  | int i =>
    obtain ⟨t, rfl⟩ := rx
    cases y with
    | non => cases ry; exact PySem.EqNone.ne_int_none (fin_bl I q (by simp))
    | int j => obtain ⟨t', rfl⟩ := ry; exact ne_int (fin_bl I q (congrArg not dec_int))
    | str j => obtain ⟨t', rfl⟩ := ry; exact PySem.EqMixed.ne_int_str (fin_bl I q (by simp))
    | _ => exact absurd (show false = true from hs) Bool.false_ne_true
  | str i =>
    obtain ⟨t, rfl⟩ := rx
    cases y with
    | non => cases ry; exact PySem.EqNone.ne_str_none (fin_bl I q (by simp))
    | bl j => cases ry; exact PySem.EqMixed.ne_str_bool (fin_bl I q (by simp))
    | int j => obtain ⟨t', rfl⟩ := ry; exact PySem.EqMixed.ne_str_int (fin_bl I q (by simp))
    | str j => obtain ⟨t', rfl⟩ := ry; exact ne_str (fin_bl I q (congrArg not dec_str))
    | _ => exact absurd (show false = true from hs) Bool.false_ne_true
  | byt i =>
    obtain ⟨t, rfl⟩ := rx
    cases y with
    | byt j => obtain ⟨t', rfl⟩ := ry; exact PySem.W.ne_bytes (fin_bl I q (congrArg not dec_byt))
    | _ => exact absurd (show false = true from hs) Bool.false_ne_true
  | _ => cases y <;> exact absurd (show false = true from hs) Bool.false_ne_true
theorem op_lt : OpR X (compareOp .Lt) (rI0 fun i j => .bl (decide (i < j))) := opB0 fun _ _ _ _ _ _ _ q => lt_int q
theorem op_le : OpR X (compareOp .LtE) (rI0 fun i j => .bl (decide (i ≤ j))) := opB0 fun _ _ _ _ _ _ _ q => le_int q
theorem op_gt : OpR X (compareOp .Gt) (rI0 fun i j => .bl (decide (j < i))) := opB0 fun _ _ _ _ _ _ _ q => gt_int q
/-- the one string within the other -/
theorem op_in_str : OpR X (compareOp .In) (fun x y H Q => ∃ i j, x = .str i ∧ y = .str j ∧ Q (.bl (!(Builtin.Str.occurrences j i 0 j.length 1).isEmpty)) H) := by
  intro pins s σ H x y v u Q I rx ry h
  obtain ⟨i, j, rfl, rfl, q⟩ := h
  obtain ⟨t, rfl⟩ := rx
  obtain ⟨t', rfl⟩ := ry
  exact in_str (fin_bl I q rfl)
/-- is None, is not None: the right side a value none -/
theorem op_isN : OpR X (compareOp .Is) (fun x y H Q => y = .non ∧ Q (.bl (decide (x = .non))) H) := by
  intro pins s σ H x y v u Q I rx ry h
  obtain ⟨rfl, q⟩ := h
  cases ry
  refine is_none_gen (fin_bl I q ?_)
  cases x <;> first
    | (cases rx; rfl)
    | (obtain ⟨t, rfl⟩ := rx; rfl)
theorem op_notin_str : OpR X (compareOp .NotIn) (fun x y H Q => ∃ i j, x = .str i ∧ y = .str j ∧ Q (.bl (!(!(Builtin.Str.occurrences j i 0 j.length 1).isEmpty))) H) := by
  intro pins s σ H x y v u Q I rx ry h
  obtain ⟨i, j, rfl, rfl, q⟩ := h
  obtain ⟨t, rfl⟩ := rx
  obtain ⟨t', rfl⟩ := ry
  exact notIn_str (fin_bl I q rfl)
theorem nomark (b : Expr) {op : CmpOp} (h : op ≠ .In := by decide) (h2 : op ≠ .NotIn := by decide) : behindInMarks op b = false := by
  have e1 : (op == CmpOp.In) = false := by cases op <;> first | rfl | exact absurd rfl h
  have e2 : (op == CmpOp.NotIn) = false := by cases op <;> first | rfl | exact absurd rfl h2
  cases b <;> simp [behindInMarks, e1, e2]
/-- a comparison as a value; hm: nomark b, or (for in, not in) by with_unfolding_all rfl -/
theorem pe_cmpR {op : CmpOp} {r : R2} (ho : OpR X (compareOp op) r) (ha : PE X a ta) (hb : PE X b tb) (hm : behindInMarks op b = false) : PE X (.Compare a [op] [b] pos) (tOp r ta tb) := by
  intro pins s σ H Q I h
  exact wpAny_Compare1 (binT ha hb I h fun v u s2 x y H2 I2 rx ry q => ho pins s2 σ H2 x y v u Q I2 rx ry q) hm
/-- a reading of a value as a test -/
inductive tTest_I (Q : (Bool → Hp → Prop)) (x : V) (H' : Hp) : Prop
  | mk : ∀ k, x = .bl k → Q k H' → tTest_I Q x H'
def tTest (t : TE) : TT := fun σ H Q => t σ H fun x H' => tTest_I Q x H'
theorem pt_cmpR {op : CmpOp} {r : R2} (ho : OpR X (compareOp op) r) (ha : PE X a ta) (hb : PE X b tb) (hm : behindInMarks op b = false) : PT X (.Compare a [op] [b] pos) (tTest (tOp r ta tb)) := by
  intro pins s σ H Q I h
  refine wpAny_isTrue_Compare1 (thn (ha pins s σ H _ I h) fun v s1 ⟨x, H1, I1, r1, q1⟩ => thn (hb pins s1 σ H1 _ I1 q1) fun u s2 ⟨y, H2, I2, r2, q2⟩ =>
    thn (ho pins s2 σ H2 x y v u _ I2 r1 r2 q2) fun c s3 ⟨z, H3, I3, r3, k, e, q3⟩ => ?_) hm
  subst e
  cases r3
  exact wpAny_truthy_bool ⟨H3, I3, q3⟩
/-- a op1 b op2 c -/
def tChain (r r' : R2) (ta tb tc : TE) : TE := fun σ H Q => ta σ H fun x H1 => tb σ H1 fun y H2 => r x y H2 fun z H3 => ∃ k, z = .bl k ∧
  (if k = true then tc σ H3 fun w' H4 => r' y w' H4 Q else Q (.bl false) H3)
theorem pe_chain {op op' : CmpOp} {r r' : R2} (ho : OpR X (compareOp op) r) (ho' : OpR X (compareOp op') r') (ha : PE X a ta) (hb : PE X b tb) (hc : PE X c tc)
    (hm : lastMarks [op, op'] [b, c] = false := by with_unfolding_all rfl) : PE X (.Compare a [op, op'] [b, c] pos) (tChain r r' ta tb tc) := by
  intro pins s σ H Q I h
  refine Compare_chain (thn (ha pins s σ H _ I h) fun v s1 ⟨x, H1, I1, r1, q1⟩ => chain_link (thn (hb pins s1 σ H1 _ I1 q1) fun u s2 ⟨y, H2, I2, r2, q2⟩ =>
    thn (ho pins s2 σ H2 x y v u _ I2 r1 r2 q2) fun d s3 ⟨z, H3, I3, r3, k, e, q3⟩ => ?_)) hm
  subst e
  cases r3
  refine wpAny_truthy_bool ?_
  cases k with
  | false => exact ite_ff ⟨.bl false, H3, I3, rfl, q3⟩
  | true => exact ite_tt (chain_last (thn (hc pins s3 σ H3 _ I3 q3) fun w' s4 ⟨z', H4, I4, r4, q4⟩ => ho' pins s4 σ H4 y z' u w' Q I4 r2 r4 q4))
theorem pt_chain {op op' : CmpOp} {r r' : R2} (ho : OpR X (compareOp op) r) (ho' : OpR X (compareOp op') r') (ha : PE X a ta) (hb : PE X b tb) (hc : PE X c tc)
    (hm : lastMarks [op, op'] [b, c] = false := by with_unfolding_all rfl) : PT X (.Compare a [op, op'] [b, c] pos) (tTest (tChain r r' ta tb tc)) := by
  intro pins s σ H Q I h
  refine isTrue_chain (thn (ha pins s σ H _ I h) fun v s1 ⟨x, H1, I1, r1, q1⟩ => test_link (thn (hb pins s1 σ H1 _ I1 q1) fun u s2 ⟨y, H2, I2, r2, q2⟩ =>
    thn (ho pins s2 σ H2 x y v u _ I2 r1 r2 q2) fun d s3 ⟨z, H3, I3, r3, k, e, q3⟩ => ?_)) hm
  subst e
  cases r3
  refine wpAny_truthy_bool ?_
  cases k with
  | false =>
    obtain ⟨k', e', q'⟩ := q3
    cases e'
    exact ite_ff ⟨H3, I3, q'⟩
  | true =>
    refine ite_tt (test_last (thn (hc pins s3 σ H3 _ I3 q3) fun w' s4 ⟨z', H4, I4, r4, q4⟩ => thn (ho' pins s4 σ H4 y z' u w' _ I4 r2 r4 q4) fun d' s5 ⟨z2, H5, I5, r5, k2, e2, q5⟩ => ?_))
    subst e2
    cases r5
    exact wpAny_truthy_bool ⟨H5, I5, q5⟩
theorem line63 : (sizeLine : Nat) < 2 ^ 63 := by rw [sizeLine_eq]; decide
theorem op_add_str : OpR X (binaryOp .Add) (fun x y H Q => ∃ i j, x = .str i ∧ y = .str j ∧ i.length + j.length ≤ sizeLine ∧ Q (.str (i ++ j)) H) := by
  intro pins s σ H x y v u Q I rx ry h
  obtain ⟨i, j, rfl, rfl, hz, q⟩ := h
  obtain ⟨t, rfl⟩ := rx
  obtain ⟨t', rfl⟩ := ry
  exact add_str (fun t' tk => ⟨.str (i ++ j), H, I.tok _, ⟨_, rfl⟩, q⟩) hz
theorem iop_add_str : OpR X (inplaceOp .Add) (fun x y H Q => ∃ i j, x = .str i ∧ y = .str j ∧ i.length + j.length ≤ sizeLine ∧ Q (.str (i ++ j)) H) := by
  intro pins s σ H x y v u Q I rx ry h
  obtain ⟨i, j, rfl, rfl, hz, q⟩ := h
  obtain ⟨t, rfl⟩ := rx
  obtain ⟨t', rfl⟩ := ry
  exact iadd_str (fun t' tk => ⟨.str (i ++ j), H, I.tok _, ⟨_, rfl⟩, q⟩) hz
theorem vals1 {x : V} {us : List Value} (r : Vals [x] us) : ∃ u, us = [u] ∧ RelV x u := by
  cases r with
  | cons r1 r2 => cases r2; exact ⟨_, rfl, r1⟩
theorem vals2 {x y : V} {us : List Value} (r : Vals [x, y] us) : ∃ u w', us = [u, w'] ∧ RelV x u ∧ RelV y w' := by
  cases r with
  | cons r1 r2 =>
    cases r2 with
    | cons r3 r4 => cases r4; exact ⟨_, _, rfl, r1, r3⟩
theorem call_str_int : CallR X (.type "str") (fun xs H Q => ∃ i, xs = [.int i] ∧ i.natAbs.log2 < 1920 ∧ Q (.str (toString i)) H) := by
  intro pins s σ H xs us Q I r h
  obtain ⟨i, rfl, hz, q⟩ := h
  obtain ⟨u, rfl, t, rfl⟩ := vals1 r
  exact PySem.P.str_of_int hz ⟨.str _, H, I.tok _, ⟨_, rfl⟩, q⟩
end
end L2
namespace L2
open PySem PySem.Spec PyProof.Rows
structure ObjM (h : Heap) (x dx C : Addr) (mA : Str → Option Value) : Prop where
  obj : h.get? x = some (PySem.W.instObj C dx)
  ns : h.Ns1 dx mA
  ne : dx ≠ x
theorem lookIn_ns {h : Heap} {dx : Addr} {mA : Str → Option Value} (n : h.Ns1 dx mA) : ∃ od, h.get? dx = some od ∧ ∀ name, PySem.W.lookIn name od = some (mA name) := by
  obtain ⟨o, es, ep, ho, hd, hk, _, hm⟩ := n
  refine ⟨o, ho, fun name => ?_⟩
  have e := hm name
  unfold nsFind findBy at e
  rw [← Array.find?_toList] at e
  unfold PySem.W.lookIn
  rw [hd]
  dsimp only
  split
  · rename_i y q
    rw [q] at e
    exact congrArg some e
  · rename_i q
    rw [q] at e
    have a : es.toList.any (·.refKey) = false := by
      rw [List.any_eq_false]
      intro y hy
      obtain ⟨z, t, hkey⟩ := hk y (Array.mem_toList_iff.mp hy)
      simp [DictEntry.refKey, hkey]
    have a' : ¬ es.toList.any (·.refKey) = true := by rw [a]; exact Bool.false_ne_true
    rw [if_neg a']
    exact congrArg some e
theorem ObjM.look {h : Heap} {x dx C : Addr} {mA : Str → Option Value} (I : ObjM h x dx C mA) : ∃ od, PySem.W.InstAt h x (PySem.W.instObj C dx) C (some od) ∧ ∀ name, PySem.W.lookIn name od = some (mA name) :=
  let ⟨od, ho, hl⟩ := lookIn_ns I.ns
  ⟨od, ⟨I.obj, rfl, rfl, ho⟩, hl⟩
section
variable {prog : Program} {w : World} {A : Around} {E : Value → Shared → Prop} {s : Shared} {K : PySem.W.Frag} {x dx C f : Addr} {mA : Str → Option Value} {name : Str} {v : Value}
theorem get_map {expr : Bool} {Q : Value → Shared → Prop} (X : K.In s.heap) (I : ObjM s.heap x dx C mA) (hg : PySem.W.plainGet K C name = true) (hh : PySem.W.hasDictIn K C = true)
    (ha : PySem.W.findIn K (.ref C) name = some none) (hv : mA name = some v) (hv' : PySem.W.handedIn v = true) (h : Q v { s with toks := s.toks + 1 }) :
    wpAny (model prog w) A (getAttr (.ref x) name expr) Q E s := by
  obtain ⟨od, J, hl⟩ := I.look
  exact PySem.W.get_value X J (PySem.W.plainGet_of hg).1 (PySem.W.findObj_own hh ha rfl (by rw [hl, hv])) hv' h
theorem get_meth {pl : Sem Bool} {Q : Value × List Value → Shared → Prop} (X : K.In s.heap) (I : ObjM s.heap x dx C mA) (hg : PySem.W.plainGet K C name = true)
    (hf : PySem.W.findIn K (.ref C) name = some (some (.ref f))) (ht : PySem.W.isFn K (.ref f) = true) (hv : mA name = none) (h : Q (.ref f, [.ref x]) s) :
    wpAny (model prog w) A (getMethod (.ref x) name pl) Q E s := by
  obtain ⟨od, J, hl⟩ := I.look
  exact PySem.W.method_fn X J (PySem.W.plainGet_of hg).1 (PySem.W.plainGet_of hg).2 hf (beq_iff_eq.mp ht) (by show (PySem.W.lookIn name od).map (·.isSome) = some false; rw [hl, hv]; rfl) h
theorem set_map {ns : List Str} {Q : Unit → Shared → Prop} (X : K.In s.heap) (I : ObjM s.heap x dx C mA)
    (hs : PySem.W.findIn K (.ref C) "__setattr__" = some (some (.builtin "object.__setattr__"))) (hp : PySem.W.plainOver K C = true) (ht : PySem.W.takerIn K C name = some none) (hh : PySem.W.hasDictIn K C = true)
    (hw : PySem.Within mA ns) (hsz : ns.length ≤ sizeLine)
    (h : ∀ h', ObjM h' x dx C (fun y => if y = name then some v else mA y) → Heap.SameBut dx s.heap h' → Q () { s with heap := h', toks := s.toks + 2 }) :
    wpAny (model prog w) A (setAttr (.ref x) name v) Q E s := by
  obtain ⟨od, J, hl⟩ := I.look
  refine PySem.W.set_plain X J hs (PySem.W.osa_open (s := { s with toks := s.toks + 1 }) (r := none) X J hp ht fun b => ?_)
  obtain ⟨cd, hc, hd'⟩ := PySem.W.any_some hh
  have hx : s.heap.get? x = some ⟨.ref C, some dx, .plain, #[]⟩ := I.obj
  refine wpAny_bind (wpAny_pure (wpAny_bind (wpAny_bind (wpAny_loadPart hx (wpAny_bind (PySem.W.Looks.here (s := { s with toks := s.toks + 1 }) (PySem.W.looks_clsIn X hc) ?_))))))
  rw [hd']
  refine wpAny_pure (a := some dx) (wpAny_bind (wpAny_pure (wpAny_bind ?_)))
  refine wpAny_nsSet1 (s := { s with toks := s.toks + 1 }) I.ns fun h' hn2 hs2 => ?_
  obtain ⟨oD, esD, epD, hoD, hdD, hcD⟩ := hn2.count (PySem.Within.cons name v hw)
  refine wpAny_bind (wpAny_lookBehind hoD (by rw [hdD]; exact pastItsLine_dict (Nat.le_trans hcD (by rw [List.length_cons]; omega))) ?_)
  exact wpAny_pure (h _ ⟨(hs2.2 _ (Ne.symm I.ne)).trans I.obj, hn2, I.ne⟩ hs2)
/-- C(..): the dict at the heap's end, the instance behind it; then its __init__ -/
theorem make_map {R : Result → Shared → Prop} {vs : List Value} {kw : List (Str × Value)} (X : K.In s.heap) (hm : PySem.W.makesIn K C = true)
    (hi : PySem.W.findIn K (.ref C) "__init__" = some (some (.ref f))) (hf : PySem.W.typeIn K (.ref f) = some (.type "function"))
    (h : codeAny (model prog w) (A.under (.builtin "type.__call__" ⟨.ref C :: vs, kw⟩)) (.call (.ref f) ⟨.ref (s.heap.objs.size + 1) :: vs, kw⟩) (PySem.W.InitBack (s.heap.objs.size + 1) R)
      { s with heap := (s.heap.push PySem.W.emptyDict).push (PySem.W.instObj C s.heap.objs.size) }) :
    codeAny (model prog w) A (.call (.ref C) ⟨vs, kw⟩) R s := by
  obtain ⟨hh, g, d, t, os⟩ := s
  exact PySem.W.make_core (PySem.W.makes_of X hm) (PySem.W.looks_findIn X hi) (fun self => PySem.W.bind_fn X self hf) (.inl rfl) h
end
def putF (f : Str) (v : V) : List (Str × V) → List (Str × V)
  | [] => [(f, v)]
  | (g, x) :: r => if g = f then (g, v) :: r else (g, x) :: putF f v r
theorem lookup_putF (f g : Str) (v : V) : ∀ fs : List (Str × V), (putF f v fs).lookup g = if g = f then some v else fs.lookup g
  | [] => by
    show List.lookup g [(f, v)] = _
    by_cases h : g = f
    · have hb : (g == f) = true := beq_iff_eq.mpr h
      simp only [List.lookup, hb, if_pos h]
    · have hb : (g == f) = false := beq_eq_false_iff_ne.mpr h
      simp only [List.lookup, hb, if_neg h]
  | (k, x) :: r => by
    have ih := lookup_putF f g v r
    rw [show putF f v ((k, x) :: r) = (if k = f then (k, v) :: r else (k, x) :: putF f v r) from rfl]
    by_cases hk : k = f
    · rw [if_pos hk]
      by_cases h : g = k
      · have hb : (g == k) = true := beq_iff_eq.mpr h
        simp only [List.lookup, hb, if_pos (h.trans hk)]
      · have hb : (g == k) = false := beq_eq_false_iff_ne.mpr h
        simp only [List.lookup, hb, if_neg (fun e : g = f => h (e.trans hk.symm))]
    · rw [if_neg hk]
      by_cases h : g = k
      · have hb : (g == k) = true := beq_iff_eq.mpr h
        simp only [List.lookup, hb, if_neg (fun e : g = f => hk (h.symm.trans e))]
      · have hb : (g == k) = false := beq_eq_false_iff_ne.mpr h
        simp only [List.lookup, hb]
        exact ih
theorem keys_putF (f : Str) (v : V) : ∀ fs : List (Str × V), f ∈ (putF f v fs).map (·.1) ∧ ∀ g, g ∈ fs.map (·.1) → g ∈ (putF f v fs).map (·.1)
  | [] => ⟨by simp [putF], fun g h => by simp at h⟩
  | (k, x) :: r => by
    obtain ⟨i1, i2⟩ := keys_putF f v r
    rw [show putF f v ((k, x) :: r) = (if k = f then (k, v) :: r else (k, x) :: putF f v r) from rfl]
    by_cases hk : k = f
    · rw [if_pos hk]
      subst hk
      exact ⟨by simp, fun g h => by simpa using h⟩
    · rw [if_neg hk]
      refine ⟨?_, fun g h => ?_⟩
      · rw [List.map_cons]
        exact List.mem_cons_of_mem _ i1
      · rw [List.map_cons] at h ⊢
        rcases List.mem_cons.mp h with e | e
        · exact List.mem_cons.mpr (.inl e)
        · exact List.mem_cons_of_mem _ (i2 g e)
theorem length_putF (f : Str) (v : V) : ∀ fs : List (Str × V), (putF f v fs).length ≤ fs.length + 1
  | [] => by simp [putF]
  | (k, x) :: r => by
    have ih := length_putF f v r
    rw [show putF f v ((k, x) :: r) = (if k = f then (k, v) :: r else (k, x) :: putF f v r) from rfl]
    by_cases hk : k = f
    · rw [if_pos hk, List.length_cons, List.length_cons]; omega
    · rw [if_neg hk, List.length_cons, List.length_cons]; omega
theorem RelO.some_of {v : V} {o : Option Value} (r : RelO (some v) o) : ∃ u, o = some u ∧ RelV v u := by
  cases o with
  | none => exact (show False from r).elim
  | some u => exact ⟨u, rfl, r⟩
theorem RelO.none_of {o : Option Value} (r : RelO none o) : o = none := by
  cases o with
  | none => rfl
  | some u => exact (show False from r).elim
theorem handed_of {v : V} {u : Value} (r : RelV v u) : PySem.W.handedIn u = true := by
  cases v with
  | non => cases (show u = Value.none from r); rfl
  | bl b => cases (show u = Value.bool b from r); rfl
  | int i => obtain ⟨t, e⟩ := (show ∃ t, u = Value.int i t from r); cases e; rfl
  | str x => obtain ⟨t, e⟩ := (show ∃ t, u = Value.str x t from r); cases e; rfl
  | byt b => obtain ⟨t, e⟩ := (show ∃ t, u = Value.bytes b t from r); cases e; rfl
  | flt b => obtain ⟨t, e⟩ := (show ∃ t, u = Value.float b t from r); cases e; rfl
  | ref a => cases (show u = Value.ref a from r); rfl
  | ty n => cases (show u = Value.type n from r); rfl
section
variable {P : Program} {w : World} {H H' : Hp} {h h' : Heap} {a C dx : Addr} {fs fs' : List (Str × V)}
theorem ins_get (hok : HOk P w H h) (e : H a = some (.ins C dx fs)) : ∃ mA, ObjM h a dx C mA ∧ (∀ f, RelO (fs.lookup f) (mA f)) ∧ PySem.Within mA (fs.map (·.1)) ∧ fs.length ≤ 1000 ∧ H dx = some (.own a) := by
  obtain ⟨d, z, ne, ob, mA, n, r, q⟩ := (show ObjOk P w H h a (.ins C dx fs) from hok a _ e)
  exact ⟨mA, ⟨ob, n, ne⟩, r, q, z, d⟩
end
structure Cls (K : PySem.W.Frag) (C : Addr) : Prop where
  pg : PySem.W.plainGet K C Str.empty = true
  hd : PySem.W.hasDictIn K C = true
  po : PySem.W.plainOver K C = true
  sa : PySem.W.findIn K (.ref C) "__setattr__" = some (some (.builtin "object.__setattr__"))
theorem Cls.get {K : PySem.W.Frag} {C : Addr} (c : Cls K C) (f : Str) : PySem.W.plainGet K C f = true := c.pg
/-- no class of it has the name -/
def NoAttr (K : PySem.W.Frag) (C : Addr) (f : Str) : Prop := PySem.W.findIn K (.ref C) f = some none
theorem NoAttr.taker {K : PySem.W.Frag} {C : Addr} {f : Str} (n : NoAttr K C f) : PySem.W.takerIn K C f = some none := by
  unfold PySem.W.takerIn
  rw [show PySem.W.findIn K (.ref C) f = some none from n]
  rfl
/-- a method: a plain def of the class or of one above it -/
structure Meth (K : PySem.W.Frag) (C : Addr) (m : Str) (f : Addr) : Prop where
  at_ : PySem.W.findIn K (.ref C) m = some (some (.ref f))
  fn : PySem.W.isFn K (.ref f) = true
  kp : PySem.W.keepIn K (.ref f) = true
section
variable {X : Cx} {pins : List (Addr × Obj)} {σ : St} {H : Hp} {s : Shared} {a C dx : Addr} {fs : List (Str × V)} {f : Str} {v : V} {A : Around} {E : Value → Shared → Prop}
theorem getattr_ok {b : Bool} {Q : Value → Shared → Prop} (I : Inv X pins σ H s) (e : H a = some (.ins C dx fs)) (c : Cls X.K C) (n : NoAttr X.K C f) (l : fs.lookup f = some v)
    (h : ∀ u s', Inv X pins σ H s' → RelV v u → Q u s') : wpAny (model X.prog X.w) A (getAttr (.ref a) f b) Q E s := by
  obtain ⟨mA, O, r, _, _, _⟩ := ins_get I.hok e
  obtain ⟨u, hu, ru⟩ := RelO.some_of (v := v) (o := mA f) (by rw [← l]; exact r f)
  exact get_map I.kIn O (c.get f) c.hd n hu (handed_of ru) (h u _ (I.tok _) ru)
theorem getmeth_ok {m : Str} {g : Addr} {pl : Sem Bool} {Q : Value × List Value → Shared → Prop} (I : Inv X pins σ H s) (e : H a = some (.ins C dx fs)) (c : Cls X.K C) (k : Meth X.K C m g) (l : fs.lookup m = none)
    (h : Q (.ref g, [.ref a]) s) : wpAny (model X.prog X.w) A (getMethod (.ref a) m pl) Q E s := by
  obtain ⟨mA, O, r, _, _, _⟩ := ins_get I.hok e
  have hn : mA m = none := RelO.none_of (by rw [← l]; exact r m)
  exact get_meth I.kIn O (c.get m) k.at_ k.fn hn h
theorem setattr_ok {y : V} {u : Value} {Q : Unit → Shared → Prop} (I : Inv X pins σ H s) (e : H a = some (.ins C dx fs)) (c : Cls X.K C) (n : NoAttr X.K C f) (hl : fs.length < 1000) (ry : RelV y u)
    (h : ∀ s', Inv X pins σ (upd H a (.ins C dx (putF f y fs))) s' → Q () s') : wpAny (model X.prog X.w) A (setAttr (.ref a) f u) Q E s := by
  obtain ⟨mA, O, r, wi, _, ho⟩ := ins_get I.hok e
  have hz : (fs.map (·.1)).length ≤ sizeLine := by rw [List.length_map, sizeLine_eq]; omega
  refine set_map I.kIn O c.sa c.po n.taker c.hd wi hz fun h' O' sb => h _ ?_
  have hd : ∃ o, h'.get? dx = some o := let ⟨o, _, _, e', _⟩ := O'.ns; ⟨o, e'⟩
  refine I.write (x := a) (e := dx) (by rw [e]; exact True.intro) (.inr ho) (fun b q hb z => (sb.2 b hb).trans z) hd ?_
  refine ⟨by rw [upd_ne O.ne]; exact ho, ?_, O.ne, O'.obj, _, O'.ns, fun g => ?_, fun g hg => ?_⟩
  · have := length_putF f y fs; omega
  · show RelO ((putF f y fs).lookup g) (if g = f then some u else mA g)
    rw [lookup_putF]
    by_cases q : g = f
    · rw [if_pos q, if_pos q]; exact ry
    · rw [if_neg q, if_neg q]; exact r g
  · by_cases q : g = f
    · rw [q]; exact (keys_putF f y fs).1
    · refine (keys_putF f y fs).2 g (wi g fun z => hg ?_)
      show (if g = f then some u else mA g) = none
      rw [if_neg q]; exact z
/-- a new instance, tracked, without attributes -/
theorem Inv.made (I : Inv X pins σ H s) : Inv X pins σ (upd (upd H s.heap.objs.size (.own (s.heap.objs.size + 1))) (s.heap.objs.size + 1) (.ins C s.heap.objs.size []))
    { s with heap := (s.heap.push PySem.W.emptyDict).push (PySem.W.instObj C s.heap.objs.size) } := by
  have e1 : (s.heap.push PySem.W.emptyDict).get? s.heap.objs.size = some PySem.W.emptyDict := Heap.get?_push_size s.heap rfl
  have e2 : ((s.heap.push PySem.W.emptyDict).push (PySem.W.instObj C s.heap.objs.size)).get? (s.heap.objs.size + 1) = some (PySem.W.instObj C s.heap.objs.size) := by
    have := Heap.get?_push_size (s.heap.push PySem.W.emptyDict) (o := PySem.W.instObj C s.heap.objs.size) rfl
    rwa [Heap.size_push] at this
  have e3 : (s.heap.push PySem.W.emptyDict).Ns s.heap.objs.size (fun _ => none) := ⟨PySem.W.emptyDict, #[], _, e1, rfl, (fun e he => absurd he (by simp)), fun _ => rfl⟩
  have I1 := I.laid (a := s.heap.objs.size) (o := .own (s.heap.objs.size + 1)) (h' := s.heap.push PySem.W.emptyDict) (t' := s.toks) (fun b u q => Heap.get?_push_of_some _ q) (Nat.le_refl _) ⟨_, e1⟩
  refine I1.laid (a := s.heap.objs.size + 1) (o := .ins C s.heap.objs.size []) (t' := s.toks) (fun b u q => Heap.get?_push_of_some _ q) (Nat.le_of_eq (Heap.size_push _ _)) ?_
  have ne : s.heap.objs.size ≠ s.heap.objs.size + 1 := Nat.ne_of_lt (Nat.lt_succ_self _)
  refine ⟨by rw [upd_ne ne, upd_same], Nat.zero_le _, ne, e2, fun _ => none, (Heap.Ns1.of_empty e3).at fun o q => Heap.get?_push_of_some _ q, fun _ => True.intro, fun y hy => absurd rfl hy⟩
/-- e.f where nothing but the object is asked: through attributeBase (super) and the last hold -/
theorem attr_of {prog : Program} {w : World} {env : Env} {e : Expr} {f : Str} {pos : Pos} {s : Shared} {Q : Value → Shared → Prop} (hb : attributeBase e f env (eval e env) = eval e env)
    (h : wpAny (model prog w) A (eval e env) (fun o s₁ => wpAny (model prog w) A (getAttr o f true) Q E s₁) E s) : wpAny (model prog w) A (eval (.Attribute e f pos) env) Q E s :=
  Attribute_any_ h (by rw [arm_eval_Attribute, hb])
end
/-- e.f, an attribute of the instance -/
inductive tFld_I (K : PySem.W.Frag) (f : Str) (Q : VK) (x : V) (H1 : Hp) : Prop
  | mk : ∀ a C dx fs v, x = .ref a → H1 a = some (.ins C dx fs) → Cls K C → NoAttr K C f → fs.lookup f = some v → Q v H1 → tFld_I K f Q x H1
def tFld (K : PySem.W.Frag) (ta : TE) (f : Str) : TE := fun σ H Q => ta σ H fun x H1 => tFld_I K f Q x H1
/-- e.f = value -/
inductive sFld_I (K : PySem.W.Frag) (f : Str) (D : Ends) (σ : St) (y : V) (x : V) (H2 : Hp) : Prop
  | mk : ∀ a C dx fs, x = .ref a → H2 a = some (.ins C dx fs) → Cls K C → NoAttr K C f → fs.length < 1000 → D.nx σ (upd H2 a (.ins C dx (putF f y fs))) → sFld_I K f D σ y x H2
def sFld (K : PySem.W.Frag) (ta tv : TE) (f : Str) : TS := fun D σ H => tv σ H fun y H1 => ta σ H1 fun x H2 => sFld_I K f D σ y x H2
section
variable {X : Cx} {o e value : Expr} {f : Str} {pos pos' tpos : Pos} {ta tv : TE}
theorem pe_fld (he : PE X e ta) (hb : attributeBase e f X.env (eval e X.env) = eval e X.env) : PE X (.Attribute e f pos) (tFld X.K ta f) := by
  intro pins s σ H Q I h
  refine attr_of hb (thn (he pins s σ H _ I h) fun u s1 ⟨x, H1, I1, rx, a, C, dx, fs, v, ex, ea, c, n, l, q⟩ => ?_)
  subst ex
  obtain rfl : u = Value.ref a := rx
  exact getattr_ok I1 ea c n l fun u' s2 I2 ru => ⟨v, H1, I2, ru, q⟩
theorem ps_fld (ha : PE X o ta) (hv : PE X value tv) (hs : swapsWith value (some (.Attribute o f pos')) pos.line X.env = pure false) : PS X (.Assign [.Attribute o f pos'] value pos) (sFld X.K ta tv f) := by
  intro pins s σ H D I h
  refine plainObj_wpAny_Assign_Attribute (thn (hv pins s σ H _ I h) fun u s1 ⟨y, H1, I1, ry, q⟩ => thn (ha pins s1 σ H1 _ I1 q) fun ov s2 ⟨x, H2, I2, rx, a, C, dx, fs, ex, ea, c, n, l, q2⟩ => ?_) hs
  subst ex
  obtain rfl : ov = Value.ref a := rx
  exact setattr_ok I2 ea c n l ry fun s3 I3 => ⟨σ, _, I3, q2⟩
end
section
variable {X : Cx} {pins : List (Addr × Obj)} {σ : St} {H : Hp} {s : Shared} {A : Around} {E : Value → Shared → Prop} {Q : Value → Shared → Prop} {c : Value} {b : Bool}
/-- the type of a value, as the fragment's deciders take it; for an instance its class -/
inductive TyOf (K : PySem.W.Frag) (H : Hp) : V → Value → Prop where
  | non : TyOf K H .non (.type "NoneType")
  | bl (x : Bool) : TyOf K H (.bl x) (.type "bool")
  | int (i : Int) : TyOf K H (.int i) (.type "int")
  | str (x : Str) : TyOf K H (.str x) (.type "str")
  | flt (x : UInt64) : TyOf K H (.flt x) (.type "float")
  | lst {a : Addr} {xs : List V} (e : H a = some (.lst xs)) : TyOf K H (.ref a) (.type "list")
  | frz {a : Addr} {o : Obj} {xs : List V} (e : H a = some (.frz o (.lst xs))) : TyOf K H (.ref a) (.type "list")
  | tup {a : Addr} {xs : List V} (e : H a = some (.tup xs)) : TyOf K H (.ref a) (.type "tuple")
  | dK {a : Addr} {kvs : List (Key × V)} (e : H a = some (.dK kvs)) : TyOf K H (.ref a) (.type "dict")
  | dT {a : Addr} {kvs : List (List Key × V)} (e : H a = some (.dT kvs)) : TyOf K H (.ref a) (.type "dict")
  | ins {a C dx : Addr} {fs : List (Str × V)} (e : H a = some (.ins C dx fs)) (cl : Cls K C) (ha : PySem.W.findIn K (.ref C) "__class__" = some (some (.builtin "object.__class__")))
      (hn : PySem.W.specialIn K (.builtin "object.__class__") "__get__" = some (some (.builtin "getset_descriptor.__get__"))) (htk : PySem.W.takesIn K (.builtin "object.__class__") = some true)
      (hm : PySem.W.mroIn K C (.type "object") = some true) : TyOf K H (.ref a) (.ref C)
/-- isinstance(x, c) for one class c, a built-in or an own one: kitOne's answer -/
theorem isinst_ok {x : V} {u t : Value} (I : Inv X pins σ H s) (rx : RelV x u) (ty : TyOf X.K H x t) (e : PySem.W.kitOne X.K t c = some b) (h : ∀ tk, Q (.bool b) { s with toks := tk }) :
    wpAny (model X.prog X.w) A (call (.builtin "isinstance") [u, c]) Q E s := by
  cases ty with
  | non => cases (show u = Value.none from rx); exact PySem.W.kia_one PySem.W.kitx_none I.kIn True.intro e (fun z => nomatch z) h
  | bl y => cases (show u = Value.bool y from rx); exact PySem.W.kia_one PySem.W.kitx_bool I.kIn True.intro e (fun z => nomatch z) h
  | int i => obtain ⟨t, q⟩ := (show ∃ t, u = Value.int i t from rx); cases q; exact PySem.W.kia_one PySem.W.kitx_int I.kIn True.intro e (fun z => nomatch z) h
  | str y => obtain ⟨t, q⟩ := (show ∃ t, u = Value.str y t from rx); cases q; exact PySem.W.kia_one PySem.W.kitx_str I.kIn True.intro e (fun z => nomatch z) h
  | flt y => obtain ⟨t, q⟩ := (show ∃ t, u = Value.float y t from rx); cases q; exact PySem.W.kia_one PySem.W.kitx_float I.kIn True.intro e (fun z => nomatch z) h
  | @lst a xs ea =>
    cases (show u = Value.ref a from rx)
    obtain ⟨_, _, n, _, h1⟩ := (show ObjOk X.prog X.w H s.heap a (.lst xs) from I.hok a _ ea)
    exact PySem.W.kia_one PySem.W.kitx_list I.kIn ⟨_, h1, rfl⟩ e (fun z => nomatch z) h
  | @frz a ob xs ea =>
    cases (show u = Value.ref a from rx)
    obtain ⟨_, _, _, n, _, h1⟩ := (show ObjOk X.prog X.w H s.heap a (.frz ob (.lst xs)) from I.hok a _ ea)
    exact PySem.W.kia_one PySem.W.kitx_list I.kIn ⟨_, h1, rfl⟩ e (fun z => nomatch z) h
  | @tup a xs ea =>
    cases (show u = Value.ref a from rx)
    obtain ⟨_, _, _, p⟩ := (show ObjOk X.prog X.w H s.heap a (.tup xs) from I.hok a _ ea)
    obtain ⟨o, h1, h2, _⟩ := p
    exact PySem.W.kia_one PySem.W.kitx_tuple I.kIn ⟨o, h1, h2⟩ e (fun z => nomatch z) h
  | @dK a kvs ea =>
    cases (show u = Value.ref a from rx)
    obtain ⟨_, _, vs, _, p⟩ := (show ObjOk X.prog X.w H s.heap a (.dK kvs) from I.hok a _ ea)
    obtain ⟨o, es, ep, h1, h2, _⟩ := p
    exact PySem.W.kia_one PySem.W.kitx_dict I.kIn ⟨o, h1, h2.1⟩ e (fun z => nomatch z) h
  | @dT a kvs ea =>
    cases (show u = Value.ref a from rx)
    obtain ⟨_, _, xs, _, o, es, ep, h1, h2, _⟩ := (show ObjOk X.prog X.w H s.heap a (.dT kvs) from I.hok a _ ea)
    exact PySem.W.kia_one PySem.W.kitx_dict I.kIn ⟨o, h1, h2.1⟩ e (fun z => nomatch z) h
  | @ins a C dx fs ea cl ha hn htk hm =>
    cases (show u = Value.ref a from rx)
    obtain ⟨mA, O, _⟩ := ins_get I.hok ea
    obtain ⟨od, J, _⟩ := O.look
    exact PySem.W.kia_one (PySem.W.kitx_own (cl.get _) cl.hd ha hn htk hm) I.kIn J e (fun z => nomatch z) h
end
end L2
namespace L2
open PySem PySem.Spec PyProof.Rows
structure Room (k : Nat) (A : Around) : Prop where
  hd : A.handled = none
  dp : A.depth + 3 * k + 5 < recursionLimit
  un : A.units + 16 * k + 200 < cLine
  gd : A.guards = some []
theorem Room.mono {j k : Nat} {A : Around} (r : Room k A) (h : j ≤ k) : Room j A := ⟨r.hd, by have := r.dp; omega, by have := r.un; omega, r.gd⟩
theorem Room.deeper {k : Nat} {A : Around} (r : Room (k + 1) A) (env : Env) : Room k (A.deeper env) :=
  ⟨r.hd, by have := r.dp; show A.depth + 1 + 3 * k + 5 < _; omega, by have := r.un; show A.units + 3 + 16 * k + 200 < _; omega, r.gd⟩
theorem Room.in1 {k : Nat} {A : Around} (r : Room (k + 1) A) : Room k A.in1 :=
  ⟨r.hd, by have := r.dp; show A.depth + 3 * k + 5 < _; omega, by have := r.un; show A.units + 1 + 16 * k + 200 < _; omega, r.gd⟩
theorem make_depth {A : Around} {C : Addr} {us : List Value} {kw : List (Str × Value)} : (A.under (.builtin "type.__call__" ⟨.ref C :: us, kw⟩)).depth = A.depth + 1 := by
  first | rfl | simp [Around.under, Code.weight, Code.isCreation, Code.isGuard, Code.isCaller, Code.frames, Code.isFrame, guardIds]
theorem make_units {A : Around} {C : Addr} {us : List Value} {kw : List (Str × Value)} : (A.under (.builtin "type.__call__" ⟨.ref C :: us, kw⟩)).units = A.units + 1 := by
  first | rfl | simp [Around.under, Code.cUnits, Code.frames, Code.isFrame]
theorem make_guards {A : Around} {C : Addr} {us : List Value} {kw : List (Str × Value)} (h : A.guards = some []) : (A.under (.builtin "type.__call__" ⟨.ref C :: us, kw⟩)).guards = some [] := by
  first | exact h | simp [Around.under, Code.guards, Code.isGuard, pushGuards, guardIds, h]
theorem Room.make {k : Nat} {A : Around} (r : Room (k + 1) A) (C : Addr) (us : List Value) (kw : List (Str × Value)) : Room k (A.under (.builtin "type.__call__" ⟨.ref C :: us, kw⟩)) :=
  ⟨r.hd, by have := r.dp; rw [make_depth]; omega, by have := r.un; rw [make_units]; omega, make_guards r.gd⟩
theorem Room.depth {k : Nat} {A : Around} (r : Room k A) : A.depth < recursionLimit := by have := r.dp; omega
theorem Room.units {k : Nat} {A : Around} (r : Room k A) : A.units + 64 < cLine := by have := r.un; omega
def tNil : TA := fun _ H Q => Q [] H
def tCons (ta : TE) (tr : TA) : TA := fun σ H Q => ta σ H fun x H1 => tr σ H1 fun xs H2 => Q (x :: xs) H2
section
variable {X : Cx} {e : Expr} {es : List Expr} {te : TE} {t : TA} {pos : Pos}
theorem pa_nil : PA X [] tNil := fun _ _ _ _ H Q I h => Calls.spliced_nil ⟨[], H, I, .nil, h⟩
theorem pa_cons (ha : PE X e te) (hr : PA X es t) (hs : starEach (e :: es) X.env = (false, eval e X.env) :: starEach es X.env := by rfl) : PA X (e :: es) (tCons te t) := by
  intro pos pins s σ H Q I h
  rw [hs]
  show wpAny _ _ (spliced ((false, eval e X.env) :: backTo pos (starEach es X.env))) _ _ s
  refine Calls.spliced_cons (thn (ha pins s σ H _ I h) fun u s1 ⟨x, H1, I1, r1, q1⟩ => ?_)
  exact thn (hr pos pins s1 σ H1 _ I1 q1) fun us s2 ⟨xs, H2, I2, r2, q2⟩ => ⟨x :: xs, H2, I2, .cons r1 r2, q2⟩
/-- a tuple, a list of written items -/
def tTup (t : TA) : TE := fun σ H Q => t σ H fun xs H1 => xs.length ≤ sizeLine ∧ ∀ p, H1 p = none → Q (.ref p) (upd H1 p (.tup xs))
def tLst (t : TA) : TE := fun σ H Q => t σ H fun xs H1 => xs.length ≤ sizeLine ∧ ∀ p, H1 p = none → Q (.ref p) (upd H1 p (.lst xs))
theorem pe_tup {x1} (h : PA X es t) : PE X (.Tuple es x1 pos) (tTup t) := by
  intro pins s σ H Q I hq
  refine wpAny_Tuple_spliced (thn (h pos pins s σ H _ I hq) fun us s1 ⟨xs, H1, I1, r, z, q⟩ => ⟨by rw [← r.length]; exact z, ?_⟩)
  have hf : H1 s1.heap.objs.size = none := I1.hok.fresh (Nat.le_refl _)
  refine ⟨.ref s1.heap.objs.size, upd H1 s1.heap.objs.size (.tup xs), I1.laid (t' := s1.toks) (fun b u e => Heap.get?_push_of_some _ e) (Nat.le_refl _) ?_, rfl, q _ hf⟩
  exact ⟨z, us, r, ⟨_, Heap.get?_push_size _ rfl, rfl, _, rfl⟩⟩
theorem pe_lst (h : PA X es t) : PE X (.List es pos) (tLst t) := by
  intro pins s σ H Q I hq
  refine wpAny_List_spliced (thn (h pos pins s σ H _ I hq) fun us s1 ⟨xs, H1, I1, r, z, q⟩ => ⟨by rw [← r.length]; exact z, ?_⟩)
  have hf : H1 s1.heap.objs.size = none := I1.hok.fresh (Nat.le_refl _)
  refine ⟨.ref s1.heap.objs.size, upd H1 s1.heap.objs.size (.lst xs), I1.laid (t' := s1.toks) (fun b u e => Heap.get?_push_of_some _ e) (Nat.le_refl _) ?_, rfl, q _ hf⟩
  exact ⟨z, us, 0, r, Heap.get?_push_size _ rfl⟩
end
/-- a def's promise: the bound arguments in the parameters' order, the heap, the wanted end, the wanted exception -/
abbrev Sp := List V → Hp → VK → XK → Prop
/-- how an exception lies behind a call (file 08 gives it): the callers' frames, abstract heap and state ahead of the call, the wish, the exception, the state -/
abbrev CXT := List Env → Hp → Shared → XK → Value → Shared → Prop
/-- the state at a call -/
structure Env0 (P : Program) (w : World) (K : PySem.W.Frag) (mg : Str → Option Value) (base : Heap) (A : Around) (outer : List Env) (s : Shared) (H : Hp) : Prop where
  frames : A.frames = some outer
  mod : Mod K mg base
  bs : ∀ b o, base.get? b = some o → s.heap.get? b = some o ∧ H b = none
  bsz : base.objs.size ≤ s.heap.objs.size
  funs : s.heap.FunFrames base outer
  frf : ∀ b ∈ frs outer, H b = none
  hok : HOk P w H s.heap
  bare : AllBare s.gens
/-- a call's end -/
def CE (outer : List Env) (P : Program) (w : World) (H : Hp) (s : Shared) (Q : VK) (u : Value) (s' : Shared) : Prop :=
  ∃ v H', s'.os = s.os ∧ AllBare s'.gens ∧ Un (frs outer) [] H H' s.heap s'.heap ∧ HOk P w H' s'.heap ∧ RelV v u ∧ Q v H'
def CR (CX : CXT) (outer : List Env) (P : Program) (w : World) (H : Hp) (s : Shared) (Q : VK) (E : XK) (r : Result) (s' : Shared) : Prop :=
  match r with
  | .ok (.ret u) => CE outer P w H s Q u s'
  | .ok _ => False
  | .error e => CX outer H s E e s'
structure FnOk (P : Program) (w : World) (K : PySem.W.Frag) (mg : Str → Option Value) (base : Heap) (CX : CXT) (k : Nat) (f : Addr) (fd : FuncData) (ps : List Str) (sp : Sp) : Prop where
  len : ∀ vs H Q E, sp vs H Q E → vs.length = ps.length
  run : ∀ (A : Around) (outer : List Env) (s : Shared) (H : Hp) (args : Args) (us : List Value) (vs : List V) (Q : VK) (E : XK), Room k A → Env0 P w K mg base A outer s H → BindsTo s fd args (ps.zip us) → Vals vs us → sp vs H Q E →
    codeAny (model P w) A (.call (.ref f) args) (CR CX outer P w H s Q E) s
theorem FnOk.mono {P : Program} {w : World} {K : PySem.W.Frag} {mg : Str → Option Value} {base : Heap} {CX : CXT} {j k : Nat} {f : Addr} {fd : FuncData} {ps : List Str} {sp : Sp} (F : FnOk P w K mg base CX j f fd ps sp) (h : j ≤ k) :
    FnOk P w K mg base CX k f fd ps sp := ⟨F.len, fun A outer s H args us vs Q E hr => F.run A outer s H args us vs Q E (hr.mono h)⟩
theorem Env0.make {P : Program} {w : World} {K : PySem.W.Frag} {mg : Str → Option Value} {base : Heap} {A : Around} {outer : List Env} {s : Shared} {H : Hp} (e : Env0 P w K mg base A outer s H) (C : Addr) (us : List Value) (kw : List (Str × Value)) :
    Env0 P w K mg base (A.under (.builtin "type.__call__" ⟨.ref C :: us, kw⟩)) outer s H := ⟨by first | exact e.frames | (simpa [Around.under, Code.envs, Code.isFrame, pushEnvs] using e.frames), e.mod, e.bs, e.bsz, e.funs, e.frf, e.hok, e.bare⟩
theorem Env0.in1 {P : Program} {w : World} {K : PySem.W.Frag} {mg : Str → Option Value} {base : Heap} {A : Around} {outer : List Env} {s : Shared} {H : Hp} (e : Env0 P w K mg base A outer s H) :
    Env0 P w K mg base A.in1 outer s H := ⟨e.frames, e.mod, e.bs, e.bsz, e.funs, e.frf, e.hok, e.bare⟩
section
variable {X : Cx} {pins : List (Addr × Obj)} {σ : St} {H : Hp} {s s' : Shared}
/-- from a body: what a callee wants -/
theorem Inv.env0 (I : Inv X pins σ H s) : Env0 X.prog X.w X.K X.mg X.base X.A X.stack s H :=
  ⟨I.ok.frames, I.ok.mod, I.bs, Nat.le_trans I.ok.bsz I.sz, I.stack, I.stkFree, I.hok, I.bare⟩
/-- behind a call -/
theorem Inv.after {Q : VK} {u : Value} (I : Inv X pins σ H s) (h : CE X.stack X.prog X.w H s Q u s') : EP X pins σ Q u s' := by
  obtain ⟨v, H', os, bare, un, hok, r, q⟩ := h
  obtain ⟨hh, g, d, t, os'⟩ := s'
  obtain rfl : os' = s.os := os
  exact ⟨v, H', I.call (h' := hh) (g' := g) (d' := d) (t' := t) (ch := []) un hok bare (fun b z => absurd z (by simp)), r, q⟩
end
/-- f(..): the written arguments, then the defaults dvs; E: what is wanted of an exception -/
def tCall (sp : Sp) (dvs : List V) (E : XK) (t : TA) : TE := fun σ H Q => t σ H fun vs H1 => sp (vs ++ dvs) H1 Q E
/-- o.m(..) of an instance of the class at C -/
inductive tMeth_I (C : Addr) (m : Str) (sp : Sp) (dvs : List V) (E : XK) (t : TA) (σ : St) (Q : VK) (x : V) (H1 : Hp) : Prop
  | mk : ∀ a dx fs, x = .ref a → H1 a = some (.ins C dx fs) → fs.lookup m = none → (t σ H1 fun vs H2 => sp (x :: (vs ++ dvs)) H2 Q E) → tMeth_I C m sp dvs E t σ Q x H1
def tMeth (C : Addr) (m : Str) (sp : Sp) (dvs : List V) (E : XK) (ta : TE) (t : TA) : TE := fun σ H Q => ta σ H fun x H1 => tMeth_I C m sp dvs E t σ Q x H1
/-- how the parameters are bound: us the positional arguments, kw the keywords' values by name, ds the defaults that fill up -/
def Binds (K : PySem.W.Frag) (fd : FuncData) (ps : List Str) (ds : List Value) : Prop :=
  ∀ (s : Shared) (us : List Value), K.In s.heap → (us ++ ds).length = ps.length → BindsTo s fd ⟨us, []⟩ (ps.zip (us ++ ds))
/-- every parameter is given -/
theorem Binds.all {K : PySem.W.Frag} {fd : FuncData} {ps : List Str} (h : ∀ us : List Value, us.length = ps.length → bindArgs fd ⟨us, []⟩ = pure (ps.zip us)) : Binds K fd ps [] := fun s us _ hl => by
  rw [List.append_nil] at hl ⊢
  exact .of_eq (h us hl)
/-- an exception of a callee reaches what this body wants of exceptions -/
def Passes (CX : CXT) (X : Cx) (E : XK) : Prop := ∀ (pins : List (Addr × Obj)) (σ : St) (H : Hp) (s : Shared) (e : Value) (s' : Shared), Inv X pins σ H s → CX X.stack H s E e s' → X.xe e s'
section
variable {X : Cx} {CX : CXT} {k : Nat} {f C : Addr} {fd : FuncData} {ps : List Str} {sp : Sp} {dvs : List V} {ds : List Value} {E : XK} {x m : Str} {p pos apos : Pos} {e o : Expr} {es : List Expr} {ta : TE} {t : TA}
/-- the callee runs -/
theorem run_fn {pins : List (Addr × Obj)} {σ : St} {H : Hp} {s : Shared} {Q : VK} {us : List Value} {vs : List V} (F : FnOk X.prog X.w X.K X.mg X.base CX k f fd ps sp) (hr : Room k X.A) (hb : Binds X.K fd ps ds) (hd : Vals dvs ds) (hx : Passes CX X E)
    (I : Inv X pins σ H s) (r : Vals vs us) (h : sp (vs ++ dvs) H Q E) : wpAny (model X.prog X.w) X.A (call (.ref f) us) (EP X pins σ Q) X.xe s := by
  have r2 : Vals (vs ++ dvs) (us ++ ds) := r.append hd
  have hl : (us ++ ds).length = ps.length := by rw [← r2.length]; exact F.len _ _ _ _ h
  refine wpAny_call (codeAny_mono (F.run X.A X.stack s H ⟨us, []⟩ (us ++ ds) (vs ++ dvs) Q E hr I.env0 (hb s us I.kIn hl) r2 h) fun r s' hq => ?_)
  cases r with
  | error e => exact hx pins σ H s e s' I hq
  | ok fl =>
    cases fl with
    | ret u => exact I.after hq
    | next => exact False.elim hq
    | brk => exact False.elim hq
    | cont => exact False.elim hq
theorem pe_call (F : FnOk X.prog X.w X.K X.mg X.base CX k f fd ps sp) (hr : Room k X.A) (hg : Gl X x) (hm : X.mg x = some (.ref f)) (hk : PySem.W.keepIn X.K (.ref f) = true) (hb : Binds X.K fd ps ds) (hd : Vals dvs ds) (hx : Passes CX X E)
    (ha : PA X (e :: es) t) (hdb : (x == ("__debug__" : Str)) = false := by decide) (he : starEach (e :: es) X.env = (false, eval e X.env) :: starEach es X.env := by rfl) (hpl : (backTo pos (starEach es X.env)).any (·.1) = false := by rfl) :
    PE X (.Call (.Name x p) (e :: es) [] pos) (tCall sp dvs E t) := by
  intro pins s σ H Q I h
  refine wpAny_Call_Name_kw (ld_glob I hg hm ?_ hdb)
  refine PySem.W.callWith_K (h₀ := X.base) I.ok.mod.kin hk (thn (ha pos pins s σ H _ I h) fun us s1 ⟨vs, H1, I1, r, q⟩ => ⟨I1.kIn, ?_⟩) he hpl
  exact run_fn F hr hb hd hx I1 r q
/-- o.m() -/
theorem pe_meth0 {pl : Sem Bool} (he : PE X o ta) (c : Cls X.K C) (hm : Meth X.K C m f) (F : FnOk X.prog X.w X.K X.mg X.base CX k f fd ps sp) (hr : Room k X.A) (hb : Binds X.K fd ps ds) (hd : Vals dvs ds) (hx : Passes CX X E)
    (ht : eval (.Call (.Attribute o m apos) [] [] pos) X.env = (do
      let ov ← eval o X.env
      standAt apos.atName
      let (f, first) ← holding [ov] (getMethod ov m pl)
      callWith pos f first (backTo pos (starEach [] X.env)) (backToKw pos (keywordEach [] X.env))) := by rfl) :
    PE X (.Call (.Attribute o m apos) [] [] pos) (tMeth C m sp dvs E ta tNil) := by
  intro pins s σ H Q I h
  refine PySem.W.methodCall_KW (pl := pl) (thn (he pins s σ H _ I h) fun u s1 ⟨x, H1, I1, rx, a, dx, fs, ex, ea, l, q⟩ => ?_) ht
  subst ex
  obtain rfl : u = Value.ref a := rx
  refine getmeth_ok I1 ea c hm l ?_
  exact PySem.W.callWith_K0 (first := [.ref a]) I1.kIn hm.kp (run_fn (us := [.ref a]) (vs := [.ref a]) F hr hb hd hx I1 (.cons rfl .nil) q)
/-- what a class must have to be made -/
structure Mk (K : PySem.W.Frag) (C f : Addr) : Prop where
  makes : PySem.W.makesIn K C = true
  init : PySem.W.findIn K (.ref C) "__init__" = some (some (.ref f))
  fn : PySem.W.isFn K (.ref f) = true
  kp : PySem.W.keepIn K (.ref C) = true
end
section
variable {X : Cx} {CX : CXT} {k : Nat} {f C : Addr} {fd : FuncData} {ps ks : List Str} {sp : Sp} {E : XK} {x m : Str} {p pos apos kpos : Pos} {e o : Expr} {es : List Expr} {kws : List Keyword} {te ta : TE} {t tk : TA} {nm : Option Str}
variable {g : List Value → List Value → List Value} {gV : List V → List V → List V}
end
/-- names: the parameters first -/
structure FnScope (N P : List Str) (sc : Scope) : Prop where
  kind : sc.kind = .function
  co : sc.isCoroutine = false
  gen : sc.isGenerator = false
  nd : N.Nodup
  pre : N.take P.length = P
  par : ∀ x ∈ P, sc.names.lookup x = some .local ∨ sc.names.lookup x = some .cell
  nofree : ∀ y ∈ sc.names, y.2 ≠ .free
theorem bindL_out {kindOf : Str → Option NameKind} {x : Str} : ∀ {binds : List (Str × Value)} {m : Str → Option Value}, (∀ v, (x, v) ∉ binds) → bindL kindOf binds m x = m x
  | [], _, _ => rfl
  | (n, v) :: r, m, h => by
    unfold bindL
    rw [bindL_out fun w hw => h w (List.mem_cons_of_mem _ hw)]
    split
    · have : x ≠ n := by rintro rfl; exact h v List.mem_cons_self
      simp [this]
    · rfl
theorem bindC_out {kindOf : Str → Option NameKind} {x : Str} : ∀ {binds : List (Str × Value)} {m : Str → Option Value}, (∀ v, (x, v) ∉ binds) → bindC kindOf binds m x = m x
  | [], _, _ => rfl
  | (n, v) :: r, m, h => by
    unfold bindC
    rw [bindC_out fun w hw => h w (List.mem_cons_of_mem _ hw)]
    split
    · rfl
    · have : x ≠ n := by rintro rfl; exact h v List.mem_cons_self
      simp [this]
theorem bindL_get {kindOf : Str → Option NameKind} {x : Str} {v : Value} : ∀ {P : List Str} {vs : List Value} {i : Nat} {m : Str → Option Value}, P.Nodup → P[i]? = some x → vs[i]? = some v → kindOf x = some .local →
    bindL kindOf (P.zip vs) m x = some v
  | [], _, _, _, _, h, _, _ => by simp at h
  | _ :: _, [], _, _, _, _, h, _ => by simp at h
  | p :: P, w :: vs, 0, m, nd, h1, h2, hk => by
    simp at h1 h2; subst h1; subst h2
    show bindL kindOf ((p, w) :: P.zip vs) m p = _
    unfold bindL
    rw [bindL_out fun v hv => (List.nodup_cons.mp nd).1 (List.of_mem_zip hv).1, if_pos hk]
    simp
  | p :: P, w :: vs, i + 1, m, nd, h1, h2, hk => by
    show bindL kindOf ((p, w) :: P.zip vs) m x = _
    unfold bindL
    exact bindL_get (i := i) (List.nodup_cons.mp nd).2 (by simpa using h1) (by simpa using h2) hk
theorem bindC_get {kindOf : Str → Option NameKind} {x : Str} {v : Value} : ∀ {P : List Str} {vs : List Value} {i : Nat} {m : Str → Option Value}, P.Nodup → P[i]? = some x → vs[i]? = some v → kindOf x ≠ some .local →
    bindC kindOf (P.zip vs) m x = some v
  | [], _, _, _, _, h, _, _ => by simp at h
  | _ :: _, [], _, _, _, _, h, _ => by simp at h
  | p :: P, w :: vs, 0, m, nd, h1, h2, hk => by
    simp at h1 h2; subst h1; subst h2
    show bindC kindOf ((p, w) :: P.zip vs) m p = _
    unfold bindC
    rw [bindC_out fun v hv => (List.nodup_cons.mp nd).1 (List.of_mem_zip hv).1, if_neg hk]
    simp
  | p :: P, w :: vs, i + 1, m, nd, h1, h2, hk => by
    show bindC kindOf ((p, w) :: P.zip vs) m x = _
    unfold bindC
    exact bindC_get (i := i) (List.nodup_cons.mp nd).2 (by simpa using h1) (by simpa using h2) hk
/-- the names' values at the entry -/
def start (N : List Str) (vs : List V) : St := vs.map some ++ List.replicate (N.length - vs.length) none
/-- the context of a def's body, at its entry; an exception leaves the frame, then lies as CX says -/
def cxOf (CX : CXT) (P : Program) (w : World) (K : PySem.W.Frag) (mg : Str → Option Value) (base : Heap) (N : List Str) (qual : Str) (scope : Scope) (f : Addr) (cd : Value) (A : Around) (outer : List Env) (s : Shared) (H : Hp) (E : XK) : Cx where
  prog := P
  w := w
  K := K
  mg := mg
  base := base
  A := A.deeper (envOfC qual scope s.heap.objs.size f cd)
  N := N
  s₀ := s
  H₀ := H
  env := envOfC qual scope s.heap.objs.size f cd
  outer := outer
  stack := envOfC qual scope s.heap.objs.size f cd :: outer
  ex := []
  calm := true
  fn := fun _ => true
  pn := []
  xe := fun e s' => wpAny (model P w) (A.deeper (envOfC qual scope s.heap.objs.size f cd)) (leaving (envOfC qual scope s.heap.objs.size f cd) e) (fun _ s'' => CX outer H s E e s'') (fun e' s'' => CX outer H s E e' s'') s'
theorem cell_has {sc : Scope} {n : Nat} {x : Str} (h : sc.names.lookup x = some .cell) : ∃ c, (cellsFrom n sc.names []).lookup x = some c := by
  have q := PySem.W.cellsFrom_some sc.names n [] (.inl h)
  exact Option.isSome_iff_exists.mp q
theorem inv_start {CX : CXT} {P : Program} {w : World} {K : PySem.W.Frag} {mg : Str → Option Value} {base : Heap} {N ps : List Str} {qual : Str} {scope : Scope} {f : Addr} {cd : Value} {A : Around} {outer : List Env} {s s1 : Shared} {H : Hp} {E : XK} {us : List Value} {vs : List V}
    (S : FnScope N ps scope) (hd : A.handled = none) (e0 : Env0 P w K mg base A outer s H) (hl : vs.length = ps.length) (r : Vals vs us)
    (x : InCallC s s.heap.objs.size (bindL (envOfC qual scope s.heap.objs.size f cd).kindOf (ps.zip us) fun _ => none) (cellsFrom (s.heap.objs.size + 1) scope.names []) (bindC (envOfC qual scope s.heap.objs.size f cd).kindOf (ps.zip us) fun _ => none) s1) :
    Inv (cxOf CX P w K mg base N qual scope f cd A outer s H E) [] (start N vs) H s1 := by
  have hpl : ps.length ≤ N.length := by have := congrArg List.length S.pre; rw [List.length_take] at this; omega
  obtain ⟨h1, tk, rfl, hk⟩ := x.done
  have noA : ∀ b : Addr, b ∉ (cxOf CX P w K mg base N qual scope f cd A outer s H E).ex := fun b z => absurd (show b ∈ ([] : List Addr) from z) (by simp)
  refine ⟨⟨e0.mod, S.kind, rfl, rfl, Nat.le_refl _, fun y z c h1 h2 => ?_, fun y hy => ?_, fun y c _ h => ?_, fun _ => hd, Around.frames_deeper e0.frames, .inr ⟨rfl, rfl⟩, fun b z => absurd z (noA b), e0.bs, e0.bsz, fun b _ _ => noA b, fun b z => absurd z (noA b), e0.funs, e0.frf⟩,
    rfl, e0.bare, Un.kept hk, ⟨_, x.toInCall.ns, fun i y v h1 h2 h3 => ?_⟩, fun y c h => ⟨_, x.cell y c h⟩, e0.hok.fresh (Nat.le_refl _), fun y c h => ?_, fun p hp => absurd (show p ∈ ([] : List (Addr × Obj)) from hp) (by simp), e0.hok.kept hk, ?_⟩
  · exact name_of_addr x.apart (PySem.mem_of_lookup h1) (PySem.mem_of_lookup h2)
  · have hy : scope.names.lookup y = some .cell ∨ scope.names.lookup y = some .free := hy
    rcases hy with hy | hy
    · exact cell_has hy
    · exact absurd rfl (S.nofree _ (PySem.mem_of_lookup hy))
  · exact Nat.le_of_lt (x.above y c (PySem.mem_of_lookup h))
  · have hi : i < vs.length := by
      unfold start at h2
      by_cases hi : i < vs.length
      · exact hi
      · rw [List.getElem?_append_right (by simpa using hi)] at h2
        rw [List.getElem?_replicate] at h2
        split at h2 <;> cases h2
    have ha : vs[i]? = some v := by
      unfold start at h2
      rw [List.getElem?_append_left (by simpa using hi), List.getElem?_map] at h2
      cases e : vs[i]? with
      | none => rw [e] at h2; cases h2
      | some a => rw [e] at h2; cases h2; rfl
    obtain ⟨u, hu, rv⟩ := r.get ha
    have hp : ps[i]? = some y := by
      rw [← S.pre, List.getElem?_take_of_lt (by omega)]; exact h1
    have ndP : ps.Nodup := by rw [← S.pre]; exact S.nd.sublist (List.take_sublist _ _)
    refine ⟨u, rv, ?_⟩
    rcases S.par y (List.mem_of_getElem? hp) with k | k
    · exact .inl ⟨k, bindL_get ndP hp hu k⟩
    · obtain ⟨c, e⟩ := cell_has (n := s.heap.objs.size + 1) k
      refine .inr ⟨.inl k, c, e, ?_⟩
      have q := x.cell y c e
      rw [bindC_get ndP hp hu (by show scope.names.lookup y ≠ _; rw [k]; decide)] at q
      exact q
  · exact e0.hok.fresh (Nat.le_of_lt (x.above y c (PySem.mem_of_lookup h)))
  · unfold start
    show _ = N.length
    rw [List.length_append, List.length_map, List.length_replicate]
    omega
/-- THE RULE: a def (or a method) of the text, by its body. The body's reading t is chosen for each entry; it is run at the parameters' values -/
theorem fn_of {CX : CXT} {P : Program} {w : World} {K : PySem.W.Frag} {mg : Str → Option Value} {base : Heap} {k : Nat} {f : Addr} {name qual : Str} {params : Arguments} {body : List Stmt} {scope : Scope} {dV kV doc pm cdv ct oc : Value} {an od : Option Addr}
    {osl : Array (Option Value)} {N ps : List Str} {sp : Sp} (lk : K.lookup f = some ⟨oc, od, .func (PySem.W.fnOf name qual params body scope dV kV doc pm an cdv ct), osl⟩) (hcd : PySem.W.codeIn K cdv qual = true) (S : FnScope N ps scope)
    (len : ∀ vs H Q E, sp vs H Q E → vs.length = ps.length)
    (hbody : ∀ (A : Around) (outer : List Env) (s : Shared) (H : Hp) (vs : List V) (Q : VK) (E : XK), Room k (A.deeper (envOfC qual scope s.heap.objs.size f cdv)) → sp vs H Q E →
      ∃ t, PSs (cxOf CX P w K mg base N qual scope f cdv A outer s H E) body t ∧ t { nx := fun _ H' => Q .non H', rt := Q } (start N vs) H) :
    FnOk P w K mg base CX (k + 1) f (PySem.W.fnOf name qual params body scope dV kV doc pm an cdv ct) ps sp := by
  refine ⟨len, fun A outer s H args us vs Q E hr e0 hb r hsp => ?_⟩
  have hl := len _ _ _ _ hsp
  have KX : K.In s.heap := e0.mod.kin.keeps fun b o e => (e0.bs b o e).1
  have lim : s.heap.NoLimit := e0.mod.nolimit.keeps fun b o e => (e0.bs b o e).1
  have hkind : ∀ y ∈ ps.zip us, scope.names.lookup y.1 = some .local ∨ (scope.names.lookup y.1 = some .cell ∧ ((cellsFrom (s.heap.objs.size + 1) scope.names []).lookup y.1).isSome = true) := fun ⟨n, v⟩ hy => by
    rcases S.par n (List.of_mem_zip hy).1 with q | q
    · exact .inl q
    · exact .inr ⟨q, PySem.W.cellsFrom_some _ _ _ (.inl q)⟩
  refine codeAny_call_function hr.depth (KX _ _ lk) rfl S.co S.gen rfl (PySem.W.codeRec_of KX hcd) (hb _ _ _ _ ?_)
  refine wpAny_newFunctionEnv_cells S.kind hkind fun env he s1 x => ?_
  subst he
  refine ⟨lim.keeps x.toInCall.keep, codeAny_func ?_⟩
  obtain ⟨t, ht, hq⟩ := hbody A outer s H vs Q E (hr.deeper _) hsp
  have I : Inv (cxOf CX P w K mg base N qual scope f cdv A outer s H E) [] (start N vs) H s1 := inv_start S hr.hd e0 hl r x
  refine wpAny_mono (ht [] s1 (start N vs) H _ I hq) (fun fl s' hs => ?_) fun e s' hs => hs
  have fin : ∀ {σ' : St} {H' : Hp} {v : V} {u : Value}, Inv (cxOf CX P w K mg base N qual scope f cdv A outer s H E) [] σ' H' s' → RelV v u → Q v H' → CE outer P w H s Q u s' :=
    fun {σ' H' v u} J rv q => ⟨v, H', J.os, J.bare, J.base, J.hok, rv, q⟩
  cases fl with
  | ret u =>
    obtain ⟨v, σ', H', J, rv, q⟩ := hs
    exact fin J rv q
  | next =>
    obtain ⟨σ', H', J, q⟩ := hs
    exact fin (v := V.non) (u := Value.none) J rfl q
  | brk =>
    obtain ⟨_, _, _, q⟩ := hs
    exact False.elim q
  | cont =>
    obtain ⟨_, _, _, q⟩ := hs
    exact False.elim q
end L2
namespace L2
open PySem PySem.Spec PyProof.Rows
section
variable {X : Cx} {x : Str} {p pos : Pos} {e : Expr} {es : List Expr} {t : TA} {id T : String} {r : List V → Hp → VK → Prop}
def tCB (r : List V → Hp → VK → Prop) (t : TA) : TE := fun σ H Q => t σ H fun vs H1 => r vs H1 Q
/-- f(e, ..), f a built-in function -/
theorem pe_callB (hc : CallR X (.builtin id) r) (hg : Gl X x) (hm : X.mg x = none) (hv : bootBuiltins x = some (.builtin id)) (ha : PA X (e :: es) t) (hn : x ≠ "__name__" := by decide) (hdb : (x == ("__debug__" : Str)) = false := by decide)
    (he : starEach (e :: es) X.env = (false, eval e X.env) :: starEach es X.env := by rfl) (hpl : (backTo pos (starEach es X.env)).any (·.1) = false := by rfl) : PE X (.Call (.Name x p) (e :: es) [] pos) (tCB r t) := by
  intro pins s σ H Q I h
  refine wpAny_Call_Name_kw (ld_blt I hg hm hv ?_ hn hdb)
  exact PyProof.Rows.callWith_builtin1 (thn (ha pos pins s σ H _ I h) fun us s1 ⟨vs, H1, I1, r1, q1⟩ => hc pins s1 σ H1 vs us Q I1 r1 q1) he hpl
/-- T(e, ..), T a built-in type -/
theorem pe_callTy (hc : CallR X (.type T) r) (hg : Gl X x) (hm : X.mg x = none) (hv : bootBuiltins x = some (.type T)) (ha : PA X (e :: es) t) (hn : x ≠ "__name__" := by decide) (hdb : (x == ("__debug__" : Str)) = false := by decide)
    (he : starEach (e :: es) X.env = (false, eval e X.env) :: starEach es X.env := by rfl) (hpl : (backTo pos (starEach es X.env)).any (·.1) = false := by rfl) : PE X (.Call (.Name x p) (e :: es) [] pos) (tCB r t) := by
  intro pins s σ H Q I h
  refine wpAny_Call_Name_kw (ld_blt I hg hm hv ?_ hn hdb)
  exact PyProof.Rows.callWith_type1 (thn (ha pos pins s σ H _ I h) fun us s1 ⟨vs, H1, I1, r1, q1⟩ => hc pins s1 σ H1 vs us Q I1 r1 q1) he hpl
end
end L2
namespace HT
open PySem PyProof.Rows
section
open PySem.SeqAt
open PySem.AutoSeq1 (wpAny_loadPart')
open PySem.MeetsSeq PySem.MeetsSeq2 PySem.MeetsSeq3
end
section
variable {prog : Program} {w : World} {A : Around} {E : Value → Shared → Prop} {s : Shared}
/-- t + u, t not empty -/
theorem cat_tup {t b : Addr} {vs ws : List Value} {Q : Value → Shared → Prop} (ht : IsTup s.heap t vs.toArray) (hb : IsTup s.heap b ws.toArray) (hv : vs ≠ [])
    (h1 : ws = [] → Q (.ref t) s) (h2 : ws ≠ [] → Q (.ref s.heap.objs.size) { s with heap := s.heap.push { cls := .type "tuple", data := .seq (vs ++ ws).toArray } })
    (hsz : vs.length + ws.length ≤ sizeLine) : wpAny (model prog w) A (binaryOp .Add (.ref t) (.ref b)) Q E s := by
  obtain ⟨⟨cls, dd, data, sl⟩, ho, hc, n, hd⟩ := id ht
  obtain ⟨⟨cls2, dd2, data2, sl2⟩, ho2, hc2, n2, hd2⟩ := id hb
  simp only at hc hd hc2 hd2
  subst hc hd hc2 hd2
  have e : vs.toArray ++ ws.toArray = (vs ++ ws).toArray := by simp
  by_cases hw : ws = []
  · exact concat_meets ⟨_, ho, rfl⟩ ⟨_, ho2, rfl⟩ noFill_tuple_add seq_tuple_add PySem.F.slot_tuple_add PySem.F.entry_tuple_add (PySem.F.args_tuple_add_2 _ _)
      (tuple_addW1 t b vs.toArray ws.toArray n n2 dd dd2 sl sl2 (by simpa using hv) (by simp [hw])) ⟨ho, ho2, h1 hw⟩
  · refine concat_meets ⟨_, ho, rfl⟩ ⟨_, ho2, rfl⟩ noFill_tuple_add seq_tuple_add PySem.F.slot_tuple_add PySem.F.entry_tuple_add (PySem.F.args_tuple_add_2 _ _)
      (tuple_addW2 t b vs.toArray ws.toArray n n2 dd dd2 sl sl2 (by simpa using hv) (by simpa using hw) (by rw [List.size_toArray, List.size_toArray]; exact hsz)) ⟨ho, ho2, ?_⟩
    rw [e]
    exact h2 hw
/-- a slice's bound as a place among n (d where it is left out) -/
def sIx (n d : Nat) : Option Int → Nat
  | none => d
  | some v => if v < 0 then (v + (n : Int)).toNat else min v.toNat n
theorem sIx_le (n d : Nat) (hd : d ≤ n) (o : Option Int) : sIx n d o ≤ n := by
  cases o with
  | none => exact hd
  | some v =>
    show (if v < 0 then (v + (n : Int)).toNat else min v.toNat n) ≤ n
    by_cases hv : v < 0
    · rw [if_pos hv]; omega
    · rw [if_neg hv]; exact Nat.min_le_right _ _
theorem clip_eq (v : Int) (n d : Nat) : (if v < 0 then max (v + (n : Int)) 0 else min v (n : Int)) = ((sIx n d (some v) : Nat) : Int) := by
  show (if v < 0 then max (v + (n : Int)) 0 else min v (n : Int)) = (((if v < 0 then (v + (n : Int)).toNat else min v.toNat n) : Nat) : Int)
  by_cases hv : v < 0
  · simp only [if_pos hv]; omega
  · simp only [if_neg hv]; omega
theorem adjust_gen (lo hi : Option Int) (n : Nat) : Builtin.Slice.sliceAdjust lo hi 1 (n : Int) = (((sIx n 0 lo : Nat) : Int), ((sIx n n hi : Nat) : Int)) := by
  have h1 : ¬ ((1 : Int) < 0) := by omega
  unfold Builtin.Slice.sliceAdjust
  simp only [h1, if_false]
  refine Prod.ext ?_ ?_
  · cases lo with
    | none => rfl
    | some v => exact clip_eq v n 0
  · cases hi with
    | none => rfl
    | some v => exact clip_eq v n n
theorem places_gen (i j : Nat) : Builtin.Slice.slicePlaces (i : Int) (j : Int) 1 = j - i := by
  unfold Builtin.Slice.slicePlaces
  have h1 : (1 : Int) > 0 := by omega
  simp only [h1, if_true, Int.ediv_one]
  split <;> omega
theorem slicePart_ {v : Value} {o : Option Int} {Q : Option Int → Shared → Prop} (p : IsPart v o) (h : Q o s) : wpAny (model prog w) A (Builtin.Slice.slicePartIndex v) Q E s := by
  cases p with
  | none => exact slicePart_none h
  | int i t => exact slicePart_int h
theorem sliceApplied_gen {sl : Addr} {vl vu : Value} {lo hi : Option Int} {n : Nat} {Q : Int × Int × Nat → Shared → Prop} (hs : s.heap.IsSliceOf sl vl vu .none) (pl : IsPart vl lo) (pu : IsPart vu hi)
    (h : Q (((sIx n 0 lo : Nat) : Int), 1, sIx n n hi - sIx n 0 lo) s) : wpAny (model prog w) A (Builtin.Slice.sliceApplied (.ref sl) (pure (n : Int))) Q E s := by
  obtain ⟨os, hos, hcs, hds⟩ := id hs
  unfold Builtin.Slice.sliceApplied Builtin.Slice.sliceFields
  refine wpAny_bind (wpAny_bind (wpAny_field hos hds (x := vl) rfl (wpAny_bind (wpAny_field hos hds (x := vu) rfl (wpAny_bind (wpAny_field hos hds (x := .none) rfl (wpAny_pure ?_)))))))
  refine wpAny_bind (slicePart_none ?_)
  show wpAny _ _ (if ((1 : Int) == 0) = true then _ else _) _ _ s
  rw [if_neg (by decide)]
  refine wpAny_bind (slicePart_ pl (wpAny_bind (slicePart_ pu (wpAny_bind (wpAny_pure ?_)))))
  show wpAny _ _ (match Builtin.Slice.sliceAdjust lo hi 1 (n : Int) with | (lo, hi) => pure (lo, (1 : Int), Builtin.Slice.slicePlaces lo hi 1)) _ _ s
  rw [adjust_gen lo hi n]
  show wpAny _ _ (pure (((sIx n 0 lo : Nat) : Int), (1 : Int), Builtin.Slice.slicePlaces ((sIx n 0 lo : Nat) : Int) ((sIx n n hi : Nat) : Int) 1)) _ _ s
  rw [places_gen]
  exact wpAny_pure h
theorem pick_gen (xs : Array Value) (i k : Nat) : ((List.range k).filterMap fun (m : Nat) => xs[((i : Int) + (m : Int) * 1).toNat]?).toArray = ((xs.toList.drop i).take k).toArray := by
  have e : (fun (m : Nat) => xs[((i : Int) + (m : Int) * 1).toNat]?) = fun m => xs[i + m]? := by
    funext m
    have : ((i : Int) + (m : Int) * 1).toNat = i + m := by omega
    rw [this]
  rw [e]
  have := pick_run xs i k
  rw [List.filterMap_map] at this
  have e2 : ((fun x => xs[x]?) ∘ fun x => i + x) = fun m => xs[i + m]? := rfl
  rw [e2] at this
  rw [this]
theorem getItem_tuple_cut {t sl : Addr} {items : Array Value} {vl vu : Value} {lo hi : Option Int} {Q : Value → Shared → Prop} (ht : IsTup s.heap t items) (hs : s.heap.IsSliceOf sl vl vu .none) (pl : IsPart vl lo) (pu : IsPart vu hi)
    (hw : ¬ (sIx items.size 0 lo = 0 ∧ sIx items.size items.size hi = items.size))
    (h : Q (.ref s.heap.objs.size) { s with heap := s.heap.push { cls := .type "tuple", data := .seq ((items.toList.drop (sIx items.size 0 lo)).take (sIx items.size items.size hi - sIx items.size 0 lo)).toArray } })
    (hsz : items.size ≤ sizeLine) : wpAny (model prog w) A (getItem (.ref t) (.ref sl)) Q E s := by
  have htake : sizeOk (.seq ((items.toList.drop (sIx items.size 0 lo)).take (sIx items.size items.size hi - sIx items.size 0 lo)).toArray) := by
    show ((items.toList.drop (sIx items.size 0 lo)).take (sIx items.size items.size hi - sIx items.size 0 lo)).toArray.size ≤ sizeLine
    rw [List.size_toArray, List.length_take, List.length_drop, Array.length_toList]
    omega
  have hj : sIx items.size items.size hi ≤ items.size := sIx_le _ _ (Nat.le_refl _) hi
  obtain ⟨os, hos, hcs, hds⟩ := id hs
  have hTs : s.TypeIs (.ref sl) "slice" := ⟨os, hos, hcs⟩
  unfold getItem
  try with_reducible refine wpAny_holding ?_
  first | refine wpAny_bind (wpAny_pure ?_) | skip
  refine wpAny_bind (wpAny_sequenceKey ht.typeIs (by decide) ?_)
  refine wpAny_bind (wpAny_callSpecial?_slot (name := Str.ofString "__getitem__") ht.typeIs PyProof.Rows.slot_tuple_getitem
    (wpAny_call_entry PyProof.Rows.slot_tuple_getitem ht.typeIs entry_tuple_getitem ?_ (args_tuple_getitem _ _)))
  show wpAny _ _ (Builtin.Tuple.tupleItemsOf (.ref t) >>= _) _ _ s
  refine wpAny_bind (tupleItemsOf_ ht ?_)
  refine wpAny_bind (wpAny_typeOf hTs ?_)
  rw [if_pos (by decide)]
  refine wpAny_bind (sliceApplied_gen hs pl pu ?_)
  have hno : ¬ ((((sIx items.size 0 lo : Nat) : Int) == 0 && (1 : Int) == 1 && (sIx items.size items.size hi - sIx items.size 0 lo) == items.size) = true) := by
    intro q
    rw [Bool.and_eq_true, Bool.and_eq_true] at q
    have q1 : ((sIx items.size 0 lo : Nat) : Int) = 0 := eq_of_beq q.1.1
    have q2 : sIx items.size items.size hi - sIx items.size 0 lo = items.size := eq_of_beq q.2
    exact hw ⟨by omega, by omega⟩
  show wpAny _ _ (if (((sIx items.size 0 lo : Nat) : Int) == 0 && (1 : Int) == 1 && (sIx items.size items.size hi - sIx items.size 0 lo) == items.size) = true then _ else _) _ _ s
  rw [if_neg hno, pick_gen]
  first
    | exact wpAny_bind (m := Builtin.Tuple.tupleExact _) (wpAny_newObj_type (wpAny_pure ⟨_, rfl, wpAny_pure h⟩) htake)
    | exact wpAny_bind (m := Builtin.Tuple.tupleExact _) (wpAny_newObj_type (wpAny_bind (wpAny_pure (wpAny_pure ⟨_, rfl, wpAny_pure h⟩))) htake)
    | exact wpAny_bind (wpAny_bind (m := Builtin.Tuple.tupleExact _) (wpAny_newObj_type (wpAny_pure (wpAny_pure ⟨_, rfl, wpAny_pure h⟩)) htake))
    | exact wpAny_bind (wpAny_bind (m := Builtin.Tuple.tupleExact _) (wpAny_newObj_type (wpAny_pure ⟨_, rfl, wpAny_pure h⟩) htake))
end
end HT
namespace L2
open PySem PySem.Spec PyProof.Rows
abbrev TO := St → Hp → (Option Int → Hp → Prop) → Prop
/-- a slice's part (left out, or an int) -/
def PO (X : Cx) (e : Option Expr) (t : TO) : Prop :=
  ∀ (pins : List (Addr × Obj)) (s : Shared) (σ : St) (H : Hp) (Q : Option Int → Hp → Prop), Inv X pins σ H s → t σ H Q →
    wpAny (model X.prog X.w) X.A (evalPart e X.env) (fun u s' => ∃ o H', Inv X pins σ H' s' ∧ IsPart u o ∧ Q o H') X.xe s
def tNoPart : TO := fun _ H Q => Q none H
inductive tPart_I (Q : (Option Int → Hp → Prop)) (x : V) (H1 : Hp) : Prop
  | mk : ∀ i, x = .int i → Q (some i) H1 → tPart_I Q x H1
def tPart (t : TE) : TO := fun σ H Q => t σ H fun x H1 => tPart_I Q x H1
section
variable {X : Cx} {e : Expr} {te : TE} {lo hi : Option Expr} {tl th : TO} {pos p2 : Pos}
theorem po_none : PO X none tNoPart := by
  intro pins s σ H Q I h
  rw [evalPart_none]
  exact wpAny_pure ⟨none, H, I, .none, h⟩
theorem po_some (h : PE X e te) : PO X (some e) (tPart te) := by
  intro pins s σ H Q I hw
  rw [evalPart_some]
  refine thn (h pins s σ H _ I hw) fun u s1 ⟨x, H1, I1, r1, q1⟩ => ?_
  obtain ⟨i, rfl, q⟩ := q1
  obtain ⟨t, rfl⟩ := r1
  exact ⟨some i, H1, I1, .int i t, q⟩
/-- what a slice of a value is, by values: the slice object stands at sl -/
def SlR (X : Cx) (r : V → Option Int → Option Int → Hp → VK → Prop) : Prop :=
  ∀ (pins : List (Addr × Obj)) (s : Shared) (σ : St) (H : Hp) (x : V) (v vl vu : Value) (lo hi : Option Int) (sl : Addr) (Q : VK), Inv X pins σ H s → RelV x v → s.heap.IsSliceOf sl vl vu .none → IsPart vl lo → IsPart vu hi → r x lo hi H Q →
    ∃ T id, typeLookup (.type T) "__getitem__" = pure (some (.builtin id)) ∧ s.TypeIs v T ∧ wpAny (model X.prog X.w) X.A (getItem v (.ref sl)) (EP X pins σ Q) X.xe s
def tSl (r : V → Option Int → Option Int → Hp → VK → Prop) (te : TE) (tl th : TO) : TE := fun σ H Q => te σ H fun x H1 => tl σ H1 fun l H2 => th σ H2 fun u H3 => r x l u H3 Q
/-- a[lo:hi], any a -/
theorem pe_slice {r : V → Option Int → Option Int → Hp → VK → Prop} (hr : SlR X r) (he : PE X e te) (hl : PO X lo tl) (hu : PO X hi th) : PE X (.Subscript e (.Slice lo hi none p2) pos) (tSl r te tl th) := by
  intro pins s σ H Q I h
  refine Subscript_ (thn (he pins s σ H _ I h) fun v s1 ⟨x, H1, I1, r1, q1⟩ => ?_)
  refine wpAny_Slice (thn (hl pins s1 σ H1 _ I1 q1) fun vl s2 ⟨l, H2, I2, pl, q2⟩ => thn (hu pins s2 σ H2 _ I2 q2) fun vu s3 ⟨u, H3, I3, pu, q3⟩ => ?_)
  rw [evalPart_none]
  refine wpAny_pure ?_
  have I4 : Inv X pins σ H3 { s3 with heap := s3.heap.push { cls := .type "slice", data := .fields #[vl, vu, .none] } } := I3.kept (t' := s3.toks) fun b ob q => Heap.get?_push_of_some _ q
  obtain ⟨T, id, hT, ht, hg⟩ := hr pins { s3 with heap := s3.heap.push { cls := .type "slice", data := .fields #[vl, vu, .none] } } σ H3 x v vl vu l u s3.heap.objs.size Q I4 r1 (Heap.IsSliceOf.new ..) pl pu q3
  show wpAny (model X.prog X.w) X.A (subscriptTail e (.Slice lo hi none p2) v (.ref s3.heap.objs.size)) (EP X pins σ Q) X.xe { s3 with heap := s3.heap.push { cls := .type "slice", data := .fields #[vl, vu, .none] } }
  exact tail_any (ops := [.ref s3.heap.objs.size, v]) ht hT hg (by with_unfolding_all rfl)
/-- the items of xs[lo:hi] -/
def cutV (xs : List V) (lo hi : Option Int) : List V := (xs.drop (HT.sIx xs.length 0 lo)).take (HT.sIx xs.length xs.length hi - HT.sIx xs.length 0 lo)
theorem cutV_length (xs : List V) (lo hi : Option Int) : (cutV xs lo hi).length ≤ xs.length := by
  unfold cutV
  rw [List.length_take, List.length_drop]
  omega
/-- t[lo:hi], not the whole of it (the whole would be t itself) -/
inductive rSlT_I (K : PySem.W.Frag) (x : V) (lo : Option Int) (hi : Option Int) (H : Hp) (Q : VK) : Prop
  | mk : ∀ a xs, x = .ref a → SqT K H a xs → ¬ (HT.sIx xs.length 0 lo = 0 ∧ HT.sIx xs.length xs.length hi = xs.length) → (∀ p, H p = none → Q (.ref p) (upd H p (.tup (cutV xs lo hi)))) → rSlT_I K x lo hi H Q
def rSlT (K : PySem.W.Frag) : V → Option Int → Option Int → Hp → VK → Prop := fun x lo hi H Q => rSlT_I K x lo hi H Q
theorem sl_tup : SlR X (rSlT X.K) := by
  intro pins s σ H x v vl vu lo hi sl Q I rx hs pl pu h
  obtain ⟨a, xs, rfl, hx, hw, q⟩ := h
  cases rx
  obtain ⟨its, r, ht, hz⟩ := I.tuple hx
  have hlen : its.toArray.size = xs.length := by rw [List.size_toArray]; exact r.length.symm
  refine ⟨"tuple", _, PyProof.Rows.slot_tuple_getitem.lookup, ht.typeIs, ?_⟩
  refine HT.getItem_tuple_cut ht hs pl pu (by rw [hlen]; exact hw) ?_ (by rw [hlen]; exact hz)
  rw [hlen]
  refine ⟨.ref s.heap.objs.size, _, I.laid (t' := s.toks) (o := .tup (cutV xs lo hi)) (fun b ob q => Heap.get?_push_of_some _ q) (Nat.le_refl _) ?_, rfl, q _ (I.hok.fresh (Nat.le_refl _))⟩
  exact ⟨Nat.le_trans (cutV_length xs lo hi) hz, _, (r.drop (HT.sIx xs.length 0 lo)).take (HT.sIx xs.length xs.length hi - HT.sIx xs.length 0 lo), IsTup.new _ _⟩
/-- t + u, t not empty: u empty gives t itself -/
inductive rCatT_I (K : PySem.W.Frag) (x : V) (y : V) (H : Hp) (Q : VK) : Prop
  | mk : ∀ a b xs ys, x = .ref a → y = .ref b → SqT K H a xs → SqT K H b ys → xs ≠ [] → xs.length + ys.length ≤ sizeLine → ((ys = [] → Q (.ref a) H)) → ((ys ≠ [] → ∀ p, H p = none → Q (.ref p) (upd H p (.tup (xs ++ ys))))) → rCatT_I K x y H Q
def rCatT (K : PySem.W.Frag) : R2 := fun x y H Q => rCatT_I K x y H Q
theorem Vals.nil_iff {xs : List V} {us : List Value} (r : Vals xs us) : us = [] ↔ xs = [] := by
  cases r with
  | nil => simp
  | cons _ _ => simp
theorem op_catT : OpR X (binaryOp .Add) (rCatT X.K) := by
  intro pins s σ H x y v u Q I rx ry h
  obtain ⟨a, b, xs, ys, rfl, rfl, ha, hb, hx, hz, q1, q2⟩ := h
  cases rx
  cases ry
  obtain ⟨its, r1, p1, _⟩ := I.tuple ha
  obtain ⟨its2, r2, p2, _⟩ := I.tuple hb
  refine HT.cat_tup p1 p2 (fun z => hx (r1.nil_iff.mp z)) (fun z => ⟨.ref a, H, I, rfl, q1 (r2.nil_iff.mp z)⟩) (fun z => ?_) (by rw [← r1.length, ← r2.length]; exact hz)
  refine ⟨.ref s.heap.objs.size, _, I.laid (t' := s.toks) (o := .tup (xs ++ ys)) (fun b ob q => Heap.get?_push_of_some _ q) (Nat.le_refl _) ?_, rfl, q2 (fun w => z (r2.nil_iff.mpr w)) _ (I.hok.fresh (Nat.le_refl _))⟩
  exact ⟨by rw [List.length_append]; exact hz, _, r1.append r2, IsTup.new _ _⟩
end
end L2
namespace L2
open PySem PySem.Spec PyProof.Rows
/-- the place that an index of any sign means -/
def ixN (n : Nat) (i : Int) : Option Nat := if 0 ≤ i then (if i < n then some i.toNat else none) else if -(n : Int) ≤ i then some (i + n).toNat else none
def atI {α : Type} (xs : List α) (i : Int) : Option α := (ixN xs.length i).bind fun j => xs[j]?
theorem ixN_seq {n : Nat} {i : Int} {j : Nat} (h : ixN n i = some j) : seqIndex? i n = some j ∧ j < n ∧ -(n : Int) ≤ i ∧ i < n := by
  unfold ixN at h
  by_cases h0 : 0 ≤ i
  · rw [if_pos h0] at h
    by_cases h1 : i < n
    · rw [if_pos h1] at h
      have e : i.toNat = j := Option.some.inj h
      exact ⟨by rw [seqIndex_of h0 h1, e], by omega, by omega, h1⟩
    · rw [if_neg h1] at h; cases h
  · rw [if_neg h0] at h
    by_cases h1 : -(n : Int) ≤ i
    · rw [if_pos h1] at h
      have e : (i + n).toNat = j := Option.some.inj h
      exact ⟨by rw [seqIndex_neg (by omega) h1, e], by omega, h1, by omega⟩
    · rw [if_neg h1] at h; cases h
theorem atI_get {α : Type} {xs : List α} {i : Int} {v : α} (h : atI xs i = some v) : ∃ j, seqIndex? i xs.length = some j ∧ xs[j]? = some v ∧ j < xs.length ∧ -(xs.length : Int) ≤ i ∧ i < xs.length := by
  unfold atI at h
  cases e : ixN xs.length i with
  | none => rw [e] at h; cases h
  | some j =>
    rw [e] at h
    obtain ⟨h1, h2, h3, h4⟩ := ixN_seq e
    exact ⟨j, h1, h, h2, h3, h4⟩
theorem atI_nat {α : Type} {xs : List α} {j : Nat} {v : α} (h : xs[j]? = some v) : atI xs (j : Int) = some v := by
  have hj : j < xs.length := (List.getElem?_eq_some_iff.mp h).1
  have e : ixN xs.length (j : Int) = some j := by
    unfold ixN
    rw [if_pos (by omega), if_pos (by omega)]; simp
  unfold atI; rw [e]; exact h
/-- what stands as an index of a plain subscript -/
def PlainIx (b : Expr) : Prop := ∀ o i, subscripted b false o i = operate [o, i] (getItem o i)
/-- a subscript by values -/
def IxR (X : Cx) (r : R2) : Prop :=
  ∀ (value slice : Expr) (pins : List (Addr × Obj)) (s : Shared) (σ : St) (H : Hp) (x y : V) (v u : Value) (Q : VK), Inv X pins σ H s → RelV x v → RelV y u → r x y H Q →
    subscripted slice false v u = operate [v, u] (getItem v u) → wpAny (model X.prog X.w) X.A (subscriptTail value slice v u) (EP X pins σ Q) X.xe s
/-- a call of a builtin's method by values: the receiver, the arguments -/
def MtR (X : Cx) (id : String) (r : V → List V → Hp → VK → Prop) : Prop :=
  ∀ (pins : List (Addr × Obj)) (s : Shared) (σ : St) (H : Hp) (x : V) (xs : List V) (v : Value) (us : List Value) (Q : VK), Inv X pins σ H s → RelV x v → Vals xs us → r x xs H Q →
    wpAny (model X.prog X.w) X.A (call (.builtin id) (v :: us)) (EP X pins σ Q) X.xe s
section
variable {X : Cx} {a b : Expr} {ta tb : TE} {pos : Pos}
/-- a[b] -/
theorem pe_ix {r : R2} (hr : IxR X r) (ha : PE X a ta) (hb : PE X b tb) (hs : PlainIx b) : PE X (.Subscript a b pos) (tOp r ta tb) := by
  intro pins s σ H Q I h
  exact Subscript_ (binT ha hb I h fun v u s2 x y H2 I2 rx ry q => hr a b pins s2 σ H2 x y v u Q I2 rx ry q (hs _ _))
inductive rIxL_I (K : PySem.W.Frag) (x : V) (y : V) (H : Hp) (Q : VK) : Prop
  | mk : ∀ p xs i v, x = .ref p → y = .int i → SqL K H p xs → atI xs i = some v → Q v H → rIxL_I K x y H Q
def rIxL (K : PySem.W.Frag) : R2 := fun x y H Q => rIxL_I K x y H Q
inductive rIxT_I (K : PySem.W.Frag) (x : V) (y : V) (H : Hp) (Q : VK) : Prop
  | mk : ∀ p xs i v, x = .ref p → y = .int i → SqT K H p xs → atI xs i = some v → Q v H → rIxT_I K x y H Q
def rIxT (K : PySem.W.Frag) : R2 := fun x y H Q => rIxT_I K x y H Q
inductive rIxS_I (x : V) (y : V) (H : Hp) (Q : VK) : Prop
  | mk : ∀ z i c, x = .str z → y = .int i → z.length ≤ sizeLine → atI z.cps.toList i = some c → Q (.str ⟨#[c]⟩) H → rIxS_I x y H Q
def rIxS : R2 := fun x y H Q => rIxS_I x y H Q
theorem ix_list : IxR X (rIxL X.K) := by
  intro value slice pins s σ H x y v u Q I rx ry h hs
  obtain ⟨p, xs, i, z, rfl, rfl, hq, he, q⟩ := h
  cases rx
  obtain ⟨t, rfl⟩ := ry
  obtain ⟨its, r, pl, hz⟩ := I.list hq
  obtain ⟨j, h1, h2, h3, h4, h5⟩ := atI_get he
  obtain ⟨w, ew, rw'⟩ := r.get h2
  have hl := r.length
  have hn := line63
  have fin : EP X pins σ Q w s := ⟨z, H, I, rw', q⟩
  by_cases h0 : 0 ≤ i
  · have hj : i.toNat = j := by
      rw [seqIndex_of h0 h5] at h1
      exact Option.some.inj h1
    exact item_listR pl.isList h0 (by omega) (by rw [hj]; simpa using ew) fin hs
  · have hj : (i + (its.toArray.size : Int)).toNat = j := by
      rw [seqIndex_neg (by omega) h4] at h1
      rw [List.size_toArray, ← hl]
      exact Option.some.inj h1
    exact subscriptTail_builtinR (x := w) pl.isList.typeIs slot_list_getitem.lookup
      (wpAny_getItem_list_neg (Q := fun r s' => r = w ∧ EP X pins σ Q r s') pl.isList (by omega) (by rw [List.size_toArray] <;> omega) (by omega) (by rw [hj]; simpa using ew) ⟨rfl, fin⟩) hs
theorem ix_tup : IxR X (rIxT X.K) := by
  intro value slice pins s σ H x y v u Q I rx ry h hs
  obtain ⟨p, xs, i, z, rfl, rfl, hq, he, q⟩ := h
  cases rx
  obtain ⟨t, rfl⟩ := ry
  obtain ⟨its, r, pl, hz⟩ := I.tuple hq
  obtain ⟨j, h1, h2, h3, h4, h5⟩ := atI_get he
  obtain ⟨w, ew, rw'⟩ := r.get h2
  have hl := r.length
  have hn := line63
  have fin : EP X pins σ Q w s := ⟨z, H, I, rw', q⟩
  exact subscriptTail_builtinR (x := w) pl.typeIs slot_tuple_getitem.lookup
    (getItem_tuple (j := j) (Q := fun r s' => r = w ∧ EP X pins σ Q r s') pl (by omega) (by omega) (by rw [List.size_toArray, ← hl]; exact h1) (by simpa using ew) ⟨rfl, fin⟩) hs
theorem ix_str : IxR X rIxS := by
  intro value slice pins s σ H x y v u Q I rx ry h hs
  obtain ⟨z, i, c, rfl, rfl, hz, he, q⟩ := h
  obtain ⟨t, rfl⟩ := rx
  obtain ⟨t', rfl⟩ := ry
  obtain ⟨j, h1, h2, h3, h4, h5⟩ := atI_get he
  have hl : z.cps.toList.length = z.length := by simp [Str.length]
  rw [hl] at h1 h4 h5
  have hn := line63
  exact tail_any (typeIs_str s z t) slot_str_getitem.lookup (getItem_str (c := c) (by
    have e1 : decide (i < -(2 ^ 63 : Int)) = false := decide_eq_false (by omega)
    have e2 : decide (i ≥ 2 ^ 63) = false := decide_eq_false (by omega)
    rw [e1, e2, Bool.or_false]) (by rw [h1]; simpa using h2) ⟨.str ⟨#[c]⟩, H, I.tok _, ⟨_, rfl⟩, q⟩) hs
/-- the list's object behind a store -/
theorem mapSeq_set (its : List Value) (n j : Nat) (u : Value) : Obj.mapSeq (·.setIfInBounds j u) { cls := .type "list", data := .seq its.toArray n } = { cls := .type "list", data := .seq (its.set j u).toArray n } := by
  simp [Obj.mapSeq]
theorem Inv.lst {pins : List (Addr × Obj)} {σ : St} {H : Hp} {s : Shared} {p : Addr} {xs : List V} (I : Inv X pins σ H s) (h : H p = some (.lst xs)) :
    ∃ (its : List Value) (n : Nat), Vals xs its ∧ s.heap.get? p = some { cls := .type "list", data := .seq its.toArray n } ∧ xs.length ≤ sizeLine := by
  obtain ⟨z, its, n, r, e⟩ := I.hok p _ h
  exact ⟨its, n, r, e, z⟩
/-- the list at p is written by an update of its object -/
theorem Inv.lstUpd {pins : List (Addr × Obj)} {σ : St} {H : Hp} {s : Shared} {p : Addr} {xs ys : List V} {its its' : List Value} {n n' : Nat} {f : Obj → Obj} (I : Inv X pins σ H s) (h : H p = some (.lst xs))
    (ho : s.heap.get? p = some { cls := .type "list", data := .seq its.toArray n }) (hf : f { cls := .type "list", data := .seq its.toArray n } = { cls := .type "list", data := .seq its'.toArray n' }) (r : Vals ys its') (hz : ys.length ≤ sizeLine) (t : Nat) :
    Inv X pins σ (upd H p (.lst ys)) { s with heap := s.heap.update p f, toks := t } := by
  have e : (s.heap.update p f).get? p = some { cls := .type "list", data := .seq its'.toArray n' } := by
    rw [Heap.get?_update_self f ho (by rw [hf] <;> rfl), hf]
  refine I.write (x := p) (e := p) (by rw [h]; trivial) (.inl rfl) (fun b u hb q => (Heap.get?_update_other _ _ (Ne.symm hb)).trans q) ⟨_, e⟩ ?_
  exact ⟨hz, its', n', r, e⟩
inductive rSetL_I (o : V) (i : V) (v : V) (H : Hp) (Q : (Hp → Prop)) : Prop
  | mk : ∀ p xs k j, o = .ref p → i = .int k → H p = some (.lst xs) → ixN xs.length k = some j → Q (upd H p (.lst (xs.set j v))) → rSetL_I o i v H Q
def rSetL : V → V → V → Hp → (Hp → Prop) → Prop := fun o i v H Q => rSetL_I o i v H Q
theorem set_list : PSet X rSetL := by
  intro pins s σ H o i v ov iv u Q I ro ri rv h
  obtain ⟨p, xs, k, j, rfl, rfl, hp, hj, q⟩ := h
  cases ro
  obtain ⟨t, rfl⟩ := ri
  obtain ⟨its, n, r, ho, hz⟩ := I.lst hp
  obtain ⟨h1, h2, h3, h4⟩ := ixN_seq hj
  have hl := r.length
  have hn := line63
  have I' : Inv X pins σ (upd H p (.lst (xs.set j v))) { s with heap := s.heap.update p (Obj.mapSeq (·.setIfInBounds j u)) } :=
    I.lstUpd hp ho (mapSeq_set its n j u) (r.set rv j) (by rw [List.length_set]; exact hz) s.toks
  by_cases h0 : 0 ≤ k
  · have hk : k.toNat = j := by
      rw [seqIndex_of h0 h4] at h1
      exact Option.some.inj h1
    exact PySem.W.ki_setAt ho h0 (by omega) (by rw [List.size_toArray, ← hl]; exact h4) (by rw [hk]; exact ⟨_, I', q⟩)
  · have hk : (k + (its.toArray.size : Int)).toNat = j := by
      rw [seqIndex_neg (by omega) h3] at h1
      rw [List.size_toArray, ← hl]
      exact Option.some.inj h1
    exact PySem.W.ki_setBack ho (by omega) (by rw [List.size_toArray, ← hl]; exact h3) (by omega) (by rw [hk]; exact ⟨_, I', q⟩)
theorem slice_bounds (lo hi : Option Int) (n : Nat) : (sliceBounds lo hi none n).1 = ((HT.sIx n 0 lo : Nat) : Int) ∧ (sliceBounds lo hi none n).2.1 = ((HT.sIx n n hi : Nat) : Int) ∧ (sliceBounds lo hi none n).2.2 = 1 := by
  refine ⟨?_, ?_, rfl⟩
  · cases lo with
    | none => simp [sliceBounds, HT.sIx]
    | some i =>
      simp only [sliceBounds, HT.sIx, Option.getD_none, show (1 : Int) > 0 by decide, if_true]
      by_cases h : i < 0
      · simp only [h, if_true] <;> omega
      · simp only [h, if_false] <;> omega
  · cases hi with
    | none => simp [sliceBounds, HT.sIx]
    | some i =>
      simp only [sliceBounds, HT.sIx, Option.getD_none, show (1 : Int) > 0 by decide, if_true]
      by_cases h : i < 0
      · simp only [h, if_true] <;> omega
      · simp only [h, if_false] <;> omega
theorem slicePick_cut (its : List Value) (lo hi : Option Int) : slicePick its.toArray lo hi none = ((its.drop (HT.sIx its.length 0 lo)).take (HT.sIx its.length its.length hi - HT.sIx its.length 0 lo)).toArray := by
  obtain ⟨h1, h2, h3⟩ := slice_bounds lo hi its.toArray.size
  unfold slicePick
  rw [h1, h2, h3]
  simp only [sliceRange_one, pick_run, List.size_toArray] <;> rfl
/-- xs[lo:hi] of a list: a new list -/
inductive rSlL_I (K : PySem.W.Frag) (x : V) (lo : Option Int) (hi : Option Int) (H : Hp) (Q : VK) : Prop
  | mk : ∀ a xs, x = .ref a → SqL K H a xs → (∀ p, H p = none → Q (.ref p) (upd H p (.lst (cutV xs lo hi)))) → rSlL_I K x lo hi H Q
def rSlL (K : PySem.W.Frag) : V → Option Int → Option Int → Hp → VK → Prop := fun x lo hi H Q => rSlL_I K x lo hi H Q
theorem sl_list : SlR X (rSlL X.K) := by
  intro pins s σ H x v vl vu lo hi sl Q I rx hs pl pu h
  obtain ⟨a, xs, rfl, hx, q⟩ := h
  cases rx
  obtain ⟨its, r, ht, hz⟩ := I.list hx
  have hlen := r.length
  refine ⟨"list", _, slot_list_getitem.lookup, ht.isList.typeIs, ?_⟩
  refine wpAny_getItem_list_slice ht.isList hs pl pu .none (by simp) ?_ (by rw [List.size_toArray] <;> omega)
  rw [slicePick_cut, ← hlen]
  refine ⟨.ref s.heap.objs.size, _, I.laid (t' := s.toks) (o := .lst (cutV xs lo hi)) (fun b ob q => Heap.get?_push_of_some _ q) (Nat.le_refl _) ?_, rfl, q _ (I.hok.fresh (Nat.le_refl _))⟩
  exact ⟨Nat.le_trans (cutV_length xs lo hi) hz, _, 0, (r.drop (HT.sIx xs.length 0 lo)).take (HT.sIx xs.length xs.length hi - HT.sIx xs.length 0 lo), Heap.get?_push_size _ rfl⟩
theorem call_len_seq : CallR X (.builtin "len") (fun xs H Q => ∃ p ys, xs = [.ref p] ∧ (SqL X.K H p ys ∨ SqT X.K H p ys) ∧ Q (.int ys.length) H) := by
  intro pins s σ H xs us Q I r h
  obtain ⟨p, ys, rfl, hq, q⟩ := h
  obtain ⟨u, rfl, rx⟩ := vals1 r
  cases rx
  have hn := line63
  rcases hq with hq | hq
  · obtain ⟨its, r', pl, hz⟩ := I.list hq
    have hlen := r'.length
    exact Calls.call_len_list pl.isList (by simp only [List.size_toArray] <;> omega) ⟨.int ys.length, H, I.tok _, ⟨s.toks + 1, by rw [List.size_toArray, hlen]⟩, q⟩
  · obtain ⟨its, r', pl, hz⟩ := I.tuple hq
    have hlen := r'.length
    exact len_tuple pl (by simp only [List.size_toArray] <;> omega) ⟨.int ys.length, H, I.tok _, ⟨s.toks + 1, by rw [List.size_toArray, hlen]⟩, q⟩
theorem call_len_str : CallR X (.builtin "len") (fun xs H Q => ∃ z, xs = [.str z] ∧ z.length ≤ sizeLine ∧ Q (.int z.length) H) := by
  intro pins s σ H xs us Q I r h
  obtain ⟨z, rfl, hz, q⟩ := h
  obtain ⟨u, rfl, t, rfl⟩ := vals1 r
  have hn := line63
  exact len_str (by omega) ⟨.int z.length, H, I.tok _, ⟨_, rfl⟩, q⟩
/-- the value is of that builtin type -/
def tyV (K : PySem.W.Frag) (T : String) (x : V) (H : Hp) : Prop := match x with
  | .str _ => T = "str"
  | .int _ => T = "int"
  | .ref p => (T = "list" ∧ ∃ xs, SqL K H p xs) ∨ (T = "tuple" ∧ ∃ o, K.lookup p = some o ∧ o.cls = .type "tuple" ∧ o.dict = none) ∨
      (T = "dict" ∧ ((∃ kvs, H p = some (.dK kvs)) ∨ ∃ kvs, H p = some (.dT kvs))) ∨ (T = "set" ∧ ∃ S n, H p = some (.set S n))
  | _ => False
theorem tyV_is {pins : List (Addr × Obj)} {σ : St} {H : Hp} {s : Shared} {T : String} {x : V} {v : Value} (I : Inv X pins σ H s) (r : RelV x v) (ty : tyV X.K T x H) :
    s.TypeIs v T ∧ ∀ a, v = .ref a → ∃ ob, s.heap.get? a = some ob ∧ ob.dict = none := by
  cases x with
  | str z =>
    obtain ⟨t, rfl⟩ := r
    cases (show T = "str" from ty)
    exact ⟨typeIs_str s z t, fun _ e => nomatch e⟩
  | int i =>
    obtain ⟨t, rfl⟩ := r
    cases (show T = "int" from ty)
    exact ⟨typeIs_int s i t, fun _ e => nomatch e⟩
  | ref p =>
    cases r
    rcases ty with ⟨rfl, xs, hq⟩ | ⟨rfl, o, hk, hc, hd⟩ | ⟨rfl, hk⟩ | ⟨rfl, S, n, hk⟩
    · obtain ⟨its, _, pl, _⟩ := I.list hq
      refine ⟨pl.isList.typeIs, fun a e => ?_⟩
      cases e
      obtain ⟨o, n, e, c, hd, _⟩ := pl
      exact ⟨o, e, hd⟩
    · refine ⟨⟨o, I.kIn p o hk, hc⟩, fun a e => ?_⟩
      cases e
      exact ⟨o, I.kIn _ o hk, hd⟩
    · have z : ∃ o, s.heap.get? p = some o ∧ o.ExactDict := by
        rcases hk with ⟨kvs, hk⟩ | ⟨kvs, hk⟩
        · obtain ⟨_, _, _, _, o, _, _, e, ex, _⟩ := I.hok p _ hk
          exact ⟨o, e, ex⟩
        · obtain ⟨_, _, _, _, o, _, _, e, ex, _⟩ := I.hok p _ hk
          exact ⟨o, e, ex⟩
      obtain ⟨o, e, ex⟩ := z
      refine ⟨⟨o, e, ex.1⟩, fun a e2 => ?_⟩
      cases e2
      exact ⟨o, e, ex.2.1⟩
    · obtain ⟨o, _, _, _, e, ex, _⟩ := I.hok p _ hk
      refine ⟨⟨o, e, ex.1⟩, fun a e2 => ?_⟩
      cases e2
      exact ⟨o, e, ex.2.1⟩
  | _ => exact False.elim ty
def tBM (K : PySem.W.Frag) (T : String) (r : V → List V → Hp → VK → Prop) (to : TE) (t : TA) : TE := fun σ H Q => to σ H fun x H1 => tyV K T x H1 ∧ t σ H1 fun xs H2 => r x xs H2 Q
variable {o e : Expr} {es : List Expr} {to : TE} {t : TA} {name : Str} {apos cpos : Pos} {T id : String} {r : V → List V → Hp → VK → Prop}
theorem pe_bm (pa : PlainAttrs T) (slot : Slot T name id) (hty : typeOf (.builtin id) = pure (.type "method_descriptor")) (hm : MtR X id r) (ho : PE X o to) (ha : PA X (e :: es) t)
    (hbase : attributeBase o name X.env (eval o X.env) = eval o X.env := by rfl)
    (hfew : ((backTo cpos (starEach (e :: es) X.env)).all (fun x => !x.1) && (backToKw cpos (keywordEach [] X.env)).all (fun x => x.1.isSome)
      && decide ((e :: es).length + ([] : List Keyword).length + (if ([] : List Keyword).isEmpty then 0 else 1) < 30)) = true := by rfl)
    (hline : (apos.endLine == cpos.line) = true := by rfl) (hs : starEach (e :: es) X.env = (false, eval e X.env) :: starEach es X.env := by rfl) (hplain : (backTo cpos (starEach es X.env)).any (·.1) = false := by rfl) :
    PE X (.Call (.Attribute o name apos) (e :: es) [] cpos) (tBM X.K T r to t) := by
  intro pins s σ H Q I h
  refine wpAny_Call_method_late hbase hfew hline rfl (thn (ho pins s σ H _ I h) fun v s1 ⟨x, H1, I1, r1, ty, q1⟩ => ?_)
  obtain ⟨h1, h2⟩ := tyV_is I1 r1 ty
  refine ⟨T, id, pa, slot, hty, h1, h2, ?_⟩
  have hA := ha cpos pins s1 σ H1 _ I1 q1
  rw [hs] at hA ⊢
  refine Calls.callWith_builtin (by show (false || (backTo cpos (starEach es X.env)).any (·.1)) = false; rw [hplain] <;> rfl) (Calls.evalArgs_plain ?_)
  exact thn hA fun us s2 ⟨vs, H2, I2, r2, q2⟩ => hm pins s2 σ H2 x vs v us Q I2 r1 r2 q2
/- xs.append(e), list.index on a module's tuple .. are MtR facts of 06m -/
end
end L2
namespace L2
open PySem PySem.Spec PyProof.Rows
def MtM (X : Cx) (id : String) (r : V → List V → Hp → VK → Prop) : Prop :=
  ∀ (pins : List (Addr × Obj)) (s : Shared) (σ : St) (H : Hp) (x : V) (xs : List V) (v : Value) (us : List Value) (Q : VK), Inv X pins σ H s → RelV x v → Vals xs us → r x xs H Q →
    wpAny (model X.prog X.w) X.A (call (.builtin id) (v :: us)) (EP X pins σ Q) X.xe s
theorem Vals.one : ∀ {x : V} {us : List Value}, Vals [x] us → ∃ u, us = [u] ∧ RelV x u
  | _, _, .cons r .nil => ⟨_, rfl, r⟩
theorem Vals.zero : ∀ {us : List Value}, Vals [] us → us = []
  | _, .nil => rfl
theorem Vals.eraseIdx : ∀ {xs : List V} {us : List Value} (i : Nat), Vals xs us → Vals (xs.eraseIdx i) (us.eraseIdx i)
  | _, _, _, .nil => .nil
  | _, _, 0, .cons _ t => t
  | _, _, i + 1, .cons r t => .cons r (Vals.eraseIdx i t)
section
variable {X : Cx} {pins : List (Addr × Obj)} {σ : St} {H : Hp} {s : Shared} {l b : Addr} {xs ys zs : List V}
theorem Inv.lset {its its' : List Value} {n : Nat} {f : Array Value → Array Value} {t' : Nat} (I : Inv X pins σ H s) (hH : H l = some (.lst xs))
    (e : s.heap.get? l = some { cls := .type "list", data := .seq its.toArray n }) (hf : f its.toArray = its'.toArray) (hv : Vals ys its') (hz : ys.length ≤ sizeLine) :
    Inv X pins σ (upd H l (.lst ys)) { s with heap := s.heap.update l (Obj.mapSeq f), toks := t' } := by
  have q := PySem.IsL.update e f
  rw [hf] at q
  refine I.write (x := l) (e := l) (by rw [hH]; exact trivial) (.inl rfl) (fun b' u hb hu => (Heap.get?_update_other s.heap (Obj.mapSeq f) (Ne.symm hb)).trans hu) ⟨_, q⟩ ?_
  exact ⟨hz, its', _, hv, q⟩
theorem Inv.lnew {its : List Value} {t' : Nat} (I : Inv X pins σ H s) (hv : Vals ys its) (hz : ys.length ≤ sizeLine) :
    Inv X pins σ (upd H s.heap.objs.size (.lst ys)) { s with heap := s.heap.push { cls := .type "list", data := .seq its.toArray }, toks := t' } :=
  I.laid (fun _ _ q => Heap.get?_push_of_some _ q) (Nat.le_refl _) ⟨hz, its, 0, hv, Heap.get?_push_size _ rfl⟩
theorem Inv.fresh (I : Inv X pins σ H s) : H s.heap.objs.size = none := I.hok.fresh (Nat.le_refl _)
theorem Inv.lstM (I : Inv X pins σ H s) (hH : H l = some (.lst xs)) : xs.length ≤ sizeLine ∧ ∃ (its : List Value) (n : Nat), Vals xs its ∧ xs.length = its.length ∧ s.heap.get? l = some { cls := .type "list", data := .seq its.toArray n } := by
  obtain ⟨z, its, n, r, e⟩ := I.hok l _ hH
  exact ⟨z, its, n, r, r.length, e⟩
end
section
variable {X : Cx}
inductive rAppend_I (x : V) (vs : List V) (H : Hp) (Q : VK) : Prop
  | mk : ∀ l xs y, x = .ref l → vs = [y] → H l = some (.lst xs) → xs.length < sizeLine → Q .non (upd H l (.lst (xs ++ [y]))) → rAppend_I x vs H Q
def rAppend : V → List V → Hp → VK → Prop := fun x vs H Q => rAppend_I x vs H Q
theorem mt_append : MtM X "list.append" rAppend := by
  intro pins s σ H x vs v us Q I rx rv h
  obtain ⟨l, xs, y, rfl, rfl, hH, hz, q⟩ := h
  cases rx
  obtain ⟨u, rfl, ru⟩ := rv.one
  obtain ⟨z, its, n, r, hl, e⟩ := I.lstM hH
  refine call_meets F.slot_list_append ⟨_, e, rfl⟩ F.entry_list_append (F.args_list_append_2 _ _) (PySem.list_append l its.toArray n u (by rw [List.size_toArray]; omega)) ⟨e, ?_⟩
  refine ⟨.non, _, I.lset (its' := its ++ [u]) hH e (by simp) (r.append (.cons ru .nil)) ?_, rfl, q⟩
  rw [List.length_append, List.length_singleton]
  omega
inductive rCat_I (x : V) (y : V) (H : Hp) (Q : VK) : Prop
  | mk : ∀ l b xs zs, x = .ref l → y = .ref b → H l = some (.lst xs) → H b = some (.lst zs) → xs.length + zs.length ≤ sizeLine → (∀ p, H p = none → Q (.ref p) (upd H p (.lst (xs ++ zs)))) → rCat_I x y H Q
def rCat : R2 := fun x y H Q => rCat_I x y H Q
theorem op_cat : OpR X (binaryOp .Add) rCat := by
  intro pins s σ H x y v u Q I rx ry h
  obtain ⟨l, b, xs, zs, rfl, rfl, hH, hB, hz, q⟩ := h
  cases rx
  cases ry
  obtain ⟨z, its, n, r, hl, e⟩ := I.lstM hH
  obtain ⟨z2, its2, n2, r2, hl2, e2⟩ := I.lstM hB
  refine PySem.P.add_list e e2 ?_ (by rw [List.size_toArray, List.size_toArray]; omega)
  have ea : its.toArray ++ its2.toArray = (its ++ its2).toArray := by simp
  rw [ea]
  exact ⟨.ref _, _, I.lnew (t' := s.toks) (r.append r2) (by rw [List.length_append]; omega), rfl, q _ I.fresh⟩
theorem len_rep {α : Type} (xs : List α) (k : Nat) : (List.replicate k xs).flatten.length = k * xs.length := by
  induction k with
  | zero => simp
  | succ k ih => rw [List.replicate_succ, List.flatten_cons, List.length_append, ih, Nat.succ_mul, Nat.add_comm]
end
section
variable {prog : Program} {w : World} {A : Around} {E : Value → Shared → Prop} {s : Shared}
end
section
variable {X : Cx}
end
end L2
namespace L2
open PySem PySem.Spec PyProof.Rows
section
variable {κ : Type} [DecidableEq κ]
def valV (kvs : List (κ × V)) (k : κ) : Option V := (kvs.find? fun kv => decide (kv.1 = k)).map (·.2)
/-- in its place, or at the end -/
def putK (kvs : List (κ × V)) (k : κ) (v : V) : List (κ × V) :=
  if (kvs.any fun kv => decide (kv.1 = k)) = true then kvs.map (fun kv => if kv.1 = k then (kv.1, v) else kv) else kvs ++ [(k, v)]
def dropK (kvs : List (κ × V)) (k : κ) : List (κ × V) := kvs.filter fun kv => decide (kv.1 ≠ k)
theorem valV_pos {p : κ × V} {r : List (κ × V)} {k : κ} (e : p.1 = k) : valV (p :: r) k = some p.2 := by simp [valV, List.find?_cons, e]
theorem valV_neg {p : κ × V} {r : List (κ × V)} {k : κ} (e : ¬ p.1 = k) : valV (p :: r) k = valV r k := by simp [valV, List.find?_cons, e]
theorem valV_any (k : κ) : ∀ kvs : List (κ × V), (kvs.any fun kv => decide (kv.1 = k)) = (valV kvs k).isSome
  | [] => rfl
  | p :: r => by
    rw [List.any_cons]
    by_cases e : p.1 = k
    · simp only [valV_pos e, decide_eq_true e, Bool.true_or, Option.isSome_some]
    · rw [valV_neg e, decide_eq_false e, Bool.false_or]; exact valV_any k r
theorem RelO.isSome_eq {o : Option V} {u : Option Value} (r : RelO o u) : o.isSome = u.isSome := by
  cases o with
  | none => cases u with
    | none => rfl
    | some _ => exact (show False from r).elim
  | some _ => cases u with
    | none => exact (show False from r).elim
    | some _ => rfl
theorem RelO.getD {o : Option V} {u : Option Value} {d : V} {d' : Value} (r : RelO o u) (rd : RelV d d') : RelV (o.getD d) (u.getD d') := by
  cases o with
  | none => cases u with
    | none => exact rd
    | some _ => exact (show False from r).elim
  | some _ => cases u with
    | none => exact (show False from r).elim
    | some _ => exact r
/-- raw tables of the same keys -/
theorem KV.val {kvs : List (κ × V)} {vs : List (κ × Value)} (r : KV kvs vs) (k : κ) : RelO (valV kvs k) (valueAt vs k) := by
  unfold KV at r
  induction r with
  | nil => exact True.intro
  | @cons p q ps qs h t ih =>
    obtain ⟨h1, h2⟩ := h
    by_cases e : p.1 = k
    · have e' : q.1 = k := h1.symm.trans e
      have b : valueAt (q :: qs) k = some q.2 := by simp [valueAt, List.find?_cons, e']
      rw [valV_pos e, b]; exact h2
    · have e' : ¬ q.1 = k := fun z => e (h1.trans z)
      have b : valueAt (q :: qs) k = valueAt qs k := by simp [valueAt, List.find?_cons, e']
      rw [valV_neg e, b]; exact ih
theorem KV.any {kvs : List (κ × V)} {vs : List (κ × Value)} (r : KV kvs vs) (k : κ) : (kvs.any fun kv => decide (kv.1 = k)) = vs.any fun kv => decide (kv.1 = k) := by
  unfold KV at r
  induction r with
  | nil => rfl
  | cons h t ih => rw [List.any_cons, List.any_cons, ih, h.1]
theorem KV.repl {kvs : List (κ × V)} {vs : List (κ × Value)} (r : KV kvs vs) (k : κ) {y : V} {u : Value} (ry : RelV y u) :
    KV (kvs.map fun kv => if kv.1 = k then (kv.1, y) else kv) (vs.map fun kv => if kv.1 = k then (kv.1, u) else kv) := by
  unfold KV at r ⊢
  induction r with
  | nil => exact .nil
  | @cons p q ps qs h t ih =>
    rw [List.map_cons, List.map_cons]
    refine .cons ?_ ih
    obtain ⟨h1, h2⟩ := h
    by_cases e : p.1 = k
    · rw [if_pos e, if_pos (h1.symm.trans e)]; exact ⟨h1, ry⟩
    · rw [if_neg e, if_neg (fun z => e (h1.trans z))]; exact ⟨h1, h2⟩
theorem KV.put {kvs : List (κ × V)} {vs : List (κ × Value)} (r : KV kvs vs) (k : κ) {y : V} {u : Value} (ry : RelV y u) : KV (putK kvs k y) (stored vs k u) := by
  unfold putK stored
  rw [r.any k]
  by_cases e : (vs.any fun kv => decide (kv.1 = k)) = true
  · rw [if_pos e, if_pos e]; exact r.repl k ry
  · rw [if_neg e, if_neg e]; exact Paired.snoc r ⟨rfl, ry⟩
theorem KV.drop {kvs : List (κ × V)} {vs : List (κ × Value)} (r : KV kvs vs) (k : κ) : KV (dropK kvs k) (without vs k) := by
  unfold KV at r ⊢
  unfold dropK without
  induction r with
  | nil => exact .nil
  | @cons p q ps qs h t ih =>
    obtain ⟨h1, h2⟩ := h
    rw [List.filter_cons, List.filter_cons]
    by_cases e : p.1 = k
    · have a : ¬ decide (p.1 ≠ k) = true := by simp [e]
      have b : ¬ decide (q.1 ≠ k) = true := by simp [h1.symm.trans e]
      rw [if_neg a, if_neg b]; exact ih
    · have e' : ¬ q.1 = k := fun z => e (h1.trans z)
      have a : decide (p.1 ≠ k) = true := by simp [e]
      have b : decide (q.1 ≠ k) = true := by simp [e']
      rw [if_pos a, if_pos b]; exact .cons ⟨h1, h2⟩ ih
theorem KV.length {kvs : List (κ × V)} {vs : List (κ × Value)} (r : KV kvs vs) : kvs.length = vs.length := Paired.length r
end
/-- raw entries of a dict with tuple keys -/
abbrev KT (H : Hp) : List (List Key × V) → List (List Key × Addr × Value) → Prop := Paired fun p q => p.1 = q.1 ∧ H q.2.1 = some (.tup (p.1.map kV)) ∧ RelV p.2 q.2.2
theorem KT.val {H : Hp} {kvs : List (List Key × V)} {xs : List (List Key × Addr × Value)} (r : KT H kvs xs) (k : List Key) : RelO (valV kvs k) ((atKey xs k).map (·.2)) := by
  induction r with
  | nil => exact True.intro
  | @cons p q ps qs h t ih =>
    obtain ⟨h1, _, h2⟩ := h
    by_cases e : p.1 = k
    · have e' : q.1 = k := h1.symm.trans e
      have b : atKey (q :: qs) k = some q.2 := by simp [atKey, List.find?_cons, e']
      rw [valV_pos e, b]; exact h2
    · have e' : ¬ q.1 = k := fun z => e (h1.trans z)
      have b : atKey (q :: qs) k = atKey qs k := by simp [atKey, List.find?_cons, e']
      rw [valV_neg e, b]; exact ih
theorem KT.repl {H : Hp} {kvs : List (List Key × V)} {xs : List (List Key × Addr × Value)} (r : KT H kvs xs) (k : List Key) {y : V} {u : Value} (ry : RelV y u) :
    KT H (kvs.map fun kv => if kv.1 = k then (kv.1, y) else kv) (xs.map (putAt k u)) := by
  induction r with
  | nil => exact .nil
  | @cons p q ps qs h t ih =>
    rw [List.map_cons, List.map_cons]
    refine .cons ?_ ih
    obtain ⟨h1, h2, h3⟩ := h
    unfold putAt
    by_cases e : p.1 = k
    · rw [if_pos e, if_pos (h1.symm.trans e)]; exact ⟨h1, h2, ry⟩
    · rw [if_neg e, if_neg (fun z => e (h1.trans z))]; exact ⟨h1, h2, h3⟩
theorem KT.put {H : Hp} {kvs : List (List Key × V)} {xs : List (List Key × Addr × Value)} (r : KT H kvs xs) (k : List Key) {b : Addr} {y : V} {u : Value} (hb : H b = some (.tup (k.map kV))) (ry : RelV y u) :
    KT H (putK kvs k y) (storedH xs k b u) := by
  have e : (kvs.any fun kv => decide (kv.1 = k)) = (atKey xs k).isSome := by
    rw [valV_any, (r.val k).isSome_eq, Option.isSome_map]
  unfold putK storedH
  rw [e]
  by_cases q : (atKey xs k).isSome = true
  · rw [if_pos q, if_pos q]; exact r.repl k ry
  · rw [if_neg q, if_neg q]; exact Paired.snoc r ⟨rfl, hb, ry⟩
theorem KT.keeps {H H' : Hp} {kvs : List (List Key × V)} {xs : List (List Key × Addr × Value)} (r : KT H kvs xs) (ht : ∀ b ys, H b = some (.tup ys) → H' b = some (.tup ys)) : KT H' kvs xs :=
  Paired.mapP r fun _ _ z => ⟨z.1, ht _ _ z.2.1, z.2.2⟩
section
variable {P : Program} {w : World} {H : Hp} {h : Heap} {a : Addr}
end
/-- what the dict at a holds at the key y -/
def DGet (H : Hp) (a : Addr) (y : V) (r : Option V) : Prop :=
  (∃ kvs k, Rd H a (.dK kvs) ∧ y = kV k ∧ r = valV kvs k) ∨ ∃ kvs k b, Rd H a (.dT kvs) ∧ y = .ref b ∧ H b = some (.tup (k.map kV)) ∧ r = valV kvs k
/-- the heap behind a[y] = v -/
def DPut (H : Hp) (a : Addr) (y v : V) (H' : Hp) : Prop :=
  (∃ kvs k, H a = some (.dK kvs) ∧ y = kV k ∧ kvs.length < sizeLine ∧ H' = upd H a (.dK (putK kvs k v))) ∨
  ∃ kvs k b, H a = some (.dT kvs) ∧ y = .ref b ∧ H b = some (.tup (k.map kV)) ∧ kvs.length < sizeLine ∧ H' = upd H a (.dT (putK kvs k v))
theorem DGet.k {H : Hp} {a : Addr} {kvs : List (Key × V)} {k : Key} (e : H a = some (.dK kvs)) : DGet H a (kV k) (valV kvs k) := .inl ⟨kvs, k, .inl e, rfl, rfl⟩
theorem DGet.t {H : Hp} {a b : Addr} {kvs : List (List Key × V)} {k : List Key} (e : H a = some (.dT kvs)) (eb : H b = some (.tup (k.map kV))) : DGet H a (.ref b) (valV kvs k) := .inr ⟨kvs, k, b, .inl e, rfl, eb, rfl⟩
theorem DPut.k {H : Hp} {a : Addr} {kvs : List (Key × V)} {k : Key} {v : V} (e : H a = some (.dK kvs)) (hl : kvs.length < sizeLine) : DPut H a (kV k) v (upd H a (.dK (putK kvs k v))) := .inl ⟨kvs, k, e, rfl, hl, rfl⟩
theorem DPut.t {H : Hp} {a b : Addr} {kvs : List (List Key × V)} {k : List Key} {v : V} (e : H a = some (.dT kvs)) (eb : H b = some (.tup (k.map kV))) (hl : kvs.length < sizeLine) :
    DPut H a (.ref b) v (upd H a (.dT (putK kvs k v))) := .inr ⟨kvs, k, b, e, rfl, eb, hl, rfl⟩
section
variable {X : Cx} {pins : List (Addr × Obj)} {σ : St} {H : Hp} {s : Shared} {a : Addr} {y v : V} {u r : Value} {o : Option V} {A : Around} {E : Value → Shared → Prop}
end
section
variable {X : Cx} {pins : List (Addr × Obj)} {σ : St} {H : Hp} {s : Shared} {a : Addr} {kvs : List (Key × V)} {k : Key} {u : Value} {A : Around} {E : Value → Shared → Prop}
end
section
variable {X : Cx} {o i e value : Expr} {pos pos' tpos : Pos} {td ty tv : TE}
end
section
variable {X : Cx} {pos : Pos}
end
section
variable {X : Cx} {pins : List (Addr × Obj)} {σ : St} {H : Hp} {s : Shared} {a : Addr} {y d : V} {u r : Value} {o : Option V} {A : Around} {E : Value → Shared → Prop}
end
section
variable {X : Cx} {o e f : Expr} {apos cpos : Pos} {td ty tx : TE}
end
section
variable {X : Cx} {pins : List (Addr × Obj)} {σ : St} {H : Hp} {s : Shared} {a : Addr} {kvs : List (Key × V)} {A : Around} {E : Value → Shared → Prop}
end
section
variable {X : Cx} {pins : List (Addr × Obj)} {σ : St} {H : Hp} {s : Shared} {a : Addr} {y : V} {u : Value} {A : Around} {E : Value → Shared → Prop}
end
end L2
namespace Att
open PySem PySem.W PySem.Calls PyProof.Rows
theorem ints_of_wellAll {P : Params} {h : Heap} : ∀ (ns : List Int) (vs : List Value), WellAll P h vs (ns.map WData.int) → IntsAre vs ns := by
  intro ns
  induction ns with
  | nil =>
    intro vs w
    rw [List.map_nil] at w
    cases w
    exact .nil
  | cons n ns ih =>
    intro vs w
    rw [List.map_cons] at w
    cases w with
    | cons a b =>
      cases a
      exact .cons _ _ (ih _ b)
theorem script_of {l : OpenLaw} {n : Nat} (hn : l.most = some n) {P : Params} {h : Heap} {args : List WData} {vals : List Value}
    (hpre : l.row.toRowW.claim.pre args = true) (hwl : WellAll P h vals args) :
    ∃ a vs ns, vals = [Value.ref a] ∧ args = [WData.list (ns.map WData.int)] ∧ h.get? a = some { cls := .type "list", data := .seq vs.toArray } ∧ IntsAre vs ns ∧ ns.length ≤ n := by
  have hsh : WShape.hasAll [] args [.list .int] = true := (pre_splitW hpre).1
  have hc : l.pre.holds [] { args := args } = true := (pre_splitW hpre).2
  obtain ⟨d, r, rfl, h1, h2⟩ := hasAllW_cons hsh
  obtain rfl := hasAllW_nil h2
  obtain ⟨xs, rfl, h3⟩ := hasW_list h1
  obtain ⟨ns, rfl⟩ := items_int h3
  have hlen : ns.length ≤ n := by
    unfold OpenLaw.pre at hc
    have h4 : (WTm.not (.lt (.lit (.int (n : Int))) (.len (.arg 0)))).holds [] { args := [.list (ns.map .int)] } = true := by
      have h4 := (holds_andW hc).1
      rw [hn] at h4
      exact h4
    have h5 := condW_of h4 (w_not (w_lt w_lit (w_len_list (w_arg rfl))))
    rw [List.length_map] at h5
    refine Nat.le_of_not_lt fun q => ?_
    have q' : (n : Int) < ((ns.length : Nat) : Int) := by omega
    first
      | (rw [decide_eq_true q'] at h5; exact absurd h5 (by decide))
      | (simp at h5; omega)
  cases hwl with
  | cons w1 w2 =>
    cases w2
    cases w1 with
    | list ho hall => exact ⟨_, _, ns, rfl, rfl, ho, ints_of_wellAll ns _ hall, hlen⟩
theorem post_true (l : OpenLaw) (args : List WData) : l.row.toRowW.claim.post args (.bool true) args = true :=
  postW_of (r := l.row.toRowW) (X := (true == true))
    (show WShape.has [] (.bool true) .bool = true by first | rfl | decide | simp [WShape.has, WShape.arms, WShape.armsAll])
    (show (WTm.eq .res (.lit (.bool true))).value [] { args := args, res := some (.bool true), after := args } = some (.bool (true == true)) from w_eq_bool (w_res rfl) w_lit) rfl
/-- the same from a codeAny of the CALL (for a layer whose function contracts speak of calls) -/
theorem attach_call {l : OpenLaw} {n : Nat} {q : Program} {loose : List Str} {XP : (Str → Option Value) → Heap → Prop} {YP : World → Heap → Prop} {d : DefRec}
    (hn : l.most = some n) (hdf : d.params.defaults = [])
    (call : ∀ (w : World) (s₀ s₁ : Shared) (mg mb : Str → Option Value) (fa : Addr) (o : Obj) (pm cd doc : Value) (a : Addr) (vs : List Value) (ns : List Int),
      Ground q loose [] XP w s₀ mg mb s₁.heap → YP w s₁.heap →
      s₁.heap.get? fa = some o → o.data = .func (docDef d.name d.params d.body d.scope pm cd doc) → s₁.heap.CodeRec cd d.name → mg d.name = some (.ref fa) →
      s₁.heap.get? a = some { cls := .type "list", data := .seq vs.toArray } → IntsAre vs ns → ns.length ≤ n → s₁.gens = #[] →
      codeAny (model l.prog w) callerA (.call (.ref fa) ⟨[.ref a], []⟩) (fun r s' => r = .ok (.ret (.bool true)) ∧ OldK s₁.heap s'.heap ∧ s'.os = s₁.os ∧ AllBare s'.gens) s₁) :
    WalkO q loose XP YP l.row.toRowW d [] (fun f vs => PySem.call f vs) := by
  intro w s₀ s₁ mg mb G Y fa o pm cd doc dV kV ho hd hcd hD hmg hg args vals as hpre hlay hrd hwl hlo
  obtain rfl : dV = .none := Dflts.none hD hdf
  obtain rfl : kV = .none := Dflts.noKw hD
  obtain ⟨a, vs, ns, rfl, rfl, hobj, hints, hlen⟩ := script_of hn hpre hwl
  refine enter_call (codeAny_mono (call w s₀ s₁ mg mb fa o pm cd doc a vs ns G Y ho (fd_plain hd) hcd hmg hobj hints hlen hg) fun r s' hq => ?_)
  obtain ⟨rfl, h2, h3, h4⟩ := hq
  exact ⟨.inl ⟨.bool true, .bool true, [], rfl, fun _ => rfl, .bool true, post_true l _, fun _ => ⟨List.Pairwise.nil, fun _ hm => (nomatch hm)⟩⟩, h2, h3, h4⟩
section
variable {prog : Program} {w : World} {A : Around} {E : Value → Shared → Prop} {s : Shared} {K : Frag}
end
end Att
namespace L2
open PySem PySem.Spec PyProof.Rows
theorem vals_ints : ∀ {vs : List Value} {ns : List Int}, IntsAre vs ns → Vals (ns.map V.int) vs
  | _, _, .nil => .nil
  | _, _, .cons n t h => .cons ⟨t, rfl⟩ (vals_ints h)
/-- nothing is tracked but the script, known to the object (or it is an object of the module) -/
def Only (H : Hp) : Prop := ∀ b, H b = none ∨ ∃ o xs, H b = some (.frz o (.lst xs))
/-- THE HEAD: the law's promise, at the heap behind the top. F, the promise of the law's def, may use that base is part of the heap (so K.In base, base.Ns mainGlobals mg stand in Mod) -/
theorem law_call {P : Program} {w : World} {K : PySem.W.Frag} {mg mb : Str → Option Value} {CX : CXT} {k : Nat} {fa a : Addr} {fd : FuncData} {x : Str} {sp : Sp} {s₁ : Shared} {vs : List Value} {ns : List Int}
    (KX : K.In s₁.heap) (hns : s₁.heap.Ns mainGlobals mg) (hb : s₁.heap.Ns builtinsNs mb) (hbb : ∀ x : Str, x ≠ "__name__" → mb x = bootBuiltins x) (hlim : s₁.heap.NoLimit) (hg : s₁.gens = #[])
    (ha : s₁.heap.get? a = some { cls := .type "list", data := .seq vs.toArray }) (hi : IntsAre vs ns) (hl : ns.length ≤ sizeLine) (hr : Room k callerA)
    (F : ∀ base : Heap, K.In base → base.Ns mainGlobals mg → FnOk P w K mg base CX k fa fd [x] sp) (hbind : ∀ (s : Shared) (u : Value), BindsTo s fd ⟨[u], []⟩ [(x, u)])
    (hsp : ∀ H : Hp, Only H → SqL K H a (ns.map V.int) → sp [.ref a] H (fun v _ => v = .bl true) fun _ _ _ => False)
    (hCX : ∀ H e s', CX [] H s₁ (fun _ _ _ => False) e s' → False) :
    codeAny (model P w) callerA (.call (.ref fa) ⟨[.ref a], []⟩) (fun r s' => r = .ok (.ret (.bool true)) ∧ OldK s₁.heap s'.heap ∧ s'.os = s₁.os ∧ AllBare s'.gens) s₁ := by
  have rv := vals_ints hi
  have lenV := hi.length
  -- from an abstract heap in which nothing but the script may be tracked
  have core : ∀ H : Hp, Only H → SqL K H a (ns.map V.int) → HOk P w H s₁.heap → (∀ b, H b ≠ none → b = a) → (H a ≠ none → K.lookup a = none) →
      codeAny (model P w) callerA (.call (.ref fa) ⟨[.ref a], []⟩) (fun r s' => r = .ok (.ret (.bool true)) ∧ OldK s₁.heap s'.heap ∧ s'.os = s₁.os ∧ AllBare s'.gens) s₁ := by
    intro H hO hS hok hA hK
    have base_of : ∀ {b : Addr} {o : Obj}, s₁.heap.get? b = some o → H b = none → (hidT s₁.heap H).get? b = some o := fun e n => hidT_get e n
    have noA : ∀ {b : Addr} {o : Obj} {es : Array DictEntry} {ep : Nat}, s₁.heap.get? b = some o → o.data = .dict es ep → H b = none := fun {b o es ep} e d => by
      cases q : H b with
      | none => rfl
      | some u =>
        have e' : b = a := hA b (by rw [q]; simp)
        subst e'
        rw [ha] at e; cases e
        have d' : Data.seq vs.toArray _ = Data.dict es ep := d
        cases d'
    have nsK : ∀ {b : Addr} {m : Str → Option Value}, s₁.heap.Ns b m → (hidT s₁.heap H).Ns b m := fun {b m} ⟨o, es, ep, e, d, r⟩ => ⟨o, es, ep, base_of e (noA e d), d, r⟩
    have hKb : K.In (hidT s₁.heap H) := fun b o e => base_of (KX b o e) (by
      cases q : H b with
      | none => rfl
      | some u =>
        have e' : b = a := hA b (by rw [q]; simp)
        subst e'
        rw [hK (by rw [q]; simp)] at e; cases e)
    have hM : Mod K mg (hidT s₁.heap H) := ⟨hKb, nsK hns, ⟨mb, nsK hb, hbb⟩, let ⟨mc, h1, h2⟩ := hlim; ⟨mc, nsK h1, h2⟩⟩
    have e0 : Env0 P w K mg (hidT s₁.heap H) callerA [] s₁ H := ⟨rfl, hM, fun b o e => of_hidT e, Nat.le_of_eq (hidT_size _ _), trivial, fun b hb => absurd (show b ∈ ([] : List Addr) from hb) (by simp), hok, .of_eq hg⟩
    refine codeAny_mono ((F _ hKb (nsK hns)).run callerA [] s₁ H ⟨[.ref a], []⟩ [.ref a] [.ref a] _ _ hr e0 (hbind s₁ (.ref a)) (.cons rfl .nil) (hsp H hO hS)) fun r s' h => ?_
    cases r with
    | error e => exact (hCX H e s' h).elim
    | ok fl =>
      cases fl with
      | next => exact False.elim h
      | brk => exact False.elim h
      | cont => exact False.elim h
      | ret u =>
        obtain ⟨v, H', os, bare, un, hok', r', q⟩ := h
        have q' : v = .bl true := q
        subst q'
        obtain rfl : u = Value.bool true := r'
        refine ⟨rfl, OldK.of_keep fun b o e => ?_, os, bare⟩
        cases q : H b with
        | none => exact un.keep b o e q (by intro z; exact absurd (show b ∈ ([] : List Addr) from z) (by simp)) (by simp)
        | some u =>
          rcases hO b with z | ⟨ob, xs, z⟩
          · rw [q] at z; cases z
          · have z2 := un.frzs b ob _ z
            obtain ⟨e1, _⟩ := hok b _ z
            obtain ⟨e2, _⟩ := hok' b _ z2
            rw [e] at e1; cases e1
            exact e2
  cases hk : K.lookup a with
  | some o =>
    -- the script is one of the module's own objects
    have e := KX a o hk
    rw [ha] at e
    cases e
    refine core (fun _ => none) (fun _ => .inl rfl) (.inr ⟨_, vs.toArray, _, hk, rfl, rfl, rfl, by rw [List.size_toArray, lenV]; exact hl, by simpa using rv⟩) (fun b u z => by have z' : (none : Option HO) = some u := z; cases z') (fun b z => absurd rfl z) fun z => absurd rfl z
  | none =>
    refine core (fun b => if b = a then some (.frz { cls := .type "list", data := .seq vs.toArray } (.lst (ns.map V.int))) else none) (fun b => ?_) (.inl (.inr ⟨{ cls := .type "list", data := .seq vs.toArray }, if_pos rfl⟩)) (fun b u z => ?_) (fun b z => ?_) fun _ => hk
    · by_cases hb : b = a
      · exact .inr ⟨_, _, if_pos hb⟩
      · exact .inl (if_neg hb)
    · by_cases hb : b = a
      · have z' := (if_pos hb).symm.trans z
        cases z'
        subst hb
        exact ⟨ha, by rw [List.length_map]; exact hl, vs, _, rv, ha⟩
      · have z' := (if_neg hb).symm.trans z
        cases z'
    · by_cases hb : b = a
      · exact hb
      · exact absurd (if_neg hb) z
end L2
namespace L2
open PySem PySem.Spec PyProof.Rows
end L2
namespace L2
open PySem PySem.Spec PyProof.Rows
/-- the j-th statement of a class's body -/
def inClass (s : Stmt) (j : Nat) : Stmt := match s with
  | .ClassDef _ _ _ body _ _ _ _ _ _ _ => body.getD j (.Pass ⟨0, 0, 0, 0⟩)
  | _ => .Pass ⟨0, 0, 0, 0⟩
def defArgs (s : Stmt) : Arguments := match s with
  | .FunctionDef _ a _ _ _ _ _ _ _ _ => a
  | _ => { posonlyargs := [], args := [], vararg := none, kwonlyargs := [], kw_defaults := [], kwarg := none, defaults := [] }
def defBody (s : Stmt) : List Stmt := match s with
  | .FunctionDef _ _ b _ _ _ _ _ _ _ => b
  | _ => []
def defScope (s : Stmt) : Scope := match s with
  | .FunctionDef _ _ _ _ _ _ sc _ _ _ => sc
  | _ => { kind := .function, names := [], isGenerator := false, isCoroutine := false }
abbrev CX0 : CXT := fun _ _ _ _ _ _ => False
abbrev E0 : XK := fun _ _ _ => False
theorem pass0 {X : Cx} : Passes CX0 X E0 := fun _ _ _ _ _ _ _ h => h.elim
structure Fun (K : PySem.W.Frag) (x qual : Str) (st : Stmt) (f : Addr) (fd : FuncData) : Prop where
  ex : ∃ (oc : Value) (od : Option Addr) (kV doc pm : Value) (an : Option Addr) (cdv ct : Value) (osl : Array (Option Value)),
    fd = PySem.W.fnOf x qual (defArgs st) (defBody st) (defScope st) .none kV doc pm an cdv ct ∧ K.lookup f = some ⟨oc, od, .func fd, osl⟩ ∧ PySem.W.codeIn K cdv qual = true
  kp : PySem.W.keepIn K (.ref f) = true
section
variable {P : Program} {w : World} {K : PySem.W.Frag} {mg : Str → Option Value} {base : Heap}
/-- THE RULE for a def: its body as a term of rules, and the reading of that term -/
theorem Fun.ok {x qual : Str} {st : Stmt} {f : Addr} {fd : FuncData} {N ps : List Str} {k : Nat} {sp : Sp} (F : Fun K x qual st f fd) (S : FnScope N ps (defScope st)) (len : ∀ vs H Q E, sp vs H Q E → vs.length = ps.length)
    (hbody : ∀ (cdv : Value) (A : Around) (outer : List Env) (s : Shared) (H : Hp) (vs : List V) (Q : VK) (E : XK), Room k (A.deeper (envOfC qual (defScope st) s.heap.objs.size f cdv)) → sp vs H Q E →
      ∃ t, PSs (cxOf CX0 P w K mg base N qual (defScope st) f cdv A outer s H E).nox (defBody st) t ∧ t { nx := fun _ H' => Q .non H', rt := Q } (start N vs) H) : FnOk P w K mg base CX0 (k + 1) f fd ps sp := by
  obtain ⟨oc, od, kV, doc, pm, an, cdv, ct, osl, rfl, lk, hcd⟩ := F.ex
  refine fn_of lk hcd S len fun A outer s H vs Q E hr hsp => ?_
  obtain ⟨t, h, q⟩ := hbody cdv A outer s H vs Q E hr hsp
  exact ⟨t, h.nox, q⟩
/-- how its arguments bind (no defaults): h is «fun _ _ _ _ _ _ us hl => match us, hl with | [_, _], _ => rfl», one _ a parameter -/
theorem Fun.binds {x qual : Str} {st : Stmt} {f : Addr} {fd : FuncData} {ps : List Str} (F : Fun K x qual st f fd)
    (h : ∀ (kV doc pm : Value) (an : Option Addr) (cdv ct : Value) (us : List Value), us.length = ps.length → bindArgs (PySem.W.fnOf x qual (defArgs st) (defBody st) (defScope st) .none kV doc pm an cdv ct) ⟨us, []⟩ = pure (ps.zip us)) : Binds K fd ps [] := by
  obtain ⟨oc, od, kV, doc, pm, an, cdv, ct, osl, rfl, lk, hcd⟩ := F.ex
  exact .all (h kV doc pm an cdv ct)
theorem fun_mk {x qual : Str} {st : Stmt} {f : Addr} {oc : Value} {od an : Option Addr} {osl : Array (Option Value)} {kV doc pm cdv ct : Value} (l : K.lookup f = some ⟨oc, od, .func (PySem.W.fnOf x qual (defArgs st) (defBody st) (defScope st) .none kV doc pm an cdv ct), osl⟩)
    (c : PySem.W.codeIn K cdv qual = true) (k : PySem.W.keepIn K (.ref f) = true) : Fun K x qual st f (PySem.W.fnOf x qual (defArgs st) (defBody st) (defScope st) .none kV doc pm an cdv ct) := ⟨⟨oc, od, kV, doc, pm, an, cdv, ct, osl, rfl, l, c⟩, k⟩
end
theorem small1000 {n : Nat} (h : n ≤ 1000) : n < sizeLine := Nat.lt_of_le_of_lt h (by decide)
section
variable {X : Cx}
theorem pv (i : Nat) {x : Str} {pos : Pos} (hN : X.N[i]? = some x := by rfl) (hv : Vis X.env.scope x := by first | exact Or.inl rfl | exact Or.inr (Or.inl rfl) | exact Or.inr (Or.inr rfl)) (hd : (x == ("__debug__" : Str)) = false := by decide)
    (hcd : (x == ("__classdict__" : Str)) = false := by decide) : PE X (.Name x pos) (tVar i) := pe_var hN hv hd hcd
end
theorem iteF {A B : Prop} (h : B) : if false = true then A else B := by
  rw [if_neg Bool.false_ne_true]
  exact h
theorem iteT {A B : Prop} (h : A) : if true = true then A else B := by
  rw [if_pos rfl]
  exact h
theorem ite2 {c A B : Prop} [Decidable c] (h1 : c → A) (h2 : ¬ c → B) : if c then A else B := by
  by_cases h : c
  · rw [if_pos h]
    exact h1 h
  · rw [if_neg h]
    exact h2 h
/-- all that was tracked is as it was -/
def Same (H H' : Hp) : Prop := ∀ b o, H b = some o → H' b = some o
theorem Same.refl (H : Hp) : Same H H := fun _ _ h => h
theorem Same.trans {H H1 H2 : Hp} (a : Same H H1) (b : Same H1 H2) : Same H H2 := fun c o h => b c o (a c o h)
theorem Same.free {H H' : Hp} (e : Same H H') {l : Addr} (h : H' l = Option.none) : H l = Option.none := by
  cases q : H l with
  | none => rfl
  | some o =>
    rw [e l o q] at h
    cases h
theorem Same.seq {K : PySem.W.Frag} {H H' : Hp} {a : Addr} {xs : List V} (e : Same H H') (h : SqL K H a xs) : SqL K H' a xs := by
  rcases h with (h | ⟨o, h⟩) | h
  · exact .inl (.inl (e _ _ h))
  · exact .inl (.inr ⟨o, e _ _ h⟩)
  · exact .inr h
end L2
namespace L2
open PySem PySem.Spec PyProof.Rows
section
variable {X : Cx}
end
section
variable {κ : Type} [DecidableEq κ]
end
end L2
set_option Elab.async false
set_option linter.all false
set_option maxRecDepth 100000
set_option maxHeartbeats 4000000
namespace L2
open PySem PySem.Spec PyProof.Rows
/-- the signs of a text, one by one -/
def Its (x : Str) : It := ⟨fun i _ => i < x.cps.size, fun i H y H' => H' = H ∧ ∃ c, x.cps[i]? = some c ∧ y = .str ⟨#[c]⟩, fun i _ => i = x.cps.size⟩
theorem turn_strG {P : Program} {w : World} {K : PySem.W.Frag} {tg : Expr} {x : Str} {t : Tok} {it : Addr} {ty : String}
    (hn : ["enumerate", "zip", "dict_itemiterator", "dict_reverseitemiterator", "odict_iterator", "itertools.zip_longest", "itertools.pairwise"].contains ty = false)
    (W : ∀ A' : Around, A'.handled = none → Walks P w A' it [it] [it] x.cps.size (SignAt x) (fun i h => h.IsStrIter it ty x t i))
    (hself : ∀ (A : Around) (i : Nat) (s : Shared) (Q : Value → Shared → Prop) (E : Value → Shared → Prop), s.heap.IsStrIter it ty x t i → Q (.ref it) s → wpAny (model P w) A (pyIter (.ref it)) Q E s) :
    Turn P w K tg (Its x) [it] it (fun i h => h.IsStrIter it ty x t i) where
  mem := List.mem_singleton.mpr rfl
  obj := fun i h st b hb => by
    cases List.mem_singleton.mp hb
    obtain ⟨o, q, _, d⟩ := st
    exact ⟨o, q, fun v z => by rw [d] at z; cases z⟩
  keep := fun i h h' st k => by
    obtain ⟨o, q, r⟩ := st
    exact ⟨o, k it (List.mem_singleton.mpr rfl) o q, r⟩
  item := by
    intro X e1 e2 e3 hc i pins s σ H E I hf st hg
    subst e1 e2 e3
    have F := hf it (List.mem_singleton.mpr rfl)
    refine (W X.A (I.ok.hd hc)).item i s _ _ hg st fun v h' tk hv st' kk => ?_
    obtain ⟨c, u, hx, rfl⟩ := hv
    have J : Inv X pins σ H { s with heap := h', toks := tk } := I.turned (fun b o hb q => kk b o (fun z => hb (List.mem_singleton.mp z)) q) F.1 F.2.1 F.2.2.2.1 F.2.2.2.2.1 F.2.2.2.2.2
    obtain ⟨o, q, cc, d⟩ := id st'
    exact ⟨_, rfl, go_of (s := { s with heap := h', toks := tk }) q cc d hn ⟨.str ⟨#[c]⟩, H, J, ⟨u, rfl⟩, ⟨rfl, c, hx, rfl⟩, st', fun b hb => (hf b hb).1⟩⟩
  done := by
    intro X e1 e2 e3 hc i pins s σ H E I hf st hg
    subst e1 e2 e3
    have F := hf it (List.mem_singleton.mpr rfl)
    have g : i = x.cps.size := hg
    subst g
    exact (W X.A (I.ok.hd hc)).done s _ _ st fun h' tk kk => ⟨rfl, I.turned (fun b o hb q => kk b o (fun z => hb (List.mem_singleton.mp z)) q) F.1 F.2.1 F.2.2.2.1 F.2.2.2.2.1 F.2.2.2.2.2⟩
  self := hself
inductive iStr_I (R : (It → Hp → Prop)) (x : V) (H1 : Hp) : Prop
  | mk : ∀ y, x = .str y → R (Its y) H1 → iStr_I R x H1
def iStr (te : TE) : TI := fun σ H R => te σ H fun x H1 => iStr_I R x H1
theorem pi_str {X : Cx} {tg l : Expr} {tl : TE} (hl : PE X l tl) : PI X tg l (iStr tl) := by
  intro pins s σ H R I h
  refine thn (hl pins s σ H _ I h) fun v s1 ⟨x, H1, I1, r1, y, e, q⟩ => ?_
  subst e
  obtain ⟨t, rfl⟩ := r1
  have fp : ∀ b ∈ [s1.heap.objs.size], FpOk X pins H1 b := fun b hb => by
    cases List.mem_singleton.mp hb
    exact I1.fpOk (Nat.le_refl _) (I1.hok.fresh (Nat.le_refl _))
  cases ha : y.cps.all (· < 128)
  · refine wpAny_pyIter_wide ha ?_
    exact ⟨s1.heap.objs.size, [s1.heap.objs.size], _, _, H1, rfl, I1.kept (t' := s1.toks) fun b o z => Heap.get?_push_of_some _ z,
      turn_strG (x := y) (t := t) (ty := "str_iterator") (by decide) (fun A' hA => Walks.strWide hA _ y t) (fun _ _ _ _ _ st hq => wpAny_pyIter_striter_wide st hq), ⟨_, Heap.get?_push_size _ rfl, rfl, rfl⟩, fp, q⟩
  · refine wpAny_pyIter_ascii ha ?_
    exact ⟨s1.heap.objs.size, [s1.heap.objs.size], _, _, H1, rfl, I1.kept (t' := s1.toks) fun b o z => Heap.get?_push_of_some _ z,
      turn_strG (x := y) (t := t) (ty := "str_ascii_iterator") (by decide) (fun A' hA => Walks.strAscii hA _ y t) (fun _ _ _ _ _ st hq => wpAny_pyIter_striter_ascii st hq), ⟨_, Heap.get?_push_size _ rfl, rfl, rfl⟩, fp, q⟩
/-- for c in text -/
theorem for_str {x : Str} {g : TG} {tb : TS} {D : Ends} {σ : St} {H : Hp} (Pv : Nat → St → Hp → Prop) (h0 : Pv 0 σ H)
    (hs : ∀ i c σ H, x.cps[i]? = some c → Pv i σ H → g (.str ⟨#[c]⟩) σ H fun σ2 H2 => tb { D with nx := Pv (i + 1), ct := Pv (i + 1), bk := D.nx } σ2 H2) (hd : ∀ σ H, Pv x.cps.size σ H → D.nx σ H) :
    tFor_I g tb D σ (Its x) H := by
  refine ⟨fun i m σ H => m = x.cps.size - i ∧ i ≤ x.cps.size ∧ Pv i σ H, ⟨x.cps.size, by simp, Nat.zero_le _, h0⟩, ?_⟩
  rintro i m σ H ⟨rfl, hi, p⟩
  by_cases hlt : i < x.cps.size
  · refine .inr ⟨hlt, Pv (i + 1), fun σ' H' p' => ⟨x.cps.size - (i + 1), by omega, rfl, hlt, p'⟩, ?_⟩
    rintro v H' ⟨rfl, c, hc, rfl⟩
    exact hs i c σ _ hc p
  · have e : i = x.cps.size := by omega
    subst e
    exact .inl ⟨rfl, hd σ H p⟩
/-- the cells that a comprehension takes from around it -/
def closOf (cells : List (Str × Addr)) : List (Str × NameKind) → List (Str × Addr) → List (Str × Addr)
  | [], cs => cs
  | (n, k) :: r, cs => closOf cells r (if k == .free then (match cells.lookup n with | some c => (n, c) :: cs | none => cs) else cs)
theorem closureFor_of {scope : Scope} {env : Env} (h : ∀ y ∈ scope.names, y.2 = .free → ∃ c, env.cells.lookup y.1 = some c) : closureFor scope env = pure (closOf env.cells scope.names []) := by
  unfold closureFor
  generalize ([] : List (Str × Addr)) = cs
  revert cs
  generalize scope.names = names at h
  induction names with
  | nil => intro cs; rfl
  | cons p r ih =>
    obtain ⟨n, k⟩ := p
    intro cs
    have ih' := ih fun y hy => h y (List.mem_cons_of_mem _ hy)
    by_cases hk : k = .free
    · subst hk
      obtain ⟨c, hc⟩ := h (n, .free) List.mem_cons_self rfl
      have e : cellOf env n = pure c := by unfold cellOf; rw [hc] <;> rfl
      dsimp only at hc ⊢
      rw [List.forIn_cons]
      simp only [beq_self_eq_true, if_true, closOf, hc]
      rw [e]
      exact ih' _
    · have hb : (k == NameKind.free) = false := by simpa using hk
      dsimp only
      rw [List.forIn_cons]
      simp only [hb, Bool.false_eq_true, if_false, closOf]
      exact ih' _
theorem closOf_sub {cells : List (Str × Addr)} : ∀ (names : List (Str × NameKind)) (cs : List (Str × Addr)) {y : Str} {c : Addr}, (closOf cells names cs).lookup y = some c → cells.lookup y = some c ∨ cs.lookup y = some c
  | [], cs, y, c, h => .inr h
  | (n, k) :: r, cs, y, c, h => by
    rcases closOf_sub r _ (show (closOf cells r _).lookup y = some c from h) with h1 | h1
    · exact .inl h1
    · split at h1
      · split at h1
        · rename_i c' hc'
          rw [List.lookup_cons] at h1
          split at h1
          · rename_i e
            cases h1
            exact .inl (by rw [eq_of_beq e]; exact hc')
          · exact .inr h1
        · exact .inr h1
      · exact .inr h1
theorem closOf_keep {cells : List (Str × Addr)} : ∀ (names : List (Str × NameKind)) (cs : List (Str × Addr)) {y : Str}, (∃ c, cs.lookup y = some c) → ∃ c, (closOf cells names cs).lookup y = some c
  | [], cs, y, h => h
  | (n, k) :: r, cs, y, h => by
    refine closOf_keep r _ ?_
    split
    · split
      · rw [List.lookup_cons]
        split
        · exact ⟨_, rfl⟩
        · exact h
      · exact h
    · exact h
theorem closOf_has {cells : List (Str × Addr)} : ∀ (names : List (Str × NameKind)) (cs : List (Str × Addr)) {y : Str}, (y, NameKind.free) ∈ names → (∃ c, cells.lookup y = some c) → ∃ c, (closOf cells names cs).lookup y = some c
  | (n, k) :: r, cs, y, hy, hc => by
    rcases List.mem_cons.mp hy with e | hy
    · cases e
      refine closOf_keep r _ ?_
      obtain ⟨c, hc⟩ := hc
      simp only [beq_self_eq_true, if_true, hc]
      exact ⟨c, by simp [List.lookup_cons]⟩
    · exact closOf_has r _ hy hc
def relF (env : Env) (p : Str × NameKind) : Str × NameKind := if (p.2 == NameKind.free && env.scope.kind == .function && env.kindOf p.1 == some .cell) = true then (p.1, NameKind.cell) else (p.1, p.2)
theorem relF_free {env : Env} : ∀ {names : List (Str × NameKind)} {x : Str}, names.lookup x = some .free → (names.map (relF env)).lookup x = some .cell ∨ (names.map (relF env)).lookup x = some .free
  | [], _, h => by simp at h
  | (n, k) :: r, x, h => by
    have ih := @relF_free env r x
    rw [List.map_cons]
    unfold relF
    cases hx : x == n with
    | true =>
      rw [List.lookup_cons, hx] at h
      cases h
      by_cases hc : (NameKind.free == NameKind.free && env.scope.kind == .function && env.kindOf n == some .cell) = true
      · left; rw [if_pos hc, List.lookup_cons, hx]
      · right; rw [if_neg hc, List.lookup_cons, hx]
    | false =>
      rw [List.lookup_cons, hx] at h
      by_cases hc : (k == NameKind.free && env.scope.kind == .function && env.kindOf n == some .cell) = true
      · rw [if_pos hc, List.lookup_cons, hx]; exact ih h
      · rw [if_neg hc, List.lookup_cons, hx]; exact ih h
theorem lookup_relabel_free {scope : Scope} {env : Env} {x : Str} (h : scope.names.lookup x = some .free) : (relabel scope env).names.lookup x = some .cell ∨ (relabel scope env).names.lookup x = some .free :=
  relF_free (env := env) h
theorem relabel_kind {scope : Scope} {env : Env} (nc : ∀ y ∈ scope.names, y.2 ≠ .cell) {y : Str} (h : (relabel scope env).names.lookup y = some .cell ∨ (relabel scope env).names.lookup y = some .free) : (y, NameKind.free) ∈ scope.names := by
  have key : ∀ k, (relabel scope env).names.lookup y = some k → k = .cell ∨ k = .free → (y, NameKind.free) ∈ scope.names := fun k e hk => by
    have m := PySem.mem_of_lookup e
    obtain ⟨⟨n, k'⟩, hm, q⟩ := List.mem_map.mp m
    dsimp only at q
    split at q
    · rename_i c
      have c1 : (k' == NameKind.free) = true := by
        simp only [Bool.and_eq_true] at c
        exact c.1.1
      have c2 : k' = .free := eq_of_beq c1
      cases q
      rw [c2] at hm
      exact hm
    · cases q
      rcases hk with z | z
      · exact absurd z (nc _ hm)
      · rw [z] at hm; exact hm
  rcases h with h | h
  · exact key _ h (.inl rfl)
  · exact key _ h (.inr rfl)
/-- what of a comprehension's scope is asked: sc the scope around it, N the names around it, x its own name, fr the slots and names that it takes from around -/
structure CompScope (sc scope : Scope) (N : List Str) (x : Str) (fr : List (Nat × Str)) : Prop where
  kind : scope.kind = .function
  loc : scope.names.lookup x = some .local
  names : ∀ y ∈ scope.names, y.2 = .local → scope.names.lookup y.1 = some .local
  nocell : ∀ y ∈ scope.names, y.2 ≠ .cell
  free : ∀ y ∈ scope.names, y.2 = .free → sc.names.lookup y.1 = some .cell ∨ sc.names.lookup y.1 = some .free
  frk : ∀ p ∈ fr, N[p.1]? = some p.2 ∧ scope.names.lookup p.2 = some .free
  nd : (x :: fr.map (·.2)).Nodup
/-- the context of a comprehension's block -/
def cxComp (X : Cx) (scope : Scope) (C : Addr) (N : List Str) (s : Shared) (H : Hp) (fp : List Addr) : Cx where
  prog := X.prog
  w := X.w
  K := X.K
  mg := X.mg
  base := X.base
  A := X.A
  N := N
  s₀ := s
  H₀ := H
  env := compEnvC scope (closOf X.env.cells scope.names []) C X.env
  outer := X.stack
  stack := X.stack
  ex := fp
  fn := fun _ => false
  calm := X.calm
  pn := []
  xe := fun _ _ => False
def frV (σ : St) (fr : List (Nat × Str)) : St := fr.map fun p => (σ[p.1]?).join
/-- the tests of a comprehension -/
def PTs (X : Cx) (ifs : List Expr) (t : TT) : Prop :=
  ∀ (pins : List (Addr × Obj)) (s : Shared) (σ : St) (H : Hp) (Q : Bool → Hp → Prop), Inv X pins σ H s → t σ H Q →
    wpAny (model X.prog X.w) X.A (forIn ifs true fun c r => if r = true then do let ok ← isTrue c X.env (eval c X.env); pure (ForInStep.yield ok) else pure (ForInStep.yield r)) (TP X pins σ Q) X.xe s
def tTrue : TT := fun _ H Q => Q true H
theorem tTrue_go {σ : St} {H : Hp} {Q : Bool → Hp → Prop} (h : Q true H) : tTrue σ H Q := h
theorem pts_nil {X : Cx} : PTs X [] tTrue := fun _ _ _ H _ I h => wpAny_tests_nil ⟨H, I, h⟩
theorem pts_one {X : Cx} {c : Expr} {t : TT} (hc : PT X c t) : PTs X [c] t := fun pins s σ H Q I h => wpAny_tests_one (hc pins s σ H Q I h)
/-- [elt for x in iter if ..]: the list D grows by the turn; W its invariant with a measure -/
def compGoal (J : It) (fr : List (Nat × Str)) (tt : TT) (te : TE) (σ : St) (H1 : Hp) (Q : VK) : Prop := ∀ D, H1 D = none →
  ∃ W : Nat → Nat → List V → Hp → Prop, (∃ m, W 0 m [] (upd H1 D (.lst []))) ∧ ∀ i m ys H2, W i m ys H2 → H2 D = some (.lst ys) ∧
    ((J.stop i H2 ∧ Q (.ref D) H2) ∨ (J.go i H2 ∧ ∀ v H3, J.yld i H2 v H3 → tt (some v :: frV σ fr) H3 fun b H4 =>
      if b = true then te (some v :: frV σ fr) H4 fun y H5 => H5 D = some (.lst ys) ∧ ys.length < sizeLine ∧ ∃ m', m' < m ∧ W (i + 1) m' (ys ++ [y]) (upd H5 D (.lst (ys ++ [y])))
      else ∃ m', m' < m ∧ W (i + 1) m' ys H4))
def tComp (wi : TI) (fr : List (Nat × Str)) (tt : TT) (te : TE) : TE := fun σ H Q => wi σ H fun J H1 => compGoal J fr tt te σ H1 Q
/-- what is known of the block's own namespace from outside -/
structure FreshC (X : Cx) (pins : List (Addr × Obj)) (H : Hp) (C : Addr) : Prop where
  hn : H C = none
  hL : C ≠ X.env.locals
  h1 : C ∈ X.ex ∨ X.s₀.heap.objs.size ≤ C
  h2 : ∀ x c, X.env.cells.lookup x = some c → c ≠ C
  h3 : ∀ p ∈ X.pn ++ pins, p.1 ≠ C
theorem comp_run {X : Cx} {x : Str} {px : Pos} {iter elt : Expr} {ifs : List Expr} {scope sc : Scope} {pos pos' : Pos} {N : List Str} {fr : List (Nat × Str)} {wi : TI} {tt : TT} {te : TE}
    {pins : List (Addr × Obj)} {s : Shared} {σ : St} {H : Hp} {Q : VK} {Q' : Value → Shared → Prop} {use : Option (Value → Sem Unit)}
    (S : CompScope sc scope N x fr) (hsc : X.env.scope = sc) (hN : X.N = N) (hc : X.calm = true) (hi : PI X (.Name x px) iter wi)
    (ht : ∀ (C : Addr) (s : Shared) (H : Hp) (fp : List Addr), PTs (cxComp X scope C (x :: fr.map (·.2)) s H fp) ifs tt)
    (he : ∀ (C : Addr) (s : Shared) (H : Hp) (fp : List Addr), PE (cxComp X scope C (x :: fr.map (·.2)) s H fp) elt te)
    (hs : ∀ z, foldedSetIterable iter X.env z = pure z) (I : Inv X pins σ H s) (h : tComp wi fr tt te σ H Q)
    (hfin : ∀ (D C : Addr) (H' : Hp) (s' : Shared) (m : Str → Option Value), Inv X pins σ H' s' → s'.heap.Ns C m → FreshC X pins H' C → Q (.ref D) H' → compPost (model X.prog X.w) X.A X.xe use Q' (.ref D) C (.ok .next) s') :
    wpAny (model X.prog X.w) X.A (comprehension (.ListComp elt [⟨.Name x px, iter, ifs, 0⟩] scope pos) scope X.env pos' (newList []) false (eval iter X.env) use) Q' X.xe s := by
  have kin : ∀ y, scope.names.lookup y = some .free → X.env.kindOf y = some .cell ∨ X.env.kindOf y = some .free := fun y hy => by
    show X.env.scope.names.lookup y = _ ∨ X.env.scope.names.lookup y = _
    rw [hsc]
    exact S.free (y, .free) (PySem.mem_of_lookup hy) rfl
  have kin' : ∀ y ∈ scope.names, y.2 = .free → X.env.kindOf y.1 = some .cell ∨ X.env.kindOf y.1 = some .free := fun y hy hf => by
    show X.env.scope.names.lookup y.1 = _ ∨ X.env.scope.names.lookup y.1 = _
    rw [hsc]
    exact S.free y hy hf
  have hkc : ∀ y ∈ scope.names, y.2 = .free → ∃ c, X.env.cells.lookup y.1 = some c := fun y hy hf => I.ok.has y.1 (kin' y hy hf)
  refine wpAny_comprehension_free (use := use) rfl hs (closureFor_of hkc) S.kind S.names ?_
  refine thn (hi pins s σ H _ I h) fun xv s1 h1 => thn h1 fun itv s2 h2 => ?_
  obtain ⟨it, fp, tn, J, H2, rfl, I2, T, st2, f2, q2⟩ := h2
  refine wpAny_newObj_type (wpAny_newFunctionEnv S.nocell (by intro y hy; simp at hy) (fun h₁ hns₁ hsb₁ => ?_) S.kind)
  dsimp only at hns₁ hsb₁ ⊢
  have I3 : Inv X pins σ (upd H2 s2.heap.objs.size (.lst [])) { s2 with heap := s2.heap.push { cls := .type "list", data := .seq ([] : List Value).toArray } } :=
    I2.lnew (its := []) (t' := s2.toks) .nil (Nat.zero_le _)
  unfold compGoal at q2
  obtain ⟨W, ⟨m0, w0⟩, turn⟩ := q2 s2.heap.objs.size (I2.hok.fresh (Nat.le_refl _))
  generalize hG : s2.heap.push { cls := .type "list", dict := none, data := .seq ([] : List Value).toArray } = G at hns₁ hsb₁ I3 ⊢
  generalize hD : s2.heap.objs.size = D at I3 turn w0 ⊢
  generalize hH3 : upd H2 D (.lst []) = H3 at I3 w0
  have neG : ∀ b o, G.get? b = some o → b ≠ G.objs.size := fun b o e => Nat.ne_of_lt (Heap.lt_size e)
  have old : ∀ b o, G.get? b = some o → h₁.get? b = some o := fun b o e => (hsb₁.2 b (neG b o e)).trans (Heap.get?_push_of_some _ e)
  have up2 : ∀ b o, s2.heap.get? b = some o → G.get? b = some o := fun b o e => by rw [← hG]; exact Heap.get?_push_of_some _ e
  have fpG : ∀ b ∈ fp, b < G.objs.size := fun b hb => by
    obtain ⟨o, e, _⟩ := T.obj _ _ st2 b hb
    exact Heap.lt_size (up2 b o e)
  have sub : ∀ {y : Str} {c : Addr}, (closOf X.env.cells scope.names []).lookup y = some c → X.env.cells.lookup y = some c := fun {y c} e => by
    rcases closOf_sub _ _ e with z | z
    · exact z
    · simp at z
  have stat0 : ∀ b ∈ fp, (b ∈ X.ex ∨ X.s₀.heap.objs.size ≤ b) ∧ b ≠ X.env.locals ∧ (∀ x c, X.env.cells.lookup x = some c → c ≠ b) ∧ ∀ p ∈ X.pn ++ pins, p.1 ≠ b := fun b hb =>
    ⟨(f2 b hb).2.2.2.1, (f2 b hb).2.1, (f2 b hb).2.2.2.2.1, (f2 b hb).2.2.2.2.2⟩
  have hCL : G.objs.size ≠ X.env.locals := Nat.ne_of_gt I3.lt
  have hC1 : X.s₀.heap.objs.size ≤ G.objs.size := I3.sz
  have hC2 : ∀ x c, X.env.cells.lookup x = some c → c ≠ G.objs.size := fun x c e => by
    obtain ⟨v, o, ho, _⟩ := I3.cell x c e
    exact neG c o ho
  have hC3 : ∀ p ∈ X.pn ++ pins, p.1 ≠ G.objs.size := fun p hp => neG p.1 p.2 (I3.pin p hp).1
  have okB : (cxComp X scope G.objs.size (x :: fr.map (·.2)) { s2 with heap := G } H3 fp).Ok := by
    refine ⟨I2.ok.mod, S.kind, I2.ok.glob, I2.ok.blt, Nat.le_refl _, fun y z c e1 e2 => I2.ok.inj y z c (sub e1) (sub e2), fun y hy => ?_, fun y c z => Bool.noConfusion z, I2.ok.hd, I2.ok.frames, .inl rfl, fun b hb => ⟨Nat.ne_of_lt (fpG b hb), fun y c e => (stat0 b hb).2.2.1 y c (sub e)⟩,
      fun b o e => I3.bs b o e, Nat.le_trans I2.ok.bsz I3.sz, fun b o e hb => ?_, fun b hb hf => ?_, I3.stack, I3.stkFree⟩
    · have m := relabel_kind S.nocell hy
      exact closOf_has _ _ m (hkc _ m rfl)
    · rcases (stat0 b hb).1 with z | z
      · exact I2.ok.noex b o e z
      · exact absurd (Nat.lt_of_lt_of_le (Heap.lt_size e) (Nat.le_trans I2.ok.bsz z)) (Nat.lt_irrefl _)
    · rcases List.mem_cons.mp (I2.stkSub b hf) with z | z
      · exact (stat0 b hb).2.1 z
      · exact (f2 b hb).2.2.1 z
  have I4 : ∀ tk : Nat, Inv (cxComp X scope G.objs.size (x :: fr.map (·.2)) { s2 with heap := G } H3 fp) [] (none :: frV σ fr) H3 { s2 with heap := h₁, toks := tk } := fun tk => by
    refine ⟨okB, rfl, I2.bare, Un.kept old, ⟨_, hns₁, fun i y v e1 e2 _ => ?_⟩, fun y c e => ?_, I3.hok.fresh (Nat.le_refl _), fun y c e => I3.freeC y c (sub e), fun p hp => absurd (show p ∈ ([] : List (Addr × Obj)) from hp) (by simp), I3.hok.kept old, ?_⟩
    · cases i with
      | zero => simp at e2
      | succ i =>
        have e1' : (fr.map (·.2))[i]? = some y := e1
        have e2' : (fr.map fun p => (σ[p.1]?).join)[i]? = some (some v) := e2
        rw [List.getElem?_map] at e1' e2'
        cases hp : fr[i]? with
        | none => rw [hp] at e1'; cases e1'
        | some p =>
          rw [hp] at e1' e2'
          have ey : p.2 = y := Option.some.inj e1'
          have ev : (σ[p.1]?).join = some v := Option.some.inj e2'
          have ev' : σ[p.1]? = some (some v) := by
            cases q : σ[p.1]? with
            | none => rw [q] at ev; cases ev
            | some o => rw [q] at ev; simp only [Option.join] at ev; exact congrArg some ev
          have hf := S.frk p (List.mem_of_getElem? hp)
          rw [ey] at hf
          have hk := kin y hf.2
          obtain ⟨m, _, hl⟩ := I2.loc
          obtain ⟨u, ru, l⟩ := hl p.1 y v (by rw [hN]; exact hf.1) ev' (.inr hk)
          refine ⟨u, ru, .inr ⟨lookup_relabel_free hf.2, ?_⟩⟩
          rcases l with ⟨k, _⟩ | ⟨_, c, e, z⟩
          · rcases hk with hk | hk
            · rw [hk] at k; cases k
            · rw [hk] at k; cases k
          · obtain ⟨c', ec⟩ := closOf_has (cells := X.env.cells) scope.names [] (PySem.mem_of_lookup hf.2) ⟨c, e⟩
            have := sub ec
            rw [e] at this
            cases this
            obtain ⟨o, ho, hd⟩ := z
            exact ⟨c, ec, o, old c o (up2 c o ho), hd⟩
    · obtain ⟨v, o, ho, hd⟩ := I2.cell y c (sub e)
      exact ⟨v, o, old c o (up2 c o ho), hd⟩
    · show (none :: frV σ fr).length = (x :: fr.map (·.2)).length
      simp [frV]
  have locX : (cxComp X scope G.objs.size (x :: fr.map (·.2)) { s2 with heap := G } H3 fp).env.scope.names.lookup x = some .local := lookup_relabel_local S.loc
  generalize hX : cxComp X scope G.objs.size (x :: fr.map (·.2)) { s2 with heap := G } H3 fp = Y at I4 locX
  have eP : Y.prog = X.prog := by rw [← hX]; rfl
  have eW : Y.w = X.w := by rw [← hX]; rfl
  have eK : Y.K = X.K := by rw [← hX]; rfl
  have eA : Y.A = X.A := by rw [← hX]; rfl
  have eC : Y.calm = true := by rw [← hX]; exact hc
  have eE : Y.env = compEnvC scope (closOf X.env.cells scope.names []) G.objs.size X.env := by rw [← hX]; rfl
  have eN : Y.N = x :: fr.map (·.2) := by rw [← hX]; rfl
  have eX : Y.xe = fun _ _ => False := by rw [← hX]; rfl
  have eB : ∀ {σ' : St} {H' : Hp} {s' : Shared} {pins' : List (Addr × Obj)}, Inv Y pins' σ' H' s' → s'.os = s2.os ∧ Un (frs X.stack) fp H3 H' G s'.heap := fun {σ' H' s' pins'} J => by
    subst hX
    exact ⟨J.os, J.base⟩
  have hT := ht G.objs.size { s2 with heap := G } H3 fp
  have hE := he G.objs.size { s2 with heap := G } H3 fp
  rw [hX] at hT hE
  have fpY : ∀ {H' : Hp}, (∀ b ∈ fp, H' b = none) → ∀ b ∈ fp, FpOk Y [] H' b := fun {H'} hn b hb => by
    subst hX
    refine ⟨hn b hb, Nat.ne_of_lt (fpG b hb), okB.exfs b hb, .inl hb, fun y c e => (okB.exf b hb).2 y c e, fun p hp => absurd (show p ∈ ([] : List (Addr × Obj)) from hp) (by simp)⟩
  have loop : ∀ s3 : Shared, (∃ tk, s3 = { s2 with heap := h₁, toks := tk }) →
      codeAny (model X.prog X.w) X.A (.compLoop (.ListComp elt [⟨.Name x px, iter, ifs, 0⟩] scope pos) 0 (.ref it) (.ref D) Y.env)
        (compPost (model X.prog X.w) X.A X.xe use Q' (.ref D) G.objs.size) s3 := by
    rintro s3 ⟨tk, rfl⟩
    refine codeAny_compLoop_tests (fun n s' => ∃ i ys o H', Inv Y [] (o :: frV σ fr) H' s' ∧ tn i s'.heap ∧ (∀ b ∈ fp, H' b = none) ∧ W i n ys H') ?_ m0
      ⟨0, [], none, H3, I4 tk, T.keep _ _ _ st2 fun b hb o e => old b o (up2 b o e), fun b hb => ?_, w0⟩
    · rintro n s' ⟨i, ys, o, H', J', st', fr', w'⟩
      obtain ⟨hD', hgo⟩ := turn i n ys H' w'
      rcases hgo with ⟨stop, qn⟩ | ⟨go, step⟩
      · have Q1 := T.done Y eP eW eK eC i [] s' (o :: frV σ fr) H' (notedBy (model X.prog X.w) X.A Y.env fun e s'' => compPost (model X.prog X.w) X.A X.xe use Q' (.ref D) G.objs.size (.error e) s'') J' (fpY fr') st' stop
        rw [eA] at Q1
        refine thn Q1 fun r s4 ⟨hr, J4⟩ => ?_
        subst hr
        obtain ⟨m, hn, _⟩ := J4.loc
        rw [eE] at hn
        obtain ⟨os4, u4⟩ := eB J4
        have free4 : H' G.objs.size = none := by have := J4.free; rw [eE] at this; exact this
        have hok4 : HOk X.prog X.w H' s4.heap := by have := J4.hok; rw [eP, eW] at this; exact this
        exact hfin D G.objs.size H' s4 m (I3.call' (ch := fp) (s' := s4) os4 u4 hok4 J4.bare stat0) hn ⟨free4, hCL, .inr hC1, hC2, hC3⟩ qn
      · have Q1 := T.item Y eP eW eK eC i [] s' (o :: frV σ fr) H' (notedBy (model X.prog X.w) X.A Y.env fun e s'' => compPost (model X.prog X.w) X.A X.xe use Q' (.ref D) G.objs.size (.error e) s'') J' (fpY fr') st' go
        rw [eA] at Q1
        refine thn Q1 fun r s4 ⟨u, hr, h4⟩ => ?_
        subst hr
        show wpAny _ _ (letOwnedTupleGo (.Name x px) (.ref it) u >>= fun _ => assign (.Name x px) Y.env u) _ _ s4
        refine wpAny_bind (thn h4 fun _ s5 ⟨v, H5, J5, r5, y5, st5, fr5⟩ => ?_)
        have J5' := J5.pinned (fpY fr5) (T.obj _ _ st5)
        have G5 := pg_name (X := Y) (i := 0) (x := x) (pos := px) (by rw [eN]; exact S.nd) (by rw [eN]; rfl) (.inl locX) (.inr locX) ([] ++ pinsAt fp s5.heap) s5 (o :: frV σ fr) H5 v u (fun σ6 H6 => σ6 = some v :: frV σ fr ∧ H6 = H5) J5' r5 ⟨rfl, rfl⟩
        rw [eP, eW, eA, eX] at G5
        refine wpAny_mono G5 (fun _ s6 ⟨σ6, H6, J6, e6, e6'⟩ => ?_) fun _ _ z => z.elim
        subst e6 e6'
        have T6 := hT _ s6 _ _ _ J6 (step v _ y5)
        rw [eP, eW, eA, eX] at T6
        have again : ∀ {s7 : Shared} {H7 : Hp} {zs : List V}, Inv Y ([] ++ pinsAt fp s5.heap) (some v :: frV σ fr) H7 s7 → (∃ m', m' < n ∧ W (i + 1) m' zs H7) → ∃ m, m < n ∧ ∃ i ys o H', Inv Y [] (o :: frV σ fr) H' s7 ∧ tn i s7.heap ∧ (∀ b ∈ fp, H' b = none) ∧ W i m ys H' := fun {s7 H7 zs} J7 ⟨m', hm, w7⟩ => by
          refine ⟨m', hm, i + 1, zs, some v, H7, J7.unpinned, T.keep _ _ _ st5 fun b hb o e => (J7.pin (b, o) (List.mem_append_right _ (List.mem_append_right _ (mem_pinsAt hb e)))).1, fun b hb => ?_, w7⟩
          obtain ⟨o, e, d⟩ := T.obj _ _ st5 b hb
          exact (J7.pin (b, o) (List.mem_append_right _ (List.mem_append_right _ (mem_pinsAt hb e)))).2.1
        refine wpAny_mono T6 (fun ok s7 ⟨H7, J7, q7⟩ => ?_) fun _ _ z => z.elim
        cases ok with
        | false => exact again J7 q7
        | true =>
          have E7 := hE _ s7 _ _ _ J7 q7
          rw [eP, eW, eA, eX] at E7
          show wpAny _ _ (eval elt Y.env) _ _ s7
          refine wpAny_mono E7 (fun u8 s8 ⟨y8, H8, J8, r8, hD8, hz8, w8⟩ => ?_) fun _ _ z => z.elim
          have A8 := mt_append (X := Y) _ s8 _ H8 (.ref D) [y8] (.ref D) [u8] (fun z H9 => H9 = upd H8 D (.lst (ys ++ [y8]))) J8 rfl (.cons r8 .nil) ⟨D, ys, y8, rfl, rfl, hD8, hz8, rfl⟩
          rw [eP, eW, eA, eX] at A8
          refine wpAny_mono A8 (fun _ s9 ⟨z9, H9, J9, _, e9⟩ => ?_) fun _ _ z => z.elim
          subst e9
          exact again J9 w8
    · rw [← hH3]
      have hbD : b ≠ D := by
        rw [← hD]
        obtain ⟨o, e, _⟩ := T.obj _ _ st2 b hb
        exact Nat.ne_of_lt (Heap.lt_size e)
      rw [upd_ne hbD]
      exact (f2 b hb).1
  rw [eE] at loop
  exact codeAny_compStart_list (loop _ ⟨_, rfl⟩) (T.self _ 0 _ _ _ (T.keep _ _ _ st2 fun b hb o e => old b o (up2 b o e)) (loop _ ⟨_, rfl⟩))
theorem pe_comp {X : Cx} {x : Str} {px : Pos} {iter elt : Expr} {ifs : List Expr} {scope sc : Scope} {pos : Pos} {N : List Str} {fr : List (Nat × Str)} {wi : TI} {tt : TT} {te : TE}
    (S : CompScope sc scope N x fr) (hsc : X.env.scope = sc) (hN : X.N = N) (hc : X.calm = true) (hi : PI X (.Name x px) iter wi)
    (ht : ∀ (C : Addr) (s : Shared) (H : Hp) (fp : List Addr), PTs (cxComp X scope C (x :: fr.map (·.2)) s H fp) ifs tt)
    (he : ∀ (C : Addr) (s : Shared) (H : Hp) (fp : List Addr), PE (cxComp X scope C (x :: fr.map (·.2)) s H fp) elt te)
    (hs : ∀ z, foldedSetIterable iter X.env z = pure z := by intro _; rfl) :
    PE X (.ListComp elt [⟨.Name x px, iter, ifs, 0⟩] scope pos) (tComp wi fr tt te) := by
  intro pins s σ H Q I h
  rw [eval_ListComp]
  refine comp_run (use := none) S hsc hN hc hi ht he hs I h fun D C H' s' m J hn fc q => ?_
  exact ⟨m, hn, fun h' hs' => ⟨.ref D, H', J.turned (t' := s'.toks) (fun b o hb e => (hs'.2 b hb).trans e) fc.hn fc.hL fc.h1 fc.h2 fc.h3, rfl, q⟩⟩
/-- name = [.. for ..], the name a plain local -/
theorem ps_setComp {X : Cx} {x y : Str} {px py spos : Pos} {i : Nat} {iter elt : Expr} {ifs : List Expr} {scope sc : Scope} {pos : Pos} {N : List Str} {fr : List (Nat × Str)} {wi : TI} {tt : TT} {te : TE}
    (S : CompScope sc scope N x fr) (hsc : X.env.scope = sc) (hN : X.N = N) (hc : X.calm = true) (hnd : X.N.Nodup) (hiy : X.N[i]? = some y) (hy : X.env.scope.names.lookup y = some .local) (hi : PI X (.Name x px) iter wi)
    (ht : ∀ (C : Addr) (s : Shared) (H : Hp) (fp : List Addr), PTs (cxComp X scope C (x :: fr.map (·.2)) s H fp) ifs tt)
    (he : ∀ (C : Addr) (s : Shared) (H : Hp) (fp : List Addr), PE (cxComp X scope C (x :: fr.map (·.2)) s H fp) elt te)
    (hs : ∀ z, foldedSetIterable iter X.env z = pure z := by intro _; rfl)
    (hsw : swapsWith (.ListComp elt [⟨.Name x px, iter, ifs, 0⟩] scope pos) (some (.Name y py)) spos.line X.env = pure true := by rfl) :
    PS X (.Assign [.Name y py] (.ListComp elt [⟨.Name x px, iter, ifs, 0⟩] scope pos) spos) (tAsg (tComp wi fr tt te) (gName i)) := by
  intro pins s σ H D0 I h
  rw [exec_Assign_Name_used _ _ _ _ hsw]
  refine wpAny_bind (wpAny_standAt (wpAny_bind ?_))
  show wpAny _ X.A (do let _ ← comprehension (.ListComp elt [⟨.Name x px, iter, ifs, 0⟩] scope pos) scope X.env _ (newList []) false (eval iter X.env) (some (assign (.Name y py) X.env))) _ _ s
  refine wpAny_bind (thn (comp_run (use := some (assign (.Name y py) X.env)) (Q' := fun _ s' => SP X pins D0 .next s') S hsc hN hc hi ht he hs I h fun D C H' s' m J hn fc q => ?_) fun _ s' hq => wpAny_pure (wpAny_pure hq))
  show wpAny _ _ (assign (.Name y py) X.env (.ref D)) _ _ s'
  refine wpAny_assign_Name (store_ok2 J hnd hiy (.inl hy) (v := .ref D) rfl (fun s5 J5 hs5 => ?_) (.inr hy))
  obtain ⟨a, sb, ha⟩ := hs5
  have hCa : C ≠ a := by
    rcases ha with z | z
    · rw [z]; exact fc.hL
    · exact Ne.symm (fc.h2 _ _ z)
  refine ⟨m, hn.sameBut sb hCa, fun h' hs' => ⟨_, H', J5.turned (t' := s5.toks) (fun b o hb e => (hs'.2 b hb).trans e) fc.hn fc.hL fc.h1 fc.h2 fc.h3, q⟩⟩
theorem all_range {bs : List Bool} : (List.range bs.length).all (fun i => bs.getD i true) = bs.all id := by
  rw [Bool.eq_iff_iff, List.all_eq_true, List.all_eq_true]
  constructor
  · intro h b hb
    obtain ⟨i, hi, e⟩ := List.mem_iff_getElem.mp hb
    have q := h i (List.mem_range.mpr hi)
    simp only [List.getD_eq_getElem?_getD, List.getElem?_eq_getElem hi, Option.getD_some] at q
    rw [← e]; exact q
  · intro h i hi
    have hi' := List.mem_range.mp hi
    simp only [List.getD_eq_getElem?_getD, List.getElem?_eq_getElem hi', Option.getD_some]
    exact h _ (List.getElem_mem hi')
theorem call_all {X : Cx} (hc : X.calm = true) : CallR X (.builtin "all") (fun xs H Q => ∃ (p : Addr) (bs : List Bool), xs = [.ref p] ∧ SqL X.K H p (bs.map V.bl) ∧ Q (.bl (bs.all id)) H) := by
  intro pins s σ H xs us Q I r h
  obtain ⟨p, bs, rfl, hq, q⟩ := h
  obtain ⟨u, rfl, rx⟩ := vals1 r
  cases rx
  obtain ⟨its, rv, pl, hz⟩ := I.list hq
  have hlen := rv.length
  rw [List.length_map] at hlen
  have hpl : p < s.heap.objs.size := by obtain ⟨o, e, _⟩ := pl.isList; exact Heap.lt_size e
  refine call_all_walk (wpAny_pyIter_list pl.isList ?_)
  refine ⟨s.heap.objs.size, _, [s.heap.objs.size], its.toArray.size, _, _, fun i => bs.getD i true, rfl, Walks.list (A := X.A.in1) (I.ok.hd hc) s.heap.objs.size p (Nat.ne_of_lt hpl) its.toArray, ⟨⟨_, Heap.get?_push_size _ rfl, rfl, rfl⟩, pl.isList.push _⟩, ?_, ?_⟩
  · intro i v s' Q' E' hv hq'
    have hv' : its[i]? = some v := by simpa using hv
    have hi : i < its.length := (List.getElem?_eq_some_iff.mp hv').1
    have hb : (bs.map V.bl)[i]? = some (V.bl (bs.getD i true)) := by
      rw [List.getElem?_map, List.getElem?_eq_getElem (by omega)]
      simp [List.getD_eq_getElem?_getD, List.getElem?_eq_getElem (show i < bs.length by omega)]
    obtain ⟨u, e1, e2⟩ := rv.get hb
    rw [hv'] at e1
    cases e1
    cases e2
    exact wpAny_truthy_bool hq'
  · intro h' tk hk
    have hsz : its.toArray.size = bs.length := by rw [List.size_toArray]; exact hlen.symm
    rw [hsz, all_range]
    exact ⟨.bl (bs.all id), H, I.kept (t' := tk) fun b o e => hk b o (fun z => absurd (Heap.lt_size e) (by rw [List.mem_singleton.mp z]; exact Nat.lt_irrefl _)) (Heap.get?_push_of_some _ e), rfl, q⟩
def clsV : V → Option Value
  | .ty n => some (.type n)
  | .ref a => some (.ref a)
  | _ => none
theorem call_isinst {X : Cx} : CallR X (.builtin "isinstance") (fun xs H Q => ∃ x c cv t b, xs = [x, c] ∧ clsV c = some cv ∧ TyOf X.K H x t ∧ PySem.W.kitOne X.K t cv = some b ∧ Q (.bl b) H) := by
  intro pins s σ H xs us Q I r h
  obtain ⟨x, c, cv, t, b, rfl, hcv, ty, hk, q⟩ := h
  obtain ⟨u, u', rfl, rx, rc⟩ := vals2 r
  have e : u' = cv := by
    cases c with
    | ty n => cases hcv; exact rc
    | ref a => cases hcv; exact rc
    | _ => cases hcv
  subst e
  exact isinst_ok I rx ty hk fun tk => ⟨.bl b, H, I.tok tk, rfl, q⟩
theorem strsAre_of {xs : List Str} : ∀ {us : List Value}, Vals (xs.map V.str) us → StrsAre us xs := by
  induction xs with
  | nil => intro us r; rw [List.map_nil] at r; cases r; exact .nil
  | cons y ys ih =>
    intro us r
    rw [List.map_cons] at r
    cases r with
    | cons r1 r2 =>
      obtain ⟨t, e⟩ := r1
      subst e
      exact .cons y t (ih r2)
inductive rJoin_I (K : PySem.W.Frag) (x : V) (xs : List V) (H : Hp) (Q : VK) : Prop
  | mk : ∀ (sep : Str) (p : Addr) (ys : List Str), x = .str sep → xs = [.ref p] → SqL K H p (ys.map V.str) → (ys.map (·.length)).sum + ys.length * sep.length ≤ 16777216 → Q (.str (Txt.join sep ys)) H → rJoin_I K x xs H Q
def rJoin (K : PySem.W.Frag) : V → List V → Hp → VK → Prop := fun x xs H Q => rJoin_I K x xs H Q
theorem mt_join {X : Cx} : MtR X "str.join" (rJoin X.K) := by
  intro pins s σ H x xs v us Q I rx rv h
  obtain ⟨sep, p, ys, rfl, rfl, hq, hz, q⟩ := h
  obtain ⟨t, rfl⟩ := rx
  obtain ⟨u, rfl, ru⟩ := vals1 rv
  cases ru
  obtain ⟨its, r, pl, _⟩ := I.list hq
  exact join_list pl.isList (by have := strsAre_of r; simpa using this) hz fun t' k => ⟨.str (Txt.join sep ys), H, I.tok k, ⟨t', rfl⟩, q⟩
inductive rSlS_I (x : V) (lo : Option Int) (hi : Option Int) (H : Hp) (Q : VK) : Prop
  | mk : ∀ y, x = .str y → y.length ≤ sizeLine → Q (.str (Txt.slice y lo hi)) H → rSlS_I x lo hi H Q
def rSlS : V → Option Int → Option Int → Hp → VK → Prop := fun x lo hi H Q => rSlS_I x lo hi H Q
theorem sl_str {X : Cx} : SlR X rSlS := by
  intro pins s σ H x v vl vu lo hi sl Q I rx hs pl pu h
  obtain ⟨y, rfl, hz, q⟩ := h
  obtain ⟨t, rfl⟩ := rx
  refine ⟨"str", _, F.slot_str_getitem.lookup, typeIs_str _ _ _, ?_⟩
  have fin : ∀ lo hi, Q (.str (Txt.slice y lo hi)) H → (Txt.slice y lo hi).length ≤ sizeLine ∧ ∀ t' k, EP X pins σ Q (.str (Txt.slice y lo hi) t') { s with toks := k } := fun lo hi q =>
    ⟨Nat.le_trans (Txt.slice_le y _ _) hz, fun t' k => ⟨.str _, H, I.tok k, ⟨t', rfl⟩, q⟩⟩
  cases pl with
  | none =>
    cases pu with
    | none => exact wpAny_getItem_str_slice (l := none) (u := none) (st := none) hs rfl (post_val_or_str (fin _ _ q))
    | int j tj => exact wpAny_getItem_str_slice (l := none) (u := some (j, tj)) (st := none) hs rfl (post_val_or_str (fin _ _ q))
  | int i ti =>
    cases pu with
    | none => exact wpAny_getItem_str_slice (l := some (i, ti)) (u := none) (st := none) hs rfl (post_val_or_str (fin _ _ q))
    | int j tj => exact wpAny_getItem_str_slice (l := some (i, ti)) (u := some (j, tj)) (st := none) hs rfl (post_val_or_str (fin _ _ q))
mutual
inductive RD (K : PySem.W.Frag) (H : Hp) : V → PyData → Prop
  | non : RD K H .non .none
  | bl (b : Bool) : RD K H (.bl b) (.bool b)
  | int (i : Int) : RD K H (.int i) (.int i)
  | str (x : Str) : RD K H (.str x) (.str x)
  | lst {a : Addr} {xs : List V} {ds : List PyData} : SqL K H a xs → RDs K H xs ds → RD K H (.ref a) (.list ds)
  | tup {a : Addr} {xs : List V} {ds : List PyData} : SqT K H a xs → RDs K H xs ds → RD K H (.ref a) (.tuple ds)
inductive RDs (K : PySem.W.Frag) (H : Hp) : List V → List PyData → Prop
  | nil : RDs K H [] []
  | cons {x : V} {xs : List V} {d : PyData} {ds : List PyData} : RD K H x d → RDs K H xs ds → RDs K H (x :: xs) (d :: ds)
end
mutual
theorem RD.reads {X : Cx} {pins : List (Addr × Obj)} {σ : St} {H : Hp} {s : Shared} (I : Inv X pins σ H s) : ∀ {x : V} {d : PyData} {u : Value}, RD X.K H x d → RelV x u → ∃ as, Reads s.heap u d as
  | _, _, _, .non, r => by cases (show _ = Value.none from r); exact ⟨_, .none⟩
  | _, _, _, .bl b, r => by cases (show _ = Value.bool b from r); exact ⟨_, .bool b⟩
  | _, _, _, .int i, r => by obtain ⟨t, e⟩ := r; subst e; exact ⟨_, .int i t⟩
  | _, _, _, .str x, r => by obtain ⟨t, e⟩ := r; subst e; exact ⟨_, .str x t⟩
  | _, _, _, .lst (a := a) hq hs, r => by
    cases (show _ = Value.ref a from r)
    obtain ⟨its, rv, pl, _⟩ := I.list hq
    obtain ⟨as, ra⟩ := RDs.reads I hs rv
    obtain ⟨o, e, c, n, d⟩ := pl.isList
    exact ⟨_, .list e c d (by simpa using ra)⟩
  | _, _, _, .tup (a := a) hq hs, r => by
    cases (show _ = Value.ref a from r)
    obtain ⟨its, rv, pl, _⟩ := I.tuple hq
    obtain ⟨as, ra⟩ := RDs.reads I hs rv
    obtain ⟨o, e, c, n, d⟩ := pl
    exact ⟨_, .tuple e c d (by simpa using ra)⟩
theorem RDs.reads {X : Cx} {pins : List (Addr × Obj)} {σ : St} {H : Hp} {s : Shared} (I : Inv X pins σ H s) : ∀ {xs : List V} {ds : List PyData} {us : List Value}, RDs X.K H xs ds → Vals xs us → ∃ as, ReadsAll s.heap us ds as
  | _, _, _, .nil, r => by cases r; exact ⟨_, .nil⟩
  | _, _, _, .cons h1 h2, r => by
    cases r with
    | cons r1 r2 =>
      obtain ⟨as, a1⟩ := RD.reads I h1 r1
      obtain ⟨bs, a2⟩ := RDs.reads I h2 r2
      exact ⟨_, .cons a1 a2⟩
end
inductive rEqD_I (K : PySem.W.Frag) (x : V) (y : V) (H : Hp) (Q : VK) : Prop
  | mk : ∀ d e, RD K H x d → RD K H y e → SeqAt.shaped d = true → SeqAt.shaped e = true → Q (.bl (PyData.eqv d e)) H → rEqD_I K x y H Q
def rEqD (K : PySem.W.Frag) : R2 := fun x y H Q => rEqD_I K x y H Q
theorem op_eqD {X : Cx} (hu : X.A.units + 64 < cLine) : OpR X (compareOp .Eq) (rEqD X.K) := by
  intro pins s σ H x y v u Q I rx ry h
  obtain ⟨d, e, hd, he, sd, se, q⟩ := h
  obtain ⟨as, ra⟩ := hd.reads I rx
  obtain ⟨bs, rb⟩ := he.reads I ry
  exact eq_dataH ra rb sd se hu ⟨.bl _, H, I, rfl, q⟩
theorem us_s {n : Nat} {P : List Value → Prop} (h : ∀ a us, us.length = n → P (a :: us)) : ∀ us : List Value, us.length = n + 1 → P us := fun us e => by
  cases us with
  | nil => exact absurd e (Nat.succ_ne_zero n).symm
  | cons a us => exact h a us (Nat.succ.inj e)
theorem us_0 {P : List Value → Prop} (h : P []) : ∀ us : List Value, us.length = 0 → P us := fun us e => by rw [List.eq_nil_of_length_eq_zero e]; exact h
theorem us_1 {P : List Value → Prop} (h : ∀ a, P [a]) : ∀ us : List Value, us.length = 1 → P us := us_s fun a => us_0 (P := fun us => P (a :: us)) (h a)
theorem us_2 {P : List Value → Prop} (h : ∀ a b, P [a, b]) : ∀ us : List Value, us.length = 2 → P us := us_s fun a => us_1 (P := fun us => P (a :: us)) (fun b => h a b)
theorem us_3 {P : List Value → Prop} (h : ∀ a b c, P [a, b, c]) : ∀ us : List Value, us.length = 3 → P us := us_s fun a => us_2 (P := fun us => P (a :: us)) (fun b c => h a b c)
theorem us_4 {P : List Value → Prop} (h : ∀ a b c d, P [a, b, c, d]) : ∀ us : List Value, us.length = 4 → P us := us_s fun a => us_3 (P := fun us => P (a :: us)) (fun b c d => h a b c d)
theorem us_5 {P : List Value → Prop} (h : ∀ a b c d e, P [a, b, c, d, e]) : ∀ us : List Value, us.length = 5 → P us := us_s fun a => us_4 (P := fun us => P (a :: us)) (fun b c d e => h a b c d e)
theorem us_6 {P : List Value → Prop} (h : ∀ a b c d e f, P [a, b, c, d, e, f]) : ∀ us : List Value, us.length = 6 → P us := us_s fun a => us_5 (P := fun us => P (a :: us)) (fun b c d e f => h a b c d e f)
end L2
set_option Elab.async false
set_option linter.all false
set_option maxRecDepth 100000
set_option maxHeartbeats 4000000
namespace L2
open PySem PySem.Spec PyProof.Rows
theorem atI_some {α : Type} {xs : List α} {i : Int} (h0 : 0 ≤ i) (h1 : i < (xs.length : Int)) : ∃ v, atI xs i = some v ∧ v ∈ xs ∧ xs[i.toNat]? = some v := by
  have hn : i.toNat < xs.length := by omega
  refine ⟨xs[i.toNat], ?_, List.getElem_mem hn, List.getElem?_eq_getElem hn⟩
  have e : ((i.toNat : Nat) : Int) = i := by omega
  have q := atI_nat (xs := xs) (j := i.toNat) (List.getElem?_eq_getElem hn)
  rw [e] at q
  exact q
theorem atI_mod {α : Type} {xs : List α} (i : Int) (h : 0 < xs.length) : ∃ v, atI xs (i % (xs.length : Int)) = some v ∧ v ∈ xs ∧ xs[(i % (xs.length : Int)).toNat]? = some v :=
  atI_some (Int.emod_nonneg _ (by omega)) (Int.emod_lt_of_pos _ (by omega))
theorem mem_map_int {ns : List Int} {v : V} (h : v ∈ ns.map V.int) : ∃ z, v = .int z ∧ z ∈ ns := by
  obtain ⟨z, hz, e⟩ := List.mem_map.mp h
  exact ⟨z, e.symm, hz⟩
theorem Same.upd_new {H : Hp} {p : Addr} {o : HO} (h : H p = none) : Same H (upd H p o) := fun b u e => by rw [upd_ne (ne_of_none e h)]; exact e
theorem Same.upd_of {H H' : Hp} {p : Addr} {o : HO} (s : Same H H') (h : H p = none) : Same H (upd H' p o) := fun b u e => by rw [upd_ne (ne_of_none e h)]; exact s b u e
theorem Same.tup {K : PySem.W.Frag} {H H' : Hp} {a : Addr} {xs : List V} (e : Same H H') (h : SqT K H a xs) : SqT K H' a xs := by
  rcases h with (h | ⟨o, h⟩) | h
  · exact .inl (.inl (e _ _ h))
  · exact .inl (.inr ⟨o, e _ _ h⟩)
  · exact .inr h
/-- a global that holds a plain value -/
theorem pe_gl {X : Cx} {x : Str} {v : V} {pos : Pos} (hg : Gl X x) (h : ∃ u, X.mg x = some u ∧ RelV v u) (hd : (x == ("__debug__" : Str)) = false := by decide) : PE X (.Name x pos) (tC v) := by
  obtain ⟨u, hm, r⟩ := h
  exact pe_glob hg hm r hd
section
variable {X : Cx} {o e : Expr} {es : List Expr} {to : TE} {t : TA} {name : Str} {apos cpos : Pos} {T id : String} {r : V → List V → Hp → VK → Prop}
end
def plainE : Expr → Bool
  | .Starred .. => false
  | _ => true
theorem starEach_plain {e : Expr} {es : List Expr} {env : Env} (h : plainE e = true) : starEach (e :: es) env = (false, eval e env) :: starEach es env := by
  cases e <;> first | rfl | (cases h)
/-- an item of a written list, tuple or argument list (no star) -/
theorem pac {X : Cx} {e : Expr} {es : List Expr} {te : TE} {t : TA} (ha : PE X e te) (hr : PA X es t) (h : plainE e = true := by rfl) : PA X (e :: es) (tCons te t) := pa_cons ha hr (starEach_plain h)
/-- an item list, not to be looked into by the elaborator (its unfolding is paid for item by item, twice each) -/
structure PAs (X : Cx) (es : List Expr) (t : TA) : Prop where
  h : PA X es t
theorem pas_nil {X : Cx} : PAs X [] tNil := ⟨pa_nil⟩
theorem pas_cons {X : Cx} {e : Expr} {es : List Expr} {te : TE} {t : TA} (ha : PE X e te) (hr : PAs X es t) (h : plainE e = true := by rfl) : PAs X (e :: es) (tCons te t) := ⟨pac ha hr.h h⟩
theorem pe_lstS {X : Cx} {es : List Expr} {t : TA} {pos : Pos} (h : PAs X es t) : PE X (.List es pos) (tLst t) := pe_lst h.h
theorem pe_tupS {X : Cx} {es : List Expr} {t : TA} {x1 : Nat} {pos : Pos} (h : PAs X es t) : PE X (.Tuple es x1 pos) (tTup t) := pe_tup h.h
/-- a comprehension over a text whose elements leave the heap as it is -/
theorem comp_str {x : Str} {fr : List (Nat × Str)} {te : TE} {σ : St} {H1 : Hp} {Q : VK} (f : Nat → V) (hz : x.cps.size ≤ sizeLine)
    (hte : ∀ (c : Nat) (H3 : Hp) (Q' : VK), c ∈ x.cps.toList → Q' (f c) H3 → te (some (.str ⟨#[c]⟩) :: frV σ fr) H3 Q')
    (hQ : ∀ D, H1 D = none → Q (.ref D) (upd H1 D (.lst (x.cps.toList.map f)))) :
    compGoal (Its x) fr tTrue te σ H1 Q := by
  unfold compGoal
  intro D hD
  refine ⟨fun i m ys H2 => m = x.cps.size - i ∧ i ≤ x.cps.size ∧ ys = (x.cps.toList.take i).map f ∧ H2 = upd H1 D (.lst ys), ⟨x.cps.size, by simp, Nat.zero_le _, by simp, rfl⟩, ?_⟩
  rintro i m ys H2 ⟨rfl, hi, rfl, rfl⟩
  refine ⟨upd_same, ?_⟩
  by_cases hlt : i < x.cps.size
  · refine .inr ⟨hlt, ?_⟩
    rintro v H3 ⟨rfl, c, hc, rfl⟩
    refine tTrue_go (iteT ?_)
    have hcl : x.cps.toList[i]? = some c := by simpa using hc
    refine hte c _ _ (List.mem_of_getElem? hcl) ⟨upd_same, ?_, x.cps.size - (i + 1), by omega, rfl, hlt, ?_, upd_upd⟩
    · rw [List.length_map, List.length_take]
      simp only [Array.length_toList]
      omega
    · rw [List.take_add_one, hcl]
      simp
  · have e : i = x.cps.size := by omega
    subst e
    have e2 : x.cps.toList.take x.cps.size = x.cps.toList := List.take_of_length_le (by simp)
    refine .inl ⟨rfl, ?_⟩
    rw [e2]
    exact hQ D hD
/-- a comprehension over a range -/
theorem comp_range {lo : Int} {n : Nat} {fr : List (Nat × Str)} {te : TE} {σ : St} {H1 : Hp} {Q : VK} (f : Nat → V) (hz : n ≤ sizeLine)
    (hte : ∀ (i : Nat) (H3 : Hp) (Q' : VK), i < n → Same H1 H3 → Q' (f i) H3 → te (some (.int (lo + i)) :: frV σ fr) H3 Q')
    (hQ : ∀ D, H1 D = none → Q (.ref D) (upd H1 D (.lst ((List.range n).map f)))) :
    compGoal (Itr lo n) fr tTrue te σ H1 Q := by
  unfold compGoal
  intro D hD
  refine ⟨fun i m ys H2 => m = n - i ∧ i ≤ n ∧ ys = (List.range i).map f ∧ H2 = upd H1 D (.lst ys), ⟨n, by simp, Nat.zero_le _, by simp, rfl⟩, ?_⟩
  rintro i m ys H2 ⟨rfl, hi, rfl, rfl⟩
  refine ⟨upd_same, ?_⟩
  by_cases hlt : i < n
  · refine .inr ⟨hlt, ?_⟩
    rintro v H3 ⟨rfl, rfl⟩
    refine tTrue_go (iteT ?_)
    refine hte i _ _ hlt (Same.upd_new hD) ⟨upd_same, ?_, n - (i + 1), by omega, rfl, hlt, ?_, upd_upd⟩
    · rw [List.length_map, List.length_range]
      omega
    · rw [List.range_succ, List.map_append, List.map_singleton]
  · have e : i = n := by omega
    subst e
    exact .inl ⟨Nat.le_refl _, hQ D hD⟩
theorem sum_ones {α : Type} (g : α → Nat) : ∀ (l : List α), (∀ x ∈ l, g x = 1) → (l.map g).sum = l.length
  | [], _ => rfl
  | a :: r, h => by
    rw [List.map_cons, List.sum_cons, h a List.mem_cons_self, sum_ones g r fun x hx => h x (List.mem_cons_of_mem _ hx), List.length_cons]
    omega
theorem sl_le (x : Str) (lo hi : Option Int) : (Txt.slice x lo hi).length ≤ x.length := Txt.slice_le x lo hi
theorem cat_len (x y : Str) : (x ++ y).length = x.length + y.length := by
  show (x.cps ++ y.cps).size = _
  rw [Array.size_append]; rfl
theorem one_len (c : Nat) : (⟨#[c]⟩ : Str).length = 1 := rfl
end L2
set_option Elab.async false
set_option linter.all false
set_option maxRecDepth 100000
set_option maxHeartbeats 4000000
namespace L2
open PySem PySem.Spec PyProof.Rows
/-- only plain signs -/
def Asc (x : Str) : Prop := ∀ c ∈ x.cps.toList, c < 128
theorem Asc.ok {x : Str} (h : Asc x) : PyData.strOk x = true := by
  unfold PyData.strOk
  rw [Array.all_eq_true']
  intro c hc
  have := h c (Array.mem_toList_iff.mpr hc)
  exact decide_eq_true (by omega)
theorem Asc.app {x y : Str} (hx : Asc x) (hy : Asc y) : Asc (x ++ y) := fun c hc => by
  have e : (x ++ y).cps.toList = x.cps.toList ++ y.cps.toList := by show (x.cps ++ y.cps).toList = _; simp
  rw [e] at hc
  rcases List.mem_append.mp hc with z | z
  · exact hx c z
  · exact hy c z
theorem Asc.one {x : Str} {c : Nat} (h : Asc x) (hc : c ∈ x.cps.toList) : Asc ⟨#[c]⟩ := fun d hd => by
  have : d = c := by simpa using hd
  rw [this]; exact h c hc
theorem KV.at {κ : Type} : ∀ {kvs : List (κ × V)} {vs : List (κ × Value)} {j : Nat} {p : κ × V} {q : κ × Value}, KV kvs vs → kvs[j]? = some p → vs[j]? = some q → p.1 = q.1
  | _, _, _, _, _, .nil, h, _ => by simp at h
  | _, _, 0, _, _, .cons r _, h1, h2 => by
    simp only [List.getElem?_cons_zero, Option.some.injEq] at h1 h2
    subst h1 h2
    exact r.1
  | _, _, j + 1, _, _, .cons _ t, h1, h2 => KV.at (j := j) (show KV _ _ from t) (by simpa using h1) (by simpa using h2)
/-- text.split(): the words between blanks -/
theorem vals_strValues : ∀ l : List (Str × Tok), Vals ((l.map (·.1)).map V.str) (strValues l)
  | [] => .nil
  | p :: r => .cons ⟨p.2, rfl⟩ (vals_strValues r)
end L2
set_option Elab.async false
set_option linter.all false
set_option maxRecDepth 100000
set_option maxHeartbeats 4000000
namespace L2
open PySem PySem.Spec PyProof.Rows
theorem lay_strs : ∀ {xs : List Str}, (∀ x ∈ xs, Asc x) → PyData.canLayAll0 (xs.map PyData.str) = true ∧ PyData.depthAll (xs.map PyData.str) = 0
  | [], _ => ⟨rfl, rfl⟩
  | x :: r, h => by
    have q := lay_strs (xs := r) fun y hy => h y (List.mem_cons_of_mem _ hy)
    have e := (h x List.mem_cons_self).ok
    simp only [List.map_cons, PyData.canLayAll0, PyData.canLay0, PyData.depthAll, PyData.depth, q.1, q.2, e]
    exact ⟨rfl, rfl⟩
theorem shaped_strs {xs : List Str} (h : ∀ x ∈ xs, Asc x) : SeqAt.shaped (.list (xs.map PyData.str)) = true := by
  have q := lay_strs h
  unfold SeqAt.shaped
  simp only [PyData.canLay0, PyData.depth, q.1, q.2]
  rfl
/-- each once, where it comes first -/
def onceStep (acc : List Str) (t : Str) : List Str := if t ∈ acc then acc else acc ++ [t]
def once (xs : List Str) : List Str := xs.foldl onceStep []
/-- a cut from the front -/
theorem cut_front {α : Type} (f : α → V) (xs : List α) (v : Int) (h : 0 ≤ v) : cutV (xs.map f) none (some v) = (xs.take v.toNat).map f := by
  have hv : ¬ v < 0 := by omega
  simp only [cutV, HT.sIx, if_neg hv, List.drop_zero, List.length_map, Nat.sub_zero, ← List.map_take]
  congr 1
  by_cases h2 : v.toNat ≤ xs.length
  · rw [Nat.min_eq_left h2]
  · rw [Nat.min_eq_right (by omega), List.take_of_length_le (Nat.le_refl _), List.take_of_length_le (by omega)]
end L2
namespace L2
open PySem PySem.Spec PyProof.Rows
abbrev aZ : Str := "abcdefghijklmnopqrstuvwxyz0123456789"
theorem aZ_len : aZ.cps.toList.length = 36 := by decide +kernel
theorem aZ_asc : Asc aZ := by
  have h : (aZ.cps.toList.all fun c => decide (c < 128)) = true := by decide +kernel
  intro c hc
  exact of_decide_eq_true (List.all_eq_true.mp h c hc)
theorem aZ_small : aZ.length ≤ sizeLine := by
  have : aZ.length = 36 := by decide +kernel
  rw [this]; decide
/-- 1 to 20 signs, each a small letter or a figure -/
structure WordS (x : Str) : Prop where
  lo : 1 ≤ x.length
  hi : x.length ≤ 20
  in_ : ∀ c ∈ x.cps.toList, c ∈ aZ.cps.toList
theorem WordS.asc {x : Str} (h : WordS x) : Asc x := fun c hc => aZ_asc c (h.in_ c hc)
theorem join0 (ys : List Str) : (Txt.join "" ys).cps.toList = (ys.map (·.cps.toList)).flatten := by
  have key : ∀ (r : List Str) (acc : Array Nat), (r.foldl (fun acc p => acc ++ ("" : Str).cps ++ p.cps) acc).toList = acc.toList ++ (r.map (·.cps.toList)).flatten := by
    intro r
    induction r with
    | nil => intro acc; simp
    | cons y r ih =>
      intro acc
      rw [List.foldl_cons, ih, List.map_cons, List.flatten_cons]
      have e : ("" : Str).cps = #[] := by decide +kernel
      rw [e]
      simp
  cases ys with
  | nil => rfl
  | cons y r => exact (key r y.cps).trans (by rw [List.map_cons, List.flatten_cons])
theorem len_list (x : Str) : x.length = x.cps.toList.length := by simp [Str.length]
theorem join0_len {ys : List Str} (h : ∀ y ∈ ys, y.length = 1) : (Txt.join "" ys).length = ys.length := by
  rw [len_list, join0, List.length_flatten, List.map_map]
  exact sum_ones _ _ fun y hy => by
    have := h y hy
    rw [len_list] at this
    exact this
theorem cat_list (x y : Str) : (x ++ y).cps.toList = x.cps.toList ++ y.cps.toList := by show (x.cps ++ y.cps).toList = _; simp
theorem empty_len : ("" : Str).length = 0 := by decide +kernel
/-- one sign out of a text -/
def Sign1 (z y : Str) : Prop := ∃ c, c ∈ z.cps.toList ∧ y = ⟨#[c]⟩
theorem Sign1.len {z y : Str} (h : Sign1 z y) : y.length = 1 := by obtain ⟨c, _, rfl⟩ := h; rfl
theorem join_signs {z : Str} {ys : List Str} (h : ∀ y ∈ ys, Sign1 z y) : (Txt.join "" ys).length = ys.length ∧ ∀ c ∈ (Txt.join "" ys).cps.toList, c ∈ z.cps.toList := by
  refine ⟨join0_len fun y hy => (h y hy).len, fun c hc => ?_⟩
  rw [join0] at hc
  obtain ⟨l, hl, hcl⟩ := List.mem_flatten.mp hc
  obtain ⟨y, hy, rfl⟩ := List.mem_map.mp hl
  obtain ⟨d, hd, rfl⟩ := h y hy
  have : c = d := by simpa using hcl
  rw [this]; exact hd
theorem join_sum {ys : List Str} (h : ∀ y ∈ ys, y.length = 1) (hl : ys.length ≤ 100000) : (ys.map (·.length)).sum + ys.length * ("" : Str).length ≤ 16777216 := by
  rw [sum_ones _ _ h, empty_len]; omega
theorem pick_sign {z : Str} {i : Int} (h0 : 0 ≤ i) (h1 : i < (z.cps.toList.length : Int)) : ∃ c, atI z.cps.toList i = some c ∧ c ∈ z.cps.toList := by
  obtain ⟨c, a, b, _⟩ := atI_some h0 h1
  exact ⟨c, a, b⟩
theorem num_small : ∀ n : Nat, n < 100 → (Str.ofString (toString (n : Int))).length ≤ 2 ∧ 1 ≤ (Str.ofString (toString (n : Int))).length ∧ ((Str.ofString (toString (n : Int))).cps.toList.all fun c => decide (c ∈ aZ.cps.toList)) = true := by decide +kernel
end L2
set_option Elab.async false
set_option linter.all false
set_option maxRecDepth 100000
set_option maxHeartbeats 4000000
namespace L2
open PySem PySem.Spec PyProof.Rows
theorem big1 : 1000002 ≤ sizeLine := by decide
end L2
set_option Elab.async false
set_option linter.all false
set_option maxRecDepth 100000
set_option maxHeartbeats 4000000
namespace L2
open PySem PySem.Spec PyProof.Rows
end L2
set_option Elab.async false
set_option linter.all false
set_option maxRecDepth 100000
set_option maxHeartbeats 4000000
namespace L2
open PySem PySem.Spec PyProof.Rows
structure FunD (K : PySem.W.Frag) (x qual : Str) (st : Stmt) (f : Addr) (fd : FuncData) : Prop where
  ex : ∃ (oc : Value) (od : Option Addr) (dV kV doc pm : Value) (an : Option Addr) (cdv ct : Value) (osl : Array (Option Value)),
    fd = PySem.W.fnOf x qual (defArgs st) (defBody st) (defScope st) dV kV doc pm an cdv ct ∧ K.lookup f = some ⟨oc, od, .func fd, osl⟩ ∧ PySem.W.codeIn K cdv qual = true
  kp : PySem.W.keepIn K (.ref f) = true
theorem FunD.ok {P : Program} {w : World} {K : PySem.W.Frag} {mg : Str → Option Value} {base : Heap} {x qual : Str} {st : Stmt} {f : Addr} {fd : FuncData} {N ps : List Str} {k : Nat} {sp : Sp} (F : FunD K x qual st f fd) (S : FnScope N ps (defScope st))
    (len : ∀ vs H Q E, sp vs H Q E → vs.length = ps.length)
    (hbody : ∀ (cdv : Value) (A : Around) (outer : List Env) (s : Shared) (H : Hp) (vs : List V) (Q : VK) (E : XK), Room k (A.deeper (envOfC qual (defScope st) s.heap.objs.size f cdv)) → sp vs H Q E →
      ∃ t, PSs (cxOf CX0 P w K mg base N qual (defScope st) f cdv A outer s H E).nox (defBody st) t ∧ t { nx := fun _ H' => Q .non H', rt := Q } (start N vs) H) : FnOk P w K mg base CX0 (k + 1) f fd ps sp := by
  obtain ⟨oc, od, dV, kV, doc, pm, an, cdv, ct, osl, rfl, lk, hcd⟩ := F.ex
  refine fn_of lk hcd S len fun A outer s H vs Q E hr hsp => ?_
  obtain ⟨t, h, q⟩ := hbody cdv A outer s H vs Q E hr hsp
  exact ⟨t, h.nox, q⟩
theorem fun_mkD {K : PySem.W.Frag} {x qual : Str} {st : Stmt} {f : Addr} {oc dV : Value} {od an : Option Addr} {osl : Array (Option Value)} {kV doc pm cdv ct : Value} (l : K.lookup f = some ⟨oc, od, .func (PySem.W.fnOf x qual (defArgs st) (defBody st) (defScope st) dV kV doc pm an cdv ct), osl⟩)
    (c : PySem.W.codeIn K cdv qual = true) (k : PySem.W.keepIn K (.ref f) = true) : FunD K x qual st f (PySem.W.fnOf x qual (defArgs st) (defBody st) (defScope st) dV kV doc pm an cdv ct) := ⟨⟨oc, od, dV, kV, doc, pm, an, cdv, ct, osl, rfl, l, c⟩, k⟩
theorem eq_refl {K : PySem.W.Frag} {H : Hp} {x y : V} {d : PyData} {Q : VK} (hx : RD K H x d) (hy : RD K H y d) (h : SeqAt.shaped d = true) (q : Q (.bl true) H) : rEqD K x y H Q :=
  ⟨d, d, hx, hy, h, h, by rw [SeqAt.eqv_refl d (SeqAt.canLay_of_shaped h)]; exact q⟩
theorem slice_mem {x : Str} {l u : Option Int} {c : Nat} (hc : c ∈ (PySem.Txt.slice x l u).cps.toList) : c ∈ x.cps.toList := by
  unfold PySem.Txt.slice at hc
  split at hc
  · exact hc
  · have hc' : c ∈ (Builtin.Str.strSliceIndices l u 1 x.length).filterMap (x.cps[·]?) := by simpa using hc
    obtain ⟨i, _, e⟩ := List.mem_filterMap.mp hc'
    exact Array.mem_toList_iff.mpr (Array.mem_of_getElem? e)
def Prt (x : Str) : Prop := ∀ c ∈ x.cps.toList, 32 ≤ c ∧ c < 127
theorem Prt.asc {x : Str} (h : Prt x) : Asc x := fun c hc => Nat.lt_trans (h c hc).2 (by decide)
theorem Prt.app {x y : Str} (hx : Prt x) (hy : Prt y) : Prt (x ++ y) := fun c hc => by
  rw [cat_list] at hc
  rcases List.mem_append.mp hc with z | z
  · exact hx c z
  · exact hy c z
theorem Prt.one {x : Str} {c : Nat} (h : Prt x) (hc : c ∈ x.cps.toList) : Prt ⟨#[c]⟩ := fun d hd => by
  have : d = c := by simpa using hd
  rw [this]; exact h c hc
theorem prt_of {x : Str} (h : (x.cps.toList.all fun c => decide (32 ≤ c ∧ c < 127)) = true) : Prt x := fun c hc => of_decide_eq_true (List.all_eq_true.mp h c hc)
end L2
set_option Elab.async false
set_option linter.all false
set_option maxRecDepth 100000
set_option maxHeartbeats 4000000
namespace L2
open PySem PySem.Spec PyProof.Rows
open Builtin.Str in
theorem idx_nat (a b n : Nat) : strSliceIndices (some (a : Int)) (some (b : Int)) 1 n = (List.range (min b n - min a n)).map (fun k => min a n + k) := by
  have h1 : ¬ ((a : Int) < 0) := by omega
  have h2 : ¬ ((b : Int) < 0) := by omega
  have e1 : max (0 : Int) (min (a : Int) (n : Int)) = ((min a n : Nat) : Int) := by omega
  have e2 : max (0 : Int) (min (b : Int) (n : Int)) = ((min b n : Nat) : Int) := by omega
  simp only [strSliceIndices, sliceRange, h1, h2, if_false, e1, e2, show ((1 : Int) > 0) = True from by simp, if_true]
  by_cases hlt : ((min a n : Nat) : Int) < ((min b n : Nat) : Int)
  · have e3 : ((((min b n : Nat) : Int) - ((min a n : Nat) : Int) + 1 - 1) / 1).toNat = min b n - min a n := by first | omega | (simp; done) | (simp; omega)
    simp only [hlt, if_true, e3]
    refine List.map_congr_left fun k _ => ?_
    omega
  · have : min b n - min a n = 0 := by omega
    simp [hlt, this]
open Builtin.Str in
theorem idx_none_l (u : Option Int) (n : Nat) : strSliceIndices none u 1 n = strSliceIndices (some ((0 : Nat) : Int)) u 1 n := by
  have e1 : max (0 : Int) (min (((0 : Nat) : Int)) (n : Int)) = 0 := by omega
  simp only [strSliceIndices, show ¬ ((((0 : Nat) : Int)) < 0) from by omega, if_false, e1, show ((1 : Int) > 0) = True from by simp, if_true]
open Builtin.Str in
theorem idx_none_u (l : Option Int) (n : Nat) : strSliceIndices l none 1 n = strSliceIndices l (some (n : Int)) 1 n := by
  have e1 : max (0 : Int) (min (n : Int) (n : Int)) = n := by omega
  simp only [strSliceIndices, show ¬ ((n : Int) < 0) from by omega, if_false, e1, show ((1 : Int) > 0) = True from by simp, if_true]
theorem slice_list (x : Str) (a b : Nat) : (Txt.slice x (some (a : Int)) (some (b : Int))).cps.toList = (x.cps.toList.drop a).take (b - a) := by
  have hl := len_list x
  unfold Txt.slice
  rw [idx_nat, List.length_map, List.length_range]
  have hp := StrLaws.picks x.cps.toList (min b x.length - min a x.length) (min a x.length) (by omega)
  have key : ((List.range (min b x.length - min a x.length)).map (fun k => min a x.length + k)).filterMap (x.cps[·]?) = (x.cps.toList.drop a).take (b - a) := by
    have e : (fun i : Nat => x.cps[i]?) = (fun i : Nat => x.cps.toList[i]?) := by funext i; simp
    rw [e, hp]
    by_cases h : a ≤ x.length
    · rw [Nat.min_eq_left (show a ≤ x.length from h)]
      by_cases h2 : b ≤ x.length
      · rw [Nat.min_eq_left (show b ≤ x.length from h2)]
      · rw [Nat.min_eq_right (show x.length ≤ b by omega), List.take_of_length_le (by rw [List.length_drop]; omega), List.take_of_length_le (by rw [List.length_drop]; omega)]
    · rw [Nat.min_eq_right (show x.length ≤ a by omega), List.drop_of_length_le (by omega), List.drop_of_length_le (by omega), List.take_nil, List.take_nil]
  split
  · rename_i h
    have h' : min b x.length - min a x.length = x.length := by
      have := (Bool.and_eq_true_iff.mp h).2
      exact beq_iff_eq.mp this
    rw [← key, h']
    have e0 : x.length = 0 ∨ min a x.length = 0 := by omega
    rcases e0 with e0 | e0
    · have : x.cps.toList = [] := List.eq_nil_of_length_eq_zero (by omega)
      rw [this, e0]; rfl
    · have e : (fun i : Nat => x.cps[i]?) = (fun i : Nat => x.cps.toList[i]?) := by funext i; simp
      rw [e]
      have hp2 := StrLaws.picks x.cps.toList x.length 0 (by omega)
      rw [e0, hp2, List.drop_zero, List.take_of_length_le (by omega)]
  · rw [key]
theorem slice_to (x : Str) (b : Nat) : (Txt.slice x none (some (b : Int))).cps.toList = x.cps.toList.take b := by
  have e : Txt.slice x none (some (b : Int)) = Txt.slice x (some ((0 : Nat) : Int)) (some (b : Int)) := by unfold Txt.slice; rw [idx_none_l]
  rw [e, slice_list, List.drop_zero, Nat.sub_zero]
theorem slice_from (x : Str) (a : Nat) : (Txt.slice x (some (a : Int)) none).cps.toList = x.cps.toList.drop a := by
  have e : Txt.slice x (some (a : Int)) none = Txt.slice x (some (a : Int)) (some (x.length : Int)) := by unfold Txt.slice; rw [idx_none_u]
  rw [e, slice_list, List.take_of_length_le (by rw [List.length_drop, ← len_list]; omega)]
theorem str_ext {x y : Str} (h : x.cps.toList = y.cps.toList) : x = y := by
  cases x; cases y
  have := Array.toList_inj.mp h
  simp only at this
  rw [this]
theorem cut_to_le (x : Str) (b : Nat) : (Txt.slice x none (some (b : Int))).length ≤ b := by
  rw [len_list, slice_to, List.length_take]; omega
/-- a row of drawn numbers: what stands at a place -/
theorem row_pick {rs : List Int} {m : Int} (hb : ∀ r ∈ rs, 0 ≤ r ∧ r < m) (i : Int) (h0 : 0 ≤ i) (h1 : i < (rs.length : Int)) : ∃ z, atI (rs.map V.int) i = some (V.int z) ∧ 0 ≤ z ∧ z < m := by
  obtain ⟨v, hv, hvm, _⟩ := atI_some (xs := rs.map V.int) h0 (by rw [List.length_map]; exact h1)
  obtain ⟨z, hz, rfl⟩ := List.mem_map.mp hvm
  exact ⟨z, hv, hb z hz⟩
end L2
set_option Elab.async false
set_option linter.all false
set_option maxRecDepth 100000
set_option maxHeartbeats 4000000
namespace L2
open PySem PySem.Spec PyProof.Rows
inductive rFind_I (x : V) (xs : List V) (H : Hp) (Q : VK) : Prop
  | mk : ∀ (z y : Str), x = .str z → xs = [.str y] → Q (.int (Txt.find z y)) H → rFind_I x xs H Q
def rFind : V → List V → Hp → VK → Prop := fun x xs H Q => rFind_I x xs H Q
theorem mt_find {X : Cx} : MtR X "str.find" rFind := by
  intro pins s σ H x xs v us Q I rx rv h
  obtain ⟨z, y, rfl, rfl, q⟩ := h
  obtain ⟨t, rfl⟩ := rx
  obtain ⟨u, rfl, ru⟩ := vals1 rv
  obtain ⟨t', rfl⟩ := ru
  exact SC.find ⟨.int _, H, I.tok _, ⟨_, rfl⟩, q⟩
inductive rZfill_I (x : V) (xs : List V) (H : Hp) (Q : VK) : Prop
  | mk : ∀ (z : Str) (i : Int), x = .str z → xs = [.int i] → PadOk i = true → Q (.str (Txt.zfill z i)) H → rZfill_I x xs H Q
def rZfill : V → List V → Hp → VK → Prop := fun x xs H Q => rZfill_I x xs H Q
theorem mt_zfill {X : Cx} : MtR X "str.zfill" rZfill := by
  intro pins s σ H x xs v us Q I rx rv h
  obtain ⟨z, i, rfl, rfl, hp, q⟩ := h
  obtain ⟨t, rfl⟩ := rx
  obtain ⟨u, rfl, ru⟩ := vals1 rv
  obtain ⟨t', rfl⟩ := ru
  exact SC.zfill hp fun t' k => ⟨.str _, H, I.tok _, ⟨_, rfl⟩, q⟩
inductive rSplit1_I (x : V) (xs : List V) (H : Hp) (Q : VK) : Prop
  | mk : ∀ (z y : Str), x = .str z → xs = [.str y] → (y.length == 0) = false → z.length ≤ 1000000 → (∀ l, H l = none → Q (.ref l) (upd H l (.lst ((Txt.split z y).map V.str)))) → rSplit1_I x xs H Q
def rSplit1 : V → List V → Hp → VK → Prop := fun x xs H Q => rSplit1_I x xs H Q
theorem parts_le (x y : Str) : (Builtin.Str.partsBetween x (Builtin.Str.occurrences x y 0 x.length (x.length + 1)) y.length).length ≤ x.length + 2 := by
  rw [StrLaws.partsBetween_eq]
  have h := StrLaws.occ_length_le_len x y 0 x.length (x.length + 1)
  have e : ∀ (cuts : List Nat) (w a : Nat), (StrLaws.partsFrom x w a cuts).length ≤ cuts.length + 1 := by
    intro cuts
    induction cuts with
    | nil => intro w a; simp [StrLaws.partsFrom]
    | cons c r ih =>
      intro w a
      have := ih w (c + w)
      simp only [StrLaws.partsFrom, List.length_cons]
      omega
  have := e (Builtin.Str.occurrences x y 0 x.length (x.length + 1)) y.length 0
  omega
theorem mt_split1 {X : Cx} : MtR X "str.split" rSplit1 := by
  intro pins s σ H x xs v us Q I rx rv h
  obtain ⟨x, y, rfl, rfl, hy, hz, q⟩ := h
  obtain ⟨t, rfl⟩ := rx
  obtain ⟨u, rfl, ru⟩ := vals1 rv
  obtain ⟨t', rfl⟩ := ru
  have hb := big1
  have hp := parts_le x y
  have hsl := split_le x y
  have fin : ∀ (l : List (Str × Tok)) (k : Nat), l.map (·.1) = Txt.split x y → EP X pins σ Q (.ref s.heap.objs.size) { s with toks := k, heap := s.heap.push { cls := .type "list", data := .seq (strValues l).toArray } } := fun l k e => by
    have hv := vals_strValues l
    rw [e] at hv
    exact ⟨.ref s.heap.objs.size, _, I.lnew (t' := k) hv (by rw [List.length_map]; omega), rfl, q _ I.fresh⟩
  cases h1 : (decide (x.length < y.length) || decide (Builtin.Str.strKind x < Builtin.Str.strKind y))
  · cases hf : (Builtin.Str.occurrences x y 0 x.length (x.length + 1)).isEmpty
    · refine call_meets F.slot_str_split (typeIs_str _ _ _) F.entry_str_split (F.args_str_split_2 _ _) (meets_str_split_sep x y t t' h1 hy hf (by omega) (by omega)) ?_
      show wants _ _ _ { s with toks := _, heap := s.heap.push { cls := .type "list", data := .seq (strsFrom s.toks (Builtin.Str.partsBetween x (Builtin.Str.occurrences x y 0 x.length (x.length + 1)) y.length)).toArray } }
      rw [strsFrom_eq]
      exact fin (numbered s.toks _) _ ((numbered_texts _ _).trans ((if_neg (ne_true_of_eq_false h1)).trans (if_neg (ne_true_of_eq_false hf))).symm)
    · exact call_meets F.slot_str_split (typeIs_str _ _ _) F.entry_str_split (F.args_str_split_2 _ _) (meets_str_split_not_found x y t t' h1 hy hf) (fin [(x, t)] _ ((if_neg (ne_true_of_eq_false h1)).trans (if_pos hf)).symm)
  · exact call_meets F.slot_str_split (typeIs_str _ _ _) F.entry_str_split (F.args_str_split_2 _ _) (meets_str_split_cannot_occur x y t t' h1) (fin [(x, t)] _ (if_pos h1).symm)
theorem call_int_text {X : Cx} : CallR X (.type "int") (fun xs H Q => ∃ (x : Str) (n : Int), xs = [.str x] ∧ x.length ≤ 640 ∧ PySem.intText? x = some n ∧ Q (.int n) H) := by
  intro pins s σ H xs us Q I r h
  obtain ⟨x, n, rfl, hl, hn, q⟩ := h
  obtain ⟨u, rfl, t, rfl⟩ := vals1 r
  exact PySem.W.KIN.call_text hn hl ⟨.int n, H, I.tok _, ⟨_, rfl⟩, q⟩
end L2
set_option Elab.async false
set_option linter.all false
set_option maxRecDepth 100000
set_option maxHeartbeats 4000000
namespace L2
open PySem PySem.Spec PyProof.Rows
theorem cut_at {c : Nat} : ∀ {p q X Y : List Nat}, ¬ c ∈ p → ¬ c ∈ q → p ++ c :: X = q ++ c :: Y → p = q ∧ X = Y
  | [], [], _, _, _, _, h => ⟨rfl, (List.cons.inj h).2⟩
  | [], b :: q, _, _, _, hq, h => absurd (by rw [(List.cons.inj h).1]; exact List.mem_cons_self) hq
  | a :: p, [], _, _, hp, _, h => absurd (by rw [← (List.cons.inj h).1]; exact List.mem_cons_self) hp
  | a :: p, b :: q, X, Y, hp, hq, h => by
    obtain ⟨h1, h2⟩ := List.cons.inj h
    obtain ⟨e1, e2⟩ := cut_at (fun z => hp (List.mem_cons_of_mem _ z)) (fun z => hq (List.mem_cons_of_mem _ z)) h2
    exact ⟨by rw [h1, e1], e2⟩
theorem nl_signs : ("\n" : Str).cps.toList = [10] := by decide +kernel
theorem join_cons2 (a b : Str) (r : List Str) : (Str.join "\n" (a :: b :: r)).cps.toList = a.cps.toList ++ 10 :: (Str.join "\n" (b :: r)).cps.toList := by
  show ((a ++ "\n") ++ Str.join "\n" (b :: r)).cps.toList = _
  rw [cat_list, cat_list, nl_signs, List.append_assoc]
  rfl
theorem join_inj : ∀ {ps qs : List Str}, ps ≠ [] → qs ≠ [] → (∀ p ∈ ps, ¬ 10 ∈ p.cps.toList) → (∀ p ∈ qs, ¬ 10 ∈ p.cps.toList) → Str.join "\n" ps = Str.join "\n" qs → ps = qs
  | [], _, h, _, _, _, _ => absurd rfl h
  | _, [], _, h, _, _, _ => absurd rfl h
  | [p], [q], _, _, _, _, h => by
    have h : p = q := h
    rw [h]
  | [p], q :: q' :: r, _, _, hp, _, h => by
    have h : p = Str.join "\n" (q :: q' :: r) := h
    have := hp p List.mem_cons_self
    rw [h, join_cons2] at this
    exact absurd (List.mem_append_right _ List.mem_cons_self) this
  | p :: p' :: r, [q], _, _, _, hq, h => by
    have h : Str.join "\n" (p :: p' :: r) = q := h
    have := hq q List.mem_cons_self
    rw [← h, join_cons2] at this
    exact absurd (List.mem_append_right _ List.mem_cons_self) this
  | p :: p' :: r, q :: q' :: r', _, _, hp, hq, h => by
    have e : (Str.join "\n" (p :: p' :: r)).cps.toList = (Str.join "\n" (q :: q' :: r')).cps.toList := by rw [h]
    rw [join_cons2, join_cons2] at e
    obtain ⟨e1, e2⟩ := cut_at (hp p List.mem_cons_self) (hq q List.mem_cons_self) e
    have ih := join_inj (ps := p' :: r) (qs := q' :: r') (by simp) (by simp) (fun z hz => hp z (List.mem_cons_of_mem _ hz)) (fun z hz => hq z (List.mem_cons_of_mem _ hz)) (str_ext e2)
    rw [str_ext e1, ih]
theorem nl_eq : ("\n" : Str) = ⟨#[10]⟩ := by decide +kernel
/-- the rows again -/
theorem split_rows {ps : List Str} (h0 : ps ≠ []) (h : ∀ p ∈ ps, ¬ 10 ∈ p.cps.toList) : Txt.split (Txt.join "\n" ps) "\n" = ps := by
  have e : Txt.join "\n" ps = Str.join "\n" ps := StrLaws.glued_eq_join _ _
  rw [e]
  refine join_inj (fun z => ?_) h0 (fun p hp => ?_) h (StrLaws.join_split _ _)
  · have := split_pos (Str.join "\n" ps) "\n"
    rw [z] at this
    exact absurd this (by decide)
  · rw [nl_eq] at hp
    exact StrLaws.split_free _ 10 p hp
/-- each line feed stands ahead of another sign -/
def Single (l : List Nat) : Prop := ∀ k, l[k]? = some 10 → ∃ c, l[k + 1]? = some c ∧ c ≠ 10
theorem single_free {l : List Nat} (h : ¬ 10 ∈ l) : Single l := fun k e => absurd (List.mem_of_getElem? e) h
theorem single_app {l m : List Nat} (h : ¬ 10 ∈ l) (hm : Single m) {c : Nat} (h0 : m[0]? = some c) (hc : c ≠ 10) : Single (l ++ 10 :: m) := fun k e => by
  by_cases h1 : k < l.length
  · rw [List.getElem?_append_left h1] at e
    exact absurd (List.mem_of_getElem? e) h
  · rw [List.getElem?_append_right (by omega)] at e
    rw [List.getElem?_append_right (by omega), show k + 1 - l.length = (k - l.length) + 1 by omega, List.getElem?_cons_succ]
    cases hk : k - l.length with
    | zero => exact ⟨c, h0, hc⟩
    | succ j =>
      rw [hk, List.getElem?_cons_succ] at e
      exact hm j e
theorem join_first (p : Str) (r : List Str) {c : Nat} (h : p.cps.toList[0]? = some c) : (Str.join "\n" (p :: r)).cps.toList[0]? = some c := by
  cases r with
  | nil => exact h
  | cons q r =>
    rw [join_cons2, List.getElem?_append_left]
    · exact h
    · exact (List.getElem?_eq_some_iff.mp h).1
theorem join_single : ∀ (ps : List Str), (∀ p ∈ ps, ¬ 10 ∈ p.cps.toList ∧ 0 < p.length) → Single (Str.join "\n" ps).cps.toList
  | [], _ => single_free (by show ¬ 10 ∈ (Str.empty).cps.toList; simp [Str.empty])
  | [p], h => single_free (h p List.mem_cons_self).1
  | p :: q :: r, h => by
    rw [join_cons2]
    have hq := h q (List.mem_cons_of_mem _ List.mem_cons_self)
    have hl := hq.2
    rw [len_list] at hl
    obtain ⟨c, e⟩ : ∃ c, q.cps.toList[0]? = some c := ⟨_, List.getElem?_eq_getElem hl⟩
    refine single_app (h p List.mem_cons_self).1 (join_single (q :: r) fun z hz => h z (List.mem_cons_of_mem _ hz)) (join_first q r e) ?_
    rintro rfl
    exact hq.1 (List.mem_of_getElem? e)
theorem gap_signs : ("\n\n" : Str).cps.toList = [10, 10] := by decide +kernel
theorem gap_len : ("\n\n" : Str).length = 2 := by decide +kernel
theorem at_iff (x : Str) (i : Nat) : StrLaws.At x "\n\n" x.length i ↔ (x.cps.toList[i]? = some 10 ∧ x.cps.toList[i + 1]? = some 10) := by
  have hl := len_list x
  unfold StrLaws.At
  rw [StrLaws.subAt_eq, gap_len, gap_signs, beq_iff_eq]
  constructor
  · rintro ⟨h1, h2⟩
    have e : ∀ j, j < 2 → x.cps.toList[i + j]? = ([10, 10] : List Nat)[j]? := fun j hj => by
      rw [← h2, List.getElem?_take_of_lt hj, List.getElem?_drop]
    exact ⟨e 0 (by decide), e 1 (by decide)⟩
  · rintro ⟨h1, h2⟩
    have h3 := (List.getElem?_eq_some_iff.mp h2).1
    refine ⟨by omega, ?_⟩
    refine List.ext_getElem? fun j => ?_
    by_cases hj : j < 2
    · rw [List.getElem?_take_of_lt hj, List.getElem?_drop]
      match j, hj with
      | 0, _ => exact h1
      | 1, _ => exact h2
    · rw [List.getElem?_eq_none (by rw [List.length_take]; omega), List.getElem?_eq_none (by show 2 ≤ j; omega)]
theorem find_gap {x h b : Str} (hx : x = (h ++ "\n\n") ++ b) (hs : Single h.cps.toList) : Txt.find x "\n\n" = (h.length : Int) := by
  have hl := len_list h
  have ex : x.cps.toList = h.cps.toList ++ (10 :: 10 :: b.cps.toList) := by rw [hx, cat_list, cat_list, gap_signs, List.append_assoc]; rfl
  have at0 : StrLaws.At x "\n\n" x.length h.length := by
    rw [at_iff, ex, hl, List.getElem?_append_right (Nat.le_refl _), List.getElem?_append_right (by omega), Nat.sub_self, show h.cps.toList.length + 1 - h.cps.toList.length = 1 by omega]
    exact ⟨rfl, rfl⟩
  rcases find_whole x "\n\n" with ⟨_, hn⟩ | ⟨i, e, hi, hm⟩
  · exact absurd at0 (hn _)
  · rw [e]
    congr 1
    have h1 : ¬ h.length < i := fun z => hm _ z at0
    by_cases h2 : i < h.length
    · rw [at_iff, ex] at hi
      obtain ⟨a1, a2⟩ := hi
      rw [List.getElem?_append_left (by omega)] at a1
      obtain ⟨c, hc, hne⟩ := hs i a1
      have h3 := (List.getElem?_eq_some_iff.mp hc).1
      rw [List.getElem?_append_left h3, hc] at a2
      exact absurd (Option.some.inj a2) hne
    · omega
end L2
set_option Elab.async false
set_option linter.all false
set_option maxRecDepth 100000
set_option maxHeartbeats 4000000
namespace L2
open PySem PySem.Spec PyProof.Rows
def dtx (d : Int) : Str := Txt.zfill (Str.ofString (toString d)) 4
abbrev figS : Str := "0123456789"
theorem fig_mem : ∀ c : Nat, 48 ≤ c → c ≤ 57 → c ∈ figS.cps.toList := by
  intro c h1 h2
  have e : figS.cps.toList = [48, 49, 50, 51, 52, 53, 54, 55, 56, 57] := by decide +kernel
  rw [e]
  simp only [List.mem_cons, List.not_mem_nil, or_false]
  omega
theorem num_digits {d : Int} (h0 : 0 ≤ d) : PySem.NumText.AllDigits (Str.ofString (toString d)).cps.toList := by
  obtain ⟨m, rfl⟩ := Int.eq_ofNat_of_zero_le h0
  intro c hc
  rw [PySem.W.KIN.signs_num] at hc
  obtain ⟨ch, hch, e⟩ := List.mem_map.mp hc
  have r := digit_range (Nat.isDigit_of_mem_toDigits (by decide) (by decide) hch)
  rw [← e]
  exact r
theorem num_val {d : Int} (h0 : 0 ≤ d) : ((PySem.NumText.digitsVal (Str.ofString (toString d)).cps.toList : Nat) : Int) = d := by
  obtain ⟨m, rfl⟩ := Int.eq_ofNat_of_zero_le h0
  rw [PySem.W.KIN.signs_num, PySem.W.KIN.val_back]
theorem num_le4 {d : Int} (h0 : 0 ≤ d) (h1 : d ≤ 9999) : (Str.ofString (toString d)).length ≤ 4 := toString_length_le h0 (by decide) (by omega)
theorem num_ge1 {d : Int} (h0 : 0 ≤ d) : 1 ≤ (Str.ofString (toString d)).length := by
  obtain ⟨m, rfl⟩ := Int.eq_ofNat_of_zero_le h0
  rw [len_list, PySem.W.KIN.signs_num, List.length_map]
  exact toDigits_len_ge 10 m
theorem dtx_signs {d : Int} (h0 : 0 ≤ d) (h1 : d ≤ 9999) : (dtx d).cps.toList = List.replicate (4 - (Str.ofString (toString d)).length) 48 ++ (Str.ofString (toString d)).cps.toList := by
  have hl := num_le4 h0 h1
  have hg := num_ge1 h0
  have hd := num_digits h0
  unfold dtx Txt.zfill
  generalize Str.ofString (toString d) = S at *
  by_cases h : (4 : Int) ≤ (S.length : Int)
  · rw [if_pos h, show 4 - S.length = 0 by omega]
    rfl
  · rw [if_neg h]
    have hz : 0 < S.cps.toList.length := by rw [← len_list]; omega
    have e0 : S.cps[0]? = some S.cps.toList[0] := by
      have := List.getElem?_eq_getElem hz
      simpa using this
    have hc := hd _ (List.getElem_mem hz)
    unfold zfilled
    rw [e0]
    generalize S.cps.toList[0] = c at hc
    have key : (Builtin.Str.padded S ((4 : Int).toNat - S.length) 0 48).cps.toList = List.replicate (4 - S.length) 48 ++ S.cps.toList := by
      show (Array.replicate (4 - S.length) 48 ++ S.cps ++ Array.replicate 0 48).toList = _
      simp
    split
    · rename_i e; cases e; exact absurd hc.1 (by decide)
    · rename_i e; cases e; exact absurd hc.1 (by decide)
    · exact key
theorem dtx_len {d : Int} (h0 : 0 ≤ d) (h1 : d ≤ 9999) : (dtx d).length = 4 := by
  have hl := num_le4 h0 h1
  rw [len_list, dtx_signs h0 h1, List.length_append, List.length_replicate, ← len_list]
  omega
theorem dtx_digits {d : Int} (h0 : 0 ≤ d) (h1 : d ≤ 9999) : PySem.NumText.AllDigits (dtx d).cps.toList := fun c hc => by
  rw [dtx_signs h0 h1] at hc
  rcases List.mem_append.mp hc with z | z
  · rw [(List.mem_replicate.mp z).2]; decide
  · exact num_digits h0 c z
theorem dtx_figs {d : Int} (h0 : 0 ≤ d) (h1 : d ≤ 9999) : ((dtx d).cps.toList.all fun c => decide (c ∈ figS.cps.toList)) = true :=
  List.all_eq_true.mpr fun c hc => decide_eq_true (fig_mem c (dtx_digits h0 h1 c hc).1 (dtx_digits h0 h1 c hc).2)
theorem val_zeros (n : Nat) (l : List Nat) : PySem.NumText.digitsVal (List.replicate n 48 ++ l) = PySem.NumText.digitsVal l := by
  induction n with
  | zero => rfl
  | succ n ih =>
    rw [List.replicate_succ]
    exact ih
theorem dtx_reads {d : Int} (h0 : 0 ≤ d) (h1 : d ≤ 9999) : PySem.intText? (dtx d) = some d := by
  have hl := dtx_len h0 h1
  have hl2 := len_list (dtx d)
  rw [PySem.intText_digits (dtx_digits h0 h1) (fun z => by rw [z] at hl2; rw [hl] at hl2; exact absurd hl2 (by decide)) (by omega), dtx_signs h0 h1, val_zeros, num_val h0]
theorem dtx_asc {d : Int} (h0 : 0 ≤ d) (h1 : d ≤ 9999) : Asc (dtx d) := fun c hc => Nat.lt_of_le_of_lt (dtx_digits h0 h1 c hc).2 (by decide)
theorem dtx_nonl {d : Int} (h0 : 0 ≤ d) (h1 : d ≤ 9999) : ¬ 10 ∈ (dtx d).cps.toList := fun z => absurd (dtx_digits h0 h1 10 z).1 (by decide)
theorem ooo_signs : ("000" : Str).cps.toList = [48, 48, 48] := by decide +kernel
theorem ooo_len : ("000" : Str).length = 3 := by decide +kernel
theorem dtx_slice {d : Int} (h0 : 0 ≤ d) (h1 : d ≤ 9999) : Txt.slice (("000" : Str) ++ Str.ofString (toString d)) (some (-4)) none = dtx d := by
  have hl := num_le4 h0 h1
  have hg := num_ge1 h0
  refine str_ext ?_
  rw [dtx_signs h0 h1]
  generalize Str.ofString (toString d) = S at *
  have hle : (("000" : Str) ++ S).length = 3 + S.length := by rw [cat_len, ooo_len]
  have e : Txt.slice (("000" : Str) ++ S) (some (-4)) none = Txt.slice (("000" : Str) ++ S) (some ((S.length - 1 : Nat) : Int)) none := by
    unfold Txt.slice
    rw [StrLaws.sliceIdx_neg_lo none _ (by decide) (by rw [hle]; omega), hle, show (-4 : Int) + ((3 + S.length : Nat) : Int) = ((S.length - 1 : Nat) : Int) by omega]
  rw [e, slice_from, cat_list, ooo_signs]
  have hc : S.length = 1 ∨ S.length = 2 ∨ S.length = 3 ∨ S.length = 4 := by omega
  rcases hc with h | h | h | h <;> rw [h] <;> rfl
end L2
set_option Elab.async false
set_option linter.all false
set_option maxRecDepth 100000
set_option maxHeartbeats 4000000
namespace L2
open PySem PySem.Spec PyProof.Rows
def leS (a b : Str) : Bool := !ltCps b.cps.toList a.cps.toList
def insS (x : Str) : List Str → List Str
  | [] => [x]
  | y :: r => if leS x y = true then x :: y :: r else y :: insS x r
def sortS : List Str → List Str
  | [] => []
  | x :: r => insS x (sortS r)
theorem leS_iff (a b : Str) : leS a b = true ↔ ¬ b.cps.toList < a.cps.toList := by
  unfold leS
  rw [ltCps_eq]
  simp
theorem leS_total (a b : Str) : leS a b = true ∨ leS b a = true := by
  rw [leS_iff, leS_iff]
  by_cases h : b.cps.toList < a.cps.toList
  · exact .inr (List.lt_asymm h)
  · exact .inl h
theorem leS_trans {a b c : Str} (h1 : leS a b = true) (h2 : leS b c = true) : leS a c = true := by
  rw [leS_iff] at *
  intro h
  rcases strKind.negTrans c.cps.toList b.cps.toList a.cps.toList (by simpa using h) with z | z
  · exact h2 (by simpa using z)
  · exact h1 (by simpa using z)
theorem leS_antisymm {a b : Str} (h1 : leS a b = true) (h2 : leS b a = true) : a = b := by
  rw [leS_iff] at *
  exact str_ext (List.le_antisymm (List.not_lt.mp h1) (List.not_lt.mp h2))
abbrev Sor (l : List Str) : Prop := l.Pairwise fun a b => leS a b = true
theorem ins_perm (x : Str) : ∀ l : List Str, (insS x l).Perm (x :: l)
  | [] => .refl _
  | y :: r => by
    unfold insS
    split
    · exact .refl _
    · exact ((ins_perm x r).cons y).trans (.swap x y r)
theorem sortS_perm : ∀ l : List Str, (sortS l).Perm l
  | [] => .refl _
  | x :: r => (ins_perm x (sortS r)).trans ((sortS_perm r).cons x)
theorem ins_sor (x : Str) : ∀ {l : List Str}, Sor l → Sor (insS x l)
  | [], _ => List.pairwise_singleton _ _
  | y :: r, h => by
    unfold insS
    obtain ⟨h1, h2⟩ := List.pairwise_cons.mp h
    split
    · rename_i hx
      refine List.pairwise_cons.mpr ⟨fun z hz => ?_, h⟩
      rcases List.mem_cons.mp hz with rfl | hz
      · exact hx
      · exact leS_trans hx (h1 z hz)
    · rename_i hx
      refine List.pairwise_cons.mpr ⟨fun z hz => ?_, ins_sor x h2⟩
      rcases List.mem_cons.mp ((ins_perm x r).mem_iff.mp hz) with rfl | hz
      · exact (leS_total y z).resolve_right hx
      · exact h1 z hz
theorem sortS_sor : ∀ l : List Str, Sor (sortS l)
  | [] => .nil
  | x :: r => ins_sor x (sortS_sor r)
theorem sor_unique : ∀ {a b : List Str}, a.Perm b → Sor a → Sor b → a = b
  | [], b, p, _, _ => (List.nil_perm.mp p).symm
  | x :: r, [], p, _, _ => absurd p.symm.nil_eq (by simp)
  | x :: r, y :: t, p, ha, hb => by
    have e : x = y := by
      have h1 : x ∈ y :: t := p.mem_iff.mp List.mem_cons_self
      have h2 : y ∈ x :: r := p.mem_iff.mpr List.mem_cons_self
      rcases List.mem_cons.mp h1 with e | h1
      · exact e
      · rcases List.mem_cons.mp h2 with e | h2
        · exact e.symm
        · exact leS_antisymm ((List.pairwise_cons.mp ha).1 y h2) ((List.pairwise_cons.mp hb).1 x h1)
    subst e
    rw [sor_unique (List.perm_cons _ |>.mp p) (List.pairwise_cons.mp ha).2 (List.pairwise_cons.mp hb).2]
theorem sortS_eq {a b : List Str} (p : a.Perm b) (h : Sor a) : a = sortS b := sor_unique (p.trans (sortS_perm b).symm) h (sortS_sor b)
theorem sortS_congr {a b : List Str} (p : a.Perm b) : sortS a = sortS b := sortS_eq ((sortS_perm a).trans p) (sortS_sor a)
end L2
set_option Elab.async false
set_option linter.all false
set_option maxRecDepth 100000
set_option maxHeartbeats 4000000
namespace L2
open PySem PySem.Spec PyProof.Rows
theorem RDs.len {K : PySem.W.Frag} {H : Hp} : ∀ {xs : List V} {ds : List PyData}, RDs K H xs ds → xs.length = ds.length
  | _, _, .nil => rfl
  | _, _, .cons _ r => by rw [List.length_cons, List.length_cons, RDs.len r]
theorem RDs.at {K : PySem.W.Frag} {H : Hp} : ∀ {xs : List V} {ds : List PyData} {m : Nat} {x : V}, RDs K H xs ds → xs[m]? = some x → ∃ d, ds[m]? = some d ∧ RD K H x d
  | _, _, _, _, .nil, e => by simp at e
  | _, _, 0, _, .cons h _, e => by simp at e; subst e; exact ⟨_, rfl, h⟩
  | _, _, m + 1, x, .cons _ r, e => by
    obtain ⟨d, e1, e2⟩ := RDs.at (m := m) (x := x) r (by simpa using e)
    exact ⟨d, by simpa using e1, e2⟩
theorem Vals.erase : ∀ {xs : List V} {us : List Value} (j : Nat), Vals xs us → Vals (xs.eraseIdx j) (us.eraseIdx j)
  | _, _, _, .nil => .nil
  | _, _, 0, .cons _ r => r
  | _, _, j + 1, .cons h r => .cons h (Vals.erase j r)
end L2
set_option Elab.async false
set_option linter.all false
set_option maxRecDepth 100000
set_option maxHeartbeats 4000000
namespace L2
open PySem PySem.Spec PyProof.Rows
end L2
set_option Elab.async false
set_option linter.all false
set_option maxRecDepth 100000
set_option maxHeartbeats 4000000
namespace L2
open PySem PySem.Spec PyProof.Rows
abbrev Rows := List (Str × Str)
def up (rows : Rows) (n : Str) : Option Str := (rows.find? fun r => decide (r.1 = n)).map (·.2)
def reps (rows : Rows) (t : Str) : List Str := (rows.filter fun r => decide (r.2 = t)).map (·.1)
def without (rows : Rows) (n : Str) : Rows := rows.filter fun r => decide (r.1 ≠ n)
theorem up_mem {rows : Rows} {n a : Str} (h : up rows n = some a) : (n, a) ∈ rows := by
  unfold up at h
  cases e : rows.find? fun r => decide (r.1 = n) with
  | none => rw [e] at h; cases h
  | some r =>
    rw [e] at h
    have h1 := List.find?_some e
    have h2 := List.mem_of_find?_eq_some e
    have e1 : r.1 = n := of_decide_eq_true h1
    have e2 : r.2 = a := Option.some.inj h
    rw [← e1, ← e2]; exact h2
theorem up_none {rows : Rows} {n : Str} : up rows n = none ↔ ¬ n ∈ rows.map (·.1) := by
  unfold up
  rw [Option.map_eq_none_iff, List.find?_eq_none]
  constructor
  · intro h z
    obtain ⟨r, hr, e⟩ := List.mem_map.mp z
    exact h r hr (decide_eq_true e)
  · intro h r hr z
    exact h (List.mem_map.mpr ⟨r, hr, of_decide_eq_true z⟩)
theorem up_some {rows : Rows} {n : Str} (h : n ∈ rows.map (·.1)) : ∃ a, up rows n = some a := by
  cases e : up rows n with
  | none => exact absurd h (up_none.mp e)
  | some a => exact ⟨a, rfl⟩
theorem reps_sub {rows : Rows} {t n : Str} (h : n ∈ reps rows t) : n ∈ rows.map (·.1) := by
  obtain ⟨r, hr, e⟩ := List.mem_map.mp h
  exact List.mem_map.mpr ⟨r, (List.mem_filter.mp hr).1, e⟩
theorem one_answer {rows : Rows} {n a b : Str} (nd : (rows.map (·.1)).Nodup) (h1 : (n, a) ∈ rows) (h2 : (n, b) ∈ rows) : a = b := by
  induction rows with
  | nil => cases h1
  | cons r rows ih =>
    rw [List.map_cons, List.nodup_cons] at nd
    rcases List.mem_cons.mp h1 with e1 | h1
    · rcases List.mem_cons.mp h2 with e2 | h2
      · rw [← e2] at e1; exact (Prod.mk.inj e1).2
      · exact absurd (List.mem_map.mpr ⟨_, h2, by rw [← e1]⟩) nd.1
    · rcases List.mem_cons.mp h2 with e2 | h2
      · exact absurd (List.mem_map.mpr ⟨_, h1, by rw [← e2]⟩) nd.1
      · exact ih nd.2 h1 h2
theorem in_reps {rows : Rows} {n a : Str} (h : up rows n = some a) : n ∈ reps rows a := List.mem_map.mpr ⟨(n, a), List.mem_filter.mpr ⟨up_mem h, decide_eq_true rfl⟩, rfl⟩
def chain (rows : Rows) : Nat → List Str → List Str
  | 0, met => met
  | k + 1, met => match up rows (met.getLastD "") with
    | some a => if a ∈ rows.map (·.1) ∧ ¬ a ∈ met then chain rows k (met ++ [a]) else met
    | none => met
def depthOf (rows : Rows) (n : Str) : Int := ((chain rows rows.length [n]).length : Int) - 1
theorem chain_go {rows : Rows} {met : List Str} {a : Str} {k : Nat} (h : up rows (met.getLastD "") = some a) (h1 : a ∈ rows.map (·.1)) (h2 : ¬ a ∈ met) : chain rows (k + 1) met = chain rows k (met ++ [a]) := by
  conv => lhs; unfold chain
  rw [h]
  simp only [if_pos (And.intro h1 h2)]
theorem chain_end {rows : Rows} {met : List Str} {a : Str} {k : Nat} (h : up rows (met.getLastD "") = some a) (h1 : ¬ (a ∈ rows.map (·.1) ∧ ¬ a ∈ met)) : chain rows (k + 1) met = met := by
  unfold chain
  rw [h]
  exact if_neg h1
theorem nodup_le : ∀ {ms l : List Str}, ms.Nodup → (∀ m ∈ ms, m ∈ l) → ms.length ≤ l.length
  | [], _, _, _ => Nat.zero_le _
  | m :: ms, l, nd, h => by
    obtain ⟨h1, h2⟩ := List.nodup_cons.mp nd
    have hm := h m List.mem_cons_self
    have e := List.length_erase_of_mem hm
    have hp := List.length_pos_of_mem hm
    have := nodup_le (l := l.erase m) h2 fun x hx => (List.mem_erase_of_ne (a := x) (b := m) (fun z => h1 (by rw [← z]; exact hx))).mpr (h x (List.mem_cons_of_mem _ hx))
    rw [List.length_cons]
    omega
/-- on the way: met is the way so far, a what its last one answers -/
structure OnWay (rows : Rows) (n : Str) (met : List Str) (a : Str) : Prop where
  nd : met.Nodup
  sub : ∀ m ∈ met, m ∈ rows.map (·.1)
  last : up rows (met.getLastD "") = some a
  ne : met ≠ []
  way : chain rows (rows.length + 1 - met.length) met = chain rows rows.length [n]
theorem OnWay.len {rows : Rows} {n : Str} {met : List Str} {a : Str} (w : OnWay rows n met a) : 1 ≤ met.length ∧ met.length ≤ rows.length := by
  have h1 := nodup_le w.nd w.sub
  rw [List.length_map] at h1
  exact ⟨List.length_pos_iff.mpr w.ne, h1⟩
theorem OnWay.start {rows : Rows} {n a : Str} (h : up rows n = some a) : OnWay rows n [n] a :=
  ⟨by simp, fun m hm => by rw [List.mem_singleton.mp hm]; exact List.mem_map.mpr ⟨_, up_mem h, rfl⟩, h, by simp, rfl⟩
theorem OnWay.step {rows : Rows} {n : Str} {met : List Str} {a b : Str} (w : OnWay rows n met a) (h1 : up rows a = some b) (h2 : ¬ a ∈ met) : OnWay rows n (met ++ [a]) b := by
  have hl := w.len
  have ha : a ∈ rows.map (·.1) := List.mem_map.mpr ⟨_, up_mem h1, rfl⟩
  have e := chain_go (k := rows.length - met.length) w.last ha h2
  refine ⟨List.nodup_append.mpr ⟨w.nd, by simp, fun x hx y hy z => ?_⟩, fun m hm => ?_, ?_, by simp, ?_⟩
  · have : y = a := by simpa using hy
    rw [z, this] at hx; exact h2 hx
  · rcases List.mem_append.mp hm with z | z
    · exact w.sub m z
    · rw [List.mem_singleton.mp z]; exact ha
  · rw [List.getLastD_concat]; exact h1
  · rw [← w.way, List.length_append, List.length_singleton, show rows.length + 1 - (met.length + 1) = rows.length - met.length by omega, ← e, show rows.length - met.length + 1 = rows.length + 1 - met.length by omega]
theorem OnWay.stop {rows : Rows} {n : Str} {met : List Str} {a : Str} (w : OnWay rows n met a) (h : ¬ (a ∈ rows.map (·.1) ∧ ¬ a ∈ met)) : (met.length : Int) - 1 = depthOf rows n := by
  have hl := w.len
  have e := chain_end (k := rows.length - met.length) w.last h
  unfold depthOf
  rw [← w.way, show rows.length + 1 - met.length = rows.length - met.length + 1 by omega, e]
/-- all but dicts stays -/
def Kp1 (H H' : Hp) : Prop := ∀ c o, H c = some o → (∀ kvs, o ≠ .dK kvs) → H' c = some o
/-- all but lists stays -/
def Kp2 (H H' : Hp) : Prop := ∀ c o, H c = some o → (∀ xs, o ≠ .lst xs) → H' c = some o
theorem Kp1.trans {H H1 H2 : Hp} (a : Kp1 H H1) (b : Kp1 H1 H2) : Kp1 H H2 := fun c o e n => b c o (a c o e n) n
theorem Kp2.trans {H H1 H2 : Hp} (a : Kp2 H H1) (b : Kp2 H1 H2) : Kp2 H H2 := fun c o e n => b c o (a c o e n) n
theorem Kp1.refl (H : Hp) : Kp1 H H := fun _ _ e _ => e
theorem Kp2.refl (H : Hp) : Kp2 H H := fun _ _ e _ => e
theorem Kp1.upd {H : Hp} {p : Addr} {kvs kvs' : List (Key × V)} (h : H p = some (.dK kvs)) : Kp1 H (upd H p (.dK kvs')) := fun c o e n => by
  by_cases z : c = p
  · rw [z, h] at e; cases e; exact absurd rfl (n kvs)
  · rw [upd_ne z]; exact e
theorem Kp2.upd {H : Hp} {p : Addr} {xs xs' : List V} (h : H p = some (.lst xs)) : Kp2 H (upd H p (.lst xs')) := fun c o e n => by
  by_cases z : c = p
  · rw [z, h] at e; cases e; exact absurd rfl (n xs)
  · rw [upd_ne z]; exact e
end L2
set_option Elab.async false
set_option linter.all false
set_option maxRecDepth 100000
set_option maxHeartbeats 4000000
namespace L2
open PySem PySem.Spec PyProof.Rows
theorem rep_list (x : Str) : ∀ (n : Nat) (acc : Array Nat), ((List.replicate n x.cps).foldl (· ++ ·) acc).toList = acc.toList ++ (List.replicate n x.cps.toList).flatten
  | 0, acc => by simp
  | n + 1, acc => by
    rw [List.replicate_succ, List.foldl_cons, rep_list x n (acc ++ x.cps), List.replicate_succ, List.flatten_cons, Array.toList_append, List.append_assoc]
theorem mul_signs (x : Str) (n : Int) : (Txt.mul x n).cps.toList = (List.replicate n.toNat x.cps.toList).flatten := by
  unfold Txt.mul
  by_cases h : n < 1
  · rw [if_pos h, show n.toNat = 0 by omega]; rfl
  · rw [if_neg h]
    split
    · rename_i h2
      rw [Bool.or_eq_true] at h2
      rcases h2 with h2 | h2
      · have : n = 1 := by simpa using h2
        rw [this]
        show _ = (List.replicate 1 x.cps.toList).flatten
        simp
      · have h3 : x.cps.toList = [] := List.eq_nil_of_length_eq_zero (by rw [← len_list]; simpa using h2)
        rw [h3]
        simp
    · show ((List.replicate n.toNat x.cps).foldl (· ++ ·) #[]).toList = _
      rw [rep_list]; rfl
theorem mul_len (x : Str) (n : Int) : (Txt.mul x n).length = n.toNat * x.length := by
  rw [len_list, mul_signs, len_list, List.length_flatten]
  simp
inductive rMulS_I (x : V) (y : V) (H : Hp) (Q : VK) : Prop
  | mk : ∀ (s : Str) (n : Int), x = .str s → y = .int n → s.length ≤ 100 → -1000 ≤ n → n ≤ 1000 → Q (.str (Txt.mul s n)) H → rMulS_I x y H Q
def rMulS : R2 := fun x y H Q => rMulS_I x y H Q
theorem op_mul_str {X : Cx} : OpR X (binaryOp .Mult) rMulS := by
  intro pins s σ H x y v u Q I rx ry h
  obtain ⟨z, n, rfl, rfl, hz, h0, h1, q⟩ := h
  obtain ⟨t, rfl⟩ := rx
  obtain ⟨t', rfl⟩ := ry
  refine SB.mul ⟨?_, fun hn _ => ?_, fun hn _ => ?_⟩ fun t' k => ⟨.str _, H, I.tok _, ⟨_, rfl⟩, q⟩
  · rw [Bool.or_eq_false_iff]
    exact ⟨decide_eq_false (by omega), decide_eq_false (by omega)⟩
  · have h4 : (z.length : Int) * n ≤ 100 * 1000 := Int.mul_le_mul (by omega) h1 (by omega) (by decide)
    have h5 : (z.length : Int) ≤ (2 ^ 63 - 1) / n := Int.le_ediv_of_mul_le (by omega) (Int.le_trans h4 (by decide))
    omega
  · have h2 : z.length * n.toNat ≤ 100 * 1000 := Nat.mul_le_mul hz (by omega)
    have h3 : 100 * 1000 ≤ sizeLine := by decide
    unfold Builtin.Str.tooLong
    exact decide_eq_false (by omega)
end L2
set_option Elab.async false
set_option linter.all false
set_option maxRecDepth 100000
set_option maxHeartbeats 4000000
namespace L2
open PySem PySem.Spec PyProof.Rows
abbrev PRow := Addr × Str × Str
/-- all but the list at h stays -/
def KpH (h : Addr) (H H' : Hp) : Prop := ∀ c o, c ≠ h → H c = some o → H' c = some o
theorem KpH.trans {h : Addr} {H H1 H2 : Hp} (a : KpH h H H1) (b : KpH h H1 H2) : KpH h H H2 := fun c o n e => b c o n (a c o n e)
end L2
set_option Elab.async false
set_option linter.all false
set_option maxRecDepth 100000
set_option maxHeartbeats 4000000
namespace L2
open PySem PySem.Spec PyProof.Rows
section
variable {X : Cx} {pins : List (Addr × Obj)} {σ : St} {H : Hp} {s : Shared} {a : Addr} {oa : Obj} {kvs : List (Key × V)}
end
end L2
set_option Elab.async false
set_option linter.all false
set_option maxRecDepth 100000
set_option maxHeartbeats 4000000
namespace L2
open PySem PySem.Spec PyProof.Rows
def upL (rows : Rows) (n : Str) : List Str := match up rows n with
  | some a => if a = "" then [] else [a]
  | none => []
def nbr (rows : Rows) (n : Str) : List Str := reps rows n ++ upL rows n
inductive Rch (rows : Rows) (n : Str) : Str → Prop
  | refl : Rch rows n n
  | step {m k : Str} : Rch rows n m → k ∈ nbr rows m → Rch rows n k
theorem mem_upL {rows : Rows} {n k : Str} : k ∈ upL rows n ↔ up rows n = some k ∧ k ≠ "" := by
  unfold upL
  cases up rows n with
  | none => simp
  | some a =>
    by_cases h : a = ""
    · subst h
      simp
      intro e; exact e.symm
    · simp [h]
      constructor
      · rintro rfl; exact ⟨rfl, h⟩
      · rintro ⟨e, _⟩; exact e.symm
theorem mem_reps {rows : Rows} {t n : Str} (nd : (rows.map (·.1)).Nodup) : n ∈ reps rows t ↔ up rows n = some t := by
  constructor
  · intro h
    obtain ⟨r, hr, e⟩ := List.mem_map.mp h
    obtain ⟨h1, h2⟩ := List.mem_filter.mp hr
    have e2 : r.2 = t := of_decide_eq_true h2
    obtain ⟨a, ea⟩ := up_some (List.mem_map.mpr ⟨r, h1, e⟩)
    have : (n, t) ∈ rows := by rw [← e, ← e2]; exact h1
    rw [ea, one_answer nd (up_mem ea) this]
  · exact in_reps
/-- names are no empty texts -/
def NoE (rows : Rows) : Prop := ∀ n : Str, n ∈ rows.map (·.1) → n ≠ ""
theorem nbr_sym {rows : Rows} (nd : (rows.map (·.1)).Nodup) {m k : Str} (hm : m ≠ "") (h : k ∈ nbr rows m) : m ∈ nbr rows k := by
  rcases List.mem_append.mp h with h | h
  · exact List.mem_append_right _ (mem_upL.mpr ⟨(mem_reps nd).mp h, hm⟩)
  · exact List.mem_append_left _ ((mem_reps nd).mpr (mem_upL.mp h).1)
theorem nbr_ne {rows : Rows} (ne : NoE rows) {m k : Str} (h : k ∈ nbr rows m) : k ≠ "" := by
  rcases List.mem_append.mp h with h | h
  · exact ne k (reps_sub h)
  · exact (mem_upL.mp h).2
theorem Rch.ne {rows : Rows} (ne : NoE rows) {n k : Str} (hn : n ≠ "") (h : Rch rows n k) : k ≠ "" := by
  cases h with
  | refl => exact hn
  | step _ h => exact nbr_ne ne h
theorem Rch.trans {rows : Rows} {a b c : Str} (h1 : Rch rows a b) (h2 : Rch rows b c) : Rch rows a c := by
  induction h2 with
  | refl => exact h1
  | step _ h ih => exact .step ih h
theorem Rch.symm {rows : Rows} (nd : (rows.map (·.1)).Nodup) (ne : NoE rows) {a b : Str} (ha : a ≠ "") (h : Rch rows a b) : Rch rows b a := by
  induction h with
  | refl => exact .refl
  | step h1 h2 ih => exact (Rch.step .refl (nbr_sym nd (h1.ne ne ha) h2)).trans ih
open Classical in
noncomputable def thrOf (rows : Rows) (n : Str) : List Str := sortS ((rows.map (·.1)).filter fun m => decide (Rch rows n m))
theorem thr_of {rows : Rows} (nd : (rows.map (·.1)).Nodup) {n : Str} {l : List Str} (hl : l.Nodup) (h : ∀ m, m ∈ l ↔ m ∈ rows.map (·.1) ∧ Rch rows n m) : sortS l = thrOf rows n := by
  unfold thrOf
  refine sortS_congr ((List.perm_ext_iff_of_nodup hl (nd.filter _)).mpr fun m => ?_)
  rw [h, List.mem_filter]
  simp
structure DFS (rows : Rows) (n : Str) (rc wt : List Str) : Prop where
  nd : rc.Nodup
  start : n ∈ rc
  sound : ∀ m ∈ rc, Rch rows n m
  sub : ∀ m ∈ wt, m ∈ rc
  clo : ∀ m ∈ rc, m ∉ wt → ∀ k ∈ nbr rows m, k ∈ rc
def univ (rows : Rows) : List Str := rows.map (·.1) ++ rows.map (·.2)
theorem rch_univ {rows : Rows} {n m : Str} (hn : n ∈ rows.map (·.1)) (h : Rch rows n m) : m ∈ univ rows := by
  cases h with
  | refl => exact List.mem_append_left _ hn
  | step _ h =>
    rcases List.mem_append.mp h with h | h
    · exact List.mem_append_left _ (reps_sub h)
    · exact List.mem_append_right _ (List.mem_map.mpr ⟨_, up_mem (mem_upL.mp h).1, rfl⟩)
theorem DFS.len {rows : Rows} {n : Str} {rc wt : List Str} (d : DFS rows n rc wt) (hn : n ∈ rows.map (·.1)) : rc.length ≤ 2 * rows.length := by
  have := nodup_le d.nd fun m hm => rch_univ hn (d.sound m hm)
  unfold univ at this
  rw [List.length_append, List.length_map, List.length_map] at this
  omega
theorem DFS.init {rows : Rows} {n : Str} : DFS rows n [n] [n] :=
  ⟨by simp, by simp, fun m hm => by rw [List.mem_singleton.mp hm]; exact .refl, fun m hm => hm, fun m hm h => absurd hm h⟩
theorem DFS.done {rows : Rows} (nd : (rows.map (·.1)).Nodup) {n : Str} {rc : List Str} (d : DFS rows n rc []) : sortS (rc.filter fun m => decide (m ∈ rows.map (·.1))) = thrOf rows n := by
  have all : ∀ m, Rch rows n m → m ∈ rc := fun m h => by
    induction h with
    | refl => exact d.start
    | step _ h ih => exact d.clo _ ih (by simp) _ h
  refine thr_of nd (d.nd.filter _) fun m => ?_
  rw [List.mem_filter]
  constructor
  · rintro ⟨h1, h2⟩
    exact ⟨of_decide_eq_true h2, d.sound m h1⟩
  · rintro ⟨h1, h2⟩
    exact ⟨all m h2, decide_eq_true h1⟩
/-- within a turn: here was taken off, its neighbours ns (the first i of them) have been looked at -/
structure DFSin (rows : Rows) (n here : Str) (seen : List Str) (rc wt : List Str) : Prop where
  nd : rc.Nodup
  start : n ∈ rc
  hr : here ∈ rc
  sound : ∀ m ∈ rc, Rch rows n m
  sub : ∀ m ∈ wt, m ∈ rc
  clo : ∀ m ∈ rc, m ∉ wt → m ≠ here → ∀ k ∈ nbr rows m, k ∈ rc
  got : ∀ k ∈ seen, k ∈ rc
theorem DFSin.old {rows : Rows} {n here k : Str} {seen rc wt : List Str} (d : DFSin rows n here seen rc wt) (hk : k ∈ rc) : DFSin rows n here (seen ++ [k]) rc wt :=
  ⟨d.nd, d.start, d.hr, d.sound, d.sub, d.clo, fun m hm => (List.mem_append.mp hm).elim (d.got m) fun y => by rw [List.mem_singleton.mp y]; exact hk⟩
theorem DFSin.new {rows : Rows} {n here k : Str} {seen rc wt : List Str} (d : DFSin rows n here seen rc wt) (hk : ¬ k ∈ rc) (hn : k ∈ nbr rows here) : DFSin rows n here (seen ++ [k]) (rc ++ [k]) (wt ++ [k]) := by
  refine ⟨List.nodup_append.mpr ⟨d.nd, by simp, fun x hx y hy e => hk ?_⟩, List.mem_append_left _ d.start, List.mem_append_left _ d.hr, fun m hm => ?_, fun m hm => ?_, fun m hm h1 h2 => ?_, fun m hm => ?_⟩
  · rw [List.mem_singleton.mp hy] at e; rw [← e]; exact hx
  · rcases List.mem_append.mp hm with z | z
    · exact d.sound m z
    · rw [List.mem_singleton.mp z]; exact .step (d.sound here d.hr) hn
  · rcases List.mem_append.mp hm with z | z
    · exact List.mem_append_left _ (d.sub m z)
    · exact List.mem_append_right _ z
  · rcases List.mem_append.mp hm with z | z
    · intro k' hk'
      exact List.mem_append_left _ (d.clo m z (fun y => h1 (List.mem_append_left _ y)) h2 k' hk')
    · exact absurd (List.mem_append_right _ z) h1
  · rcases List.mem_append.mp hm with z | z
    · exact List.mem_append_left _ (d.got m z)
    · exact List.mem_append_right _ z
def hang (one other : Str × Str) : Bool := decide (one.2 = other.1) || (decide (other.2 = one.1) || (decide (one.2 ≠ "") && decide (one.2 = other.2)))
theorem hang_rch {rows : Rows} (nd : (rows.map (·.1)).Nodup) (ne : NoE rows) {one other : Str × Str} (h1 : one ∈ rows) (h2 : other ∈ rows) (h : hang one other = true) : Rch rows other.1 one.1 := by
  have u : ∀ r ∈ rows, up rows r.1 = some r.2 := fun r hr => by
    obtain ⟨a, ea⟩ := up_some (List.mem_map.mpr ⟨r, hr, rfl⟩)
    rw [ea, one_answer nd (up_mem ea) hr]
  have n1 := ne one.1 (List.mem_map.mpr ⟨one, h1, rfl⟩)
  unfold hang at h
  rw [Bool.or_eq_true, Bool.or_eq_true, Bool.and_eq_true] at h
  rcases h with h | h | ⟨h, h'⟩
  · have e := of_decide_eq_true h
    exact .step .refl (List.mem_append_left _ ((mem_reps nd).mpr (by rw [u one h1, e])))
  · have e := of_decide_eq_true h
    exact .step .refl (List.mem_append_right _ (mem_upL.mpr ⟨by rw [u other h2, e], n1⟩))
  · have e0 := of_decide_eq_true h
    have e := of_decide_eq_true h'
    refine .step (m := one.2) (.step .refl (List.mem_append_right _ (mem_upL.mpr ⟨by rw [u other h2, e], e0⟩))) (List.mem_append_left _ ((mem_reps nd).mpr (u one h1)))
theorem hang_all {rows : Rows} (nd : (rows.map (·.1)).Nodup) (ne : NoE rows) {n : Str} {S : Rows} (sub : ∀ r ∈ S, r ∈ rows) (hn : n ∈ S.map (·.1)) (clo : ∀ r ∈ S, ∀ q ∈ rows, hang q r = true → q ∈ S) {m : Str} (hm : m ∈ rows.map (·.1)) (h : Rch rows n m) : m ∈ S.map (·.1) := by
  have n0 : n ≠ "" := by
    obtain ⟨r, hr, e⟩ := List.mem_map.mp hn
    exact ne n (List.mem_map.mpr ⟨r, sub r hr, e⟩)
  have good : ∀ k, Rch rows n k → (k ∈ rows.map (·.1) → k ∈ S.map (·.1)) ∧ (k ∉ rows.map (·.1) → ∃ r ∈ S, r.2 = k) := fun k hk => by
    induction hk with
    | refl => exact ⟨fun _ => hn, fun z => by
        obtain ⟨r, hr, e⟩ := List.mem_map.mp hn
        exact absurd (List.mem_map.mpr ⟨r, sub r hr, e⟩) z⟩
    | @step m k h1 h2 ih =>
      have m0 := h1.ne ne n0
      rcases List.mem_append.mp h2 with h2 | h2
      · -- k answers m
        have hk := reps_sub h2
        refine ⟨fun _ => ?_, fun z => absurd hk z⟩
        have hkm : (k, m) ∈ rows := up_mem ((mem_reps nd).mp h2)
        by_cases hmn : m ∈ rows.map (·.1)
        · obtain ⟨r, hr, e⟩ := List.mem_map.mp (ih.1 hmn)
          exact List.mem_map.mpr ⟨(k, m), clo r hr _ hkm (by unfold hang; simp [e]), rfl⟩
        · obtain ⟨r, hr, e⟩ := ih.2 hmn
          exact List.mem_map.mpr ⟨(k, m), clo r hr _ hkm (by unfold hang; simp [e, m0]), rfl⟩
      · obtain ⟨e1, e2⟩ := mem_upL.mp h2
        have hmm := up_mem e1
        have hmn : m ∈ rows.map (·.1) := List.mem_map.mpr ⟨_, hmm, rfl⟩
        obtain ⟨r, hr, e⟩ := List.mem_map.mp (ih.1 hmn)
        have er : r.2 = k := one_answer nd (by rw [← e]; exact sub r hr) hmm
        refine ⟨fun hk => ?_, fun _ => ⟨r, hr, er⟩⟩
        obtain ⟨q, hq, eq⟩ := List.mem_map.mp hk
        exact List.mem_map.mpr ⟨q, clo r hr q hq (by unfold hang; simp [er, eq]), eq⟩
  exact (good m h).1 hm
end L2
set_option Elab.async false
set_option linter.all false
set_option maxRecDepth 100000
set_option maxHeartbeats 4000000
namespace L2
open PySem PySem.Spec PyProof.Rows
theorem inj_nd {α β : Type} {f : α → β} : ∀ {l : List α}, (l.map f).Nodup → ∀ {a b : α}, a ∈ l → b ∈ l → f a = f b → a = b
  | [], _, _, _, ha, _, _ => by cases ha
  | x :: l, nd, a, b, ha, hb, e => by
    rw [List.map_cons, List.nodup_cons] at nd
    rcases List.mem_cons.mp ha with h1 | h1 <;> rcases List.mem_cons.mp hb with h2 | h2
    · rw [h1, h2]
    · exact absurd (List.mem_map.mpr ⟨b, h2, by rw [← e, h1]⟩) nd.1
    · exact absurd (List.mem_map.mpr ⟨a, h1, by rw [e, h2]⟩) nd.1
    · exact inj_nd nd.2 h1 h2 e
theorem filter_map_nd {α β : Type} {f : α → β} {p : α → Bool} {l : List α} (nd : (l.map f).Nodup) : ((l.filter p).map f).Nodup := nd.sublist ((List.filter_sublist).map f)
structure LW (prs : List PRow) (n : Str) (S : List PRow) (at' : Nat) : Prop where
  sub : ∀ r ∈ S, r ∈ prs
  nd : (S.map (·.2.1)).Nodup
  snd : ∀ r ∈ S, Rch (prs.map (·.2)) n r.2.1
  me : n ∈ S.map (·.2.1)
  clo : ∀ j, j < at' → ∀ r, S[j]? = some r → ∀ q ∈ prs, hang q.2 r.2 = true → q ∈ S
def lwNew (prs S : List PRow) (r : PRow) : List PRow := prs.filter fun q => !(S.any fun s => decide (s.2 = q.2)) && hang q.2 r.2
section
variable {prs S : List PRow} {n : Str} {k : Nat}
theorem LW.start (nd : (prs.map (·.2.1)).Nodup) (hn : n ∈ prs.map (·.2.1)) : LW prs n (prs.filter fun q => decide (q.2.1 = n)) 0 := by
  refine ⟨fun r hr => (List.mem_filter.mp hr).1, filter_map_nd nd, fun r hr => ?_, ?_, fun j hj => absurd hj (Nat.not_lt_zero _)⟩
  · rw [of_decide_eq_true (List.mem_filter.mp hr).2]; exact .refl
  · obtain ⟨r, hr, e⟩ := List.mem_map.mp hn
    exact List.mem_map.mpr ⟨r, List.mem_filter.mpr ⟨hr, decide_eq_true e⟩, e⟩
theorem LW.len (w : LW prs n S k) : S.length ≤ prs.length := by
  have := nodup_le w.nd (l := prs.map (·.2.1)) fun m hm => by
    obtain ⟨r, hr, e⟩ := List.mem_map.mp hm
    exact List.mem_map.mpr ⟨r, w.sub r hr, e⟩
  rw [List.length_map, List.length_map] at this
  exact this
theorem LW.step (nd : (prs.map (·.2.1)).Nodup) (ne : NoE (prs.map (·.2))) {r : PRow} (w : LW prs n S k) (hr : S[k]? = some r) : LW prs n (S ++ lwNew prs S r) (k + 1) := by
  have nd' : ((prs.map (·.2)).map (·.1)).Nodup := by rw [List.map_map]; exact nd
  have hrS : r ∈ S := List.mem_of_getElem? hr
  have hk : k < S.length := (List.getElem?_eq_some_iff.mp hr).1
  have hnew : ∀ q, q ∈ lwNew prs S r ↔ q ∈ prs ∧ ¬ q ∈ S ∧ hang q.2 r.2 = true := fun q => by
    unfold lwNew
    rw [List.mem_filter, Bool.and_eq_true, Bool.not_eq_true']
    constructor
    · rintro ⟨h1, h2, h3⟩
      refine ⟨h1, fun z => ?_, h3⟩
      have : (S.any fun s => decide (s.2 = q.2)) = true := List.any_eq_true.mpr ⟨q, z, decide_eq_true rfl⟩
      rw [h2] at this
      cases this
    · rintro ⟨h1, h2, h3⟩
      refine ⟨h1, ?_, h3⟩
      cases e : S.any fun s => decide (s.2 = q.2) with
      | false => rfl
      | true =>
        obtain ⟨s, hs, es⟩ := List.any_eq_true.mp e
        have := inj_nd nd (w.sub s hs) h1 (congrArg (·.1) (of_decide_eq_true es))
        rw [this] at hs
        exact absurd hs h2
  refine ⟨fun q hq => ?_, ?_, fun q hq => ?_, ?_, fun j hj q' hq' q hq hh => ?_⟩
  · rcases List.mem_append.mp hq with z | z
    · exact w.sub q z
    · exact ((hnew q).mp z).1
  · rw [List.map_append, List.nodup_append]
    refine ⟨w.nd, filter_map_nd nd, fun a ha b hb e => ?_⟩
    obtain ⟨s, hs, rfl⟩ := List.mem_map.mp ha
    obtain ⟨q, hq, rfl⟩ := List.mem_map.mp hb
    obtain ⟨h1, h2, _⟩ := (hnew q).mp hq
    have := inj_nd nd (w.sub s hs) h1 e
    rw [this] at hs
    exact h2 hs
  · rcases List.mem_append.mp hq with z | z
    · exact w.snd q z
    · obtain ⟨h1, _, h3⟩ := (hnew q).mp z
      exact (w.snd r hrS).trans (hang_rch nd' ne (List.mem_map.mpr ⟨q, h1, rfl⟩) (List.mem_map.mpr ⟨r, w.sub r hrS, rfl⟩) h3)
  · rw [List.map_append]
    exact List.mem_append_left _ w.me
  · have hjl : j < S.length := by omega
    rw [List.getElem?_append_left hjl] at hq'
    by_cases ej : j = k
    · rw [ej, hr] at hq'
      cases hq'
      by_cases z : q ∈ S
      · exact List.mem_append_left _ z
      · exact List.mem_append_right _ ((hnew q).mpr ⟨hq, z, hh⟩)
    · exact List.mem_append_left _ (w.clo j (by omega) q' hq' q hq hh)
theorem LW.done (nd : (prs.map (·.2.1)).Nodup) (ne : NoE (prs.map (·.2))) (w : LW prs n S k) (hk : S.length ≤ k) : sortS (S.map (·.2.1)) = thrOf (prs.map (·.2)) n := by
  have nd' : ((prs.map (·.2)).map (·.1)).Nodup := by rw [List.map_map]; exact nd
  refine thr_of nd' w.nd fun m => ⟨fun hm => ?_, fun ⟨h1, h2⟩ => ?_⟩
  · obtain ⟨r, hr, rfl⟩ := List.mem_map.mp hm
    exact ⟨List.mem_map.mpr ⟨r.2, List.mem_map.mpr ⟨r, w.sub r hr, rfl⟩, rfl⟩, w.snd r hr⟩
  · have := hang_all nd' ne (S := S.map (·.2)) (fun r hr => by
      obtain ⟨q, hq, rfl⟩ := List.mem_map.mp hr
      exact List.mem_map.mpr ⟨q, w.sub q hq, rfl⟩) (by rw [List.map_map]; exact w.me) (fun r hr q hq hh => by
      obtain ⟨r', hr', rfl⟩ := List.mem_map.mp hr
      obtain ⟨q', hq', rfl⟩ := List.mem_map.mp hq
      obtain ⟨j, hj, e⟩ := List.getElem_of_mem hr'
      exact List.mem_map.mpr ⟨q', w.clo j (by omega) r' (by rw [List.getElem?_eq_getElem hj, e]) q' hq' hh, rfl⟩) h1 h2
    rw [List.map_map] at this
    exact this
end
/-- names that were met, one more -/
def addN (ns : List Str) (n : Str) : List Str := if n ∈ ns then ns else ns ++ [n]
inductive TD where
  | flat (xs : List Str)
  | deep (ls : List (Addr × List Str)) (zz : Bool)
def tdD : TD → PyData
  | .flat xs => .list (xs.map PyData.str)
  | .deep ls zz => .list ((ls.map fun p => PyData.list (p.2.map PyData.str)) ++ if zz then [PyData.str "zz"] else [])
def tdIn : TD → List Addr
  | .flat _ => []
  | .deep ls _ => ls.map (·.1)
def TDOk (H : Hp) (l : Addr) : TD → Prop
  | .flat xs => H l = some (.lst (xs.map V.str))
  | .deep ls zz => H l = some (.lst ((ls.map fun p => V.ref p.1) ++ if zz then [V.str "zz"] else [])) ∧ ∀ p ∈ ls, H p.1 = some (.lst (p.2.map V.str))
def TDB : TD → Prop
  | .flat xs => xs.length ≤ 41 ∧ ∀ x ∈ xs, Asc x ∧ x.length ≤ 20
  | .deep ls _ => ls.length ≤ 40 ∧ ∀ p ∈ ls, p.2.length ≤ 40 ∧ ∀ x ∈ p.2, Asc x ∧ x.length ≤ 20
theorem TDOk.mono {H H' : Hp} {l : Addr} {td : TD} (h : TDOk H l td) (k1 : ∀ o, H l = some o → H' l = some o) (k2 : ∀ b ∈ tdIn td, ∀ o, H b = some o → H' b = some o) : TDOk H' l td := by
  cases td with
  | flat xs => exact k1 _ h
  | deep ls zz => exact ⟨k1 _ h.1, fun p hp => k2 p.1 (List.mem_map.mpr ⟨p, hp, rfl⟩) _ (h.2 p hp)⟩
abbrev GRow := Addr × Addr × TD
structure HeldG (r h : Addr) (H : Hp) (hd : List GRow) : Prop where
  l_ : H h = some (.lst (hd.map fun q => V.ref q.1))
  hr : h ≠ r
  t_ : ∀ q ∈ hd, H q.1 = some (.tup [.ref q.2.1, .str (tdD q.2.2).shown])
  x_ : ∀ q ∈ hd, TDOk H q.2.1 q.2.2 ∧ q.2.1 ≠ h ∧ q.2.1 ≠ r ∧ ∀ b ∈ tdIn q.2.2, b ≠ h ∧ b ≠ r
  b_ : ∀ q ∈ hd, TDB q.2.2
  sep : hd.Pairwise fun q q' => q'.2.1 ≠ q.2.1 ∧ ¬ q'.2.1 ∈ tdIn q.2.2
theorem HeldG.free {r h : Addr} {H : Hp} {hd : List GRow} (a : HeldG r h H hd) {l : Addr} (hl : H l = none) : ∀ q ∈ hd, l ≠ q.2.1 ∧ ¬ l ∈ tdIn q.2.2 := fun q hq => by
  have hx := (a.x_ q hq).1
  obtain ⟨u, l1, td⟩ := q
  cases td with
  | flat xs => exact ⟨(ne_of_none hx hl).symm, fun z => nomatch z⟩
  | deep ls zz =>
    refine ⟨(ne_of_none hx.1 hl).symm, fun z => ?_⟩
    obtain ⟨p, hp, e⟩ := List.mem_map.mp z
    have := hx.2 p hp
    rw [e, hl] at this
    cases this
end L2
set_option Elab.async false
set_option linter.all false
namespace L2
open PySem PySem.Spec
section
variable {X : Cx} {pins : List (Addr × Obj)} {σ : St} {H : Hp} {s : Shared} {a : Addr} {kvs : List (Key × V)} {k : Key} {z : V} {u r : Value} {A : Around} {E : Value → Shared → Prop}
end
section
variable {X : Cx} {o e f : Expr} {apos cpos : Pos} {td ty tx : TE}
end
def kn (T xs : List Str) : List (Key × V) := (once xs).map fun w => (Sum.inr w, V.bl (decide (w ∈ T)))
/-- all but what stands at x is kept -/
def SX (x : Addr) (H H' : Hp) : Prop := ∀ c o, c ≠ x → H c = some o → H' c = some o
theorem SX.of {x : Addr} {H H' : Hp} (h : Same H H') : SX x H H' := fun c o _ e => h c o e
theorem SX.trans {x : Addr} {H H1 H2 : Hp} (h : SX x H H1) (g : SX x H1 H2) : SX x H H2 := fun c o n e => g c o n (h c o n e)
theorem SX.free {x l : Addr} {H H1 : Hp} {o : HO} (h : SX x H H1) (e : H1 x = some o) (n : H1 l = none) : H l = none := by
  cases q : H l with
  | none => rfl
  | some u =>
    by_cases z : l = x
    · rw [z, e] at n; cases n
    · rw [h l u z q] at n; cases n
def nIns : HO → Bool
  | .ins _ _ _ => false
  | _ => true
/-- all but instances is kept -/
def SN (H H' : Hp) : Prop := ∀ c o, nIns o = true → H c = some o → H' c = some o
theorem Same.sn {H H' : Hp} (h : Same H H') : SN H H' := fun c o _ e => h c o e
theorem SN.trans {H H1 H2 : Hp} (h : SN H H1) (g : SN H1 H2) : SN H H2 := fun c o n e => g c o n (h c o n e)
theorem SX.sn {x C dx : Addr} {fs : List (Str × V)} {H H' : Hp} (h : SX x H H') (ex : H x = some (.ins C dx fs)) : SN H H' := fun c o n e => h c o (ne_of e ex fun z => by rw [z] at n; cases n) e
end L2
set_option Elab.async false
set_option linter.all false
set_option maxRecDepth 100000
set_option maxHeartbeats 4000000
namespace L2
open PySem PySem.Spec PyProof.Rows
def keyT : Value → Str
  | .str x _ => x
  | _ => ""
def SetT (prog : Program) (w : World) (led : Bool) (a : Addr) (ks : List Str) (h : Heap) : Prop := ∃ o es ep t, h.get? a = some o ∧ o.ExactSet ∧ o.data = .set es ep t ∧ ElemsOf (strKind prog w) es.toList ∧ es.size < scanBound ∧ t.fits es.size = true ∧ t.led = led ∧
  (t.plain = true → es.size = 0) ∧ (es.toList.map fun e => keyT e.2).Perm ks
theorem SetT.at {prog : Program} {w : World} {led : Bool} {a : Addr} {ks : List Str} {h h' : Heap} (x : SetT prog w led a ks h) (k : ∀ o, h.get? a = some o → h'.get? a = some o) : SetT prog w led a ks h' :=
  let ⟨o, es, ep, t, e, r⟩ := x; ⟨o, es, ep, t, k o e, r⟩
section
variable {prog : Program} {w : World} {A : Around} {E : Value → Shared → Prop} {s : Shared}
end
end L2
set_option Elab.async false
set_option linter.all false
set_option maxRecDepth 100000
set_option maxHeartbeats 4000000
namespace L2
open PySem PySem.Spec PyProof.Rows
section
variable {prog : Program} {w : World} {A : Around} {E : Value → Shared → Prop} {s : Shared}
end
end L2
set_option Elab.async false
set_option linter.all false
set_option maxRecDepth 100000
set_option maxHeartbeats 4000000
namespace L2
open PySem PySem.Spec PyProof.Rows
/-- the iterator -/
def SitAt (h : Heap) (it a : Addr) (first : Value) (i n ep : Nat) : Prop := ∃ o, h.get? it = some o ∧ o.cls = .type "set_iterator" ∧ o.data = .fields #[first, .int i 0, .ref a, .int n 0, .int ep 0]
def SAt (h : Heap) (a : Addr) (es : Array (Int × Value)) (ep : Nat) (t : SetTable) : Prop := ∃ o, h.get? a = some o ∧ o.cls = .type "set" ∧ o.data = .set es ep t
section
variable {prog : Program} {w : World} {A : Around} {E : Value → Shared → Prop} {s : Shared} {a it : Addr} {es : Array (Int × Value)} {ep : Nat} {t : SetTable}
theorem SitAt.typeIs {first : Value} {i n : Nat} (h : SitAt s.heap it a first i n ep) : s.TypeIs (.ref it) "set_iterator" := let ⟨o, e, c, _⟩ := h; ⟨o, e, c⟩
end
end L2
set_option Elab.async false
set_option linter.all false
set_option maxRecDepth 100000
set_option maxHeartbeats 4000000
namespace L2
open PySem PySem.Spec PyProof.Rows
section
variable {prog : Program} {w : World} {A : Around} {E : Value → Shared → Prop} {s : Shared} {a it : Addr} {es : Array (Int × Value)} {ep : Nat} {t : SetTable}
theorem SAt.at {h h' : Heap} (x : SAt h a es ep t) (k : ∀ o, h.get? a = some o → h'.get? a = some o) : SAt h' a es ep t := let ⟨o, e, r⟩ := x; ⟨o, k o e, r⟩
theorem SitAt.at {h h' : Heap} {first : Value} {i n : Nat} (x : SitAt h it a first i n ep) (k : ∀ o, h.get? it = some o → h'.get? it = some o) : SitAt h' it a first i n ep := let ⟨o, e, r⟩ := x; ⟨o, k o e, r⟩
end
end L2
set_option Elab.async false
set_option linter.all false
set_option maxRecDepth 100000
set_option maxHeartbeats 4000000
namespace L2
open PySem PySem.Spec PyProof.Rows
section
variable {prog : Program} {w : World} {A : Around} {E : Value → Shared → Prop} {s : Shared}
theorem SetT.typeIs {led : Bool} {a : Addr} {ks : List Str} (x : SetT prog w led a ks s.heap) : s.TypeIs (.ref a) "set" := let ⟨o, _, _, _, e, hex, _⟩ := x; ⟨o, e, hex.1⟩
theorem SetT.lt {led : Bool} {a : Addr} {ks : List Str} {h : Heap} (x : SetT prog w led a ks h) : a < h.objs.size := let ⟨o, _, _, _, e, _⟩ := x; Heap.lt_size e
end
end L2
set_option Elab.async false
set_option linter.all false
set_option maxRecDepth 100000
set_option maxHeartbeats 4000000
namespace L2
open PySem PySem.Spec PyProof.Rows
end L2
set_option Elab.async false
set_option linter.all false
set_option maxRecDepth 100000
set_option maxHeartbeats 4000000
namespace L2
open PySem PySem.Spec PyProof.Rows
end L2
set_option Elab.async false
set_option linter.all false
set_option maxRecDepth 100000
set_option maxHeartbeats 4000000
namespace L2
open PySem PySem.Spec PyProof.Rows
section
variable {prog : Program} {w : World} {A : Around} {E : Value → Shared → Prop} {s : Shared}
end
end L2
set_option Elab.async false
set_option linter.all false
set_option maxRecDepth 100000
set_option maxHeartbeats 4000000
namespace L2
open PySem PySem.Spec PyProof.Rows
def dd (ss : List Str) : List Str := ss.foldl addN []
end L2
set_option Elab.async false
set_option linter.all false
set_option maxRecDepth 100000
set_option maxHeartbeats 4000000
namespace L2
open PySem PySem.Spec PyProof.Rows
end L2
set_option Elab.async false
set_option linter.all false
set_option maxRecDepth 100000
set_option maxHeartbeats 4000000
namespace L2
open PySem PySem.Spec PyProof.Rows
end L2
set_option Elab.async false
set_option linter.all false
set_option maxRecDepth 100000
set_option maxHeartbeats 4000000
namespace L2
open PySem PySem.Spec PyProof.Rows
theorem ObjOk.there {P : Program} {w : World} {H : Hp} {h : Heap} {a : Addr} {o : HO} (x : ObjOk P w H h a o) : ∃ ob, h.get? a = some ob := by
  cases o with
  | lst xs => obtain ⟨_, _, _, _, e⟩ := x; exact ⟨_, e⟩
  | tup xs => obtain ⟨_, _, _, ob, e, _⟩ := x; exact ⟨_, e⟩
  | dK kvs => obtain ⟨_, _, _, _, o, _, _, e, _⟩ := x; exact ⟨_, e⟩
  | dT kvs => obtain ⟨_, _, _, _, o, _, _, e, _⟩ := x; exact ⟨_, e⟩
  | set S n => obtain ⟨o, _, _, _, e, _⟩ := x; exact ⟨_, e⟩
  | ins C dx fs => obtain ⟨_, _, _, e, _⟩ := x; exact ⟨_, e⟩
  | own y => exact x
  | xd fs => obtain ⟨_, ⟨_, _, _, e, _⟩, _⟩ := x; exact ⟨_, e⟩
  | rng lo hi => obtain ⟨_, _, _, e⟩ := x; exact ⟨_, e⟩
  | frz ob u => obtain ⟨e, _⟩ := x; exact ⟨_, e⟩
  | tbl ps => exact ⟨_, (show h.get? a = some _ from x)⟩
  | met f y => exact ⟨_, (show h.get? a = some _ from x)⟩
  | ext φ => obtain ⟨_, e, _⟩ := x; exact e
/-- what stood in h is in B, but the frames; what is untracked is the same -/
def Cov (fs : List Addr) (H : Hp) (h B : Heap) : Prop := ∀ b o, h.get? b = some o → b ∉ fs → ∃ o', B.get? b = some o' ∧ (H b = none → o' = o)
/-- what is tracked stands in B -/
def Trk (H : Hp) (h B : Heap) : Prop := ∀ b o, H b ≠ none → h.get? b = some o → B.get? b = some o
theorem Un.flown {fs : List Addr} {H H' : Hp} {h h1 h2 B : Heap} (u : Un fs [] H H' h h1) (cv : Cov fs H h B) (st : B.StaysIn h2) (sl : h1.UpToSlots h2) (fr : ∀ b ∈ fs, ∀ o, h1.get? b = some o → ∀ vs, o.data ≠ .fields vs) : Un fs [] H H' h h2 where
  keep := fun b o q n hb _ => by
    obtain ⟨o', e, z⟩ := cv b o q hb
    rw [z n] at e
    exact st _ _ e
  slot := fun b o q n hb hx => by
    obtain ⟨s0, e⟩ := u.slot b o q n hb hx
    obtain ⟨s1, e1⟩ := sl b _ e (fr b hb _ e)
    exact ⟨s1, e1⟩
  free := u.free
  there := fun b o q hx => by
    by_cases hb : b ∈ fs
    · obtain ⟨o1, e1⟩ := u.there b o q hx
      obtain ⟨_, e2⟩ := sl b o1 e1 (fr b hb o1 e1)
      exact ⟨_, e2⟩
    · obtain ⟨o', e, _⟩ := cv b o q hb
      exact ⟨o', st _ _ e⟩
  tups := u.tups
  frzs := u.frzs
  tbls := u.tbls
theorem HOk.flown {P : Program} {w : World} {H : Hp} {h1 h2 B : Heap} (x : HOk P w H h1) (ct : Trk H h1 B) (st : B.StaysIn h2) : HOk P w H h2 := fun a o e =>
  (x a o e).stay (fun b u hb q => st b u (ct b u (fun z => by
    rcases hb with rfl | hb
    · rw [z] at e; cases e
    · rw [z] at hb; cases hb) q)) (fun _ q => q) fun _ _ q => q
theorem Trk.flown {P : Program} {w : World} {H : Hp} {h1 h2 B : Heap} (x : HOk P w H h1) (ct : Trk H h1 B) (st : B.StaysIn h2) : Trk H h2 B := fun b o n q => by
  cases e : H b with
  | none => exact absurd e n
  | some u =>
    obtain ⟨ob, eb⟩ := (x b u e).there
    have e1 := ct b ob n eb
    have e2 := st _ _ e1
    rw [q] at e2
    cases e2
    exact e1
/-- an exception e of the own class at C is on its way through the frames l; H, s: as it was at the call that let it out -/
structure Fly (P : Program) (w : World) (l : List Env) (H : Hp) (s : Shared) (e C : Addr) (H' : Hp) (s' : Shared) : Prop where
  os : s'.os = s.os
  bare : AllBare s'.gens
  un : Un (frs l) [] H H' s.heap s'.heap
  hok : HOk P w H' s'.heap
  fr : H' e = none
  nw : s.heap.get? e = none
  fly : ∃ (B : Heap) (a0 : Value), Heap.FlyingW B l e (.ref C) a0 s'.heap ∧ Cov (frs l) H s.heap B ∧ Trk H' s'.heap B
def CXF (P : Program) (w : World) : CXT := fun l H s E ev s' => ∃ (e C : Addr) (H' : Hp), ev = .ref e ∧ Fly P w l H s e C H' s' ∧ E (.ref C) none H'
theorem FnOk.up {P : Program} {w : World} {K : PySem.W.Frag} {mg : Str → Option Value} {base : Heap} {CX : CXT} {k : Nat} {f : Addr} {fd : FuncData} {ps : List Str} {sp : Sp} (F : FnOk P w K mg base CX0 k f fd ps sp) : FnOk P w K mg base CX k f fd ps sp :=
  ⟨F.len, fun A outer s H args us vs Q E hr he hb hv hs => codeAny_mono (F.run A outer s H args us vs Q E hr he hb hv hs) fun r s' h => by
    cases r with
    | error e => exact False.elim h
    | ok f => cases f <;> exact h⟩
section
variable {X : Cx} {pins : List (Addr × Obj)} {σ : St} {Hc H' : Hp} {sc : Shared}
theorem Inv.nofr (I : Inv X pins σ Hc sc) : ∀ b ∈ frs X.stack, ∀ o, sc.heap.get? b = some o → ∀ vs, o.data ≠ .fields vs := fun b hb o e => by
  obtain ⟨_, o1, e1, d⟩ := I.stack.mem hb
  rw [e] at e1
  cases e1
  exact d
/-- it has left this frame -/
theorem fly_out {s1 : Shared} {h2 B : Heap} {e C : Addr} {a0 : Value} (I : Inv X pins σ Hc sc) (hex : X.ex = []) (un : Un (frs X.stack) [] Hc H' sc.heap s1.heap) (os : s1.os = sc.os) (bare : AllBare s1.gens) (hok : HOk X.prog X.w H' s1.heap)
    (he : H' e = none) (nw : sc.heap.get? e = none) (fl : Heap.FlyingW B X.outer e (.ref C) a0 h2) (cv : Cov (frs X.stack) Hc sc.heap B) (ct : Trk H' s1.heap B) (sl : s1.heap.UpToSlots h2) (nf : ∀ b ∈ frs X.stack, ∀ o, s1.heap.get? b = some o → ∀ vs, o.data ≠ .fields vs) :
    Fly X.prog X.w X.outer X.H₀ X.s₀ e C H' { s1 with heap := h2 } := by
  have un2 := un.flown cv fl.1 sl nf
  have hok2 := hok.flown ct fl.1
  have J : Inv X pins σ H' { s1 with heap := h2 } := I.call' (s' := { s1 with heap := h2 }) (ch := []) os un2 hok2 bare (fun b z => nomatch z)
  have base := J.base
  rw [hex] at base
  have base0 := I.base
  rw [hex] at base0
  refine ⟨J.os, J.bare, base, J.hok, he, ?_, B, a0, fl, fun b o e hb => ?_, ct.flown hok fl.1⟩
  · cases q : X.s₀.heap.get? e with
    | none => rfl
    | some o =>
      obtain ⟨o', e'⟩ := base0.there e o q (fun z => nomatch z)
      rw [nw] at e'
      cases e'
  · obtain ⟨o1, e1⟩ := base0.there b o e (fun z => nomatch z)
    have nb : b ∉ frs X.stack := fun z => (List.mem_cons.mp (I.stkSub b z)).elim (fun z => absurd (Nat.lt_of_lt_of_le (Heap.lt_size e) I.ok.above) (by rw [z]; exact Nat.lt_irrefl _)) hb
    obtain ⟨o', e2, z⟩ := cv b o1 e1 nb
    refine ⟨o', e2, fun n => ?_⟩
    have := base0.keep b o e n hb (fun z => nomatch z)
    rw [e1] at this
    cases this
    exact z (base0.free b o e n (fun z => nomatch z))
end
section
variable {P : Program} {w : World} {K : PySem.W.Frag} {mg : Str → Option Value} {base : Heap} {N : List Str} {qual : Str} {scope : Scope} {f : Addr} {cd : Value} {A : Around} {outer : List Env} {s : Shared} {H : Hp} {E : XK}
/-- a callee's exception goes on to the caller -/
theorem passF : Passes (CXF P w) (cxOf (CXF P w) P w K mg base N qual scope f cd A outer s H E) E := by
  intro pins σ Hc sc ev s1 I h
  obtain ⟨e, C, H', rfl, F, q⟩ := h
  obtain ⟨B, a0, fl, cv, ct⟩ := F.fly
  refine wpAny_leaves_onW (base := B) I.ok.frames rfl fl fun h2 fl2 sl => ?_
  have nf : ∀ b ∈ frs (cxOf (CXF P w) P w K mg base N qual scope f cd A outer s H E).stack, ∀ o, s1.heap.get? b = some o → ∀ vs, o.data ≠ .fields vs := fun b hb o e => by
    obtain ⟨_, o1, e1, d⟩ := fl.2.2.1.mem hb
    rw [e] at e1
    cases e1
    exact d
  exact ⟨e, C, H', rfl, fly_out I rfl F.un F.os F.bare F.hok F.fr F.nw fl2 cv ct sl nf, q⟩
theorem fly_made {pins : List (Addr × Obj)} {σ : St} {H1 : Hp} {s2 : Shared} {e C : Addr} {h' : Heap} {vs : List Value} (I : Inv (cxOf (CXF P w) P w K mg base N qual scope f cd A outer s H E) pins σ H1 s2) (hx : Heap.MadeExcOf s2.heap h' e (.ref C) vs) (q : E (.ref C) none H1) :
    (cxOf (CXF P w) P w K mg base N qual scope f cd A outer s H E).xe (.ref e) { s2 with heap := h' } := by
  have hB : (PySem.W.hideAll s2.heap (frs (cxOf (CXF P w) P w K mg base N qual scope f cd A outer s H E).stack)).StaysIn s2.heap := fun b o q => PySem.W.of_hideAll _ q
  refine wpAny_leaves_madeW (h := s2.heap) I.ok.frames rfl hB (PySem.W.funFrames_hide I.stack fun env he b hb => List.mem_filterMap.mpr ⟨env, he, hb⟩) hx fun h2 t fl tup tn sl => ?_
  have un : Un (frs (cxOf (CXF P w) P w K mg base N qual scope f cd A outer s H E).stack) [] H1 H1 s2.heap h' := Un.kept hx.keeps
  have he : H1 e = none := by
    cases z : H1 e with
    | none => rfl
    | some o =>
      obtain ⟨ob, eb⟩ := (I.hok e o z).there
      rw [hx.new] at eb
      cases eb
  refine ⟨e, C, H1, rfl, fly_out (s1 := { s2 with heap := h' }) I rfl un rfl I.bare (I.hok.kept hx.keeps) he hx.new fl (fun b o e hb => ⟨o, PySem.W.hideAll_get _ e hb, fun _ => rfl⟩) (fun b o n e => ?_) sl (fun b hb o e => ?_), q⟩
  · cases z : H1 b with
    | none => exact absurd z n
    | some u =>
      obtain ⟨ob, eb⟩ := (I.hok b u z).there
      have e1 := hx.keeps _ _ eb
      have e2 : h'.get? b = some o := e
      rw [e2] at e1
      cases e1
      exact PySem.W.hideAll_get _ eb fun hb => n (I.stkFree b hb)
  · obtain ⟨_, o1, e1, d⟩ := I.stack.mem hb
    have e2 : h'.get? b = some o := e
    rw [hx.keeps _ _ e1] at e2
    cases e2
    exact d
end
abbrev mroVE : List Value := [.type "ValueError", .type "Exception", .type "BaseException", .type "object"]
structure Xcl (K : PySem.W.Frag) (C : Addr) : Prop where
  q : PySem.W.excIn K C mroVE "ValueError.__new__" = true
inductive XObj (h : Heap) (C : Addr) : Prop
  | mk : ∀ bm N nm q bs hdct sn sub ab col dd k0 k1 k2 k3 k5 mN, h.get? C = some (excClassObj nm q C N bs bm hdct sn sub ab col dd k0 k1 k2 k3 k5 "ValueError.__new__") → h.Ns N mN → mN "__init__" = none → OwnTail h mroVE bm → XObj h C
theorem Xcl.obj {K : PySem.W.Frag} {h : Heap} {C : Addr} (x : Xcl K C) (X : K.In h) : XObj h C := by
  have q := x.q
  unfold PySem.W.excIn at q
  split at q
  · rename_i dd cd sl ho
    split at q
    · rename_i C' bm k0 k1 k2 k3 n k5 hm hs
      rw [Bool.and_eq_true, Bool.and_eq_true, Bool.and_eq_true, Bool.and_eq_true, Bool.and_eq_true] at q
      obtain ⟨⟨⟨⟨⟨q1, q2⟩, q3⟩, q4⟩, q5⟩, q6⟩ := q
      have q1 := beq_iff_eq.mp q1
      have q2 := beq_iff_eq.mp q2
      rw [Bool.not_eq_true'] at q3
      obtain ⟨a1, a2, a3, a4, a5, a6, a7, a8, a9, a10, a11⟩ := cd
      obtain ⟨ls⟩ := sl
      dsimp only at hm q3 q5 q6 hs
      have q6 := beq_iff_eq.mp q6
      subst hm q3 hs q1 q2
      exact ⟨bm, a4, a1, a5, a2, a6, a7, a8, a9, a10, dd, k0, k1, k2, k3, k5, _, X _ _ ho, .of_isNs (PySem.W.isNs_of_in X q5), PySem.W.nsMap_none_of_in X q5 q6, PySem.W.tail_of_in X q4⟩
    · cases q
  · cases q
/-- raise C(e, ..) -/
def tRaise (C : Addr) (E : XK) (ta : TA) : TS := fun _ σ H => ta σ H fun vs H1 => vs.length ≤ sizeLine ∧ E (.ref C) none H1
section
variable {P : Program} {w : World} {K : PySem.W.Frag} {mg : Str → Option Value} {base : Heap} {N : List Str} {qual : Str} {scope : Scope} {f : Addr} {cd : Value} {A : Around} {outer : List Env} {s : Shared} {H : Hp} {E : XK}
theorem ps_raise {x : Str} {C : Addr} {e₀ : Expr} {rest : List Expr} {ta : TA} {np cpos pos : Pos} (c : Xcl K C) (hm : mg x = some (.ref C)) (hh : A.handled = none)
    (hg : Gl (cxOf (CXF P w) P w K mg base N qual scope f cd A outer s H E) x) (ha : PA (cxOf (CXF P w) P w K mg base N qual scope f cd A outer s H E) (e₀ :: rest) ta)
    (hdb : (x == ("__debug__" : Str)) = false := by decide)
    (he : starEach (e₀ :: rest) (cxOf (CXF P w) P w K mg base N qual scope f cd A outer s H E).env = (false, eval e₀ (cxOf (CXF P w) P w K mg base N qual scope f cd A outer s H E).env) :: starEach rest (cxOf (CXF P w) P w K mg base N qual scope f cd A outer s H E).env := by rfl)
    (hpl : (backTo cpos (starEach rest (cxOf (CXF P w) P w K mg base N qual scope f cd A outer s H E).env)).any (·.1) = false := by rfl) :
    PS (cxOf (CXF P w) P w K mg base N qual scope f cd A outer s H E) (.Raise (some (.Call (.Name x np) (e₀ :: rest) [] cpos)) none pos) (tRaise C E ta) := by
  intro pins s0 σ H0 D I h
  obtain ⟨tl, N1, nm, q, bs, hdct, sn, sub, ab, col, dd, k0, k1, k2, k3, k5, mN, hC, hN, hni, T⟩ := c.obj I.ok.mod.kin
  refine wpAny_Raise_call_subT (C := C) (nm := nm) (q := q) (N := N1) (bs := bs) (bm := tl) (hdct := hdct) (sn := sn) (sub := sub) (ab := ab) (col := col) (dd := dd) (k0 := k0) (k1 := k1) (k2 := k2) (k3 := k3) (k5 := k5)
    PySem.F.excBase_ValueError (mN := mN) (T.hasType PySem.F.excBase_ValueError.hasBase) hh ?_ hni (ld_glob I hg hm ⟨rfl, ?_⟩ hdb)
  · rw [he]
    show (false || (backTo cpos (starEach rest (cxOf (CXF P w) P w K mg base N qual scope f cd A outer s H E).env)).any (·.1)) = false
    rw [hpl]
    rfl
  · have h1 := ha cpos pins s0 σ H0 _ I h
    rw [he] at h1 ⊢
    refine Calls.evalArgs_plain (thn h1 fun us s2 z => ?_)
    obtain ⟨vs, H1, I2, r, z1, z2⟩ := z
    exact ⟨rfl, by rw [← r.length]; exact z1, I2.bk _ _ hC, hN.keeps I2.bk, T.keeps I2.bk, fun h' e hx => fly_made I2 hx z2⟩
/-- THE RULE for a def that may raise -/
theorem Fun.okX {x : Str} {st : Stmt} {fd : FuncData} {ps : List Str} {k : Nat} {sp : Sp} (F : Fun K x qual st f fd) (S : FnScope N ps (defScope st)) (len : ∀ vs H Q E, sp vs H Q E → vs.length = ps.length)
    (hbody : ∀ (cdv : Value) (A : Around) (outer : List Env) (s : Shared) (H : Hp) (vs : List V) (Q : VK) (E : XK), Room k (A.deeper (envOfC qual (defScope st) s.heap.objs.size f cdv)) → sp vs H Q E →
      ∃ t, PSs (cxOf (CXF P w) P w K mg base N qual (defScope st) f cdv A outer s H E) (defBody st) t ∧ t { nx := fun _ H' => Q .non H', rt := Q } (start N vs) H) : FnOk P w K mg base (CXF P w) (k + 1) f fd ps sp := by
  obtain ⟨oc, od, kV, doc, pm, an, cdv, ct, osl, rfl, lk, hcd⟩ := F.ex
  exact fn_of lk hcd S len fun A outer s H vs Q E hr hsp => hbody cdv A outer s H vs Q E hr hsp
end
theorem PS.nox {X : Cx} {st : Stmt} {t : TS} (h : PS X.nox st t) : PS X st t := fun pins s σ H D I hw =>
  wpAny_mono (h pins s σ H D (I.wish _) hw) (fun _ _ z => SP.unwish z) fun _ _ z => z.elim
/-- .. the wish may speak of the names' values -/
def PassesX (CX : CXT) (X : Cx) (R : St → XK) : Prop := ∀ (pins : List (Addr × Obj)) (σ : St) (H : Hp) (s : Shared) (e : Value) (s' : Shared), Inv X pins σ H s → CX X.stack H s (R σ) e s' → X.xe e s'
def tCallX (sp : Sp) (dvs : List V) (R : St → XK) (t : TA) : TE := fun σ H Q => t σ H fun vs H1 => sp (vs ++ dvs) H1 Q (R σ)
def tMakeX (C : Addr) (sp : Sp) (dvs : List V) (R : St → XK) (t : TA) : TE := fun σ H Q => t σ H fun vs H1 => ∀ x dx, H1 x = none → H1 dx = none → dx ≠ x →
  sp (.ref x :: (vs ++ dvs)) (upd (upd H1 dx (.own x)) x (.ins C dx [])) (fun v H2 => v = .non ∧ Q (.ref x) H2) (R σ)
section
variable {X : Cx} {CX : CXT} {k : Nat} {f C : Addr} {fd : FuncData} {ps : List Str} {sp : Sp} {dvs : List V} {ds : List Value} {R : St → XK} {x m : Str} {p pos apos : Pos} {e o : Expr} {es : List Expr} {ta : TE} {t : TA}
theorem run_fnX {pins : List (Addr × Obj)} {σ : St} {H : Hp} {s : Shared} {Q : VK} {us : List Value} {vs : List V} (F : FnOk X.prog X.w X.K X.mg X.base CX k f fd ps sp) (hr : Room k X.A) (hb : Binds X.K fd ps ds) (hd : Vals dvs ds) (hx : PassesX CX X R)
    (I : Inv X pins σ H s) (r : Vals vs us) (h : sp (vs ++ dvs) H Q (R σ)) : wpAny (model X.prog X.w) X.A (call (.ref f) us) (EP X pins σ Q) X.xe s := by
  have r2 : Vals (vs ++ dvs) (us ++ ds) := r.append hd
  have hl : (us ++ ds).length = ps.length := by rw [← r2.length]; exact F.len _ _ _ _ h
  refine wpAny_call (codeAny_mono (F.run X.A X.stack s H ⟨us, []⟩ (us ++ ds) (vs ++ dvs) Q (R σ) hr I.env0 (hb s us I.kIn hl) r2 h) fun r s' hq => ?_)
  cases r with
  | error e => exact hx pins σ H s e s' I hq
  | ok fl => cases fl with
    | ret u => exact I.after hq
    | _ => exact False.elim hq
theorem pe_callX (F : FnOk X.prog X.w X.K X.mg X.base CX k f fd ps sp) (hr : Room k X.A) (hg : Gl X x) (hm : X.mg x = some (.ref f)) (hk : PySem.W.keepIn X.K (.ref f) = true) (hb : Binds X.K fd ps ds) (hd : Vals dvs ds) (hx : PassesX CX X R)
    (ha : PA X (e :: es) t) (hdb : (x == ("__debug__" : Str)) = false := by decide) (he : starEach (e :: es) X.env = (false, eval e X.env) :: starEach es X.env := by rfl) (hpl : (backTo pos (starEach es X.env)).any (·.1) = false := by rfl) :
    PE X (.Call (.Name x p) (e :: es) [] pos) (tCallX sp dvs R t) := by
  intro pins s σ H Q I h
  refine wpAny_Call_Name_kw (ld_glob I hg hm (PySem.W.callWith_K (h₀ := X.base) I.ok.mod.kin hk (thn (ha pos pins s σ H _ I h) fun us s1 ⟨vs, H1, I1, r, q⟩ => ⟨I1.kIn, run_fnX F hr hb hd hx I1 r q⟩) he hpl) hdb)
theorem run_makeX {pins : List (Addr × Obj)} {σ : St} {H : Hp} {s : Shared} {Q : VK} {us : List Value} {vs : List V} (M : Mk X.K C f) (F : FnOk X.prog X.w X.K X.mg X.base CX k f fd ps sp) (hr : Room (k + 1) X.A) (hb : Binds X.K fd ps ds) (hd : Vals dvs ds)
    (hx : PassesX CX X R) (I : Inv X pins σ H s) (r : Vals vs us)
    (h : ∀ x dx, H x = none → H dx = none → dx ≠ x → sp (.ref x :: (vs ++ dvs)) (upd (upd H dx (.own x)) x (.ins C dx [])) (fun v H2 => v = .non ∧ Q (.ref x) H2) (R σ)) :
    wpAny (model X.prog X.w) X.A (call (.ref C) us) (EP X pins σ Q) X.xe s := by
  have hq := h (s.heap.objs.size + 1) s.heap.objs.size (I.hok.fresh (Nat.le_succ _)) (I.hok.fresh (Nat.le_refl _)) (Nat.ne_of_lt (Nat.lt_succ_self _))
  have I2 := Inv.made (C := C) I
  have r2 : Vals (V.ref (s.heap.objs.size + 1) :: (vs ++ dvs)) (Value.ref (s.heap.objs.size + 1) :: (us ++ ds)) := .cons rfl (r.append hd)
  have hl : (Value.ref (s.heap.objs.size + 1) :: us ++ ds).length = ps.length := by
    have e := r2.length
    rw [F.len _ _ _ _ hq] at e
    exact e.symm
  refine wpAny_call (make_map (f := f) I.kIn M.makes M.init (beq_iff_eq.mp M.fn) (codeAny_mono (F.run _ X.stack _ _ ⟨Value.ref (s.heap.objs.size + 1) :: us, []⟩ (Value.ref (s.heap.objs.size + 1) :: (us ++ ds)) _ _ (R σ) (hr.make C us [])
    (I2.env0.make C us []) (hb _ (Value.ref (s.heap.objs.size + 1) :: us) I2.kIn hl) r2 hq) fun r s' hq' => ?_))
  cases r with
  | error e => exact hx pins σ _ _ e s' I2 hq'
  | ok fl =>
    cases fl with
    | ret u =>
      obtain ⟨v, H', I3, rv, ev, q3⟩ := I2.after hq'
      subst ev
      exact ⟨rv, ⟨V.ref (s.heap.objs.size + 1), H', I3, rfl, q3⟩⟩
    | next => exact False.elim hq'
    | brk => exact False.elim hq'
    | cont => exact False.elim hq'
theorem pe_makeX (M : Mk X.K C f) (F : FnOk X.prog X.w X.K X.mg X.base CX k f fd ps sp) (hr : Room (k + 1) X.A) (hg : Gl X x) (hm : X.mg x = some (.ref C)) (hb : Binds X.K fd ps ds) (hd : Vals dvs ds) (hx : PassesX CX X R)
    (ha : PA X (e :: es) t) (hdb : (x == ("__debug__" : Str)) = false := by decide) (he : starEach (e :: es) X.env = (false, eval e X.env) :: starEach es X.env := by rfl) (hpl : (backTo pos (starEach es X.env)).any (·.1) = false := by rfl) :
    PE X (.Call (.Name x p) (e :: es) [] pos) (tMakeX C sp dvs R t) := by
  intro pins s σ H Q I h
  refine wpAny_Call_Name_kw (ld_glob I hg hm ?_ hdb)
  refine PySem.W.callWith_K (h₀ := X.base) I.ok.mod.kin M.kp (thn (ha pos pins s σ H _ I h) fun us s1 ⟨vs, H1, I1, r, q⟩ => ⟨I1.kIn, ?_⟩) he hpl
  exact run_makeX M F hr hb hd hx I1 r q
end
def mroIn (K : PySem.W.Frag) (C D : Addr) : Bool := match K.lookup C with
  | some ⟨_, _, .cls cd, _⟩ => cd.mro.contains (.ref D)
  | _ => false
structure Sub (K : PySem.W.Frag) (C D : Addr) : Prop where
  c : Xcl K C
  s : mroIn K C D = true
theorem Sub.has {K : PySem.W.Frag} {h : Heap} {C D N : Addr} (x : Sub K C D) (X : K.In h) {nm q : Str} {bs bm : List Value} {hdct : Bool} {sn : List Str} {sub : List Value} {ab : Bool} {col : Option Bool} {dd : Option Addr} {k0 k1 k2 k3 k5 : Option Value} {newId : String}
    (hC : h.get? C = some (excClassObj nm q C N bs bm hdct sn sub ab col dd k0 k1 k2 k3 k5 newId)) : (Value.ref C :: bm).contains (.ref D) = true := by
  have s := x.s
  unfold mroIn at s
  split at s
  · rename_i ho
    have e := X _ _ ho
    rw [hC] at e
    cases e
    exact s
  · cases s
theorem matches_own {M : Model} {A : Around} {E : Value → Shared → Prop} {h : Heap} {g : Array GenState} {d : Drawn} {t : Nat} {os : OsState} {e C D N N' : Addr} {oe : Obj} {Q : Bool → Shared → Prop}
    {nm q nm' q' : Str} {bs bm bs' bm' : List Value} {hdct hdct' : Bool} {sn sn' : List Str} {sub sub' : List Value} {ab ab' : Bool} {col col' : Option Bool} {dd dd' : Option Addr} {k0 k1 k2 k3 k5 l0 l1 l2 l3 l5 : Option Value} {newId newId' : String}
    (hC : h.get? C = some (excClassObj nm q C N bs bm hdct sn sub ab col dd k0 k1 k2 k3 k5 newId)) (hD : h.get? D = some (excClassObj nm' q' D N' bs' bm' hdct' sn' sub' ab' col' dd' l0 l1 l2 l3 l5 newId')) (he : h.get? e = some oe) (hcls : oe.cls = .ref C)
    (hbase : bm'.contains (.type "BaseException") = true) (hsub : (Value.ref C :: bm).contains (.ref D) = true) (hq : Q true ⟨h, g, d, t, os⟩) : wpAny M A (excMatches (.ref e) (.ref D)) Q E ⟨h, g, d, t, os⟩ := by
  have hB : (Value.ref D :: bm').contains (.type "BaseException") = true := by rw [List.contains_cons, hbase, Bool.or_true]
  have f := tc_notTuple
  unfold excMatches
  repeat (first | (with_reducible refine wpAny_loadPart_at he ?_; rw [hcls]) | (with_reducible refine wpAny_loadPart_at hD ?_) | (with_reducible refine wpAny_isSubtype_exc hD ?_; rw [hB]) | (with_reducible refine wpAny_isSubtype_exc hC ?_; rw [hsub]) | wp_step)
  exact hq
/-- a try's body: an exception comes as R says -/
def tryCx (X : Cx) (pn : List (Addr × Obj)) (R : St → XK) : Cx := { X with pn := X.pn ++ pn, xe := fun ev s' => ∃ (σ : St) (Hc : Hp) (sc : Shared) (e C : Addr) (H' : Hp), ev = .ref e ∧ Inv X pn σ Hc sc ∧ Fly X.prog X.w X.stack Hc sc e C H' s' ∧ R σ (.ref C) none H' }
/-- an except suite from which nothing is raised -/
def hnd (X : Cx) (ev : Value) : Cx := { X with A := X.A.mark (some ev), calm := false, xe := fun _ _ => False }
section
variable {X : Cx} {pins pins' : List (Addr × Obj)} {σ : St} {H : Hp} {s : Shared} {R : St → XK}
theorem Inv.intry (I : Inv X pins σ H s) : Inv (tryCx X pins R) [] σ H s :=
  ⟨⟨I.ok.mod, I.ok.kind, I.ok.glob, I.ok.blt, I.ok.above, I.ok.inj, I.ok.has, I.ok.cab, I.ok.hd, I.ok.frames, I.ok.stk, I.ok.exf, I.ok.bs, I.ok.bsz, I.ok.noex, I.ok.exfs, I.ok.funs, I.ok.frf⟩, I.os, I.bare, I.base, I.loc, I.cell, I.free, I.freeC, fun p hp => I.pin p (by
    rw [List.append_nil] at hp
    exact hp), I.hok, I.len⟩
theorem Inv.outtry (I : Inv (tryCx X pins R) pins' σ H s) : Inv X pins σ H s :=
  ⟨⟨I.ok.mod, I.ok.kind, I.ok.glob, I.ok.blt, I.ok.above, I.ok.inj, I.ok.has, I.ok.cab, I.ok.hd, I.ok.frames, I.ok.stk, I.ok.exf, I.ok.bs, I.ok.bsz, I.ok.noex, I.ok.exfs, I.ok.funs, I.ok.frf⟩, I.os, I.bare, I.base, I.loc, I.cell, I.free, I.freeC, fun p hp => I.pin p (List.mem_append_left _ hp), I.hok, I.len⟩
theorem Inv.inhnd (I : Inv X pins σ H s) (ev : Value) : Inv (hnd X ev) pins σ H s :=
  ⟨⟨I.ok.mod, I.ok.kind, I.ok.glob, I.ok.blt, I.ok.above, I.ok.inj, I.ok.has, I.ok.cab, (fun z => nomatch z), I.ok.frames, I.ok.stk, I.ok.exf, I.ok.bs, I.ok.bsz, I.ok.noex, I.ok.exfs, I.ok.funs, I.ok.frf⟩, I.os, I.bare, I.base, I.loc, I.cell, I.free, I.freeC, I.pin, I.hok, I.len⟩
theorem Inv.outhnd {ev : Value} (ok : X.Ok) (I : Inv (hnd X ev) pins σ H s) : Inv X pins σ H s :=
  ⟨ok, I.os, I.bare, I.base, I.loc, I.cell, I.free, I.freeC, I.pin, I.hok, I.len⟩
theorem SP.outtry {D : Ends} {f : Flow} (h : SP (tryCx X pins R) pins' D f s) : SP X pins D f s := by
  cases f with
  | ret u => obtain ⟨v, σ', H', I, r, q⟩ := h; exact ⟨v, σ', H', I.outtry, r, q⟩
  | _ => obtain ⟨σ', H', I, q⟩ := h; exact ⟨σ', H', I.outtry, q⟩
theorem SP.outhnd {ev : Value} {D : Ends} {f : Flow} (ok : X.Ok) (h : SP (hnd X ev) pins D f s) : SP X pins D f s := by
  cases f with
  | ret u => obtain ⟨v, σ', H', I, r, q⟩ := h; exact ⟨v, σ', H', I.outhnd ok, r, q⟩
  | _ => obtain ⟨σ', H', I, q⟩ := h; exact ⟨σ', H', I.outhnd ok, q⟩
theorem passT {pn : List (Addr × Obj)} : PassesX (CXF X.prog X.w) (tryCx X pn R) R := by
  intro pins σ H s ev s' I h
  obtain ⟨e, C, H', rfl, F, q⟩ := h
  exact ⟨σ, H, s, e, C, H', rfl, I.outtry, F, q⟩
/-- behind a callee's exception, when it has been looked at here -/
theorem Fly.inv {e C : Addr} {H' : Hp} {s1 : Shared} {B h2 : Heap} {l : List Env} {a0 : Value} (F : Fly X.prog X.w X.stack H s e C H' s1) (I : Inv X pins σ H s) (fl : Heap.FlyingW B X.stack e (.ref C) a0 s1.heap) (cv : Cov (frs X.stack) H s.heap B) (ct : Trk H' s1.heap B)
    (st : B.StaysIn h2) (sl : s1.heap.UpToSlots h2) : Inv X pins σ H' { s1 with heap := h2 } :=
  I.call' (s' := { s1 with heap := h2 }) (ch := []) F.os (F.un.flown cv st sl fun b hb o e => by
    obtain ⟨_, o1, e1, d⟩ := fl.2.2.1.mem hb
    rw [e] at e1
    cases e1
    exact d) (F.hok.flown ct st) F.bare (fun b z => nomatch z)
end
def tTryX (R : St → XK) (tb ts : TS) : TS := fun D σ H => (∀ σ' C H', R σ' (.ref C) none H' → ts D σ' H') ∧ tb D σ H
theorem ps_tryX {X : Cx} {body : List Stmt} {x : Str} {D : Addr} {b₀ : Stmt} {suite : List Stmt} {np hpos pos : Pos} {R : St → XK} {tb ts : TS} (hg : Gl X x) (hm : X.mg x = some (.ref D)) (d : Xcl X.K D) (hst : X.stack = X.env :: X.outer) (hf : X.env.frame = some X.env.locals)
    (hsub : ∀ σ C H, R σ (.ref C) none H → Sub X.K C D) (hb : ∀ pn, PSs (tryCx X pn R) body tb) (hs : ∀ ev, PSs (hnd X ev) (b₀ :: suite) ts) (hdb : (x == ("__debug__" : Str)) = false := by decide) :
    PS X (.Try body [.ExceptHandler (some (.Name x np)) none (b₀ :: suite) hpos] [] [] pos) (tTryX R tb ts) := by
  intro pins s σ H Dd I h
  obtain ⟨hh, hq⟩ := h
  refine wpAny_Try_except (wpAny_mono (hb pins [] s σ H Dd I.intry hq) (fun f s₁ h₁ => ?_) fun ev s₁ h₁ => ?_)
  · have h2 : SP X pins Dd f s₁ := SP.outtry h₁
    cases f with
    | next => rw [arm_execs_nil]; exact wpAny_pure h2
    | _ => exact h2
  · obtain ⟨σ', Hc, sc, e, C, H', rfl, Ic, F, q⟩ := h₁
    obtain ⟨B, a0, fl, cv, ct⟩ := F.fly
    have fr : X.A.frames = some (X.env :: X.outer) := by rw [I.ok.frames, hst]
    have fl' := fl
    rw [hst] at fl'
    refine wpAny_looks_onW fr hf fl' fun h4 hheld hsm4 => ?_
    refine wpAny_landsW hheld fun h5 fl5 hsm5 => ?_
    have J5 : Inv X pins σ' H' { s₁ with heap := h5 } := F.inv (l := X.stack) Ic fl cv ct fl5.1 (hsm4.trans hsm5)
    refine wpAny_handleBy_cons (codeAny_handlers_test ?_) (by intro q; cases q)
    refine Calls.Name_function_global I.ok.kind hg (Calls.loadGlobal_global (by rw [I.ok.glob]; exact I.mod.glob.keeps J5.bk) hm ?_) hdb
    have sb := hsub σ' C H' q
    obtain ⟨bm, N, nm, qn, bs, hdct, sn, sub, ab, col, dd, k0, k1, k2, k3, k5, mN, hC, hN, hni, TL⟩ := sb.c.obj J5.kIn
    obtain ⟨bm', N', nm', qn', bs', hdct', sn', sub', ab', col', dd', l0, l1, l2, l3, l5, mN', hD, hN', hni', TL'⟩ := d.obj J5.kIn
    obtain ⟨ob, hob, hobc⟩ := fl5.there
    refine matches_own hC hD hob hobc (TL'.hasType PySem.F.excBase_ValueError.hasBase) (sb.has J5.kIn hC) ?_
    refine codeAny_handlers_suite ?_
    refine lands_againW fl5 fun h6 fl6 hsm6 => ?_
    have J6 : Inv X pins σ' H' { s₁ with heap := h6 } := F.inv (l := X.stack) Ic fl cv ct fl6.1 ((hsm4.trans hsm5).trans hsm6)
    exact wpAny_mono (hs (.ref e) pins _ σ' H' Dd (J6.inhnd _) (hh σ' C H' q)) (fun f s2 z => SP.outhnd I.ok z) fun _ _ z => z.elim
end L2
set_option Elab.async false
set_option linter.all false
set_option maxRecDepth 100000
set_option maxHeartbeats 4000000
namespace L2
open PySem PySem.Spec PyProof.Rows
theorem mro_of {K : PySem.W.Frag} {C D : Addr} (e : PySem.W.mroIn K C (.ref D) = some true) : L2.mroIn K C D = true := by
  unfold PySem.W.mroIn PySem.W.clsIn at e
  unfold L2.mroIn
  cases h : K.lookup C with
  | none => rw [h] at e; cases e
  | some o =>
    rw [h] at e
    obtain ⟨c, d, dat, sl⟩ := o
    cases dat with
    | cls cd =>
      obtain ⟨cd', e1, e2⟩ := Option.bind_eq_some_iff.mp e
      cases e1
      split at e2
      · cases e2
      · exact Option.some.inj e2
    | _ => cases e
theorem FunD.okX {P : Program} {w : World} {K : PySem.W.Frag} {mg : Str → Option Value} {base : Heap} {x qual : Str} {st : Stmt} {f : Addr} {fd : FuncData} {N ps : List Str} {k : Nat} {sp : Sp} (F : FunD K x qual st f fd) (S : FnScope N ps (defScope st)) (len : ∀ vs H Q E, sp vs H Q E → vs.length = ps.length)
    (hbody : ∀ (cdv : Value) (A : Around) (outer : List Env) (s : Shared) (H : Hp) (vs : List V) (Q : VK) (E : XK), Room k (A.deeper (envOfC qual (defScope st) s.heap.objs.size f cdv)) → sp vs H Q E →
      ∃ t, PSs (cxOf (CXF P w) P w K mg base N qual (defScope st) f cdv A outer s H E) (defBody st) t ∧ t { nx := fun _ H' => Q .non H', rt := Q } (start N vs) H) : FnOk P w K mg base (CXF P w) (k + 1) f fd ps sp := by
  obtain ⟨oc, od, dV, kV, doc, pm, an, cdv, ct, osl, rfl, lk, hcd⟩ := F.ex
  exact fn_of lk hcd S len fun A outer s H vs Q E hr hsp => hbody cdv A outer s H vs Q E hr hsp
end L2
set_option Elab.async false
set_option linter.all false
set_option maxRecDepth 100000
set_option maxHeartbeats 400000
namespace L2
open PySem PySem.Spec PyProof.Rows
open PySem.Builtin PySem.Builtin.ObjectAttr PySem.Builtin.Getset_descriptor
structure XGet (K : PySem.W.Frag) (C : Addr) : Prop where
  ga : PySem.W.findIn K (.ref C) "__getattribute__" = some (some (.builtin "BaseException.__getattribute__"))
  gt : PySem.W.findIn K (.ref C) "__getattr__" = some none
  cl : PySem.W.hasDictIn K C = true
  ca : PySem.W.findIn K (.ref C) "__class__" = some (some (.builtin "object.__class__"))
  hn : PySem.W.specialIn K (.builtin "object.__class__") "__get__" = some (some (.builtin "getset_descriptor.__get__"))
  tk : PySem.W.takesIn K (.builtin "object.__class__") = some true
  mo : PySem.W.mroIn K C (.type "object") = some true
  mb : PySem.W.mroIn K C (.type "BaseException") = some true
/-- an exception stands there -/
def XAt (C e : Addr) (h : Heap) : Prop := ∃ o, h.get? e = some o ∧ o.cls = .ref C
theorem XAt.type {C e : Addr} {h : Heap} (x : XAt C e h) {M : Model} : PySem.W.Looks M h (typeOf (.ref e)) (.ref C) := by
  obtain ⟨o, h1, h2⟩ := x
  exact h2 ▸ (PySem.W.Looks.ld h1).andThen .now
section
variable {prog : Program} {w : World} {A : Around} {E : Value → Shared → Prop} {K : PySem.W.Frag} {x C : Addr} {h : Heap} {g : Array GenState} {d : Drawn} {t : Nat} {os : OsState}
theorem wpAny_ite_f {α : Type} {M : Model} {A : Around} {c : Bool} {a b : Sem α} {Q : α → Shared → Prop} {E : Value → Shared → Prop} {s : Shared} (hc : c = false) (h : wpAny M A b Q E s) : wpAny M A (if c = true then a else b) Q E s := by
  rw [hc, if_neg Bool.false_ne_true]; exact h
theorem XGet.find (Z : XGet K C) (X : K.In h) {M : Model} : PySem.W.Looks M h (Builtin.ObjectAttr.find (.ref x) (.ref C) "__class__") (.bind (.builtin "getset_descriptor.__get__") (.builtin "object.__class__")) := by
  have L1 := PySem.W.looks_findIn (M := M) X Z.ca
  have L2 : PySem.W.Looks M h (Builtin.ObjectAttr.getOf (some (.builtin "object.__class__"))) (some (.builtin "getset_descriptor.__get__")) := PySem.W.looks_specialIn X Z.hn
  have L3 : PySem.W.Looks M h (Builtin.ObjectAttr.dataDescriptor? (some (.builtin "object.__class__")) (some (.builtin "getset_descriptor.__get__"))) (some (.builtin "getset_descriptor.__get__", .builtin "object.__class__")) := (PySem.W.looks_takesIn X Z.tk).andThen .now
  exact L1.andThen (L2.andThen (L3.andThen (PySem.W.Looks.tag .now)))
theorem exc_get {R : Result → Shared → Prop} {tp : Value} (Z : XGet K C) (X : K.In h) (I : XAt C x h) (hq : R (.ok (.ret (.ref C))) ⟨h, g, d, t, os⟩) :
    codeAny (model prog w) A (.call (.builtin "getset_descriptor.__get__") ⟨[.builtin "object.__class__", .ref x, tp], []⟩) R ⟨h, g, d, t, os⟩ := by
  have L0 := I.type (M := model prog w); have L1 := PySem.W.looks_mroIn (M := model prog w) X Z.mo
  refine codeAny_call_builtin PySem.W.KF.slot_gs.plain PySem.W.KF.entry_gs (PySem.W.KF.slot_gs.check _ _ _ _ _ _ _ _ PySem.W.KF.type_class (PySem.W.KF.args_gs _ _ _) ?_)
  unfold Builtin.«getset_descriptor.__get__» descrGet; rw [PySem.W.dga_obj]; refine wpAny_bind (wpAny_pure ?_)
  unfold descrGetter descrCheckInstance descrNameAndClass isInstance; simp only [PySem.W.KF.owner_class]; repeat lk
  refine ⟨Code.quiet_builtin _ (by decide +kernel), codeAny_builtin PySem.W.KF.entry_class ?_⟩; unfold Builtin.«object.__class__» shownTypeOf; repeat lk
  exact hq
theorem exc_entry {tk : Tok} {Q : Fin → Shared → Prop} (Z : XGet K C) (X : K.In h) (I : XAt C x h) (hq : Q (.done (.ret (.ref C))) ⟨h, g, d, t, os⟩) :
    wpAny (model prog w) A (Builtin.«object.__getattribute__» ⟨[.ref x, .str "__class__" tk], []⟩) Q E ⟨h, g, d, t, os⟩ := by
  have L0 := I.type (M := model prog w)
  have L3 := Z.find (x := x) X (M := model prog w)
  refine wpAny_bind (wpAny_pure (wpAny_bind (wpAny_pure (wpAny_bind (L0.at (wpAny_bind (L3.at ?_)))))))
  show wpAny _ _ (Builtin.ObjectAttr.bindTo (.builtin "getset_descriptor.__get__") (.builtin "object.__class__") (.ref x) (.ref C)) _ _ _
  unfold Builtin.ObjectAttr.bindTo
  repeat (any_goals (first | assumption | wp_step))
  exact exc_get Z X I (wpAny_pure hq)
theorem exc_check {M : Model} {nameV : Value} {Q : Unit → Shared → Prop} (L : PySem.W.Looks M h (isInstance (.ref x) (.type "BaseException")) true) (hq : Q () ⟨h, g, d, t, os⟩) : wpAny M A (checkBuiltinCall "BaseException.__getattribute__" ⟨[.ref x, nameV], []⟩) Q E ⟨h, g, d, t, os⟩ := by
  have hk : builtinKind "BaseException.__getattribute__" = some .slot := by decide +kernel
  have hs : splitId "BaseException.__getattribute__" = some ("BaseException", "__getattribute__") := by decide +kernel
  have ha : argsOk "BaseException.__getattribute__" ⟨[.ref x, nameV], []⟩ := F.args_bexc_ga (.ref x) nameV
  have LL : PySem.W.Looks M (⟨h, g, d, t, os⟩ : Shared).heap (isInstance (.ref x) (.type "BaseException")) true := L
  have key := PySem.W.check_slot (M := M) (A := A) (E := E) (s := ⟨h, g, d, t, os⟩) (i := "BaseException.__getattribute__") (owner := "BaseException") (n := "__getattribute__") (self := .ref x) (rest := [nameV]) (kw := []) (Q := Q) hk hs LL
  exact key ha hq
theorem exc_call {tk : Tok} {R : Result → Shared → Prop} (Z : XGet K C) (X : K.In h) (I : XAt C x h) (hq : R (.ok (.ret (.ref C))) ⟨h, g, d, t, os⟩) :
    codeAny (model prog w) A (.call (.builtin "BaseException.__getattribute__") ⟨[.ref x, .str "__class__" tk], []⟩) R ⟨h, g, d, t, os⟩ := by
  have L : PySem.W.Looks (model prog w) h (isInstance (.ref x) (.type "BaseException")) true := (I.type (M := model prog w)).andThen (PySem.W.looks_mroIn (M := model prog w) X Z.mb)
  exact codeAny_call_builtin F.excAttr_ValueError.ga.plain F.entry_bexc_ga (exc_check L (exc_entry Z X I hq))
theorem exc_by {tk : Tok} {Q : Value → Shared → Prop} (Z : XGet K C) (X : K.In h) (I : XAt C x h) (hq : Q (.ref C) ⟨h, g, d, t, os⟩) :
    wpAny (model prog w) A (getAttrBy (.ref x) (.str "__class__" tk) false) Q E ⟨h, g, d, t, os⟩ := by
  have L0 := I.type (M := model prog w)
  have L1 := PySem.W.looks_findIn (M := model prog w) X Z.ga
  have L2 := PySem.W.looks_findIn (M := model prog w) X Z.gt
  have f3 := F.excAttr_ValueError.ga.bind (.ref x)
  have hx2 : (Value.builtin "BaseException.__getattribute__" == Value.builtin "object.__getattribute__") = false := by decide +kernel
  have hx1 : (onTheHeap (Value.ref C) && Value.builtin "BaseException.__getattribute__" == Value.builtin "object.__getattribute__") = false := by rw [hx2]; rfl
  refine wpAny_holding (wpAny_bind (L0.at (wpAny_bind (L1.at ?_))))
  refine wpAny_ite_f hx1 ?_
  refine wpAny_bind (L2.at ?_)
  refine wpAny_bind (wpAny_attempt (wpAny_holding ?_))
  show wpAny _ _ (boundAndCalled (.builtin "BaseException.__getattribute__") (.ref x) (.str "__class__" tk)) _ _ _
  unfold boundAndCalled
  rw [f3]
  refine wpAny_bind (wpAny_pure ?_)
  refine wpAny_call (exc_call Z X I ?_)
  exact PySem.W.handed_on rfl hq
theorem exc_class {Q : Option Value → Shared → Prop} (Z : XGet K C) (X : K.In h) (I : XAt C x h) (hq : Q (some (.ref C)) ⟨h, g, d, t + 1, os⟩) : wpAny (model prog w) A (getAttr? (.ref x) "__class__") Q E ⟨h, g, d, t, os⟩ := by
  unfold getAttr? getAttrBy?
  refine wpAny_bind (wpAny_mkText (wpAny_bind (wpAny_attempt (exc_by Z X I ?_))))
  exact wpAny_pure hq
theorem kitx_exc (Z : XGet K C) : PySem.W.KitX K (.ref x) (.ref C) (XAt C x) where
  ty := fun _ _ _ I => I.type
  it := fun _ _ X _ => by
    obtain ⟨cd, hc, _⟩ := PySem.W.any_some Z.cl
    unfold PySem.W.clsIn at hc
    split at hc
    · rename_i ho
      intro A' Q' E' s' k q; unfold isType loadHead; exact wpAny_bind (wpAny_loadPart (k _ _ (X _ _ ho)) (wpAny_pure q))
    · cases hc
  ne := fun h tp dd its n sl X htp => by
    obtain ⟨cd, hc, _⟩ := PySem.W.any_some Z.cl
    refine Bool.eq_false_iff.mpr fun q => ?_
    have e : C = tp := Value.ref.inj (beq_iff_eq.mp q)
    rw [← e] at htp; unfold PySem.W.clsIn at hc
    split at hc
    · rename_i ho
      have z := (X _ _ ho).symm.trans htp; cases z
    · cases hc
  ca := fun {prog w A E Q s} X I k => by
    obtain ⟨h, g, d, t, os⟩ := s
    exact exc_class Z X I k
end
/-- an exception, held -/
def ExcO (C e : Addr) : HO := .ext (XAt C e)
theorem excO_ok {P : Program} {w : World} {H : Hp} {h : Heap} {C e : Addr} (x : XAt C e h) : ObjOk P w H h e (ExcO C e) := ⟨x, let ⟨o, h1, _⟩ := x; ⟨o, h1⟩, fun _ _ y k => let ⟨o, h1, h2⟩ := y; ⟨o, k o h1, h2⟩⟩
theorem call_isexc {X : Cx} : CallR X (.builtin "isinstance") (fun xs H Q => ∃ e C c cv b, xs = [.ref e, c] ∧ H e = some (ExcO C e) ∧ XGet X.K C ∧ clsV c = some cv ∧ PySem.W.kitOne X.K (.ref C) cv = some b ∧ Q (.bl b) H) := by
  intro pins s σ H xs us Q I r h
  obtain ⟨e, C, c, cv, b, rfl, he, Z, hcv, hk, q⟩ := h
  obtain ⟨u, u', rfl, rx, rc⟩ := vals2 r
  have e' : u' = cv := by
    cases c with
    | ty n => cases hcv; exact rc
    | ref a => cases hcv; exact rc
    | _ => cases hcv
  subst e'
  obtain rfl : u = Value.ref e := rx
  obtain ⟨x, _⟩ := (show ObjOk X.prog X.w H s.heap e (ExcO C e) from I.hok e _ he)
  exact PySem.W.kia_one (kitx_exc Z) I.kIn x hk (by intro q; cases q) fun tk => ⟨.bl b, H, I.tok tk, rfl, q⟩
end L2
set_option Elab.async false
set_option linter.all false
set_option maxRecDepth 100000
set_option maxHeartbeats 4000000
namespace L2
open PySem PySem.Spec PyProof.Rows
section
variable {X : Cx} {pins : List (Addr × Obj)} {σ : St} {H : Hp} {s : Shared}
/-- what stands there untracked, and was not there when the body began, is tracked from here on -/
theorem Inv.track {e : Addr} {o : HO} (I : Inv X pins σ H s) (hn : H e = none) (h0 : X.s₀.heap.get? e = none) (hL : e ≠ X.env.locals) (hC : ∀ x c, X.env.cells.lookup x = some c → c ≠ e) (hp : ∀ p ∈ X.pn ++ pins, p.1 ≠ e)
    (ok : ObjOk X.prog X.w (upd H e o) s.heap e o) : Inv X pins σ (upd H e o) s where
  ok := I.ok
  os := I.os
  bare := I.bare
  base := ⟨I.base.keep, I.base.slot, fun b ob q n hx => by
      have hb : b ≠ e := fun z => by rw [z, h0] at q; cases q
      rw [upd_ne hb]; exact I.base.free b ob q n hx, I.base.there,
    fun b xs q => by have := I.base.tups b xs q; rw [upd_ne (ne_of_none this hn)]; exact this,
    fun b o u q => by have := I.base.frzs b o u q; rw [upd_ne (ne_of_none this hn)]; exact this,
    fun b ps q => by obtain ⟨more, this⟩ := I.base.tbls b ps q; exact ⟨more, by rw [upd_ne (ne_of_none this hn)]; exact this⟩⟩
  loc := I.loc
  cell := I.cell
  free := by rw [upd_ne (Ne.symm hL)]; exact I.free
  freeC := fun x c q => by rw [upd_ne (hC x c q)]; exact I.freeC x c q
  pin := fun p q => by
    obtain ⟨a, b, c⟩ := I.pin p q
    exact ⟨a, by rw [upd_ne (hp p q)]; exact b, c⟩
  hok := fun b u q => by
    by_cases hb : b = e
    · subst hb; rw [upd_same] at q; cases q; exact ok
    · rw [upd_ne hb] at q
      exact (I.hok b u q).stay (fun _ _ _ z => z) (fun c z => by rw [upd_ne (ne_of_none z hn)]; exact z) fun c xs z => by rw [upd_ne (ne_of_none z hn)]; exact z
  len := I.len
/-- a name is gone behind the suite -/
theorem goes_ok {M : Model} {A : Around} {E : Value → Shared → Prop} {i : Nat} {x : Str} {pos : Pos} {Q : Unit → Shared → Prop} (I : Inv X pins σ H s) (hN : X.N.Nodup) (hi : X.N[i]? = some x) (hk : X.env.scope.names.lookup x = some .local)
    (h : ∀ s', Inv X pins (σ.set i none) H s' → Q () s') : wpAny M A (do bindName X.env x .none; unbindBehindTheSuite X.env x pos) Q E s := by
  obtain ⟨m, hn, hl⟩ := id I.loc
  have hcls : (X.env.scope.kind == .class || (X.env.scope.kind == .module && X.env.locals != X.env.globals)) = false := by rw [I.ok.kind]; rfl
  have cne := I.cne
  have hiσ : i < σ.length := by rw [I.len]; exact (List.getElem?_eq_some_iff.mp hi).1
  obtain ⟨oL, _, _, hoL, _⟩ := id hn
  refine wpAny_nameGoes_keeps hk hn hcls fun h' v hn' hs => ?_
  have far : ∀ b o, X.s₀.heap.get? b = some o → b ≠ X.env.locals := fun b o e => Nat.ne_of_lt (Nat.lt_of_lt_of_le (Heap.lt_size e) I.ok.above)
  refine h _ ⟨I.ok, I.os, I.bare, ⟨fun b o e n hb hx => ?_, fun b o e n hb hx => ?_, I.base.free, fun b o e hx => ?_, I.base.tups, I.base.frzs, I.base.tbls⟩, ⟨_, hn', fun j y v' e1 e2 e3 => ?_⟩, fun y c e => ?_, I.free, I.freeC, fun p hp => ?_, fun b ob e => ?_, by simpa using I.len⟩
  · exact (hs.2 b (far b o e)).trans (I.base.keep b o e n hb hx)
  · obtain ⟨sl, e1⟩ := I.base.slot b o e n hb hx
    exact ⟨sl, (hs.2 b (far b o e)).trans e1⟩
  · obtain ⟨o', e1⟩ := I.base.there b o e hx
    exact ⟨o', (hs.2 b (far b o e)).trans e1⟩
  · have hj : j ≠ i := fun z => by
      subst z
      rw [List.getElem?_set_self hiσ] at e2
      cases e2
    rw [List.getElem?_set_ne (Ne.symm hj)] at e2
    obtain ⟨u', r', q⟩ := hl j y v' e1 e2 e3
    refine ⟨u', r', ?_⟩
    rcases q with ⟨k, e⟩ | ⟨k, c, e, z⟩
    · refine .inl ⟨k, ?_⟩
      have : y ≠ x := fun e => hj (nodup_ix hN e1 (e ▸ hi))
      simp [this, e]
    · exact .inr ⟨k, c, e, z.sameBut hs (cne y c e)⟩
  · obtain ⟨w', z⟩ := I.cell y c e
    exact ⟨w', z.sameBut hs (cne y c e)⟩
  · obtain ⟨e, n, ne, nf, d⟩ := I.pin p hp
    exact ⟨(hs.2 p.1 ne).trans e, n, ne, nf, d⟩
  · refine (I.hok b ob e).stay (fun c w' hc q => (hs.2 c ?_).trans q) (fun _ q => q) fun _ _ q => q
    rintro rfl
    rcases hc with rfl | hc
    · rw [I.free] at e; cases e
    · rw [I.free] at hc; cases hc
end
/-- the ends, where the name at i is gone -/
def unb (i : Nat) (D : Ends) : Ends := { nx := fun σ H => D.nx (σ.set i none) H, rt := D.rt, bk := fun σ H => D.bk (σ.set i none) H, ct := fun σ H => D.ct (σ.set i none) H }
def tTryAs (i : Nat) (R : St → XK) (tb ts : TS) : TS := fun D σ H => (∀ σ' C H' e, R σ' (.ref C) none H' → H' e = none → ts (unb i D) (σ'.set i (some (.ref e))) (upd H' e (ExcO C e))) ∧ tb D σ H
theorem ps_tryAs {X : Cx} {body : List Stmt} {x n : Str} {i : Nat} {D : Addr} {b₀ : Stmt} {suite : List Stmt} {np hpos pos : Pos} {R : St → XK} {tb ts : TS} (hg : Gl X x) (hm : X.mg x = some (.ref D)) (d : Xcl X.K D) (hst : X.stack = X.env :: X.outer) (hf : X.env.frame = some X.env.locals) (hex : X.ex = [])
    (hN : X.N.Nodup) (hi : X.N[i]? = some n) (hloc : X.env.scope.names.lookup n = some .local)
    (hsub : ∀ σ C H, R σ (.ref C) none H → Sub X.K C D) (hb : ∀ pn, PSs (tryCx X pn R) body tb) (hs : ∀ ev, PSs (hnd X ev) (b₀ :: suite) ts) (hdb : (x == ("__debug__" : Str)) = false := by decide) :
    PS X (.Try body [.ExceptHandler (some (.Name x np)) (some n) (b₀ :: suite) hpos] [] [] pos) (tTryAs i R tb ts) := by
  intro pins s σ H Dd I h
  obtain ⟨hh, hq⟩ := h
  refine wpAny_Try_except (wpAny_mono (hb pins [] s σ H Dd I.intry hq) (fun f s₁ h₁ => ?_) fun ev s₁ h₁ => ?_)
  · have h2 : SP X pins Dd f s₁ := SP.outtry h₁
    cases f with
    | next => rw [arm_execs_nil]; exact wpAny_pure h2
    | _ => exact h2
  · obtain ⟨σ', Hc, sc, e, C, H', rfl, Ic, F, q⟩ := h₁
    obtain ⟨B, a0, fl, cv, ct⟩ := F.fly
    have fr : X.A.frames = some (X.env :: X.outer) := by rw [I.ok.frames, hst]
    have fl' := fl
    rw [hst] at fl'
    refine wpAny_looks_onW fr hf fl' fun h4 hheld hsm4 => ?_
    refine wpAny_landsW hheld fun h5 fl5 hsm5 => ?_
    have J5 : Inv X pins σ' H' { s₁ with heap := h5 } := F.inv (l := X.stack) Ic fl cv ct fl5.1 (hsm4.trans hsm5)
    refine wpAny_handleBy_cons (codeAny_handlers_test ?_) (by intro q; cases q)
    refine Calls.Name_function_global I.ok.kind hg (Calls.loadGlobal_global (by rw [I.ok.glob]; exact I.mod.glob.keeps J5.bk) hm ?_) hdb
    have sb := hsub σ' C H' q
    obtain ⟨bm, N, nm, qn, bs, hdct, sn, sub, ab, col, dd, k0, k1, k2, k3, k5, mN, hC, hN', hni, TL⟩ := sb.c.obj J5.kIn
    obtain ⟨bm', N', nm', qn', bs', hdct', sn', sub', ab', col', dd', l0, l1, l2, l3, l5, mN', hD, hN'', hni', TL'⟩ := d.obj J5.kIn
    obtain ⟨ob, hob, hobc⟩ := fl5.there
    refine matches_own hC hD hob hobc (TL'.hasType PySem.F.excBase_ValueError.hasBase) (sb.has J5.kIn hC) ?_
    refine codeAny_handlers_suite_as ?_
    refine lands_againW fl5 fun h6 fl6 hsm6 => ?_
    have J6 : Inv X pins σ' H' { s₁ with heap := h6 } := F.inv (l := X.stack) Ic fl cv ct fl6.1 ((hsm4.trans hsm5).trans hsm6)
    have base0 := Ic.base
    rw [hex] at base0
    have e0 : X.s₀.heap.get? e = none := by
      cases z : X.s₀.heap.get? e with
      | none => rfl
      | some o =>
        obtain ⟨o', e'⟩ := base0.there e o z (fun z => nomatch z)
        rw [F.nw] at e'
        cases e'
    obtain ⟨ob6, hob6, hobc6⟩ := fl6.there
    have eL : e ≠ X.env.locals := fun z => by
      obtain ⟨m, hn, _⟩ := Ic.loc
      obtain ⟨oL, _, _, hoL, _⟩ := hn
      rw [← z, F.nw] at hoL
      cases hoL
    have eC : ∀ x c, X.env.cells.lookup x = some c → c ≠ e := fun x c hc z => by
      obtain ⟨v, o, ho, _⟩ := Ic.cell x c hc
      rw [z, F.nw] at ho
      cases ho
    have eP : ∀ p ∈ X.pn ++ pins, p.1 ≠ e := fun p hp z => by
      obtain ⟨z1, _⟩ := Ic.pin p hp
      rw [z, F.nw] at z1
      cases z1
    have J7 : Inv X pins σ' (upd H' e (ExcO C e)) { s₁ with heap := h6 } := J6.track F.fr e0 eL eC eP (excO_ok ⟨ob6, hob6, hobc6⟩)
    refine store_ok J7 hN hi (.inl hloc) (v := .ref e) rfl (fun s2 J8 => ?_) (.inr hloc)
    refine wpAny_mono (hs (.ref e) pins s2 _ _ (unb i Dd) (J8.inhnd _) (hh σ' C H' e q F.fr)) (fun f s3 z => ?_) (fun _ _ z => z.elim)
    have z' : SP X pins (unb i Dd) f s3 := SP.outhnd I.ok z
    cases f with
    | ret u =>
      obtain ⟨v, σ2, H2, I2, r, q2⟩ := z'
      exact goes_ok I2 hN hi hloc fun s4 I4 => ⟨v, _, H2, I4, r, q2⟩
    | next =>
      obtain ⟨σ2, H2, I2, q2⟩ := z'
      exact goes_ok I2 hN hi hloc fun s4 I4 => ⟨_, H2, I4, q2⟩
    | brk =>
      obtain ⟨σ2, H2, I2, q2⟩ := z'
      exact goes_ok I2 hN hi hloc fun s4 I4 => ⟨_, H2, I4, q2⟩
    | cont =>
      obtain ⟨σ2, H2, I2, q2⟩ := z'
      exact goes_ok I2 hN hi hloc fun s4 I4 => ⟨_, H2, I4, q2⟩
end L2
set_option Elab.async false
set_option linter.all false
set_option maxRecDepth 100000
set_option maxHeartbeats 400000
namespace L2
open PySem PySem.Spec PyProof.Rows
end L2
set_option Elab.async false
set_option linter.all false
set_option maxRecDepth 100000
set_option maxHeartbeats 400000
namespace L2
open PySem PySem.Spec PyProof.Rows
theorem vals_bls {k : Bool} : ∀ {bs : List Bool} {us : List Value}, Vals (bs.map V.bl) us → (∀ y ∈ us, ∃ b, y = Value.bool b) ∧ us.countP (isBoolOf k) = bs.count k
  | [], us, r => by
    cases r
    exact ⟨fun y hy => (List.not_mem_nil hy).elim, rfl⟩
  | b :: bs, us, r => by
    cases r with
    | cons r1 r2 =>
      rename_i u us'
      obtain rfl : u = Value.bool b := r1
      obtain ⟨h1, h2⟩ := vals_bls (k := k) r2
      refine ⟨fun y hy => ?_, ?_⟩
      · rcases List.mem_cons.mp hy with rfl | hy
        · exact ⟨b, rfl⟩
        · exact h1 y hy
      · rw [List.countP_cons, List.count_cons, h2]
        rfl
inductive rCountB_I (x : V) (vs : List V) (H : Hp) (Q : VK) : Prop
  | mk : ∀ (l : Addr) (bs : List Bool) (k : Bool), x = .ref l → vs = [.bl k] → H l = some (.lst (bs.map V.bl)) → Q (.int (bs.count k : Nat)) H → rCountB_I x vs H Q
def rCountB : V → List V → Hp → VK → Prop := fun x vs H Q => rCountB_I x vs H Q
theorem mt_countB {X : Cx} : MtR X "list.count" rCountB := by
  intro pins s σ H x vs v us Q I rx rv h
  obtain ⟨l, bs, k, rfl, rfl, hH, q⟩ := h
  cases rx
  obtain ⟨u, rfl, ru⟩ := vals1 rv
  obtain rfl : u = Value.bool k := ru
  obtain ⟨z, its, n, r, hl, e⟩ := I.lstM hH
  obtain ⟨h1, h2⟩ := vals_bls (k := k) r
  refine call_meets F.slot_list_count ⟨_, e, rfl⟩ F.entry_list_count (F.args_list_count_2 _ _) (SeqAt.list_countAt l its.toArray n _ _ (.bool k) (isBoolOf k)) ⟨e, fun y hy => ?_, ?_⟩
  · obtain ⟨b, rfl⟩ := h1 y (by simpa using hy)
    exact SeqAt.EqAt.bool_bool b k
  · rw [show its.toArray.toList = its from rfl, h2]
    exact ⟨.int (bs.count k : Nat), H, I.tok _, ⟨_, rfl⟩, q⟩
end L2
set_option Elab.async false
set_option linter.all false
set_option maxRecDepth 100000
set_option maxHeartbeats 400000
namespace L2
open PySem PySem.Spec PyProof.Rows
structure RoomU (k : Nat) (A : Around) : Prop where
  dp : A.depth + 3 * k + 5 < recursionLimit
  un : A.units + 16 * k + 200 < cLine
  gd : A.guards = some []
theorem Room.toU {k : Nat} {A : Around} (r : Room k A) : RoomU k A := ⟨r.dp, r.un, r.gd⟩
theorem RoomU.mono {j k : Nat} {A : Around} (r : RoomU k A) (h : j ≤ k) : RoomU j A := ⟨by have := r.dp; omega, by have := r.un; omega, r.gd⟩
theorem RoomU.mark {k : Nat} {A : Around} (r : RoomU k A) (ev : Option Value) : RoomU k (A.mark ev) := ⟨r.dp, r.un, r.gd⟩
theorem RoomU.deeper {k : Nat} {A : Around} (r : RoomU (k + 1) A) (env : Env) : RoomU k (A.deeper env) :=
  ⟨by have := r.dp; show A.depth + 1 + 3 * k + 5 < _; omega, by have := r.un; show A.units + 3 + 16 * k + 200 < _; omega, r.gd⟩
theorem RoomU.depth {k : Nat} {A : Around} (r : RoomU k A) : A.depth < recursionLimit := by have := r.dp; omega
theorem RoomU.units {k : Nat} {A : Around} (r : RoomU k A) : A.units + 64 < cLine := by have := r.un; omega
structure FnOkU (P : Program) (w : World) (K : PySem.W.Frag) (mg : Str → Option Value) (base : Heap) (k : Nat) (f : Addr) (fd : FuncData) (ps : List Str) (sp : Sp) : Prop where
  len : ∀ vs H Q E, sp vs H Q E → vs.length = ps.length
  run : ∀ (A : Around) (outer : List Env) (s : Shared) (H : Hp) (args : Args) (us : List Value) (vs : List V) (Q : VK) (E : XK), RoomU k A → Env0 P w K mg base A outer s H → BindsTo s fd args (ps.zip us) → Vals vs us → sp vs H Q E →
    codeAny (model P w) A (.call (.ref f) args) (CR CX0 outer P w H s Q E) s
/-- the context of such a body -/
def cxU (P : Program) (w : World) (K : PySem.W.Frag) (mg : Str → Option Value) (base : Heap) (N : List Str) (qual : Str) (scope : Scope) (f : Addr) (cd : Value) (A : Around) (outer : List Env) (s : Shared) (H : Hp) (E : XK) : Cx :=
  { cxOf CX0 P w K mg base N qual scope f cd A outer s H E with calm := false, xe := fun _ _ => False }
theorem Inv.toU {P : Program} {w : World} {K : PySem.W.Frag} {mg : Str → Option Value} {base : Heap} {N : List Str} {qual : Str} {scope : Scope} {f : Addr} {cd : Value} {A : Around} {outer : List Env} {s s1 : Shared} {H H1 : Hp} {E : XK} {σ : St} {pins : List (Addr × Obj)}
    (I : Inv (cxOf CX0 P w K mg base N qual scope f cd { A with handled := none } outer s H E) pins σ H1 s1) : Inv (cxU P w K mg base N qual scope f cd A outer s H E) pins σ H1 s1 :=
  ⟨⟨I.ok.mod, I.ok.kind, I.ok.glob, I.ok.blt, I.ok.above, I.ok.inj, I.ok.has, I.ok.cab, (fun z => nomatch z), I.ok.frames, I.ok.stk, I.ok.exf, I.ok.bs, I.ok.bsz, I.ok.noex, I.ok.exfs, I.ok.funs, I.ok.frf⟩, I.os, I.bare, I.base, I.loc, I.cell, I.free, I.freeC, I.pin, I.hok, I.len⟩
theorem fn_ofU {P : Program} {w : World} {K : PySem.W.Frag} {mg : Str → Option Value} {base : Heap} {k : Nat} {f : Addr} {name qual : Str} {params : Arguments} {body : List Stmt} {scope : Scope} {dV kV doc pm cdv ct oc : Value} {an od : Option Addr}
    {osl : Array (Option Value)} {N ps : List Str} {sp : Sp} (lk : K.lookup f = some ⟨oc, od, .func (PySem.W.fnOf name qual params body scope dV kV doc pm an cdv ct), osl⟩) (hcd : PySem.W.codeIn K cdv qual = true) (S : FnScope N ps scope)
    (len : ∀ vs H Q E, sp vs H Q E → vs.length = ps.length)
    (hbody : ∀ (A : Around) (outer : List Env) (s : Shared) (H : Hp) (vs : List V) (Q : VK) (E : XK), RoomU k (A.deeper (envOfC qual scope s.heap.objs.size f cdv)) → sp vs H Q E →
      ∃ t, PSs (cxU P w K mg base N qual scope f cdv A outer s H E) body t ∧ t { nx := fun _ H' => Q .non H', rt := Q } (start N vs) H) :
    FnOkU P w K mg base (k + 1) f (PySem.W.fnOf name qual params body scope dV kV doc pm an cdv ct) ps sp := by
  refine ⟨len, fun A outer s H args us vs Q E hr e0 hb r hsp => ?_⟩
  have hl := len _ _ _ _ hsp
  have KX : K.In s.heap := e0.mod.kin.keeps fun b o e => (e0.bs b o e).1
  have lim : s.heap.NoLimit := e0.mod.nolimit.keeps fun b o e => (e0.bs b o e).1
  have hkind : ∀ y ∈ ps.zip us, scope.names.lookup y.1 = some .local ∨ (scope.names.lookup y.1 = some .cell ∧ ((cellsFrom (s.heap.objs.size + 1) scope.names []).lookup y.1).isSome = true) := fun ⟨n, v⟩ hy => by
    rcases S.par n (List.of_mem_zip hy).1 with q | q
    · exact .inl q
    · exact .inr ⟨q, PySem.W.cellsFrom_some _ _ _ (.inl q)⟩
  refine codeAny_call_function hr.depth (KX _ _ lk) rfl S.co S.gen rfl (PySem.W.codeRec_of KX hcd) (hb _ _ _ _ ?_)
  refine wpAny_newFunctionEnv_cells S.kind hkind fun env he s1 x => ?_
  subst he
  refine ⟨lim.keeps x.toInCall.keep, codeAny_func ?_⟩
  obtain ⟨t, ht, hq⟩ := hbody A outer s H vs Q E (hr.deeper _) hsp
  have e0' : Env0 P w K mg base { A with handled := none } outer s H := ⟨e0.frames, e0.mod, e0.bs, e0.bsz, e0.funs, e0.frf, e0.hok, e0.bare⟩
  have I0 : Inv (cxOf CX0 P w K mg base N qual scope f cdv { A with handled := none } outer s H E) [] (start N vs) H s1 := inv_start S rfl e0' hl r x
  have I : Inv (cxU P w K mg base N qual scope f cdv A outer s H E) [] (start N vs) H s1 := I0.toU
  refine wpAny_mono (ht [] s1 (start N vs) H _ I hq) (fun fl s' hs => ?_) fun e s' hs => hs.elim
  have fin : ∀ {σ' : St} {H' : Hp} {v : V} {u : Value}, Inv (cxU P w K mg base N qual scope f cdv A outer s H E) [] σ' H' s' → RelV v u → Q v H' → CE outer P w H s Q u s' :=
    fun {σ' H' v u} J rv q => ⟨v, H', J.os, J.bare, J.base, J.hok, rv, q⟩
  cases fl with
  | ret u =>
    obtain ⟨v, σ', H', J, rv, q⟩ := hs
    exact fin J rv q
  | next =>
    obtain ⟨σ', H', J, q⟩ := hs
    exact fin (v := V.non) (u := Value.none) J rfl q
  | brk =>
    obtain ⟨_, _, _, q⟩ := hs
    exact False.elim q
  | cont =>
    obtain ⟨_, _, _, q⟩ := hs
    exact False.elim q
theorem Fun.okU {P : Program} {w : World} {K : PySem.W.Frag} {mg : Str → Option Value} {base : Heap} {x qual : Str} {st : Stmt} {f : Addr} {fd : FuncData} {N ps : List Str} {k : Nat} {sp : Sp} (F : Fun K x qual st f fd) (S : FnScope N ps (defScope st)) (len : ∀ vs H Q E, sp vs H Q E → vs.length = ps.length)
    (hbody : ∀ (cdv : Value) (A : Around) (outer : List Env) (s : Shared) (H : Hp) (vs : List V) (Q : VK) (E : XK), RoomU k (A.deeper (envOfC qual (defScope st) s.heap.objs.size f cdv)) → sp vs H Q E →
      ∃ t, PSs (cxU P w K mg base N qual (defScope st) f cdv A outer s H E) (defBody st) t ∧ t { nx := fun _ H' => Q .non H', rt := Q } (start N vs) H) : FnOkU P w K mg base (k + 1) f fd ps sp := by
  obtain ⟨oc, od, kV, doc, pm, an, cdv, ct, osl, rfl, lk, hcd⟩ := F.ex
  exact fn_ofU lk hcd S len fun A outer s H vs Q E hr hsp => hbody cdv A outer s H vs Q E hr hsp
section
variable {X : Cx} {k : Nat} {f : Addr} {fd : FuncData} {ps : List Str} {sp : Sp} {dvs : List V} {ds : List Value} {E : XK} {x : Str} {p pos : Pos} {e : Expr} {es : List Expr} {t : TA}
theorem run_fnU {pins : List (Addr × Obj)} {σ : St} {H : Hp} {s : Shared} {Q : VK} {us : List Value} {vs : List V} (F : FnOkU X.prog X.w X.K X.mg X.base k f fd ps sp) (hr : RoomU k X.A) (hb : Binds X.K fd ps ds) (hd : Vals dvs ds)
    (I : Inv X pins σ H s) (r : Vals vs us) (h : sp (vs ++ dvs) H Q E) : wpAny (model X.prog X.w) X.A (call (.ref f) us) (EP X pins σ Q) X.xe s := by
  have r2 : Vals (vs ++ dvs) (us ++ ds) := r.append hd
  have hl : (us ++ ds).length = ps.length := by rw [← r2.length]; exact F.len _ _ _ _ h
  refine wpAny_call (codeAny_mono (F.run X.A X.stack s H ⟨us, []⟩ (us ++ ds) (vs ++ dvs) Q E hr I.env0 (hb s us I.kIn hl) r2 h) fun r s' hq => ?_)
  cases r with
  | error e => exact False.elim hq
  | ok fl =>
    cases fl with
    | ret u => exact I.after hq
    | next => exact False.elim hq
    | brk => exact False.elim hq
    | cont => exact False.elim hq
theorem pe_callU (F : FnOkU X.prog X.w X.K X.mg X.base k f fd ps sp) (hr : RoomU k X.A) (hg : Gl X x) (hm : X.mg x = some (.ref f)) (hk : PySem.W.keepIn X.K (.ref f) = true) (hb : Binds X.K fd ps ds) (hd : Vals dvs ds)
    (ha : PA X (e :: es) t) (hdb : (x == ("__debug__" : Str)) = false := by decide) (he : starEach (e :: es) X.env = (false, eval e X.env) :: starEach es X.env := by rfl) (hpl : (backTo pos (starEach es X.env)).any (·.1) = false := by rfl) :
    PE X (.Call (.Name x p) (e :: es) [] pos) (tCall sp dvs E t) := by
  intro pins s σ H Q I h
  refine wpAny_Call_Name_kw (ld_glob I hg hm ?_ hdb)
  refine PySem.W.callWith_K (h₀ := X.base) I.ok.mod.kin hk (thn (ha pos pins s σ H _ I h) fun us s1 ⟨vs, H1, I1, r, q⟩ => ⟨I1.kIn, ?_⟩) he hpl
  exact run_fnU F hr hb hd I1 r q
end
end L2
set_option Elab.async false
set_option linter.all false
set_option maxRecDepth 100000
set_option maxHeartbeats 400000
namespace L2
open PySem PySem.Spec PyProof.Rows
section
variable {X : Cx} {o e : Expr} {es : List Expr} {to : TE} {t : TA} {name : Str} {apos cpos : Pos} {T id : String} {r : V → List V → Hp → VK → Prop}
end
theorem boot_VE : bootBuiltins "ValueError" = some (.type "ValueError") := by decide +kernel
end L2
set_option Elab.async false
set_option linter.all false
set_option maxRecDepth 100000
set_option maxHeartbeats 4000000
namespace L2
open PySem PySem.Spec PyProof.Rows
/-- t + u of two tuples: u itself if t is empty, t itself if u is -/
inductive rCatA_I (K : PySem.W.Frag) (x : V) (y : V) (H : Hp) (Q : VK) : Prop
  | mk : ∀ a b xs ys, x = .ref a → y = .ref b → SqT K H a xs → SqT K H b ys → xs.length + ys.length ≤ sizeLine → (xs = [] → Q (.ref b) H) → (xs ≠ [] → ys = [] → Q (.ref a) H) → (xs ≠ [] → ys ≠ [] → ∀ p, H p = none → Q (.ref p) (upd H p (.tup (xs ++ ys)))) → rCatA_I K x y H Q
def rCatA (K : PySem.W.Frag) : R2 := fun x y H Q => rCatA_I K x y H Q
theorem op_catA {X : Cx} : OpR X (binaryOp .Add) (rCatA X.K) := by
  intro pins s σ H x y v u Q I rx ry h
  obtain ⟨a, b, xs, ys, rfl, rfl, ha, hb, hz, q0, q1, q2⟩ := h
  by_cases hx : xs = []
  · cases rx
    cases ry
    obtain ⟨its, r1, p1, _⟩ := I.tuple ha
    obtain ⟨its2, r2, p2, _⟩ := I.tuple hb
    obtain ⟨⟨cls, dd, data, sl⟩, ho, hc, n, hd⟩ := id p1
    obtain ⟨⟨cls2, dd2, data2, sl2⟩, ho2, hc2, n2, hd2⟩ := id p2
    simp only at hc hd hc2 hd2
    subst hc hd hc2 hd2
    exact concat_meets ⟨_, ho, rfl⟩ ⟨_, ho2, rfl⟩ noFill_tuple_add seq_tuple_add PySem.F.slot_tuple_add PySem.F.entry_tuple_add (PySem.F.args_tuple_add_2 _ _)
      (tuple_addW0 a b its.toArray its2.toArray n n2 dd dd2 sl sl2 (by simp [r1.nil_iff.mpr hx])) ⟨ho, ho2, .ref b, H, I, rfl, q0 hx⟩
  · exact op_catT pins s σ H _ _ v u Q I rx ry ⟨a, b, xs, ys, rfl, rfl, ha, hb, hx, hz, q1 hx, q2 hx⟩
theorem catA_go {K : PySem.W.Frag} {H : Hp} {Q : VK} {a b : Addr} {xs ys : List V} (ha : H a = some (.tup xs)) (hb : H b = some (.tup ys)) (hz : xs.length + ys.length ≤ sizeLine) (k : ∀ p H', Same H H' → H' p = some (.tup (xs ++ ys)) → Q (.ref p) H') : rCatA K (.ref a) (.ref b) H Q := by
  refine ⟨a, b, xs, ys, rfl, rfl, SqT.of ha, SqT.of hb, hz, fun e => ?_, fun _ e => ?_, fun _ _ p hp => k p _ (Same.upd_new hp) upd_same⟩
  · subst e; exact k b H (Same.refl H) hb
  · subst e; exact k a H (Same.refl H) (by rw [List.append_nil]; exact ha)
end L2
set_option Elab.async false
set_option linter.all false
set_option maxRecDepth 100000
set_option maxHeartbeats 4000000
namespace L2
open PySem PySem.Spec PyProof.Rows
end L2
set_option Elab.async false
set_option linter.all false
set_option maxRecDepth 100000
set_option maxHeartbeats 4000000
namespace HT
open PySem PyProof.Rows
section
open PySem.SeqAt
open PySem.AutoSeq1 (wpAny_loadPart')
open PySem.MeetsSeq PySem.MeetsSeq2 PySem.MeetsSeq3
end
end HT
namespace L2
open PySem PySem.Spec PyProof.Rows
end L2
set_option Elab.async false
set_option linter.all false
set_option maxRecDepth 100000
set_option maxHeartbeats 4000000
namespace L2
open PySem PySem.Spec PyProof.Rows
/-- the dict at d has just these entries -/
def DictRaw (h : Heap) (d : Addr) (es : Array DictEntry) (ep : Nat) : Prop := ∃ o, h.get? d = some o ∧ o.ExactDict ∧ o.data = .dict es ep
theorem DictRaw.lt {h : Heap} {d : Addr} {es : Array DictEntry} {ep : Nat} (x : DictRaw h d es ep) : d < h.objs.size := let ⟨_, e, _⟩ := x; Heap.lt_size e
theorem DictRaw.at {h h' : Heap} {d : Addr} {es : Array DictEntry} {ep : Nat} (x : DictRaw h d es ep) (k : ∀ o, h.get? d = some o → h'.get? d = some o) : DictRaw h' d es ep := let ⟨o, e, r⟩ := x; ⟨o, k o e, r⟩
theorem DictRaw.ty {s : Shared} {d : Addr} {es : Array DictEntry} {ep : Nat} (x : DictRaw s.heap d es ep) : s.TypeIs (.ref d) "dict" := let ⟨o, e, c, _⟩ := x; ⟨o, e, c.1⟩
section
variable {prog : Program} {w : World} {A : Around} {E : Value → Shared → Prop} {s : Shared} {d it : Addr} {es : Array DictEntry} {ep i : Nat}
end
end L2
set_option Elab.async false
set_option linter.all false
set_option maxRecDepth 100000
set_option maxHeartbeats 4000000
namespace L2
open PySem PySem.Spec PyProof.Rows
/-- tuples as keys, where they stand -/
inductive TupsK (H : Hp) : List Addr → List (List Key) → Prop
  | nil : TupsK H [] []
  | cons {b : Addr} {k : List Key} {bs : List Addr} {ks : List (List Key)} (e : H b = some (.tup (k.map kV))) (r : TupsK H bs ks) : TupsK H (b :: bs) (k :: ks)
theorem TupsK.len {H : Hp} : ∀ {bs : List Addr} {ks : List (List Key)}, TupsK H bs ks → bs.length = ks.length
  | _, _, .nil => rfl
  | _, _, .cons _ r => congrArg (· + 1) (TupsK.len r)
theorem TupsK.mono {H H' : Hp} (s : ∀ b xs, H b = some (.tup xs) → H' b = some (.tup xs)) : ∀ {bs : List Addr} {ks : List (List Key)}, TupsK H bs ks → TupsK H' bs ks
  | _, _, .nil => .nil
  | _, _, .cons e r => .cons (s _ _ e) (TupsK.mono s r)
theorem TupsK.at {H : Hp} : ∀ {bs : List Addr} {ks : List (List Key)} {i : Nat} {k : List Key}, TupsK H bs ks → ks[i]? = some k → ∃ b, bs[i]? = some b ∧ H b = some (.tup (k.map kV))
  | _, _, _, _, .nil, h => by simp at h
  | _, _, 0, _, .cons e _, h => by cases h; exact ⟨_, rfl, e⟩
  | _, _, i + 1, _, .cons _ r, h => TupsK.at (i := i) r h
end L2
set_option Elab.async false
set_option linter.all false
set_option maxRecDepth 100000
set_option maxHeartbeats 4000000
namespace HT
open PySem PyProof.Rows
variable {prog : Program} {w : World} {A : Around} {E : Value → Shared → Prop} {s : Shared}
theorem getItem_tuple_whole {t sl : Addr} {items : Array Value} {vl vu : Value} {lo hi : Option Int} {Q : Value → Shared → Prop} (ht : IsTup s.heap t items) (hs : s.heap.IsSliceOf sl vl vu .none) (pl : IsPart vl lo) (pu : IsPart vu hi)
    (hw : sIx items.size 0 lo = 0 ∧ sIx items.size items.size hi = items.size) (h : Q (.ref t) s) : wpAny (model prog w) A (getItem (.ref t) (.ref sl)) Q E s := by
  have hTs : s.TypeIs (.ref sl) "slice" := let ⟨os, hos, hcs, _⟩ := hs; ⟨os, hos, hcs⟩
  unfold getItem
  try with_reducible refine wpAny_holding ?_
  first | refine wpAny_bind (wpAny_pure ?_) | skip
  refine wpAny_bind (wpAny_sequenceKey ht.typeIs (by decide) ?_)
  refine wpAny_bind (wpAny_callSpecial?_slot (name := Str.ofString "__getitem__") ht.typeIs PyProof.Rows.slot_tuple_getitem
    (wpAny_call_entry PyProof.Rows.slot_tuple_getitem ht.typeIs entry_tuple_getitem ?_ (args_tuple_getitem _ _)))
  show wpAny _ _ (Builtin.Tuple.tupleItemsOf (.ref t) >>= _) _ _ s
  refine wpAny_bind (tupleItemsOf_ ht (wpAny_bind (wpAny_typeOf hTs ?_)))
  rw [if_pos (by decide)]
  refine wpAny_bind (sliceApplied_gen hs pl pu ?_)
  show wpAny _ _ (if (((sIx items.size 0 lo : Nat) : Int) == 0 && (1 : Int) == 1 && (sIx items.size items.size hi - sIx items.size 0 lo) == items.size) = true then _ else _) _ _ s
  rw [if_pos (by rw [hw.1, hw.2]; simp)]
  show wpAny _ _ (Builtin.Tuple.tupleIsExact (.ref t) >>= _) _ _ s
  unfold Builtin.Tuple.tupleIsExact
  refine wpAny_bind ?_
  refine wpAny_bind (wpAny_typeOf ht.typeIs (wpAny_pure ?_))
  show wpAny _ _ (if (Value.type "tuple" == Value.type "tuple") = true then _ else _) _ _ s
  rw [if_pos (by decide)]
  refine wpAny_bind (wpAny_rule ?_)
  exact wpAny_pure ⟨_, rfl, wpAny_pure h⟩
end HT
namespace L2
open PySem PySem.Spec PyProof.Rows
/-- t[lo:hi]: a new tuple, or t itself where it is the whole -/
inductive rSlA_I (K : PySem.W.Frag) (x : V) (lo : Option Int) (hi : Option Int) (H : Hp) (Q : VK) : Prop
  | mk : ∀ a xs, x = .ref a → SqT K H a xs → ((HT.sIx xs.length 0 lo = 0 ∧ HT.sIx xs.length xs.length hi = xs.length) → Q (.ref a) H) → (∀ p, H p = none → Q (.ref p) (upd H p (.tup (cutV xs lo hi)))) → rSlA_I K x lo hi H Q
def rSlA (K : PySem.W.Frag) : V → Option Int → Option Int → Hp → VK → Prop := fun x lo hi H Q => rSlA_I K x lo hi H Q
theorem sl_tupA {X : Cx} : SlR X (rSlA X.K) := by
  intro pins s σ H x v vl vu lo hi sl Q I rx hs pl pu h
  obtain ⟨a, xs, rfl, hx, q1, q2⟩ := h
  by_cases hw : HT.sIx xs.length 0 lo = 0 ∧ HT.sIx xs.length xs.length hi = xs.length
  · cases rx
    obtain ⟨its, r, ht, hz⟩ := I.tuple hx
    have hlen : its.toArray.size = xs.length := by rw [List.size_toArray]; exact r.length.symm
    exact ⟨"tuple", _, PyProof.Rows.slot_tuple_getitem.lookup, ht.typeIs, HT.getItem_tuple_whole ht hs pl pu (by rw [hlen]; exact hw) ⟨.ref a, H, I, rfl, q1 hw⟩⟩
  · exact sl_tup pins s σ H (.ref a) v vl vu lo hi sl Q I rx hs pl pu ⟨a, xs, rfl, hx, hw, q2⟩
section
variable {X : Cx} {pins : List (Addr × Obj)} {σ : St} {H : Hp} {s : Shared} {a : Addr} {oa : Obj} {kvs : List (List Key × V)}
end
end L2
set_option Elab.async false
set_option maxRecDepth 100000
namespace Hd
open PySem PySem.W PySem.Calls PyProof.Rows L2
/-- the top's run over a tree of objects, to its end -/
noncomputable def runT (st : SharedT → Thread → Option (SharedT × Thread)) (ok : Thread → Bool) (n : Nat) : SharedT → Thread → Option SharedT :=
  @Nat.rec (fun _ => SharedT → Thread → Option SharedT) (fun _ _ => none) (fun _ ih s t => match through t with
    | true => some s
    | false => match ok t with
      | false => none
      | true => match st s t with
        | some (s', t') => ih s' t'
        | none => none) n
theorem runT_succ (st : SharedT → Thread → Option (SharedT × Thread)) (ok : Thread → Bool) (n : Nat) (s : SharedT) (t : Thread) : runT st ok (n + 1) s t = (match through t with
    | true => some s
    | false => match ok t with
      | false => none
      | true => match st s t with
        | some (s', t') => runT st ok n s' t'
        | none => none) := rfl
theorem runT_of {tb : String → Option Builtin} {p : Program} {w : World} {n₀ : Nat} {ann : Option Value} : ∀ (n : Nat) (s : SharedT) (t : Thread) (s' : SharedT),
    runT (stepT (denote tb) p w) (stepOk n₀ ann) n s t = some s' → topRun tb p w n₀ ann n s.abs t = some s'.abs
  | 0, _, _, _, h => nomatch (h : none = some _)
  | n + 1, s, t, s', h => by
    rw [runT_succ] at h
    unfold topRun
    cases ht : through t with
    | true => rw [ht] at h; cases h; rfl
    | false =>
      rw [ht] at h
      cases hk : stepOk n₀ ann t with
      | false => rw [hk] at h; cases h
      | true =>
        rw [hk] at h
        dsimp only at h ⊢
        cases hs : stepT (denote tb) p w s t with
        | none => rw [hs] at h; cases h
        | some x =>
          obtain ⟨s₂, t₂⟩ := x
          rw [hs] at h
          rw [stepT_spec hs]
          exact runT_of n s₂ t₂ s' h
def btFrom (t : BT) (n : Nat) : List Obj → BT
  | [] => t
  | o :: r => btFrom (t.ins n o) (n + 1) r
noncomputable def bootT (P : Params) : BT := btFrom .nil 0 (boot_heap P).objs.toList
theorem boot_size (P : Params) : ((boot_heap P).isNs mainGlobals, (boot_heap P).objs.size, (boot_heap P).nsMap mainGlobals "__annotations__") = (true, 11, some (.ref 6)) := by kernel_rfl
theorem boot_abs (P : Params) : absHeap (bootT P) 11 {} = boot_heap P := by kernel_rfl
/-- what stands when the top begins -/
noncomputable def S0 (w : World) (os : OsState) : SharedT := ⟨bootT w.params, 11, {}, #[], boot_drawn, boot_toks, os⟩
theorem S0_abs (w : World) (os : OsState) : (S0 w os).abs = ⟨boot_heap w.params, #[], boot_drawn, boot_toks, os⟩ := congrArg (fun h => (⟨h, #[], boot_drawn, boot_toks, os⟩ : Shared)) (boot_abs w.params)
noncomputable def chk (p : Program) (P : Params) (s : Shared) : Bool := staticsOk (importedModules p.main.body) (boot_heap P) s.heap && namesBound p s.heap && gensDone s && laidKept (boot_heap P) s.heap
noncomputable abbrev stepQ : (Code → Sem Fin) → Program → World → SharedT → Thread → Option (SharedT × Thread) := PySem.W.Fast.tw10156331382660048174
noncomputable abbrev denQ : Code → Sem Fin := PySem.W.Fast.tw11892475500146522536 PySem.W.Fast.tw14364793385576792824
noncomputable abbrev okQ : Nat → Option Value → Thread → Bool := PySem.W.Fast.tw6613529449190102663
noncomputable abbrev seenQ := @PySem.W.Fast.tw4187177175401517315
theorem left {p q : Program} {loose : List Str} {Xt : Shared → Bool} {α : Type} {Yf : Shared → α} {Ya : World → α} {N : Nat} (e : opening p = plainProg p.main.scope.names) (hN : Nat.ble 600 N = true) (f : ∀ s, fenceModules? p s = some s)
    (h : ∀ (w : World) (os : OsState), (runT (stepQ denQ p w) (okQ 11 (some (.ref 6))) N (S0 w os) (topStub p)).map (fun s => (chk p w.params s.abs, seenQ q loose (importedModules p.main.body) Xt true s.abs, Yf s.abs)) = some (true, openGood q loose, Ya w)) :
    LeftO p q loose Xt Yf Ya N := fun w => by
  obtain ⟨⟨hh, gs, d, k, os⟩, e1, e'⟩ := Option.map_eq_some_iff.mp (boot_open e hN f w)
  obtain ⟨rfl, rfl, rfl, rfl⟩ : hh = boot_heap w.params ∧ gs = #[] ∧ d = boot_drawn ∧ k = boot_toks := by simpa using e'
  have h := h w os
  unfold stepQ denQ okQ seenQ at h
  rw [← PySem.W.Fast.te10156331382660048174, ← PySem.W.Fast.te11892475500146522536, ← PySem.W.Fast.te14364793385576792824, ← PySem.W.Fast.te6613529449190102663, ← PySem.W.Fast.te4187177175401517315] at h
  obtain ⟨s, r, l⟩ := Option.map_eq_some_iff.mp h
  obtain ⟨l1, l2, l3⟩ : _ ∧ _ ∧ _ := by simpa only [Prod.mk.injEq] using l
  have r := runT_of N _ _ _ r
  rw [S0_abs] at r
  obtain ⟨z1, z2, z3⟩ : _ ∧ _ ∧ _ := by simpa only [Prod.mk.injEq] using boot_size w.params
  have t : topFrom treeTable p w N ⟨boot_heap w.params, #[], boot_drawn, boot_toks, os⟩ = some s.abs := by
    unfold topFrom
    dsimp only
    rw [z1, z2, z3, r]
    show (match staticsOk (importedModules p.main.body) (boot_heap w.params) s.abs.heap && namesBound p s.abs.heap && gensDone s.abs && laidKept (boot_heap w.params) s.abs.heap with | true => _ | false => _) = _
    rw [show (staticsOk (importedModules p.main.body) (boot_heap w.params) s.abs.heap && namesBound p s.abs.heap && gensDone s.abs && laidKept (boot_heap w.params) s.abs.heap) = true from l1]
  unfold openEnds
  rw [e1]
  show (topFrom treeTable p w N _).map _ = _
  rw [t]
  exact congrArg some (Prod.ext l2 l3)
def fragH (h : Heap) : Frag := (List.range h.objs.size).filterMap fun a => (h.get? a).map fun o => (a, o)
theorem look_map (f : Nat → Option Obj) (a : Addr) (o : Obj) : ∀ l : List Nat, (l.filterMap fun a => (f a).map fun o => (a, o)).lookup a = some o → f a = some o
  | [], e => nomatch e
  | b :: l, e => by
    cases hb : f b with
    | none => rw [List.filterMap_cons_none (by rw [hb]; rfl)] at e; exact look_map f a o l e
    | some x =>
      rw [List.filterMap_cons_some (by rw [hb]; rfl), List.lookup_cons] at e
      split at e
      · rename_i q; cases e; rw [beq_iff_eq.mp q]; exact hb
      · exact look_map f a o l e
theorem frag_in (h : Heap) : (fragH h).In h := fun a o e => look_map h.get? a o _ e
def fragT (s : SharedT) : Frag := (List.range s.n).filterMap fun a => (match Nat.blt a s.n with | true => alive ((s.tree.get a).getD default) | false => none).map fun o => (a, o)
theorem fragT_eq (s : SharedT) : fragT s = fragH s.abs.heap := by
  unfold fragT fragH
  show _ = (List.range (absHeap s.tree s.n s.life).objs.size).filterMap fun a => ((absHeap s.tree s.n s.life).get? a).map fun o => (a, o)
  rw [absHeap_size]
  congr 1
  funext a
  congr 1
  unfold Heap.get?
  rw [absHeap_at]
  cases h : Nat.blt a s.n with
  | true =>
    rw [if_pos (show a < s.n from Nat.le_of_ble_eq_true h)]
    dsimp only
    cases (s.tree.get a).getD default with
    | mk c d dt sl => cases dt <;> rfl
  | false =>
    rw [if_neg (fun q => by rw [show Nat.blt a s.n = true from Nat.ble_eq_true_of_le q] at h; cases h)]
/-- what the walk asks of it -/
def says {α : Type} (obs : Frag → α) (good : α) (_ : World) (h : Heap) : Prop := ∃ K : Frag, K.In h ∧ obs K = good
theorem close {l : OpenLaw} {q : Program} {loose : List Str} {d : DefRec} {α : Type} {obs : Frag → α} {good : α} {N : Nat}
    (look : PySem.W.Fast.tw9446332074065402090 l = true) (e : opening l.prog = plainProg l.prog.main.scope.names) (hN : Nat.ble 600 N = true) (f : ∀ s, fenceModules? l.prog s = some s)
    (h : ∀ (w : World) (os : OsState), (runT (stepQ denQ l.prog w) (okQ 11 (some (.ref 6))) N (S0 w os) (topStub l.prog)).map (fun s => (chk l.prog w.params s.abs, seenQ q loose (importedModules l.prog.main.body) (fun s => recOk [] s) true s.abs, obs (fragT s))) = some (true, openGood q loose, good))
    (hdef : defOf q l.name = some (d, [])) (hp : l.prog.theDef l.name = some (d.params, d.body, d.scope)) (hk : kwWritten? d.params.kwonlyargs d.params.kw_defaults = some []) (hwr : (!l.writes || ([] : WRecords).isEmpty) = true)
    (ok : (chainsOk q && opensWell l.prog && (frees l.row.toRowW && l.row.within.isEmpty)) = true) (hb : l.prog.bare) (hw : l.row.toRowW.promised)
    (call : WalkO q loose (fun _ _ => True) (says obs good) l.row.toRowW d [] fun f vs => PySem.call f vs) : l.Holds := by
  rw [← PySem.W.Fast.te9446332074065402090] at look
  refine holds_law look fun said => ?_
  have lf : LeftO l.prog q loose (fun s => recOk [] s) (fun s => obs (fragH s.heap)) (fun _ => good) N := left e hN f fun w os => by
    have := h w os
    rw [show (fun s : SharedT => (chk l.prog w.params s.abs, seenQ q loose (importedModules l.prog.main.body) (fun s => recOk [] s) true s.abs, obs (fragT s))) = fun s => (chk l.prog w.params s.abs, seenQ q loose (importedModules l.prog.main.body) (fun s => recOk [] s) true s.abs, obs (fragH s.abs.heap)) from funext fun s => by rw [fragT_eq]] at this
    exact this
  exact holds_open (r := l.row) (q := q) (loose := loose) (Xt := fun s => recOk [] s) (XP := fun _ _ => True) (YP := says obs good) lf (fun _ s y => ⟨fragH s.heap, frag_in _, y⟩) (fun _ _ _ ⟨K, X, y⟩ k => ⟨K, X.keeps k, y⟩) (fun _ _ => trivial) (fun _ _ _ _ _ => trivial) hdef hp hk (fun _ e => recFacts_of e) hwr said ok hb hw call
def bareV : Value → Value
  | .int n _ => .int n 0
  | .str x _ => .str x 0
  | v => v
def dflOf (K : Frag) : Value → Option (List Value)
  | .none => none
  | .ref D => (match K.lookup D with
    | some ⟨_, _, .seq items _, _⟩ => some (items.toList.map bareV)
    | _ => some [])
  | _ => some []
def adOf : Option (Option Value) → Addr
  | some (some (.ref f)) => f
  | _ => 0
def see (K : Frag) (r : Option (Option Value)) (q : Str) : Option (FuncData × Option (List Value)) × Bool := match r with
  | some (some (.ref f)) => (match K.lookup f with
    | some ⟨_, _, .func fd, _⟩ => (some ({ fd with defaults := .none, kwdefaults := .none, doc := .none, pyModule := .none, annotations := none, code := .none, closureTuple := .none }, dflOf K fd.defaults), codeIn K fd.code q && (keepIn K (.ref f) && isFn K (.ref f)))
    | _ => (none, false))
  | _ => (none, false)
abbrev bareFn (x q : Str) (st : Stmt) : FuncData := fnOf x q (defArgs st) (defBody st) (defScope st) .none .none .none .none none .none .none
theorem see_inv {K : Frag} {r : Option (Option Value)} {x q : Str} {st : Stmt} {ds : Option (List Value)} (h : see K r q = (some (bareFn x q st, ds), true)) : ∃ (oc : Value) (od : Option Addr) (dV kV doc pm : Value) (an : Option Addr) (cdv ct : Value) (osl : Array (Option Value)),
    r = some (some (.ref (adOf r))) ∧ K.lookup (adOf r) = some ⟨oc, od, .func (fnOf x q (defArgs st) (defBody st) (defScope st) dV kV doc pm an cdv ct), osl⟩ ∧ dflOf K dV = ds ∧ codeIn K cdv q = true ∧ keepIn K (.ref (adOf r)) = true ∧ isFn K (.ref (adOf r)) = true := by
  unfold see at h
  split at h
  · rename_i f
    split at h
    · rename_i oc od fd osl hl
      obtain ⟨h1, h2⟩ := Prod.mk.inj h
      obtain ⟨h3, h4⟩ := Prod.mk.inj (Option.some.inj h1)
      obtain ⟨c1, c2⟩ := Bool.and_eq_true_iff.mp h2
      obtain ⟨c2, c3⟩ := Bool.and_eq_true_iff.mp c2
      obtain ⟨n, qn, ps, b, sc, g, cl, dV, kV, doc, pm, an, cdv, ct, bs⟩ := fd
      simp only [FuncData.mk.injEq] at h3
      obtain ⟨rfl, rfl, rfl, rfl, rfl, rfl, rfl, -, -, -, -, -, -, -, rfl⟩ := h3
      exact ⟨oc, od, dV, kV, doc, pm, an, cdv, ct, osl, rfl, hl, h4, c1, c2, c3⟩
    · cases h
  · cases h
/-- a def without defaults -/
theorem see_fun {K : Frag} {r : Option (Option Value)} {x q : Str} {st : Stmt} (h : see K r q = (some (bareFn x q st, none), true)) : r = some (some (.ref (adOf r))) ∧ keepIn K (.ref (adOf r)) = true ∧ isFn K (.ref (adOf r)) = true ∧ ∃ fd, Fun K x q st (adOf r) fd := by
  obtain ⟨oc, od, dV, kV, doc, pm, an, cdv, ct, osl, h1, h2, h3, h4, h5, h6⟩ := see_inv h
  have : dV = .none := by
    cases dV with
    | none => rfl
    | ref D => simp only [dflOf] at h3; split at h3 <;> cases h3
    | _ => cases h3
  subst this
  exact ⟨h1, h5, h6, _, fun_mk h2 h4 h5⟩
/-- a def with defaults -/
theorem see_funD {K : Frag} {r : Option (Option Value)} {x q : Str} {st : Stmt} {b : Value} {bs : List Value} (h : see K r q = (some (bareFn x q st, some (b :: bs)), true)) : r = some (some (.ref (adOf r))) ∧ keepIn K (.ref (adOf r)) = true ∧ isFn K (.ref (adOf r)) = true ∧
    ∃ (D : Addr) (kV doc pm : Value) (an : Option Addr) (cdv ct : Value) (o : Obj) (items : List Value) (n : Nat), FunD K x q st (adOf r) (fnOf x q (defArgs st) (defBody st) (defScope st) (.ref D) kV doc pm an cdv ct) ∧ K.lookup D = some o ∧ o.data = .seq items.toArray n ∧ items.map bareV = b :: bs := by
  obtain ⟨oc, od, dV, kV, doc, pm, an, cdv, ct, osl, h1, h2, h3, h4, h5, h6⟩ := see_inv h
  cases dV with
  | none => cases h3
  | ref D =>
    simp only [dflOf] at h3
    split at h3
    · rename_i c dd items n sl hl
      refine ⟨h1, h5, h6, D, kV, doc, pm, an, cdv, ct, _, items.toList, n, fun_mkD h2 h4 h5, hl, ?_, Option.some.inj h3⟩
      rw [Array.toArray_toList]
    · cases h3
  | _ => cases h3
theorem map1 {f : Value → Value} {b : Value} {l : List Value} (h : l.map f = [b]) : ∃ u, l = [u] ∧ f u = b := by
  match l, h with
  | [u], h => exact ⟨u, rfl, (List.cons.inj h).1⟩
def bv : V → Value
  | .int n => .int n 0
  | .str x => .str x 0
  | .bl b => .bool b
  | _ => .none
def flat : V → Bool
  | .int _ | .str _ | .bl _ | .non => true
  | _ => false
theorem bare_rel {v : V} {u : Value} (h : bareV u = bv v) (hv : flat v = true := by rfl) : RelV v u := by
  cases v <;> first | (cases hv; done) | skip
  all_goals (cases u <;> first | (cases h; done) | skip)
  all_goals first | rfl | (injection h with h1; subst h1; exact ⟨_, rfl⟩) | (injection h with h1 _; subst h1; exact ⟨_, rfl⟩) | (injection h with h1; subst h1; rfl)
/-- the value of a name of the text's -/
abbrev gl (K : Frag) (x : Str) : Option (Option Value) := nsIn K mainGlobals x
abbrev cl (K : Frag) (x : Str) : Addr := adOf (gl K x)
theorem all_at {l : List Bool} (h : l.all id = true) (i : Nat) {b : Bool} (e : l[i]? = some b) : b = true := List.all_eq_true.mp h b (List.mem_of_getElem? e)
theorem eq_at {α : Type} {l m : List α} (h : l = m) (i : Nat) {a b : α} (e : l[i]? = some a) (e' : m[i]? = some b) : a = b := by
  subst h
  exact Option.some.inj (e.symm.trans e')
/-- the goal that the closing leaves, from the law's promise -/
theorem walk {l : OpenLaw} {n k : Nat} {q : Program} {loose : List Str} {XP : (Str → Option Value) → Heap → Prop} {α : Type} {obs : Frag → α} {good : α} {d : DefRec} {sp : Frag → Sp} {x : Str}
    (hn : l.most = some n) (hn2 : n ≤ sizeLine) (hdf : d.params.defaults = []) (hr : Room k callerA)
    (F : ∀ (w : World) (K : Frag) (mg : Str → Option Value) (fa : Addr) (h : Heap), K.In h → obs K = good → h.Ns mainGlobals mg → mg d.name = some (.ref fa) →
      ∃ fd : FuncData, (∀ (s : Shared) (u : Value), BindsTo s fd ⟨[u], []⟩ [(x, u)]) ∧ ∀ base : Heap, K.In base → base.Ns mainGlobals mg → FnOk l.prog w K mg base CX0 k fa fd [x] (sp K))
    (hsp : ∀ (K : Frag) (H : Hp) (a : Addr) (ns : List Int), ns.length ≤ n → Only H → SqL K H a (ns.map V.int) → sp K [.ref a] H (fun v _ => v = .bl true) fun _ _ _ => False) :
    WalkO q loose XP (says obs good) l.row.toRowW d [] (fun f vs => PySem.call f vs) := by
  refine Att.attach_call hn hdf fun w s₀ s₁ mg mb fa o pm cd doc a vs ns G Y ho hd hcd hmg hobj hints hlen hg => ?_
  obtain ⟨K, KX, y⟩ := Y
  obtain ⟨fd, hb, hF⟩ := F w K mg fa _ KX y G.T.g hmg
  exact law_call KX G.T.g G.T.b G.T.builtins G.T.nolimit hg hobj hints (Nat.le_trans hlen hn2) hr hF hb (fun H hO hS => hsp K H a ns hlen hO hS) fun _ _ _ z => z
/-- a constant of the text -/
theorem const_at {K : Frag} {h : Heap} {mg : Str → Option Value} {x : Str} {v : V} (X : K.In h) (G : h.Ns mainGlobals mg) (e : (gl K x).map (Option.map bareV) = some (some (bv v))) (hv : flat v = true := by rfl) : ∃ u, mg x = some u ∧ RelV v u := by
  obtain ⟨r, h1, h2⟩ := Option.map_eq_some_iff.mp e
  obtain ⟨u, h3, h4⟩ := Option.map_eq_some_iff.mp h2
  subst h3
  exact ⟨u, mg_of X G h1, bare_rel h4 hv⟩
theorem no_at {K : Frag} {C : Addr} {f : Str} (h : decide (findIn K (.ref C) f = some none) = true) : NoAttr K C f := by have e : findIn K (.ref C) f = some none := of_decide_eq_true h; exact e
end Hd
set_option Elab.async false
set_option linter.all false
set_option maxRecDepth 100000
set_option maxHeartbeats 4000000
namespace L2
open PySem PySem.Spec PyProof.Rows
abbrev NewAt (o : HO) (H : Hp) (Q : VK) : Prop := ∀ p H', H p = none → Same H H' → H' p = some o → Q (.ref p) H'
theorem NewAt.put {o : HO} {H : Hp} {Q : VK} (k : NewAt o H Q) {p : Addr} (hp : H p = none) : Q (.ref p) (upd H p o) := k p _ hp (Same.upd_new hp) upd_same
inductive gLstN (xs : List V) (H : Hp) (Q : VK) : Prop
  | mk : xs.length ≤ sizeLine → NewAt (.lst xs) H Q → gLstN xs H Q
inductive gTupN (xs : List V) (H : Hp) (Q : VK) : Prop
  | mk : xs.length ≤ sizeLine → NewAt (.tup xs) H Q → gTupN xs H Q
def tLstG (t : TA) : TE := fun σ H Q => t σ H fun xs H1 => gLstN xs H1 Q
def tTupG (t : TA) : TE := fun σ H Q => t σ H fun xs H1 => gTupN xs H1 Q
theorem pe_lstG {X : Cx} {es : List Expr} {t : TA} {pos : Pos} (h : PAs X es t) : PE X (.List es pos) (tLstG t) := by
  intro pins s σ H Q I hq
  refine wpAny_List_spliced (thn (h.h pos pins s σ H _ I hq) fun us s1 ⟨xs, H1, I1, r, z, q⟩ => ⟨by rw [← r.length]; exact z, ?_⟩)
  have hf : H1 s1.heap.objs.size = none := I1.hok.fresh (Nat.le_refl _)
  refine ⟨.ref s1.heap.objs.size, upd H1 s1.heap.objs.size (.lst xs), I1.laid (t' := s1.toks) (fun b u e => Heap.get?_push_of_some _ e) (Nat.le_refl _) ?_, rfl, NewAt.put q hf⟩
  exact ⟨z, us, 0, r, Heap.get?_push_size _ rfl⟩
theorem pe_tupG {X : Cx} {es : List Expr} {t : TA} {x1 : Nat} {pos : Pos} (h : PAs X es t) : PE X (.Tuple es x1 pos) (tTupG t) := by
  intro pins s σ H Q I hq
  refine wpAny_Tuple_spliced (thn (h.h pos pins s σ H _ I hq) fun us s1 ⟨xs, H1, I1, r, z, q⟩ => ⟨by rw [← r.length]; exact z, ?_⟩)
  have hf : H1 s1.heap.objs.size = none := I1.hok.fresh (Nat.le_refl _)
  refine ⟨.ref s1.heap.objs.size, upd H1 s1.heap.objs.size (.tup xs), I1.laid (t' := s1.toks) (fun b u e => Heap.get?_push_of_some _ e) (Nat.le_refl _) ?_, rfl, NewAt.put q hf⟩
  exact ⟨z, us, r, ⟨_, Heap.get?_push_size _ rfl, rfl, _, rfl⟩⟩
theorem SlR.mono {X : Cx} {r r' : V → Option Int → Option Int → Hp → VK → Prop} (h : SlR X r) (k : ∀ x lo hi H Q, r' x lo hi H Q → r x lo hi H Q) : SlR X r' :=
  fun pins s σ H x v vl vu lo hi sl Q I rx hs pl pu q => h pins s σ H x v vl vu lo hi sl Q I rx hs pl pu (k _ _ _ _ _ q)
theorem OpR.mono {X : Cx} {f : Value → Value → Sem Value} {r r' : R2} (h : OpR X f r) (k : ∀ x y H Q, r' x y H Q → r x y H Q) : OpR X f r' :=
  fun pins s σ H x y v u Q I rx ry q => h pins s σ H x y v u Q I rx ry (k _ _ _ _ q)
theorem MtR.mono {X : Cx} {id : String} {r r' : V → List V → Hp → VK → Prop} (h : MtR X id r) (k : ∀ x y H Q, r' x y H Q → r x y H Q) : MtR X id r' :=
  fun pins s σ H x xs v us Q I rx rv q => h pins s σ H x xs v us Q I rx rv (k _ _ _ _ q)
inductive gSlL (K : PySem.W.Frag) (x : V) (lo hi : Option Int) (H : Hp) (Q : VK) : Prop
  | mk : ∀ a xs, x = .ref a → SqL K H a xs → NewAt (.lst (cutV xs lo hi)) H Q → gSlL K x lo hi H Q
theorem sl_listG {X : Cx} : SlR X (gSlL X.K) := sl_list.mono fun x lo hi H Q ⟨a, xs, e, h, k⟩ => ⟨a, xs, e, h, fun p hp => NewAt.put k hp⟩
inductive gCat (x y : V) (H : Hp) (Q : VK) : Prop
  | mk : ∀ l b xs zs, x = .ref l → y = .ref b → H l = some (.lst xs) → H b = some (.lst zs) → xs.length + zs.length ≤ sizeLine → NewAt (.lst (xs ++ zs)) H Q → gCat x y H Q
theorem op_catG {X : Cx} : OpR X (binaryOp .Add) gCat := op_cat.mono fun x y H Q ⟨l, b, xs, zs, e1, e2, h1, h2, hz, k⟩ => ⟨l, b, xs, zs, e1, e2, h1, h2, hz, fun p hp => NewAt.put k hp⟩
inductive gSplit (x : V) (xs : List V) (H : Hp) (Q : VK) : Prop
  | mk : ∀ (z y : Str), x = .str z → xs = [.str y] → (y.length == 0) = false → z.length ≤ 1000000 → NewAt (.lst ((Txt.split z y).map V.str)) H Q → gSplit x xs H Q
theorem mt_splitG {X : Cx} : MtR X "str.split" gSplit := mt_split1.mono fun x xs H Q ⟨z, y, e1, e2, hy, hz, k⟩ => ⟨z, y, e1, e2, hy, hz, fun p hp => NewAt.put k hp⟩
/-- t + u of tuples; the wanted end is asked of any place where the whole stands -/
inductive gCatT (K : PySem.W.Frag) (x y : V) (H : Hp) (Q : VK) : Prop
  | mk : ∀ a b xs ys, x = .ref a → y = .ref b → H a = some (.tup xs) → H b = some (.tup ys) → xs.length + ys.length ≤ sizeLine → (∀ p H', Same H H' → H' p = some (.tup (xs ++ ys)) → Q (.ref p) H') → gCatT K x y H Q
theorem op_catTG {X : Cx} : OpR X (binaryOp .Add) (gCatT X.K) := op_catA.mono fun x y H Q ⟨a, b, xs, ys, e1, e2, h1, h2, hz, k⟩ => by
  subst e1 e2
  exact catA_go h1 h2 hz k
inductive gSlT (K : PySem.W.Frag) (x : V) (lo hi : Option Int) (H : Hp) (Q : VK) : Prop
  | mk : ∀ a xs, x = .ref a → H a = some (.tup xs) → (∀ p H', Same H H' → H' p = some (.tup (cutV xs lo hi)) → Q (.ref p) H') → gSlT K x lo hi H Q
theorem cut_whole {xs : List V} {lo hi : Option Int} (h : HT.sIx xs.length 0 lo = 0 ∧ HT.sIx xs.length xs.length hi = xs.length) : cutV xs lo hi = xs := by
  unfold cutV
  rw [h.1, h.2]
  simp
theorem sl_tupG {X : Cx} : SlR X (gSlT X.K) := sl_tupA.mono fun x lo hi H Q ⟨a, xs, e, h, k⟩ => ⟨a, xs, e, SqT.of h, fun c => k a H (Same.refl H) (by rw [cut_whole c]; exact h), fun p hp => k p _ (Same.upd_new hp) upd_same⟩
theorem cut_from {α : Type} (f : α → V) (xs : List α) (v : Int) (h : 0 ≤ v) : cutV (xs.map f) (some v) none = (xs.drop v.toNat).map f := by
  have hv : ¬ v < 0 := by omega
  simp only [cutV, HT.sIx, if_neg hv, List.length_map, ← List.map_drop, ← List.map_take]
  congr 1
  by_cases hl : v.toNat ≤ xs.length
  · rw [show min v.toNat xs.length = v.toNat by omega]
    exact List.take_of_length_le (by rw [List.length_drop]; omega)
  · rw [show min v.toNat xs.length = xs.length by omega, List.drop_eq_nil_of_le (Nat.le_refl _), List.drop_eq_nil_of_le (show xs.length ≤ v.toNat by omega)]
    simp
theorem cut_mid {α : Type} (f : α → V) (xs : List α) (v u : Int) (h : 0 ≤ v) (h2 : v ≤ u) : cutV (xs.map f) (some v) (some u) = ((xs.drop v.toNat).take (u.toNat - v.toNat)).map f := by
  have hv : ¬ v < 0 := by omega
  have hu : ¬ u < 0 := by omega
  simp only [cutV, HT.sIx, if_neg hv, if_neg hu, List.length_map, ← List.map_drop, ← List.map_take]
  congr 1
  by_cases hl : v.toNat ≤ xs.length
  · rw [show min v.toNat xs.length = v.toNat by omega]
    by_cases hl2 : u.toNat ≤ xs.length
    · rw [show min u.toNat xs.length = u.toNat by omega]
    · rw [show min u.toNat xs.length = xs.length by omega, List.take_of_length_le (by rw [List.length_drop]; omega), List.take_of_length_le (by rw [List.length_drop]; omega)]
  · rw [show min v.toNat xs.length = xs.length by omega, List.drop_eq_nil_of_le (Nat.le_refl _), List.drop_eq_nil_of_le (show xs.length ≤ v.toNat by omega)]
    simp
theorem str_ne {x y : Str} : (!decide (V.str x = V.str y)) = !decide (x = y) := by
  by_cases h : x = y
  · rw [h, decide_eq_true rfl, decide_eq_true rfl]
  · rw [decide_eq_false h, decide_eq_false fun z => h (V.str.inj z)]
theorem str_eq {x y : Str} : decide (V.str x = V.str y) = decide (x = y) := by
  by_cases h : x = y
  · rw [h, decide_eq_true rfl, decide_eq_true rfl]
  · rw [decide_eq_false h, decide_eq_false fun z => h (V.str.inj z)]
theorem int_ne {x y : Int} : (!decide (V.int x = V.int y)) = !decide (x = y) := by
  by_cases h : x = y
  · rw [h, decide_eq_true rfl, decide_eq_true rfl]
  · rw [decide_eq_false h, decide_eq_false fun z => h (V.int.inj z)]
end L2
set_option maxHeartbeats 4000000
namespace K07
open PySem L2
def top (i : Nat) : Stmt := PySem.Challenge.pw_mailroom_k07_texts_of_letters_read.main.body.getD i (.Pass ⟨0, 0, 0, 0⟩)
abbrev swall : Stmt := top 0
abbrev sall_among : Stmt := top 14
abbrev sis_word : Stmt := top 15
abbrev swords_of : Stmt := top 16
abbrev sis_text : Stmt := top 27
abbrev sis_whole : Stmt := top 28
abbrev sis_answered : Stmt := top 29
abbrev scheck_parts : Stmt := top 30
abbrev sletter_text : Stmt := top 32
abbrev sread_day : Stmt := top 33
abbrev scut_letter : Stmt := top 34
abbrev sread_letter : Stmt := top 35
abbrev sl_row : Stmt := top 37
abbrev sl_word : Stmt := top 38
abbrev sl_signs : Stmt := top 39
abbrev sl_parts : Stmt := top 40
abbrev sl_text_of : Stmt := top 41
abbrev sl_of_one_class : Stmt := top 42
abbrev sl_is_word : Stmt := top 43
abbrev sl_parts_in : Stmt := top 44
abbrev sl_spoilt : Stmt := top 45
abbrev sl_odd_text : Stmt := top 46
abbrev sl_refused : Stmt := top 47
abbrev sl_read : Stmt := top 48
abbrev slaw : Stmt := top 49
abbrev sLetter_init : Stmt := inClass (top 31) 0
abbrev sLetter_twin : Stmt := inClass (top 31) 1
abbrev sLetter_parts : Stmt := inClass (top 31) 2
abbrev sLetter_known : Stmt := inClass (top 31) 3
abbrev sLetter_words : Stmt := inClass (top 31) 4
abbrev sLetter_title_words : Stmt := inClass (top 31) 5
abbrev n_all_among : List Str := ["text", "signs"]
theorem sc_all_among : FnScope n_all_among ["text", "signs"] (defScope sall_among) := ⟨rfl, rfl, rfl, by decide +kernel, rfl, by decide +kernel, by decide +kernel⟩
abbrev n_is_word : List Str := ["thing"]
theorem sc_is_word : FnScope n_is_word ["thing"] (defScope sis_word) := ⟨rfl, rfl, rfl, by decide +kernel, rfl, by decide +kernel, by decide +kernel⟩
abbrev n_is_text : List Str := ["thing", "most"]
theorem sc_is_text : FnScope n_is_text ["thing", "most"] (defScope sis_text) := ⟨rfl, rfl, rfl, by decide +kernel, rfl, by decide +kernel, by decide +kernel⟩
abbrev n_is_whole : List Str := ["thing"]
theorem sc_is_whole : FnScope n_is_whole ["thing"] (defScope sis_whole) := ⟨rfl, rfl, rfl, by decide +kernel, rfl, by decide +kernel, by decide +kernel⟩
abbrev n_is_answered : List Str := ["thing"]
theorem sc_is_answered : FnScope n_is_answered ["thing"] (defScope sis_answered) := ⟨rfl, rfl, rfl, by decide +kernel, rfl, by decide +kernel, by decide +kernel⟩
abbrev n_check_parts : List Str := ["sender", "title", "body", "day", "answers"]
theorem sc_check_parts : FnScope n_check_parts ["sender", "title", "body", "day", "answers"] (defScope scheck_parts) := ⟨rfl, rfl, rfl, by decide +kernel, rfl, by decide +kernel, by decide +kernel⟩
abbrev n_letter_text : List Str := ["letter", "rows"]
theorem sc_letter_text : FnScope n_letter_text ["letter"] (defScope sletter_text) := ⟨rfl, rfl, rfl, by decide +kernel, rfl, by decide +kernel, by decide +kernel⟩
abbrev n_read_day : List Str := ["figures"]
theorem sc_read_day : FnScope n_read_day ["figures"] (defScope sread_day) := ⟨rfl, rfl, rfl, by decide +kernel, rfl, by decide +kernel, by decide +kernel⟩
abbrev n_cut_letter : List Str := ["rows", "body", "sender", "day", "answers", "title"]
theorem sc_cut_letter : FnScope n_cut_letter ["rows", "body"] (defScope scut_letter) := ⟨rfl, rfl, rfl, by decide +kernel, rfl, by decide +kernel, by decide +kernel⟩
abbrev n_read_letter : List Str := ["text", "place", "letter"]
theorem sc_read_letter : FnScope n_read_letter ["text"] (defScope sread_letter) := ⟨rfl, rfl, rfl, by decide +kernel, rfl, by decide +kernel, by decide +kernel⟩
abbrev n_l_row : List Str := ["_law_script", "_law_many", "_law_found", "_law_more", "_law_k", "_law_cell"]
theorem sc_l_row : FnScope n_l_row ["_law_script", "_law_many"] (defScope sl_row) := ⟨rfl, rfl, rfl, by decide +kernel, rfl, by decide +kernel, by decide +kernel⟩
abbrev n_l_word : List Str := ["_law_base", "_law_turn", "_law_some", "_law_signs_here", "_law_size", "_law_at"]
theorem sc_l_word : FnScope n_l_word ["_law_base", "_law_turn"] (defScope sl_word) := ⟨rfl, rfl, rfl, by decide +kernel, rfl, by decide +kernel, by decide +kernel⟩
abbrev n_l_signs : List Str := ["_law_number", "_law_many", "_law_some", "_law_found", "_law_k"]
theorem sc_l_signs : FnScope n_l_signs ["_law_number", "_law_many"] (defScope sl_signs) := ⟨rfl, rfl, rfl, by decide +kernel, rfl, by decide +kernel, by decide +kernel⟩
abbrev n_l_parts : List Str := ["_law_row_here", "_law_base", "_law_title", "_law_body", "_law_at", "_law_day", "_law_answers"]
theorem sc_l_parts : FnScope n_l_parts ["_law_row_here", "_law_base"] (defScope sl_parts) := ⟨rfl, rfl, rfl, by decide +kernel, rfl, by decide +kernel, by decide +kernel⟩
abbrev n_l_text_of : List Str := ["_law_parts_here", "_law_rows"]
theorem sc_l_text_of : FnScope n_l_text_of ["_law_parts_here"] (defScope sl_text_of) := ⟨rfl, rfl, rfl, by decide +kernel, rfl, by decide +kernel, by decide +kernel⟩
abbrev n_l_of_one_class : List Str := ["_law_e", "_law_found"]
theorem sc_l_of_one_class : FnScope n_l_of_one_class ["_law_e"] (defScope sl_of_one_class) := ⟨rfl, rfl, rfl, by decide +kernel, rfl, by decide +kernel, by decide +kernel⟩
abbrev n_l_is_word : List Str := ["_law_text"]
theorem sc_l_is_word : FnScope n_l_is_word ["_law_text"] (defScope sl_is_word) := ⟨rfl, rfl, rfl, by decide +kernel, rfl, by decide +kernel, by decide +kernel⟩
abbrev n_l_parts_in : List Str := ["_law_text", "_law_rows", "_law_answers", "_law_body", "_law_sign"]
theorem sc_l_parts_in : FnScope n_l_parts_in ["_law_text"] (defScope sl_parts_in) := ⟨rfl, rfl, rfl, by decide +kernel, rfl, by decide +kernel, by decide +kernel⟩
abbrev n_l_spoilt : List Str := ["_law_text", "_law_row_here", "_law_k", "_law_way", "_law_at", "_law_sign", "_law_rows", "_law_one", "_law_other", "_law_kept"]
theorem sc_l_spoilt : FnScope n_l_spoilt ["_law_text", "_law_row_here", "_law_k"] (defScope sl_spoilt) := ⟨rfl, rfl, rfl, by decide +kernel, rfl, by decide +kernel, by decide +kernel⟩
abbrev n_l_odd_text : List Str := ["_law_number", "_law_some"]
theorem sc_l_odd_text : FnScope n_l_odd_text ["_law_number"] (defScope sl_odd_text) := ⟨rfl, rfl, rfl, by decide +kernel, rfl, by decide +kernel, by decide +kernel⟩
abbrev n_l_refused : List Str := ["_law_text", "_law_refused_here", "_law_e"]
theorem sc_l_refused : FnScope n_l_refused ["_law_text"] (defScope sl_refused) := ⟨rfl, rfl, rfl, by decide +kernel, rfl, by decide +kernel, by decide +kernel⟩
abbrev n_l_read : List Str := ["_law_text"]
theorem sc_l_read : FnScope n_l_read ["_law_text"] (defScope sl_read) := ⟨rfl, rfl, rfl, by decide +kernel, rfl, by decide +kernel, by decide +kernel⟩
abbrev n_law : List Str := ["_law_script", "_law_row_here", "_law_parts_here", "_law_text", "_law_due"]
theorem sc_law : FnScope n_law ["_law_script"] (defScope slaw) := ⟨rfl, rfl, rfl, by decide +kernel, rfl, by decide +kernel, by decide +kernel⟩
abbrev n_Letter_init : List Str := ["self", "sender", "title", "body", "day", "answers"]
theorem sc_Letter_init : FnScope n_Letter_init ["self", "sender", "title", "body", "day", "answers"] (defScope sLetter_init) := ⟨rfl, rfl, rfl, by decide +kernel, rfl, by decide +kernel, by decide +kernel⟩
abbrev n_Letter_parts : List Str := ["self"]
theorem sc_Letter_parts : FnScope n_Letter_parts ["self"] (defScope sLetter_parts) := ⟨rfl, rfl, rfl, by decide +kernel, rfl, by decide +kernel, by decide +kernel⟩
set_option genInjectivity false in
/-- where the top's things stand -/
structure Adr where
  f_wall : Addr
  f_all_among : Addr
  f_is_word : Addr
  f_words_of : Addr
  f_is_text : Addr
  f_is_whole : Addr
  f_is_answered : Addr
  f_check_parts : Addr
  f_letter_text : Addr
  f_read_day : Addr
  f_cut_letter : Addr
  f_read_letter : Addr
  f_l_row : Addr
  f_l_word : Addr
  f_l_signs : Addr
  f_l_parts : Addr
  f_l_text_of : Addr
  f_l_of_one_class : Addr
  f_l_is_word : Addr
  f_l_parts_in : Addr
  f_l_spoilt : Addr
  f_l_odd_text : Addr
  f_l_refused : Addr
  f_l_read : Addr
  f_law : Addr
  f_Letter_init : Addr
  f_Letter_twin : Addr
  f_Letter_parts : Addr
  f_Letter_known : Addr
  f_Letter_words : Addr
  f_Letter_title_words : Addr
  C_Letter : Addr
  C_MailError : Addr
  C_NoLetter : Addr
  C_NoWord : Addr
  C_NoRule : Addr
  C_NoName : Addr
  C_NoParcel : Addr
  C_NoRow : Addr
  dummy : Nat := 0
structure Txt (K : PySem.W.Frag) (mg : Str → Option Value) (a : Adr) : Prop where
  m_wall : mg "_wall" = some (.ref a.f_wall)
  m_all_among : mg "all_among" = some (.ref a.f_all_among)
  m_is_word : mg "is_word" = some (.ref a.f_is_word)
  m_words_of : mg "words_of" = some (.ref a.f_words_of)
  m_is_text : mg "is_text" = some (.ref a.f_is_text)
  m_is_whole : mg "is_whole" = some (.ref a.f_is_whole)
  m_is_answered : mg "is_answered" = some (.ref a.f_is_answered)
  m_check_parts : mg "check_parts" = some (.ref a.f_check_parts)
  m_letter_text : mg "letter_text" = some (.ref a.f_letter_text)
  m_read_day : mg "read_day" = some (.ref a.f_read_day)
  m_cut_letter : mg "cut_letter" = some (.ref a.f_cut_letter)
  m_read_letter : mg "read_letter" = some (.ref a.f_read_letter)
  m_l_row : mg "_law_row" = some (.ref a.f_l_row)
  m_l_word : mg "_law_word" = some (.ref a.f_l_word)
  m_l_signs : mg "_law_signs" = some (.ref a.f_l_signs)
  m_l_parts : mg "_law_parts" = some (.ref a.f_l_parts)
  m_l_text_of : mg "_law_text_of" = some (.ref a.f_l_text_of)
  m_l_of_one_class : mg "_law_of_one_class" = some (.ref a.f_l_of_one_class)
  m_l_is_word : mg "_law_is_word" = some (.ref a.f_l_is_word)
  m_l_parts_in : mg "_law_parts_in" = some (.ref a.f_l_parts_in)
  m_l_spoilt : mg "_law_spoilt" = some (.ref a.f_l_spoilt)
  m_l_odd_text : mg "_law_odd_text" = some (.ref a.f_l_odd_text)
  m_l_refused : mg "_law_refused" = some (.ref a.f_l_refused)
  m_l_read : mg "_law_read" = some (.ref a.f_l_read)
  m_law : mg "law" = some (.ref a.f_law)
  g_FIGURES : ∃ u, mg "FIGURES" = some u ∧ RelV (.str "0123456789") u
  g_WORD_SIGNS : ∃ u, mg "WORD_SIGNS" = some u ∧ RelV (.str "abcdefghijklmnopqrstuvwxyz0123456789") u
  g_RUN_SIGNS : ∃ u, mg "RUN_SIGNS" = some u ∧ RelV (.str "abcdefghijklmnopqrstuvwxyzABCDEFGHIJKLMNOPQRSTUVWXYZ0123456789") u
  g_MOST_WORD : ∃ u, mg "MOST_WORD" = some u ∧ RelV (.int 20) u
  g_MOST_TITLE : ∃ u, mg "MOST_TITLE" = some u ∧ RelV (.int 60) u
  g_MOST_BODY : ∃ u, mg "MOST_BODY" = some u ∧ RelV (.int 400) u
  g_LAST_DAY : ∃ u, mg "LAST_DAY" = some u ∧ RelV (.int 9999) u
  g_DAY_FIGURES : ∃ u, mg "DAY_FIGURES" = some u ∧ RelV (.int 4) u
  g_FROM : ∃ u, mg "FROM" = some u ∧ RelV (.str "from ") u
  g_DAY : ∃ u, mg "DAY" = some u ∧ RelV (.str "day ") u
  g_ANSWERS : ∃ u, mg "ANSWERS" = some u ∧ RelV (.str "answers ") u
  g_TITLE : ∃ u, mg "TITLE" = some u ∧ RelV (.str "title ") u
  g_GAP : ∃ u, mg "GAP" = some u ∧ RelV (.str "\n\n") u
  b_len : mg "len" = none
  b_range : mg "range" = none
  b_isinstance : mg "isinstance" = none
  b_str : mg "str" = none
  b_int : mg "int" = none
  b_bool : mg "bool" = none
  b_list : mg "list" = none
  b_all : mg "all" = none
  mc_Letter : mg "Letter" = some (.ref a.C_Letter)
  c_Letter : Cls K a.C_Letter
  k_Letter : Mk K a.C_Letter a.f_Letter_init
  M_Letter_twin : Meth K a.C_Letter "twin" a.f_Letter_twin
  M_Letter_parts : Meth K a.C_Letter "parts" a.f_Letter_parts
  M_Letter_known : Meth K a.C_Letter "known" a.f_Letter_known
  M_Letter_words : Meth K a.C_Letter "words" a.f_Letter_words
  M_Letter_title_words : Meth K a.C_Letter "title_words" a.f_Letter_title_words
  n_Letter_sender : NoAttr K a.C_Letter "sender"
  n_Letter_title : NoAttr K a.C_Letter "title"
  n_Letter_body : NoAttr K a.C_Letter "body"
  n_Letter_day : NoAttr K a.C_Letter "day"
  n_Letter_answers : NoAttr K a.C_Letter "answers"
  n_Letter_found : NoAttr K a.C_Letter "found"
  mx_MailError : mg "MailError" = some (.ref a.C_MailError)
  x_MailError : Xcl K a.C_MailError
  mx_NoLetter : mg "NoLetter" = some (.ref a.C_NoLetter)
  x_NoLetter : Xcl K a.C_NoLetter
  s_NoLetter_MailError : mroIn K a.C_NoLetter a.C_MailError = true
  s_NoLetter_NoLetter : mroIn K a.C_NoLetter a.C_NoLetter = true
  mx_NoWord : mg "NoWord" = some (.ref a.C_NoWord)
  mx_NoRule : mg "NoRule" = some (.ref a.C_NoRule)
  mx_NoName : mg "NoName" = some (.ref a.C_NoName)
  mx_NoParcel : mg "NoParcel" = some (.ref a.C_NoParcel)
  mx_NoRow : mg "NoRow" = some (.ref a.C_NoRow)
  xg_NoLetter : XGet K a.C_NoLetter
  ki_NoLetter_NoWord : PySem.W.kitOne K (.ref a.C_NoLetter) (.ref a.C_NoWord) = some false
  ki_NoLetter_NoLetter : PySem.W.kitOne K (.ref a.C_NoLetter) (.ref a.C_NoLetter) = some true
  ki_NoLetter_NoRule : PySem.W.kitOne K (.ref a.C_NoLetter) (.ref a.C_NoRule) = some false
  ki_NoLetter_NoName : PySem.W.kitOne K (.ref a.C_NoLetter) (.ref a.C_NoName) = some false
  ki_NoLetter_ValueError : PySem.W.kitOne K (.ref a.C_NoLetter) (.type "ValueError") = some true
  ki_NoLetter_NoParcel : PySem.W.kitOne K (.ref a.C_NoLetter) (.ref a.C_NoParcel) = some false
  ki_NoLetter_NoRow : PySem.W.kitOne K (.ref a.C_NoLetter) (.ref a.C_NoRow) = some false
  b_ValueError : mg "ValueError" = none
  top_ : True
structure Funs (K : PySem.W.Frag) (a : Adr) : Prop where
  F_wall : ∃ fd, Fun K "_wall" "_wall" swall a.f_wall fd ∧ Binds K fd ["k"] []
  F_all_among : ∃ fd, Fun K "all_among" "all_among" sall_among a.f_all_among fd ∧ Binds K fd ["text", "signs"] []
  F_is_word : ∃ fd, Fun K "is_word" "is_word" sis_word a.f_is_word fd ∧ Binds K fd ["thing"] []
  F_words_of : ∃ fd, Fun K "words_of" "words_of" swords_of a.f_words_of fd ∧ Binds K fd ["text"] []
  F_is_text : ∃ fd, Fun K "is_text" "is_text" sis_text a.f_is_text fd ∧ Binds K fd ["thing", "most"] []
  F_is_whole : ∃ fd, Fun K "is_whole" "is_whole" sis_whole a.f_is_whole fd ∧ Binds K fd ["thing"] []
  F_is_answered : ∃ fd, Fun K "is_answered" "is_answered" sis_answered a.f_is_answered fd ∧ Binds K fd ["thing"] []
  F_check_parts : ∃ fd, Fun K "check_parts" "check_parts" scheck_parts a.f_check_parts fd ∧ Binds K fd ["sender", "title", "body", "day", "answers"] []
  F_letter_text : ∃ fd, Fun K "letter_text" "letter_text" sletter_text a.f_letter_text fd ∧ Binds K fd ["letter"] []
  F_read_day : ∃ fd, Fun K "read_day" "read_day" sread_day a.f_read_day fd ∧ Binds K fd ["figures"] []
  F_cut_letter : ∃ fd, Fun K "cut_letter" "cut_letter" scut_letter a.f_cut_letter fd ∧ Binds K fd ["rows", "body"] []
  F_read_letter : ∃ fd, Fun K "read_letter" "read_letter" sread_letter a.f_read_letter fd ∧ Binds K fd ["text"] []
  F_l_row : ∃ fd, Fun K "_law_row" "_law_row" sl_row a.f_l_row fd ∧ Binds K fd ["_law_script", "_law_many"] []
  F_l_word : ∃ fd, Fun K "_law_word" "_law_word" sl_word a.f_l_word fd ∧ Binds K fd ["_law_base", "_law_turn"] []
  F_l_signs : ∃ fd, Fun K "_law_signs" "_law_signs" sl_signs a.f_l_signs fd ∧ Binds K fd ["_law_number", "_law_many"] []
  F_l_parts : ∃ fd, Fun K "_law_parts" "_law_parts" sl_parts a.f_l_parts fd ∧ Binds K fd ["_law_row_here", "_law_base"] []
  F_l_text_of : ∃ fd, Fun K "_law_text_of" "_law_text_of" sl_text_of a.f_l_text_of fd ∧ Binds K fd ["_law_parts_here"] []
  F_l_of_one_class : ∃ fd, Fun K "_law_of_one_class" "_law_of_one_class" sl_of_one_class a.f_l_of_one_class fd ∧ Binds K fd ["_law_e"] []
  F_l_is_word : ∃ fd, Fun K "_law_is_word" "_law_is_word" sl_is_word a.f_l_is_word fd ∧ Binds K fd ["_law_text"] []
  F_l_parts_in : ∃ fd, Fun K "_law_parts_in" "_law_parts_in" sl_parts_in a.f_l_parts_in fd ∧ Binds K fd ["_law_text"] []
  F_l_spoilt : ∃ fd, Fun K "_law_spoilt" "_law_spoilt" sl_spoilt a.f_l_spoilt fd ∧ Binds K fd ["_law_text", "_law_row_here", "_law_k"] []
  F_l_odd_text : ∃ fd, Fun K "_law_odd_text" "_law_odd_text" sl_odd_text a.f_l_odd_text fd ∧ Binds K fd ["_law_number"] []
  F_l_refused : ∃ fd, Fun K "_law_refused" "_law_refused" sl_refused a.f_l_refused fd ∧ Binds K fd ["_law_text"] []
  F_l_read : ∃ fd, Fun K "_law_read" "_law_read" sl_read a.f_l_read fd ∧ Binds K fd ["_law_text"] []
  F_law : ∃ fd, Fun K "law" "law" slaw a.f_law fd ∧ Binds K fd ["_law_script"] []
  F_Letter_init : ∃ fd, FunD K "__init__" "Letter.__init__" sLetter_init a.f_Letter_init fd ∧ Binds K fd ["self", "sender", "title", "body", "day", "answers"] [] ∧ (∃ ds, Vals [.str ""] ds ∧ Binds K fd ["self", "sender", "title", "body", "day", "answers"] ds)
  F_Letter_twin : ∃ fd, Fun K "twin" "Letter.twin" sLetter_twin a.f_Letter_twin fd ∧ Binds K fd ["self"] []
  F_Letter_parts : ∃ fd, Fun K "parts" "Letter.parts" sLetter_parts a.f_Letter_parts fd ∧ Binds K fd ["self"] []
  F_Letter_known : ∃ fd, Fun K "known" "Letter.known" sLetter_known a.f_Letter_known fd ∧ Binds K fd ["self"] []
  F_Letter_words : ∃ fd, Fun K "words" "Letter.words" sLetter_words a.f_Letter_words fd ∧ Binds K fd ["self"] []
  F_Letter_title_words : ∃ fd, Fun K "title_words" "Letter.title_words" sLetter_title_words a.f_Letter_title_words fd ∧ Binds K fd ["self"] []
inductive spRow_I (K : PySem.W.Frag) (vs : List V) (H : Hp) (Q : VK) : Prop
  | mk : ∀ (a : Addr) (ns : List Int) (n : Nat), vs = [.ref a, .int n] → SqL K H a (ns.map V.int) → n ≤ 1000 → (∀ (p : Addr) (rs : List Int) (H' : Hp), rs.length = n → (∀ r ∈ rs, 0 ≤ r ∧ r < 2147483629) → Same H H' → H' p = some (.lst (rs.map V.int)) → Q (.ref p) H') → spRow_I K vs H Q
def spRow (K : PySem.W.Frag) : Sp := fun vs H Q _ => spRow_I K vs H Q
theorem ok_row {P : Program} {w : World} {K : PySem.W.Frag} {mg : Str → Option Value} {base : Heap} {a : Adr} {fd : FuncData} (F : Fun K "_law_row" "_law_row" sl_row a.f_l_row fd) (T : Txt K mg a) : FnOk P w K mg base CX0 1 a.f_l_row fd ["_law_script", "_law_many"] (spRow K) := by
  refine F.ok sc_l_row (fun vs H Q E h => ?_) (fun cdv A outer s H vs Q E hr h => ?_)
  · obtain ⟨x, ns, n, rfl, _⟩ := h; rfl
  · obtain ⟨q, ns, n, rfl, hS, hn, k⟩ := h
    refine ⟨_, pss_cons (ps_set (i := 2) sc_l_row.nd rfl (Or.inl rfl) (pe_lst pa_nil))
      (pss_cons (ps_set (i := 3) sc_l_row.nd rfl (Or.inl rfl) pe_int)
      (pss_cons (ps_for PassesOwn.never rfl (pi_range1 rfl T.b_range (pa_cons (pv 1) pa_nil)) (pg_name (i := 4) sc_l_row.nd rfl (Or.inl rfl))
        (pss_cons (ps_set (i := 5) sc_l_row.nd rfl (Or.inl rfl) pe_int)
        (pss_cons (ps_if (pt_cmpR op_gt (pe_callB call_len_seq rfl T.b_len PySem.boot_len (pa_cons (pv 0) pa_nil)) pe_int (nomark _))
          (pss_one (ps_set (i := 5) sc_l_row.nd rfl (Or.inl rfl) (pe_ix ix_list (pv 0) (pe_op op_mod (pv 4) (pe_callB call_len_seq rfl T.b_len PySem.boot_len (pa_cons (pv 0) pa_nil))) (fun _ _ => rfl)))) pss_nil)
        (pss_cons (ps_set (i := 3) sc_l_row.nd rfl (Or.inl rfl) (pe_op op_mod (pe_op op_add (pe_op op_add (pe_op op_mul (pv 3) pe_int) (pv 5)) (pv 4)) pe_int))
        (pss_one (ps_expr (pe_bm PySem.F.plainAttrs_list PySem.F.slot_list_append PySem.F.type_list_append mt_append (pv 2) (pa_cons (pe_op op_mod (pe_op op_add (pe_op op_mul (pv 3) (pv 3)) (pe_op op_mul pe_int (pv 3))) pe_int) pa_nil))))))))
      (pss_one (ps_ret (pv 2))))), ?_⟩
    refine ⟨Nat.zero_le _, fun p hp => ?_⟩
    refine ⟨_, rfl, (n : Int), rfl, by omega, by omega, for_range (n := (n : Int).toNat) (fun i σ H2 => ∃ (rs : List Int) (more : Int) (c1 c2 : Option V), σ = [some (.ref q), some (.int n), some (.ref p), some (.int more), c1, c2] ∧ 0 ≤ more ∧ more < 2147483647 ∧
      rs.length = i ∧ (∀ r ∈ rs, 0 ≤ r ∧ r < 2147483629) ∧ H2 p = some (.lst (rs.map V.int)) ∧ Same H H2)
      ⟨[], 7, none, none, rfl, by decide, by decide, rfl, (fun _ h => nomatch h), upd_same, Same.upd_new hp⟩ ?_ ?_⟩
    · rintro i σ H2 hi ⟨rs, more, c1, c2, rfl, h0, h1, hl, hb, hp2, hs⟩
      have hS2 := hs.seq hS
      have hin : i < n := by omega
      have rest : ∀ z : Int, ∃ x : V, ([some (.ref q), some (.int n), some (.ref p), some (.int more), some (.int (0 + (i : Int))), some (.int z)] : St)[3]? = some (some x) ∧ True := fun z => ⟨_, rfl, trivial⟩
      refine ⟨_, rfl, q, _, rfl, .inl hS2, _, _, rfl, rfl, _, rfl, ?_⟩
      refine ite2 (fun hpos => ?_) (fun hneg => ?_)
      · have hpos' : 0 < (ns.map V.int).length := by simpa using hpos
        obtain ⟨v, hv, hm, _⟩ := atI_mod (xs := ns.map V.int) (0 + (i : Int)) hpos'
        obtain ⟨z, rfl, _⟩ := mem_map_int hm
        refine ⟨_, rfl, _, rfl, _, rfl, q, _, rfl, .inl hS2, _, _, rfl, rfl, (by omega), q, _, _, _, rfl, rfl, hS2, hv, ?_⟩
        refine ⟨_, rfl, _, _, rfl, rfl, .inl ⟨by omega, by omega⟩, _, rfl, _, _, rfl, rfl, _, rfl, _, _, rfl, rfl, _, _, rfl, rfl, (by show (0 : Int) < 2147483647; decide), ?_⟩
        have b0 : 0 ≤ (more * 48271 + z + (0 + (i : Int))) % 2147483647 := Int.emod_nonneg _ (by decide)
        have b1 : (more * 48271 + z + (0 + (i : Int))) % 2147483647 < 2147483647 := Int.emod_lt_of_pos _ (by decide)
        refine ⟨_, rfl, .inl ⟨rfl, _, SqL.of hp2⟩, _, rfl, _, rfl, _, _, rfl, rfl, .inl ⟨by omega, by omega⟩, _, rfl, _, _, rfl, rfl, .inl ⟨by decide, by decide⟩, _, _, rfl, rfl, _, _, rfl, rfl, (by show (0 : Int) < 2147483629; decide), p, _, _, rfl, rfl, hp2, (by rw [List.length_map]; exact small1000 (by omega)), ?_⟩
        refine ⟨rs ++ [_], _, _, _, rfl, b0, b1, by rw [List.length_append, hl]; rfl, fun r hr => ?_, by rw [List.map_append]; exact upd_same, hs.upd_of hp⟩
        rcases List.mem_append.mp hr with hr | hr
        · exact hb r hr
        · rw [List.mem_singleton.mp hr]
          exact ⟨Int.emod_nonneg _ (by decide), Int.emod_lt_of_pos _ (by decide)⟩
      · refine ⟨_, rfl, _, _, rfl, rfl, .inl ⟨by omega, by omega⟩, _, rfl, _, _, rfl, rfl, _, rfl, _, _, rfl, rfl, _, _, rfl, rfl, (by show (0 : Int) < 2147483647; decide), ?_⟩
        have b0 : 0 ≤ (more * 48271 + 0 + (0 + (i : Int))) % 2147483647 := Int.emod_nonneg _ (by decide)
        have b1 : (more * 48271 + 0 + (0 + (i : Int))) % 2147483647 < 2147483647 := Int.emod_lt_of_pos _ (by decide)
        refine ⟨_, rfl, .inl ⟨rfl, _, SqL.of hp2⟩, _, rfl, _, rfl, _, _, rfl, rfl, .inl ⟨by omega, by omega⟩, _, rfl, _, _, rfl, rfl, .inl ⟨by decide, by decide⟩, _, _, rfl, rfl, _, _, rfl, rfl, (by show (0 : Int) < 2147483629; decide), p, _, _, rfl, rfl, hp2, (by rw [List.length_map]; exact small1000 (by omega)), ?_⟩
        refine ⟨rs ++ [_], _, _, _, rfl, b0, b1, by rw [List.length_append, hl]; rfl, fun r hr => ?_, by rw [List.map_append]; exact upd_same, hs.upd_of hp⟩
        rcases List.mem_append.mp hr with hr | hr
        · exact hb r hr
        · rw [List.mem_singleton.mp hr]
          exact ⟨Int.emod_nonneg _ (by decide), Int.emod_lt_of_pos _ (by decide)⟩
    · rintro σ H2 ⟨rs, more, c1, c2, rfl, h0, h1, hl, hb, hp2, hs⟩
      refine ⟨_, rfl, k p rs H2 (by omega) hb hs hp2⟩
inductive spWord_I (vs : List V) (H : Hp) (Q : VK) : Prop
  | mk : ∀ (b t : Int), vs = [.int b, .int t] → 0 ≤ b → b < 2147483629 → 0 ≤ t → t < 100 → (∀ (x : Str) (H' : Hp), WordS x → Same H H' → Q (.str x) H') → spWord_I vs H Q
def spWord : Sp := fun vs H Q _ => spWord_I vs H Q
theorem ok_word {P : Program} {w : World} {K : PySem.W.Frag} {mg : Str → Option Value} {base : Heap} {a : Adr} {fd : FuncData} (F : Fun K "_law_word" "_law_word" sl_word a.f_l_word fd) (T : Txt K mg a) : FnOk P w K mg base CX0 1 a.f_l_word fd ["_law_base", "_law_turn"] spWord := by
  refine F.ok sc_l_word (fun vs H Q E h => ?_) (fun cdv A outer s H vs Q E hr h => ?_)
  · obtain ⟨b, t, rfl, _⟩ := h; rfl
  · obtain ⟨b, t, rfl, hb0, hb1, ht0, ht1, k⟩ := h
    have h36 := aZ_len
    have mod36 : ∀ z : Int, ∃ c, atI aZ.cps.toList (z % 36) = some c ∧ c ∈ aZ.cps.toList := fun z =>
      pick_sign (Int.emod_nonneg _ (by decide)) (by rw [h36]; exact Int.emod_lt_of_pos _ (by decide))
    have fin : ∀ (ys : List Str) (j : Nat) (H' : Hp), (∀ y ∈ ys, Sign1 aZ y) → ys.length = 20 → 1 ≤ j → j ≤ 20 → Same H H' → Q (.str (Txt.join "" (ys.take j))) H' := fun ys j H' h1 hl hj0 hj1 s' => by
      have q := join_signs (z := aZ) (ys := ys.take j) fun y hy => h1 y (List.mem_of_mem_take hy)
      have e : (ys.take j).length = j := by rw [List.length_take]; omega
      exact k _ H' ⟨by rw [q.1, e]; exact hj0, by rw [q.1, e]; exact hj1, q.2⟩ s'
    obtain ⟨t4, h4, sp4⟩ : ∃ tt, PSs (cxOf CX0 P w K mg base n_l_word "_law_word" (defScope sl_word) a.f_l_word cdv A outer s H E).nox ((defBody sl_word).drop 4) tt ∧
        ∀ (H1 : Hp) (D : Addr) (ys : List Str), Same H H1 → H D = none → H1 D = some (.lst (ys.map V.str)) → (∀ y ∈ ys, Sign1 aZ y) → ys.length = 20 →
          tt { nx := fun _ H' => Q .non H', rt := Q } [some (.int b), some (.int t), some (.str aZ), some (.ref D), none, none] H1 := by
      refine ⟨_, (pss_cons (ps_set (i := 4) sc_l_word.nd rfl (Or.inl rfl) (pe_op op_add pe_int (pe_op op_mod (pe_op op_fdiv (pv 0) pe_int) pe_int)))
        (pss_cons (ps_set (i := 5) sc_l_word.nd rfl (Or.inl rfl) (pe_op op_mod (pe_op op_fdiv (pv 0) pe_int) (pv 4)))
        (pss_cons (ps_asg (pe_ix ix_str (pv 2) (pe_op op_mod (pe_op op_add (pe_op op_fdiv (pv 0) pe_int) (pv 1)) pe_int) (fun _ _ => rfl)) (pg_sub (pv 3) (pv 5) set_list))
        (pss_one (ps_ret (pe_bm PySem.F.plainAttrs_str PySem.F.slot_str_join PySem.F.type_str_join mt_join pe_str (pa_cons (pe_slice sl_list (pv 3) po_none (po_some (pv 4))) pa_nil))))))), fun H1 D ys s1 hDn hD h1 hl => ?_⟩
      have z0 : 0 ≤ b / 3 % 20 := Int.emod_nonneg _ (by decide)
      have z1 : b / 3 % 20 < 20 := Int.emod_lt_of_pos _ (by decide)
      refine ⟨_, rfl, _, _, rfl, rfl, ⟨by decide, by decide⟩, _, _, rfl, rfl, (by show (0 : Int) < 20; decide), _, _, rfl, rfl, ?_⟩
      have y0 : 0 ≤ b / 61 % (1 + b / 3 % 20) := Int.emod_nonneg _ (by omega)
      have y1 : b / 61 % (1 + b / 3 % 20) < (1 + b / 3 % 20) := Int.emod_lt_of_pos _ (by omega)
      refine ⟨_, rfl, _, _, rfl, rfl, ⟨by decide, by decide⟩, _, rfl, _, _, rfl, rfl, (by show (0 : Int) < (1 + b / 3 % 20); omega), ?_⟩
      obtain ⟨c, hc, hcm⟩ := mod36 (b / 2311 + t)
      have hix : ixN (ys.map V.str).length (b / 61 % (1 + b / 3 % 20)) = some (b / 61 % (1 + b / 3 % 20)).toNat := by
        unfold ixN
        rw [if_pos y0, if_pos (by rw [List.length_map, hl]; omega)]
      refine ⟨_, rfl, _, rfl, _, _, rfl, rfl, ⟨by decide, by decide⟩, _, rfl, _, _, rfl, rfl, _, _, rfl, rfl, (by show (0 : Int) < 36; decide), aZ, _, c, rfl, rfl, aZ_small, hc, _, rfl, _, rfl, D, _, _, _, rfl, rfl, hD, hix, ?_⟩
      have hset : (ys.map V.str).set (b / 61 % (1 + b / 3 % 20)).toNat (V.str ⟨#[c]⟩) = (ys.set (b / 61 % (1 + b / 3 % 20)).toNat ⟨#[c]⟩).map V.str := by rw [List.map_set]
      rw [hset]
      generalize hzs : ys.set (b / 61 % (1 + b / 3 % 20)).toNat ⟨#[c]⟩ = zs
      have hzl : zs.length = 20 := by rw [← hzs, List.length_set]; exact hl
      have hz1 : ∀ y ∈ zs, Sign1 aZ y := fun y hy => by
        rw [← hzs] at hy
        rcases List.mem_or_eq_of_mem_set hy with z | z
        · exact h1 y z
        · exact ⟨c, hcm, z⟩
      refine ⟨rfl, _, rfl, _, rfl, _, rfl, D, _, rfl, SqL.of upd_same, fun p hp => ?_⟩
      have hcut := cut_front V.str zs (1 + b / 3 % 20) (by omega)
      refine ⟨"", p, zs.take (1 + b / 3 % 20).toNat, rfl, rfl, SqL.of (by rw [← hcut]; exact upd_same), join_sum (fun y hy => (hz1 y (List.mem_of_mem_take hy)).len) (by rw [List.length_take]; omega), ?_⟩
      refine fin zs (1 + b / 3 % 20).toNat _ hz1 hzl (by omega) (by omega) ?_
      intro bb o e
      have nb : bb ≠ D := ne_of_none e hDn
      have e1 : (upd H1 D (.lst (zs.map V.str))) bb = some o := by rw [upd_ne nb]; exact s1 _ _ e
      rw [upd_ne (ne_of_none e1 hp)]
      exact e1
    obtain ⟨t3, h3, sp3⟩ : ∃ tt, PSs (cxOf CX0 P w K mg base n_l_word "_law_word" (defScope sl_word) a.f_l_word cdv A outer s H E).nox ((defBody sl_word).drop 3) tt ∧
        ∀ (H1 : Hp) (D : Addr) (ys : List Str), Same H H1 → H D = none → H1 D = some (.lst (ys.map V.str)) → (∀ y ∈ ys, Sign1 aZ y) → ys.length = 20 →
          tt { nx := fun _ H' => Q .non H', rt := Q } [some (.int b), some (.int t), some (.str aZ), some (.ref D), none, none] H1 := by
      refine ⟨_, (pss_cons (ps_if (pw_or (pt_cmpR op_lt (pe_op op_mod (pv 0) pe_int) pe_int (nomark _)) (pw_or1 (pt_cmpR op_gt (pv 1) pe_int (nomark _)))).pt (pss_one (ps_ret (pe_op op_add_str (pe_op op_add_str (pe_bm PySem.F.plainAttrs_str PySem.F.slot_str_join PySem.F.type_str_join mt_join pe_str (pa_cons (pe_slice sl_list (pv 3) po_none (po_some (pe_op op_add pe_int (pe_op op_mod (pe_op op_fdiv (pv 0) pe_int) pe_int)))) pa_nil)) pe_str) (pe_callTy call_str_int rfl T.b_str PyProof.Rows.boot_str (pa_cons (pv 1) pa_nil))))) pss_nil)
        h4), fun H1 D ys s1 hDn hD h1 hl => ?_⟩
      have z0 : 0 ≤ b / 3 % 16 := Int.emod_nonneg _ (by decide)
      have z1 : b / 3 % 16 < 16 := Int.emod_lt_of_pos _ (by decide)
      have nxt := sp4 H1 D ys s1 hDn hD h1 hl
      obtain ⟨tn, rfl⟩ : ∃ tn : Nat, t = (tn : Int) := ⟨t.toNat, by omega⟩
      have htn : tn < 100 := by omega
      have num := num_small tn htn
      have hlog : ((tn : Int)).natAbs.log2 < 1920 := by
        have : ((tn : Int)).natAbs = tn := by omega
        rw [this]
        exact Nat.lt_of_le_of_lt (Nat.log2_le_self tn) (by omega)
      have hsm : ∀ n : Nat, n ≤ 1000 → n ≤ sizeLine := fun n h => Nat.le_of_lt (small1000 h)
      have done : ∀ (p : Addr) (hp : H1 p = none), Q (.str (Txt.join "" (ys.take (1 + b / 3 % 16).toNat) ++ "x" ++ Str.ofString (toString (tn : Int)))) (upd H1 p (.lst (cutV (ys.map V.str) none (some (1 + b / 3 % 16))))) := fun p hp => by
        have q := join_signs (z := aZ) (ys := ys.take (1 + b / 3 % 16).toNat) fun y hy => h1 y (List.mem_of_mem_take hy)
        have e : (ys.take (1 + b / 3 % 16).toNat).length = (1 + b / 3 % 16).toNat := by rw [List.length_take]; omega
        have ex : ("x" : Str).length = 1 := by decide +kernel
        have ex2 : ∀ c ∈ ("x" : Str).cps.toList, c ∈ aZ.cps.toList := by decide +kernel
        refine k _ _ ⟨?_, ?_, fun c hc => ?_⟩ (s1.upd_of (s1.free hp))
        · rw [cat_len, cat_len, ex]; omega
        · rw [cat_len, cat_len, ex, q.1, e]; omega
        · have e2 : (Txt.join "" (ys.take (1 + b / 3 % 16).toNat) ++ "x" ++ Str.ofString (toString (tn : Int))).cps.toList = (Txt.join "" (ys.take (1 + b / 3 % 16).toNat)).cps.toList ++ ("x" : Str).cps.toList ++ (Str.ofString (toString (tn : Int))).cps.toList := by
            rw [cat_list, cat_list]
          rw [e2] at hc
          rcases List.mem_append.mp hc with hc | hc
          · rcases List.mem_append.mp hc with hc | hc
            · exact q.2 c hc
            · exact ex2 c hc
          · exact of_decide_eq_true (List.all_eq_true.mp num.2.2 c hc)
      have ret : ∀ (Q2 : VK), (∀ (p : Addr), H1 p = none → Q2 (.str (Txt.join "" (ys.take (1 + b / 3 % 16).toNat) ++ "x" ++ Str.ofString (toString (tn : Int)))) (upd H1 p (.lst (cutV (ys.map V.str) none (some (1 + b / 3 % 16)))))) →
          ∀ (p : Addr), H1 p = none → rJoin K (.str "") [.ref p] (upd H1 p (.lst (cutV (ys.map V.str) none (some (1 + b / 3 % 16))))) fun x H2 => ∃ i j, x = .str i ∧ V.str "x" = .str j ∧ i.length + j.length ≤ sizeLine ∧ ∃ i' j', V.str (i ++ j) = .str i' ∧ V.str (Str.ofString (toString (tn : Int))) = .str j' ∧ i'.length + j'.length ≤ sizeLine ∧ Q2 (.str (i' ++ j')) H2 := fun Q2 q2 p hp => by
        have q := join_signs (z := aZ) (ys := ys.take (1 + b / 3 % 16).toNat) fun y hy => h1 y (List.mem_of_mem_take hy)
        have e : (ys.take (1 + b / 3 % 16).toNat).length = (1 + b / 3 % 16).toNat := by rw [List.length_take]; omega
        have ex : ("x" : Str).length = 1 := by decide +kernel
        refine ⟨"", p, ys.take (1 + b / 3 % 16).toNat, rfl, rfl, SqL.of (by rw [← cut_front V.str ys (1 + b / 3 % 16) (by omega)]; exact upd_same), join_sum (fun y hy => (h1 y (List.mem_of_mem_take hy)).len) (by rw [List.length_take]; omega), ?_⟩
        exact ⟨_, _, rfl, rfl, hsm _ (by rw [q.1, e, ex]; omega), _, _, rfl, rfl, hsm _ (by rw [cat_len, q.1, e, ex]; omega), q2 p hp⟩
      refine ⟨_, rfl, _, _, rfl, rfl, (by show (0 : Int) < 3; decide), _, _, rfl, rfl, _, rfl, ?_⟩
      refine ite2 (fun _ => ?_) (fun _ => ?_)
      · refine iteT ?_
        refine ⟨rfl, _, rfl, _, rfl, _, _, rfl, rfl, ⟨by decide, by decide⟩, _, _, rfl, rfl, (by show (0 : Int) < 16; decide), _, _, rfl, rfl, _, rfl, D, _, rfl, SqL.of hD, fun p hp => ?_⟩
        obtain ⟨sep, p', zs, e1, e2, hS, hz, i, j, e3, e4, hij, i', j', e5, e6, hij', qq⟩ := ret Q done p hp
        exact ⟨sep, p', zs, e1, e2, hS, hz, i, j, e3, e4, hij, _, rfl, _, rfl, hlog, i', j', e5, e6, hij', qq⟩
      · refine ⟨_, rfl, _, _, rfl, rfl, _, rfl, ?_⟩
        refine ite2 (fun _ => ?_) (fun _ => nxt)
        refine ⟨rfl, _, rfl, _, rfl, _, _, rfl, rfl, ⟨by decide, by decide⟩, _, _, rfl, rfl, (by show (0 : Int) < 16; decide), _, _, rfl, rfl, _, rfl, D, _, rfl, SqL.of hD, fun p hp => ?_⟩
        obtain ⟨sep, p', zs, e1, e2, hS, hz, i, j, e3, e4, hij, i', j', e5, e6, hij', qq⟩ := ret Q done p hp
        exact ⟨sep, p', zs, e1, e2, hS, hz, i, j, e3, e4, hij, _, rfl, _, rfl, hlog, i', j', e5, e6, hij', qq⟩
    refine ⟨_, (pss_cons (ps_set (i := 2) sc_l_word.nd rfl (Or.inr rfl) pe_str)
        (pss_cons (ps_setComp (sc := defScope sl_word) (N := n_l_word) (i := 3) (fr := [(2, "_law_some"), (0, "_law_base")]) ⟨rfl, rfl, by decide +kernel, by decide +kernel, by decide +kernel, by decide +kernel, by decide +kernel⟩ rfl rfl rfl sc_l_word.nd rfl rfl (pi_range1 rfl T.b_range (pa_cons pe_int pa_nil)) (fun _ _ _ _ => pts_nil) (fun _ _ _ _ => (pe_ix ix_str (pv 1) (pe_op op_mod (pe_op op_add (pe_op op_add (pe_op op_fdiv (pv 2) pe_int) (pe_op op_mul pe_int (pv 0))) (pe_op op_mul (pe_op op_fdiv (pv 2) pe_int) (pv 0))) pe_int) (fun _ _ => rfl))))
        (pss_cons (ps_if (pw_and (pt_cmpR op_eq (pe_op op_mod (pv 0) pe_int) pe_int (nomark _)) (pw_and1 (pt_cmpR op_lt (pv 1) pe_int (nomark _)))).pt (pss_one (ps_ret (pe_bm PySem.F.plainAttrs_str PySem.F.slot_str_join PySem.F.type_str_join mt_join pe_str (pa_cons (pe_slice sl_list (pv 3) po_none (po_some (pe_op op_add pe_int (pv 1)))) pa_nil)))) pss_nil)
        h3))), ?_⟩
    refine ⟨20, rfl, by decide, by decide, comp_range (n := (20 : Int).toNat) (fun i => V.str ⟨#[(atI aZ.cps.toList ((b / 64 + 7 * (0 + (i : Int)) + b / 99991 * (0 + (i : Int))) % 36)).getD 0]⟩) (by decide) ?_ ?_⟩
    · intro i H3 Q' hi s3 q3
      have hi' : i < 20 := hi
      obtain ⟨c, hc, _⟩ := mod36 (b / 64 + 7 * (0 + (i : Int)) + b / 99991 * (0 + (i : Int)))
      rw [hc] at q3
      exact ⟨_, rfl, _, rfl, _, _, rfl, rfl, ⟨by decide, by decide⟩, _, rfl, _, _, rfl, rfl, .inl ⟨by decide, by decide⟩, _, _, rfl, rfl, _, rfl, _, _, rfl, rfl, ⟨by decide, by decide⟩, _, rfl, _, _, rfl, rfl, .inl ⟨by omega, by omega⟩, _, _, rfl, rfl, _, _, rfl, rfl, (by show (0 : Int) < 36; decide),
        aZ, _, c, rfl, rfl, aZ_small, hc, q3⟩
    · intro D hDn
      generalize hys : (List.range (20 : Int).toNat).map (fun i : Nat => (⟨#[(atI aZ.cps.toList ((b / 64 + 7 * (0 + (i : Int)) + b / 99991 * (0 + (i : Int))) % 36)).getD 0]⟩ : Str)) = ys
      have hm : ((List.range (20 : Int).toNat).map fun (i : Nat) => V.str ⟨#[(atI aZ.cps.toList ((b / 64 + 7 * (0 + (i : Int)) + b / 99991 * (0 + (i : Int))) % 36)).getD 0]⟩) = ys.map V.str := by rw [← hys, List.map_map]; rfl
      have hyl : ys.length = 20 := by rw [← hys, List.length_map, List.length_range]; rfl
      have h1 : ∀ y ∈ ys, Sign1 aZ y := fun y hy => by
        rw [← hys] at hy
        obtain ⟨i, _, rfl⟩ := List.mem_map.mp hy
        obtain ⟨c, hc, hcm⟩ := mod36 (b / 64 + 7 * (0 + (i : Int)) + b / 99991 * (0 + (i : Int)))
        exact ⟨c, hcm, by rw [hc]; rfl⟩
      rw [hm]
      generalize hH : upd H D (.lst (ys.map V.str)) = H1
      have hD : H1 D = some (.lst (ys.map V.str)) := by rw [← hH]; exact upd_same
      have s1 : Same H H1 := by rw [← hH]; exact Same.upd_new hDn
      refine ⟨_, rfl, _, _, rfl, rfl, (by show (0 : Int) < 3; decide), rfl, _, rfl, ?_⟩
      refine ite2 (fun _ => ?_) (fun _ => iteF (sp3 H1 D ys s1 hDn hD h1 hyl))
      refine ⟨_, rfl, _, _, rfl, rfl, _, rfl, ?_⟩
      refine ite2 (fun hlt => ?_) (fun _ => sp3 H1 D ys s1 hDn hD h1 hyl)
      have hlt' : t < 20 := of_decide_eq_true hlt
      refine ⟨rfl, _, rfl, _, rfl, _, _, rfl, rfl, _, rfl, D, _, rfl, SqL.of hD, fun p hp => ?_⟩
      refine ⟨"", p, ys.take (1 + t).toNat, rfl, rfl, SqL.of (by rw [← cut_front V.str ys (1 + t) (by omega)]; exact upd_same), join_sum (fun y hy => (h1 y (List.mem_of_mem_take hy)).len) (by rw [List.length_take]; omega), ?_⟩
      exact fin ys (1 + t).toNat _ h1 hyl (by omega) (by omega) (s1.upd_of (s1.free hp))
theorem asc_of {x : Str} (h : (x.cps.toList.all fun c => decide (c < 128)) = true) : Asc x := fun c hc => of_decide_eq_true (List.all_eq_true.mp h c hc)
theorem slice_asc {x : Str} (h : Asc x) (l u : Option Int) : Asc (PySem.Txt.slice x l u) := fun c hc => h c (slice_mem hc)
inductive spSigns_I (vs : List V) (H : Hp) (Q : VK) : Prop
  | mk : ∀ (b : Int) (n : Nat), vs = [.int b, .int n] → 0 ≤ b → b < 2147483647 → n ≤ 400 → (∀ x : Str, Prt x → x.length = n → Q (.str x) H) → spSigns_I vs H Q
def spSigns : Sp := fun vs H Q _ => spSigns_I vs H Q
abbrev mixS : Str := "abcdeABCD012"
abbrev allS : Str := (" !\"#$&'()*+,-./0123456789:;<=>?@ABCDEFGHIJKLMNOPQRSTUVWXYZ[\\]^_`" : Str) ++ ("abcdefghijklmnopqrstuvwxyz{|}~" : Str)
theorem mix_len : mixS.cps.toList.length = 12 := by decide +kernel
theorem mix_prt : Prt mixS := prt_of (by decide +kernel)
theorem mix_small : mixS.length ≤ sizeLine := by decide +kernel
theorem all_len : allS.cps.toList.length = 94 := by decide +kernel
theorem all_prt : Prt allS := prt_of (by decide +kernel)
theorem all_small : allS.length ≤ sizeLine := by decide +kernel
theorem all_small0 : (" !\"#$&'()*+,-./0123456789:;<=>?@ABCDEFGHIJKLMNOPQRSTUVWXYZ[\\]^_`" : Str).length + ("abcdefghijklmnopqrstuvwxyz{|}~" : Str).length ≤ sizeLine := by decide +kernel
theorem blank_prt : Prt " " := prt_of (by decide +kernel)
theorem blank_len : (" " : Str).length = 1 := by decide +kernel
theorem empty_prt : Prt "" := prt_of (by decide +kernel)
section
variable {P : Program} {w : World} {K : PySem.W.Frag} {mg : Str → Option Value} {base : Heap} {a : Adr}
theorem ok_signs {fd : FuncData} (F : Fun K "_law_signs" "_law_signs" sl_signs a.f_l_signs fd) (T : Txt K mg a) : FnOk P w K mg base CX0 1 a.f_l_signs fd ["_law_number", "_law_many"] spSigns := by
  refine F.ok sc_l_signs (fun vs H Q E h => ?_) (fun cdv A outer s H vs Q E hr h => ?_)
  · obtain ⟨b, n, rfl, _⟩ := h; rfl
  · obtain ⟨b, n, rfl, hb0, hb1, hn, k⟩ := h
    refine ⟨_, (pss_cons (ps_set (i := 2) sc_l_signs.nd rfl (Or.inl rfl) pe_str)
        (pss_cons (ps_set (i := 2) sc_l_signs.nd rfl (Or.inl rfl) (pe_op op_add_str (pv 2) pe_str))
        (pss_cons (ps_set (i := 3) sc_l_signs.nd rfl (Or.inl rfl) pe_str)
        (pss_cons (ps_for PassesOwn.never rfl (pi_range1 rfl T.b_range (pac (pv 1) pa_nil)) (pg_name (i := 4) sc_l_signs.nd rfl (Or.inl rfl)) (pss_cons (ps_set (i := 0) sc_l_signs.nd rfl (Or.inl rfl) (pe_op op_mod (pe_op op_add (pe_op op_mul (pv 0) pe_int) pe_int) pe_int))
        (pss_one (ps_if (pt_cmpR op_eq (pe_op op_mod (pe_op op_fdiv (pv 0) pe_int) pe_int) pe_int (nomark _)) (pss_one (ps_aug (i := 3) sc_l_signs.nd rfl (Or.inl rfl) pe_str iop_add_str)) (pss_one (ps_if (pt_cmpR op_eq (pe_op op_mod (pe_op op_fdiv (pv 0) pe_int) pe_int) pe_int (nomark _)) (pss_one (ps_aug (i := 3) sc_l_signs.nd rfl (Or.inl rfl) (pe_ix ix_str pe_str (pe_op op_mod (pe_op op_fdiv (pv 0) pe_int) pe_int) (fun _ _ => rfl)) iop_add_str)) (pss_one (ps_aug (i := 3) sc_l_signs.nd rfl (Or.inl rfl) (pe_ix ix_str (pv 2) (pe_op op_mod (pe_op op_fdiv (pv 0) pe_int) pe_int) (fun _ _ => rfl)) iop_add_str))))))))
        (pss_one (ps_ret (pv 3))))))), ?_⟩
    refine ⟨_, rfl, _, _, rfl, rfl, all_small0, ?_⟩
    refine ⟨_, rfl, (n : Int), rfl, by omega, by omega, for_range (n := (n : Int).toNat) (fun i σ H2 => ∃ (z : Int) (y : Str) (o : Option V), σ = [some (.int z), some (.int n), some (.str allS), some (.str y), o] ∧ 0 ≤ z ∧ z < 2147483647 ∧ Prt y ∧ y.length = i ∧ H2 = H)
      ⟨b, "", none, rfl, hb0, hb1, empty_prt, empty_len, rfl⟩ ?_ ?_⟩
    · rintro i σ H2 hi ⟨z, y, o, rfl, h0, h1, hA, hl, rfl⟩
      have hin : i < n := by omega
      refine ⟨_, rfl, _, _, rfl, rfl, .inl ⟨by omega, by omega⟩, _, _, rfl, rfl, _, _, rfl, rfl, (by show (0 : Int) < 2147483647; decide), ?_⟩
      have b0 : 0 ≤ (z * 48271 + 11) % 2147483647 := by exact Int.emod_nonneg _ (by decide)
      have b1 : (z * 48271 + 11) % 2147483647 < 2147483647 := by exact Int.emod_lt_of_pos _ (by decide)
      have step : ∀ t : Str, Prt t → t.length = 1 → ∃ (z2 : Int) (y1 : Str) (o : Option V), ([some (.int ((z * 48271 + 11) % 2147483647)), some (.int n), some (.str allS), some (.str (y ++ t)), some (.int (0 + (i : Int)))] : St) = [some (.int z2), some (.int n), some (.str allS), some (.str y1), o] ∧ 0 ≤ z2 ∧ z2 < 2147483647 ∧ Prt y1 ∧ y1.length = i + 1 ∧ H2 = H2 := fun t ht hl1 =>
        ⟨((z * 48271 + 11) % 2147483647), y ++ t, _, rfl, b0, b1, hA.app ht, by rw [cat_len, hl, hl1], rfl⟩
      have fit : ∀ t : Str, t.length = 1 → y.length + t.length ≤ sizeLine := fun t ht => Nat.le_of_lt (small1000 (by omega))
      refine ⟨_, rfl, _, _, rfl, rfl, ⟨by decide, by decide⟩, _, _, rfl, rfl, (by show (0 : Int) < 3; decide), rfl, _, rfl, ?_⟩
      refine ite2 (fun _ => ?_) (fun _ => ?_)
      · exact ⟨_, rfl, _, _, rfl, rfl, fit _ blank_len, step _ blank_prt blank_len⟩
      · refine ⟨_, rfl, _, _, rfl, rfl, ⟨by decide, by decide⟩, _, _, rfl, rfl, (by show (0 : Int) < 3; decide), rfl, _, rfl, ?_⟩
        refine ite2 (fun _ => ?_) (fun _ => ?_)
        · obtain ⟨c, hc, hcm⟩ := pick_sign (z := mixS) (i := ((z * 48271 + 11) % 2147483647) / 64 % 12) (Int.emod_nonneg _ (by decide)) (by rw [mix_len]; exact Int.emod_lt_of_pos _ (by decide))
          exact ⟨_, rfl, _, rfl, _, _, rfl, rfl, ⟨by decide, by decide⟩, _, _, rfl, rfl, (by show (0 : Int) < 12; decide), mixS, _, c, rfl, rfl, mix_small, hc, _, _, rfl, rfl, fit _ (one_len c), step _ (mix_prt.one hcm) (one_len c)⟩
        · obtain ⟨c, hc, hcm⟩ := pick_sign (z := allS) (i := ((z * 48271 + 11) % 2147483647) / 64 % 94) (Int.emod_nonneg _ (by decide)) (by rw [all_len]; exact Int.emod_lt_of_pos _ (by decide))
          exact ⟨_, rfl, _, rfl, _, rfl, _, _, rfl, rfl, ⟨by decide, by decide⟩, _, _, rfl, rfl, (by show (0 : Int) < 94; decide), allS, _, c, rfl, rfl, all_small, hc, _, _, rfl, rfl, fit _ (one_len c), step _ (all_prt.one hcm) (one_len c)⟩
    · rintro σ H2 ⟨z, y, o, rfl, h0, h1, hA, hl, rfl⟩
      exact ⟨_, rfl, k y hA (by omega)⟩
end
/-- a word -/
def isW (x : Str) : Bool := decide (1 ≤ (x.length : Int)) && (decide ((x.length : Int) ≤ 20) && x.cps.toList.all fun c => decide (c ∈ aZ.cps.toList))
theorem kitSS {K : PySem.W.Frag} : PySem.W.kitOne K (.type "str") (.type "str") = some true := by unfold PySem.W.kitOne; rw [if_pos (beq_self_eq_true _)]
theorem kitN {K : PySem.W.Frag} : PySem.W.kitOne K (.type "NoneType") (.type "str") = some false := by kernel_rfl
theorem kitI {K : PySem.W.Frag} : PySem.W.kitOne K (.type "int") (.type "str") = some false := by kernel_rfl
theorem kitB {K : PySem.W.Frag} : PySem.W.kitOne K (.type "bool") (.type "str") = some false := by kernel_rfl
theorem kitT {K : PySem.W.Frag} : PySem.W.kitOne K (.type "tuple") (.type "str") = some false := by kernel_rfl
theorem kitL {K : PySem.W.Frag} : PySem.W.kitOne K (.type "list") (.type "str") = some false := by kernel_rfl
theorem kitD {K : PySem.W.Frag} : PySem.W.kitOne K (.type "dict") (.type "str") = some false := by kernel_rfl
inductive spAmong_I (vs : List V) (H : Hp) (Q : VK) : Prop
  | mk : ∀ x y : Str, vs = [.str x, .str y] → x.length ≤ 1000 → (∀ H', Same H H' → Q (.bl (x.cps.toList.all fun c => decide (c ∈ y.cps.toList))) H') → spAmong_I vs H Q
def spAmong : Sp := fun vs H Q _ => spAmong_I vs H Q
def spIsWord (K : PySem.W.Frag) : Sp := fun vs H Q _ => (∃ x : Str, vs = [.str x] ∧ x.length ≤ 1000 ∧ ∀ H', Same H H' → Q (.bl (isW x)) H') ∨
  ∃ v t, vs = [v] ∧ TyOf K H v t ∧ PySem.W.kitOne K t (.type "str") = some false ∧ Q (.bl false) H
section
variable {P : Program} {w : World} {K : PySem.W.Frag} {mg : Str → Option Value} {base : Heap} {a : Adr}
theorem ok_among {fd : FuncData} (F : Fun K "all_among" "all_among" sall_among a.f_all_among fd) (T : Txt K mg a) : FnOk P w K mg base CX0 1 a.f_all_among fd ["text", "signs"] spAmong := by
  refine F.ok sc_all_among (fun vs H Q E h => ?_) (fun cdv A outer s H vs Q E hr h => ?_)
  · obtain ⟨x, y, rfl, _⟩ := h; rfl
  · obtain ⟨x, y, rfl, hx, k⟩ := h
    refine ⟨_, pss_one (ps_ret (pe_callB (call_all rfl) rfl T.b_all PyProof.Rows.boot_all (pac (pe_comp (sc := defScope sall_among) (N := n_all_among) (fr := [(1, "signs")]) ⟨rfl, rfl, by decide +kernel, by decide +kernel, by decide +kernel, by decide +kernel, by decide +kernel⟩ rfl rfl rfl (pi_str (pv 0))
      (fun _ _ _ _ => pts_nil) (fun _ _ _ _ => pe_cmpR op_in_str (pv 0) (pv 1) (by with_unfolding_all rfl))) pa_nil))), ?_⟩
    refine ⟨_, rfl, x, rfl, comp_str (fun c => .bl (decide (c ∈ y.cps.toList))) (Nat.le_of_lt (small1000 hx)) ?_ ?_⟩
    · intro c H3 Q' hc q
      refine ⟨_, rfl, _, rfl, _, _, rfl, rfl, ?_⟩
      rw [StrLaws.found_one]
      exact q
    · intro D hD
      refine ⟨D, x.cps.toList.map fun c => decide (c ∈ y.cps.toList), rfl, SqL.of (by rw [List.map_map]; exact upd_same), ?_⟩
      rw [List.all_map]
      exact k _ (Same.upd_new hD)
theorem ok_isword {fd : FuncData} (F : Fun K "is_word" "is_word" sis_word a.f_is_word fd) (T : Txt K mg a) (FF : Funs K a) : FnOk P w K mg base CX0 2 a.f_is_word fd ["thing"] (spIsWord K) := by
  obtain ⟨fdA, FA, bA⟩ := FF.F_all_among
  have GA : FnOk P w K mg base CX0 1 a.f_all_among fdA ["text", "signs"] spAmong := ok_among FA T
  refine F.ok sc_is_word (fun vs H Q E h => ?_) (fun cdv A outer s H vs Q E hr h => ?_)
  · rcases h with ⟨x, rfl, _⟩ | ⟨v, t, rfl, _⟩ <;> rfl
  · refine ⟨_, pss_one (ps_ret (pe_and (pe_callB call_isinst rfl T.b_isinstance PyProof.Rows.boot_isinstance (pac (pv 0) (pac (pe_bltn (v := .ty "str") rfl T.b_str PyProof.Rows.boot_str rfl) pa_nil)))
      (pe_and (pe_chain op_le op_le pe_int (pe_callB call_len_str rfl T.b_len PySem.boot_len (pac (pv 0) pa_nil)) (pe_gl rfl T.g_MOST_WORD))
      (pe_one (pe_call GA hr rfl T.m_all_among FA.kp bA .nil pass0 (pac (pv 0) (pac (pe_gl rfl T.g_WORD_SIGNS) pa_nil))))))), ?_⟩
    rcases h with ⟨x, rfl, hx, k⟩ | ⟨v, t, rfl, ty, hk, k⟩
    · refine ⟨_, rfl, _, _, _, _, _, rfl, rfl, TyOf.str x, kitSS, _, rfl, iteT ?_⟩
      refine ⟨_, rfl, x, rfl, Nat.le_of_lt (small1000 hx), _, _, rfl, rfl, _, rfl, ?_⟩
      have hdef : isW x = (decide (1 ≤ (x.length : Int)) && (decide ((x.length : Int) ≤ 20) && x.cps.toList.all fun c => decide (c ∈ aZ.cps.toList))) := rfl
      by_cases h1 : (1 : Int) ≤ (x.length : Int)
      · rw [decide_eq_true h1]
        rw [decide_eq_true h1, Bool.true_and] at hdef
        refine iteT ⟨_, _, rfl, rfl, _, rfl, ?_⟩
        by_cases h2 : (x.length : Int) ≤ 20
        · rw [decide_eq_true h2]
          rw [decide_eq_true h2, Bool.true_and] at hdef
          refine iteT ⟨_, rfl, x, aZ, rfl, hx, fun H' s' => ?_⟩
          rw [← hdef]
          exact k H' s'
        · rw [decide_eq_false h2]
          rw [decide_eq_false h2, Bool.false_and] at hdef
          refine iteF ?_
          rw [← hdef]
          exact k H (Same.refl H)
      · rw [decide_eq_false h1]
        rw [decide_eq_false h1, Bool.false_and] at hdef
        refine iteF ⟨_, rfl, iteF ?_⟩
        rw [← hdef]
        exact k H (Same.refl H)
    · exact ⟨_, rfl, _, _, _, _, _, rfl, rfl, ty, hk, _, rfl, iteF k⟩
end
inductive spLaw_I (K : PySem.W.Frag) (vs : List V) (H : Hp) (Q : VK) : Prop
  | mk : ∀ (a : Addr) (ns : List Int), vs = [.ref a] → SqL K H a (ns.map V.int) → ns.length ≤ 63 → (∀ H', Q (.bl true) H') → spLaw_I K vs H Q
def spLaw (K : PySem.W.Frag) : Sp := fun vs H Q _ => spLaw_I K vs H Q
inductive Dt where
  | non
  | bl (b : Bool)
  | int (i : Int)
  | str (s : Str)
  | lst
  | dct
  | tup (xs : List Dt)
mutual
inductive DR (H : Hp) : V → Dt → Prop
  | non : DR H .non .non
  | bl (b : Bool) : DR H (.bl b) (.bl b)
  | int (i : Int) : DR H (.int i) (.int i)
  | str {s : Str} (h1 : s.length ≤ 1000) (h2 : Asc s) : DR H (.str s) (.str s)
  | lst {p : Addr} {xs : List V} (e : H p = some (.lst xs)) : DR H (.ref p) .lst
  | dct {p : Addr} {kvs : List (Key × V)} (e : H p = some (.dK kvs)) : DR H (.ref p) .dct
  | tup {p : Addr} {xs : List V} {ds : List Dt} (e : H p = some (.tup xs)) (r : DRs H xs ds) : DR H (.ref p) (.tup ds)
inductive DRs (H : Hp) : List V → List Dt → Prop
  | nil : DRs H [] []
  | cons {x : V} {d : Dt} {xs : List V} {ds : List Dt} (r : DR H x d) (rs : DRs H xs ds) : DRs H (x :: xs) (d :: ds)
end
mutual
theorem DR.mono {H H' : Hp} (s : Same H H') : ∀ {x : V} {d : Dt}, DR H x d → DR H' x d
  | _, _, .non => .non
  | _, _, .bl b => .bl b
  | _, _, .int i => .int i
  | _, _, .str h1 h2 => .str h1 h2
  | _, _, .lst e => .lst (s _ _ e)
  | _, _, .dct e => .dct (s _ _ e)
  | _, _, .tup e r => .tup (s _ _ e) (DRs.mono s r)
theorem DRs.mono {H H' : Hp} (s : Same H H') : ∀ {xs : List V} {ds : List Dt}, DRs H xs ds → DRs H' xs ds
  | _, _, .nil => .nil
  | _, _, .cons r rs => .cons (DR.mono s r) (DRs.mono s rs)
end
theorem DRs.len {H : Hp} : ∀ {xs : List V} {ds : List Dt}, DRs H xs ds → xs.length = ds.length
  | _, _, .nil => rfl
  | _, _, .cons _ rs => congrArg (· + 1) (DRs.len rs)
theorem DRs.at {H : Hp} : ∀ {xs : List V} {ds : List Dt} (i : Nat) {d : Dt}, DRs H xs ds → ds[i]? = some d → ∃ x, xs[i]? = some x ∧ DR H x d
  | _, _, i, _, .nil, h => by cases i <;> cases h
  | _, _, 0, _, .cons r _, h => by cases h; exact ⟨_, rfl, r⟩
  | _, _, i + 1, _, .cons _ rs, h => DRs.at i rs h
theorem DRs.app {H : Hp} : ∀ {xs ys : List V} {ds es : List Dt}, DRs H xs ds → DRs H ys es → DRs H (xs ++ ys) (ds ++ es)
  | _, _, _, _, .nil, r => r
  | _, _, _, _, .cons q qs, r => .cons q (DRs.app qs r)
theorem DRs.take {H : Hp} : ∀ (n : Nat) {xs : List V} {ds : List Dt}, DRs H xs ds → DRs H (xs.take n) (ds.take n)
  | 0, _, _, _ => by simpa using DRs.nil
  | _ + 1, _, _, .nil => .nil
  | n + 1, _, _, .cons r rs => .cons r (DRs.take n rs)
theorem DRs.drop {H : Hp} : ∀ (n : Nat) {xs : List V} {ds : List Dt}, DRs H xs ds → DRs H (xs.drop n) (ds.drop n)
  | 0, _, _, r => r
  | _ + 1, _, _, .nil => .nil
  | n + 1, _, _, .cons _ rs => DRs.drop n rs
def tyD : Dt → Value
  | .non => .type "NoneType"
  | .bl _ => .type "bool"
  | .int _ => .type "int"
  | .str _ => .type "str"
  | .lst => .type "list"
  | .dct => .type "dict"
  | .tup _ => .type "tuple"
theorem DR.ty {K : PySem.W.Frag} {H : Hp} {v : V} {d : Dt} (r : DR H v d) : TyOf K H v (tyD d) := by
  cases r with
  | non => exact .non
  | bl b => exact .bl b
  | int i => exact .int i
  | str h1 h2 => exact .str _
  | lst e => exact .lst e
  | dct e => exact .dK e
  | tup e _ => exact .tup e
def isS : Dt → Bool | .str _ => true | _ => false
def isI : Dt → Bool | .int _ => true | .bl _ => true | _ => false
def isB : Dt → Bool | .bl _ => true | _ => false
theorem kit_S {K : PySem.W.Frag} (d : Dt) : PySem.W.kitOne K (tyD d) (.type "str") = some (isS d) := by cases d <;> kernel_rfl
theorem kit_I {K : PySem.W.Frag} (d : Dt) : PySem.W.kitOne K (tyD d) (.type "int") = some (isI d) := by cases d <;> kernel_rfl
theorem kit_B {K : PySem.W.Frag} (d : Dt) : PySem.W.kitOne K (tyD d) (.type "bool") = some (isB d) := by cases d <;> kernel_rfl
def wordD : Dt → Bool | .str x => isW x | _ => false
def textD (m : Int) : Dt → Bool | .str x => decide ((x.length : Int) ≤ m) | _ => false
def wholeD : Dt → Bool | .int _ => true | _ => false
def answD : Dt → Bool | .str x => isW x || decide (x = "") | _ => false
def lineD : Dt → Bool | .str x => !decide (10 ∈ x.cps.toList) | _ => false
def dayD : Dt → Bool | .int i => decide (0 ≤ i) && decide (i ≤ 9999) | _ => false
def hS : Str := "abcdefghijklmnopqrstuvwxyz"
def checkD (s t b dy an : Dt) : Bool := wordD s && (textD 60 t && (lineD t && (textD 400 b && (dayD dy && answD an))))
theorem isword_call {K : PySem.W.Frag} {H : Hp} {v : V} {d : Dt} {Q : VK} {E : XK} (r : DR H v d) (k : ∀ H', Same H H' → Q (.bl (wordD d)) H') : spIsWord K [v] H Q E := by
  cases r with
  | str h1 h2 => exact .inl ⟨_, rfl, h1, k⟩
  | non => exact .inr ⟨_, _, rfl, .non, kitN, k H (Same.refl H)⟩
  | bl b => exact .inr ⟨_, _, rfl, .bl b, kitB, k H (Same.refl H)⟩
  | int i => exact .inr ⟨_, _, rfl, .int i, kitI, k H (Same.refl H)⟩
  | lst e => exact .inr ⟨_, _, rfl, .lst e, kitL, k H (Same.refl H)⟩
  | dct e => exact .inr ⟨_, _, rfl, .dK e, kitD, k H (Same.refl H)⟩
  | tup e _ => exact .inr ⟨_, _, rfl, .tup e, kitT, k H (Same.refl H)⟩
inductive spTextD_I (vs : List V) (H : Hp) (Q : VK) : Prop
  | mk : ∀ (v : V) (d : Dt) (m : Int), vs = [v, .int m] → DR H v d → Q (.bl (textD m d)) H → spTextD_I vs H Q
def spTextD : Sp := fun vs H Q _ => spTextD_I vs H Q
inductive spWholeD_I (vs : List V) (H : Hp) (Q : VK) : Prop
  | mk : ∀ (v : V) (d : Dt), vs = [v] → DR H v d → Q (.bl (wholeD d)) H → spWholeD_I vs H Q
def spWholeD : Sp := fun vs H Q _ => spWholeD_I vs H Q
inductive spAnswD_I (vs : List V) (H : Hp) (Q : VK) : Prop
  | mk : ∀ (v : V) (d : Dt), vs = [v] → DR H v d → (∀ H', Same H H' → Q (.bl (answD d)) H') → spAnswD_I vs H Q
def spAnswD : Sp := fun vs H Q _ => spAnswD_I vs H Q
section
variable {P : Program} {w : World} {K : PySem.W.Frag} {mg : Str → Option Value} {base : Heap} {a : Adr}
theorem ok_textD {fd : FuncData} (F : Fun K "is_text" "is_text" sis_text a.f_is_text fd) (T : Txt K mg a) : FnOk P w K mg base CX0 1 a.f_is_text fd ["thing", "most"] spTextD := by
  refine F.ok sc_is_text (fun vs H Q E h => ?_) (fun cdv A outer s H vs Q E hr h => ?_)
  · obtain ⟨v, d, m, rfl, _⟩ := h; rfl
  · obtain ⟨v, d, m, rfl, r, k⟩ := h
    refine ⟨_, (pss_one (ps_ret (pe_and (pe_callB call_isinst rfl T.b_isinstance PyProof.Rows.boot_isinstance (pac (pv 0) (pac (pe_bltn (v := .ty "str") rfl T.b_str PyProof.Rows.boot_str rfl) pa_nil))) (pe_one (pe_cmpR op_le (pe_callB call_len_str rfl T.b_len PySem.boot_len (pac (pv 0) pa_nil)) (pv 1) (nomark _)))))), ?_⟩
    refine ⟨_, rfl, _, _, _, _, _, rfl, rfl, r.ty, kit_S d, _, rfl, ?_⟩
    cases r with
    | str h1 h2 => exact iteT ⟨_, rfl, _, rfl, Nat.le_of_lt (small1000 h1), _, rfl, _, _, rfl, rfl, k⟩
    | _ => exact iteF k
theorem ok_wholeD {fd : FuncData} (F : Fun K "is_whole" "is_whole" sis_whole a.f_is_whole fd) (T : Txt K mg a) : FnOk P w K mg base CX0 1 a.f_is_whole fd ["thing"] spWholeD := by
  refine F.ok sc_is_whole (fun vs H Q E h => ?_) (fun cdv A outer s H vs Q E hr h => ?_)
  · obtain ⟨v, d, rfl, _⟩ := h; rfl
  · obtain ⟨v, d, rfl, r, k⟩ := h
    refine ⟨_, (pss_one (ps_ret (pe_and (pe_callB call_isinst rfl T.b_isinstance PyProof.Rows.boot_isinstance (pac (pv 0) (pac (pe_bltn (v := .ty "int") rfl T.b_int PyProof.Rows.boot_int rfl) pa_nil))) (pe_one (pe_not (pe_callB call_isinst rfl T.b_isinstance PyProof.Rows.boot_isinstance (pac (pv 0) (pac (pe_bltn (v := .ty "bool") rfl T.b_bool PyProof.Rows.boot_bool rfl) pa_nil)))))))), ?_⟩
    refine ⟨_, rfl, _, _, _, _, _, rfl, rfl, r.ty, kit_I d, _, rfl, ?_⟩
    have tb := r.ty (K := K)
    cases r with
    | int i => exact iteT ⟨_, rfl, _, _, _, _, _, rfl, rfl, tb, kit_B (.int i), _, rfl, k⟩
    | bl b => exact iteT ⟨_, rfl, _, _, _, _, _, rfl, rfl, tb, kit_B (.bl b), _, rfl, k⟩
    | _ => exact iteF k
theorem ok_answD {fd : FuncData} (F : Fun K "is_answered" "is_answered" sis_answered a.f_is_answered fd) (T : Txt K mg a) (FF : Funs K a) : FnOk P w K mg base CX0 3 a.f_is_answered fd ["thing"] spAnswD := by
  obtain ⟨fdA, F_is_word, b_is_word⟩ := FF.F_is_word
  have G_is_word : FnOk P w K mg base CX0 2 a.f_is_word fdA ["thing"] (spIsWord K) := ok_isword F_is_word T FF
  refine F.ok sc_is_answered (fun vs H Q E h => ?_) (fun cdv A outer s H vs Q E hr h => ?_)
  · obtain ⟨v, d, rfl, _⟩ := h; rfl
  · obtain ⟨v, d, rfl, r, k⟩ := h
    have hr_is_word : Room 2 _ := hr
    refine ⟨_, (pss_one (ps_ret (pe_or (pe_call G_is_word hr_is_word rfl T.m_is_word F_is_word.kp b_is_word .nil pass0 (pac (pv 0) pa_nil)) (pe_one (pe_and (pe_callB call_isinst rfl T.b_isinstance PyProof.Rows.boot_isinstance (pac (pv 0) (pac (pe_bltn (v := .ty "str") rfl T.b_str PyProof.Rows.boot_str rfl) pa_nil))) (pe_one (pe_cmpR op_eq (pv 0) pe_str (nomark _)))))))), ?_⟩
    refine ⟨_, rfl, isword_call (E := E) r fun H1 s1 => ⟨_, rfl, ?_⟩⟩
    have r1 := r.mono s1
    cases hw : wordD d with
    | true =>
      refine iteT ?_
      have : answD d = true := by
        cases r with
        | @str x h1 h2 => show (isW x || decide (x = "")) = true; rw [show isW x = true from hw]; rfl
        | _ => cases hw
      rw [← this]; exact k H1 s1
    | false =>
      refine iteF ⟨_, rfl, _, _, _, _, _, rfl, rfl, r1.ty, kit_S d, _, rfl, ?_⟩
      cases r with
      | @str x h1 h2 =>
        refine iteT ⟨_, rfl, rfl, ?_⟩
        have e : answD (.str x) = (isW x || decide (x = "")) := rfl
        rw [show isW x = false from hw, Bool.false_or] at e
        have e2 : decide (V.str x = V.str "") = decide (x = "") := by
          by_cases h : x = ""
          · rw [h, decide_eq_true rfl, decide_eq_true rfl]
          · rw [decide_eq_false h, decide_eq_false fun z => h (V.str.inj z)]
        rw [e2, ← e]
        exact k H1 s1
      | _ => exact iteF (k H1 s1)
end
inductive spCheckD_I (a : Adr) (vs : List V) (H : Hp) (Q : VK) (E : XK) : Prop
  | mk : ∀ (v1 v2 v3 v4 v5 : V) (d1 d2 d3 d4 d5 : Dt), vs = [v1, v2, v3, v4, v5] → DR H v1 d1 → DR H v2 d2 → DR H v3 d3 → DR H v4 d4 → DR H v5 d5 → (checkD d1 d2 d3 d4 d5 = true → ∀ H', Same H H' → Q .non H') → (checkD d1 d2 d3 d4 d5 = false → ∀ H', Same H H' → E (.ref a.C_NoLetter) none H') → spCheckD_I a vs H Q E
def spCheckD (a : Adr) : Sp := fun vs H Q E => spCheckD_I a vs H Q E
abbrev lfv (v1 v2 v3 v4 v5 : V) : List (Str × V) := [("sender", v1), ("title", v2), ("body", v3), ("day", v4), ("answers", v5), ("found", .non)]
inductive spInitD_I (a : Adr) (vs : List V) (H : Hp) (Q : VK) (E : XK) : Prop
  | mk : ∀ (x dx : Addr) (v1 v2 v3 v4 v5 : V) (d1 d2 d3 d4 d5 : Dt), vs = [.ref x, v1, v2, v3, v4, v5] → H x = some (.ins a.C_Letter dx []) → DR H v1 d1 → DR H v2 d2 → DR H v3 d3 → DR H v4 d4 → DR H v5 d5 → (checkD d1 d2 d3 d4 d5 = true → ∀ H', (∀ c o, c ≠ x → H c = some o → H' c = some o) → H' x = some (.ins a.C_Letter dx (lfv v1 v2 v3 v4 v5)) → Q .non H') → (checkD d1 d2 d3 d4 d5 = false → ∀ H', Same H H' → E (.ref a.C_NoLetter) none H') → spInitD_I a vs H Q E
def spInitD (a : Adr) : Sp := fun vs H Q E => spInitD_I a vs H Q E
theorem nl_one : ("\n" : Str) = ⟨#[10]⟩ := by decide +kernel
section
variable {P : Program} {w : World} {K : PySem.W.Frag} {mg : Str → Option Value} {base : Heap} {a : Adr}
theorem ok_checkD {fd : FuncData} (F : Fun K "check_parts" "check_parts" scheck_parts a.f_check_parts fd) (T : Txt K mg a) (FF : Funs K a) : FnOk P w K mg base (CXF P w) 4 a.f_check_parts fd ["sender", "title", "body", "day", "answers"] (spCheckD a) := by
  obtain ⟨fdA, F_is_word, b_is_word⟩ := FF.F_is_word
  have G_is_word : FnOk P w K mg base CX0 2 a.f_is_word fdA ["thing"] (spIsWord K) := ok_isword F_is_word T FF
  obtain ⟨fdB, F_is_text, b_is_text⟩ := FF.F_is_text
  have G_is_text : FnOk P w K mg base CX0 1 a.f_is_text fdB ["thing", "most"] spTextD := ok_textD F_is_text T
  obtain ⟨fdC, F_is_whole, b_is_whole⟩ := FF.F_is_whole
  have G_is_whole : FnOk P w K mg base CX0 1 a.f_is_whole fdC ["thing"] spWholeD := ok_wholeD F_is_whole T
  obtain ⟨fdD, F_is_answered, b_is_answered⟩ := FF.F_is_answered
  have G_is_answered : FnOk P w K mg base CX0 3 a.f_is_answered fdD ["thing"] spAnswD := ok_answD F_is_answered T FF
  refine F.okX sc_check_parts (fun vs H Q E h => ?_) (fun cdv A outer s H vs Q E hr h => ?_)
  · obtain ⟨v1, v2, v3, v4, v5, d1, d2, d3, d4, d5, rfl, _⟩ := h; rfl
  · obtain ⟨v1, v2, v3, v4, v5, d1, d2, d3, d4, d5, rfl, r1, r2, r3, r4, r5, kg, kb⟩ := h
    have hr_is_word : Room 2 _ := hr.mono (by decide)
    have hr_is_text : Room 1 _ := hr.mono (by decide)
    have hr_is_whole : Room 1 _ := hr.mono (by decide)
    have hr_is_answered : Room 3 _ := hr
    refine ⟨_, (pss_cons (ps_if (pt_not (pt_val (pe_call G_is_word hr_is_word rfl T.m_is_word F_is_word.kp b_is_word .nil pass0 (pac (pv 0) pa_nil)))) (pss_one (ps_raise T.x_NoLetter T.mx_NoLetter hr.hd rfl (pac pe_str pa_nil))) pss_nil)
        (pss_cons (ps_if (PW.pt (pw_or (pt_not (pt_val (pe_call G_is_text hr_is_text rfl T.m_is_text F_is_text.kp b_is_text .nil pass0 (pac (pv 1) (pac (pe_gl rfl T.g_MOST_TITLE) pa_nil))))) (pw_or1 (pt_cmpR op_in_str pe_str (pv 1) (by with_unfolding_all rfl))))) (pss_one (ps_raise T.x_NoLetter T.mx_NoLetter hr.hd rfl (pac pe_str pa_nil))) pss_nil)
        (pss_cons (ps_if (pt_not (pt_val (pe_call G_is_text hr_is_text rfl T.m_is_text F_is_text.kp b_is_text .nil pass0 (pac (pv 2) (pac (pe_gl rfl T.g_MOST_BODY) pa_nil))))) (pss_one (ps_raise T.x_NoLetter T.mx_NoLetter hr.hd rfl (pac pe_str pa_nil))) pss_nil)
        (pss_cons (ps_if (PW.pt (pw_or (pt_not (pt_val (pe_call G_is_whole hr_is_whole rfl T.m_is_whole F_is_whole.kp b_is_whole .nil pass0 (pac (pv 3) pa_nil)))) (pw_or1 (pt_not (pt_chain op_le op_le pe_int (pv 3) (pe_gl rfl T.g_LAST_DAY)))))) (pss_one (ps_raise T.x_NoLetter T.mx_NoLetter hr.hd rfl (pac pe_str pa_nil))) pss_nil)
        (pss_one (ps_if (pt_not (pt_val (pe_call G_is_answered hr_is_answered rfl T.m_is_answered F_is_answered.kp b_is_answered .nil pass0 (pac (pv 4) pa_nil)))) (pss_one (ps_raise T.x_NoLetter T.mx_NoLetter hr.hd rfl (pac pe_str pa_nil))) pss_nil)))))), ?_⟩
    refine ⟨_, rfl, isword_call (E := E) r1 fun H1 s1 => ⟨_, rfl, ?_⟩⟩
    cases hw : wordD d1 with
    | false => exact iteT ⟨by show 1 ≤ sizeLine; decide, kb (by unfold checkD; rw [hw]; rfl) _ s1⟩
    | true =>
      refine iteF ⟨_, rfl, v2, d2, 60, rfl, r2.mono s1, _, rfl, ?_⟩
      cases ht : textD 60 d2 with
      | false => exact iteT (iteT ⟨by show 1 ≤ sizeLine; decide, kb (by unfold checkD; rw [hw, ht]; rfl) _ s1⟩)
      | true =>
        cases r2 with
        | @str t h1 h2 =>
          refine iteF ⟨_, rfl, _, _, rfl, rfl, _, rfl, ?_⟩
          rw [nl_one, StrLaws.found_one]
          by_cases hn : 10 ∈ t.cps.toList
          · rw [decide_eq_true hn]
            exact iteT ⟨by show 1 ≤ sizeLine; decide, kb (by unfold checkD; rw [hw, ht, show lineD (.str t) = false by show (!decide (10 ∈ t.cps.toList)) = _; rw [decide_eq_true hn]; rfl]; rfl) _ s1⟩
          · rw [decide_eq_false hn]
            have hl : lineD (.str t) = true := by show (!decide (10 ∈ t.cps.toList)) = _; rw [decide_eq_false hn]; rfl
            refine iteF ⟨_, rfl, v3, d3, 400, rfl, r3.mono s1, _, rfl, ?_⟩
            cases hb : textD 400 d3 with
            | false => exact iteT ⟨by show 1 ≤ sizeLine; decide, kb (by unfold checkD; rw [hw, ht, hl, hb]; rfl) _ s1⟩
            | true =>
              refine iteF ⟨_, rfl, v4, d4, rfl, r4.mono s1, _, rfl, ?_⟩
              cases r4 with
              | int i =>
                refine iteF ⟨_, rfl, _, _, rfl, rfl, _, rfl, ?_⟩
                have fin : dayD (.int i) = true → ∃ v, (L2.start n_check_parts [v1, .str t, v3, .int i, v5])[4]? = some (some v) ∧ DR H1 v d5 := fun _ => ⟨v5, rfl, r5.mono s1⟩
                by_cases h0 : 0 ≤ i
                · rw [decide_eq_true h0]
                  refine iteT ⟨_, _, rfl, rfl, _, rfl, ?_⟩
                  by_cases h9 : i ≤ 9999
                  · rw [decide_eq_true h9]
                    have hd : dayD (.int i) = true := by show (decide (0 ≤ i) && decide (i ≤ 9999)) = _; rw [decide_eq_true h0, decide_eq_true h9]; rfl
                    refine iteF ⟨_, rfl, v5, d5, rfl, r5.mono s1, fun H2 s2 => ⟨_, rfl, ?_⟩⟩
                    cases ha : answD d5 with
                    | false => exact iteT ⟨by show 1 ≤ sizeLine; decide, kb (by unfold checkD; rw [hw, ht, hl, hb, hd, ha]; rfl) _ (s1.trans s2)⟩
                    | true => exact iteF (kg (by unfold checkD; rw [hw, ht, hl, hb, hd, ha]; rfl) _ (s1.trans s2))
                  · rw [decide_eq_false h9]
                    exact iteT ⟨by show 1 ≤ sizeLine; decide, kb (by unfold checkD; rw [hw, ht, hl, hb, show dayD (.int i) = false by show (decide (0 ≤ i) && decide (i ≤ 9999)) = _; rw [decide_eq_false h9, Bool.and_false]]; rfl) _ s1⟩
                · rw [decide_eq_false h0]
                  exact iteF ⟨_, rfl, iteT ⟨by show 1 ≤ sizeLine; decide, kb (by unfold checkD; rw [hw, ht, hl, hb, show dayD (.int i) = false by show (decide (0 ≤ i) && decide (i ≤ 9999)) = _; rw [decide_eq_false h0]; rfl]; rfl) _ s1⟩⟩
              | _ => exact iteT (iteT ⟨by show 1 ≤ sizeLine; decide, kb (by unfold checkD; rw [hw, ht, hl, hb]; rfl) _ s1⟩)
        | _ => cases ht
end
section
variable {P : Program} {w : World} {K : PySem.W.Frag} {mg : Str → Option Value} {base : Heap} {a : Adr}
theorem ok_initD {fd : FuncData} (F : FunD K "__init__" "Letter.__init__" sLetter_init a.f_Letter_init fd) (T : Txt K mg a) (FF : Funs K a) : FnOk P w K mg base (CXF P w) 5 a.f_Letter_init fd ["self", "sender", "title", "body", "day", "answers"] (spInitD a) := by
  obtain ⟨fdA, F_check_parts, b_check_parts⟩ := FF.F_check_parts
  have G_check_parts : FnOk P w K mg base (CXF P w) 4 a.f_check_parts fdA ["sender", "title", "body", "day", "answers"] (spCheckD a) := ok_checkD F_check_parts T FF
  refine F.okX sc_Letter_init (fun vs H Q E h => ?_) (fun cdv A outer s H vs Q E hr h => ?_)
  · obtain ⟨x, dx, v1, v2, v3, v4, v5, d1, d2, d3, d4, d5, rfl, _⟩ := h; rfl
  · obtain ⟨x, dx, v1, v2, v3, v4, v5, d1, d2, d3, d4, d5, rfl, hx, r1, r2, r3, r4, r5, kg, kb⟩ := h
    have hr_check_parts : Room 4 _ := hr
    refine ⟨_, (pss_cons (ps_expr (pe_callX (R := fun _ => E) G_check_parts hr_check_parts rfl T.m_check_parts F_check_parts.kp b_check_parts .nil passF (pac (pv 1) (pac (pv 2) (pac (pv 3) (pac (pv 4) (pac (pv 5) pa_nil)))))))
        (pss_cons (ps_fld (pv 0) (pv 1) rfl)
        (pss_cons (ps_fld (pv 0) (pv 2) rfl)
        (pss_cons (ps_fld (pv 0) (pv 3) rfl)
        (pss_cons (ps_fld (pv 0) (pv 4) rfl)
        (pss_cons (ps_fld (pv 0) (pv 5) rfl)
        (pss_one (ps_fld (pv 0) pe_non rfl)))))))), ?_⟩
    refine ⟨_, rfl, _, rfl, _, rfl, _, rfl, _, rfl, v1, v2, v3, v4, v5, d1, d2, d3, d4, d5, rfl, r1, r2, r3, r4, r5, fun hg H1 s1 => ?_, kb⟩
    refine ⟨_, rfl, _, rfl, x, _, dx, _, rfl, s1 _ _ hx, T.c_Letter, T.n_Letter_sender, by decide, ?_⟩
    refine ⟨_, rfl, _, rfl, x, _, dx, _, rfl, upd_same, T.c_Letter, T.n_Letter_title, (by show 1 < 1000; decide), ?_⟩
    refine ⟨_, rfl, _, rfl, x, _, dx, _, rfl, upd_same, T.c_Letter, T.n_Letter_body, (by show 2 < 1000; decide), ?_⟩
    refine ⟨_, rfl, _, rfl, x, _, dx, _, rfl, upd_same, T.c_Letter, T.n_Letter_day, (by show 3 < 1000; decide), ?_⟩
    refine ⟨_, rfl, _, rfl, x, _, dx, _, rfl, upd_same, T.c_Letter, T.n_Letter_answers, (by show 4 < 1000; decide), ?_⟩
    refine ⟨_, rfl, x, _, dx, _, rfl, upd_same, T.c_Letter, T.n_Letter_found, (by show 5 < 1000; decide), ?_⟩
    refine kg hg _ (fun c o ne e => ?_) upd_same
    rw [upd_ne ne, upd_ne ne, upd_ne ne, upd_ne ne, upd_ne ne, upd_ne ne]
    exact s1 _ _ e
inductive spPartsV_I (a : Adr) (vs : List V) (H : Hp) (Q : VK) : Prop
  | mk : ∀ (x dx : Addr) (v1 v2 v3 v4 v5 : V), vs = [.ref x] → H x = some (.ins a.C_Letter dx (lfv v1 v2 v3 v4 v5)) → (∀ p, H p = none → Q (.ref p) (upd H p (.tup [v1, v2, v3, v4, v5]))) → spPartsV_I a vs H Q
def spPartsV (a : Adr) : Sp := fun vs H Q _ => spPartsV_I a vs H Q
theorem ok_partsV {fd : FuncData} (F : Fun K "parts" "Letter.parts" sLetter_parts a.f_Letter_parts fd) (T : Txt K mg a) : FnOk P w K mg base CX0 1 a.f_Letter_parts fd ["self"] (spPartsV a) := by
  refine F.ok sc_Letter_parts (fun vs H Q E h => ?_) (fun cdv A outer s H vs Q E hr h => ?_)
  · obtain ⟨x, dx, v1, v2, v3, v4, v5, rfl, _⟩ := h; rfl
  · obtain ⟨x, dx, v1, v2, v3, v4, v5, rfl, hx, k⟩ := h
    refine ⟨_, (pss_one (ps_ret (pe_tupS (pas_cons (pe_fld (pv 0) rfl) (pas_cons (pe_fld (pv 0) rfl) (pas_cons (pe_fld (pv 0) rfl) (pas_cons (pe_fld (pv 0) rfl) (pas_cons (pe_fld (pv 0) rfl) pas_nil)))))))), ?_⟩
    exact ⟨_, rfl, x, _, dx, _, _, rfl, hx, T.c_Letter, T.n_Letter_sender, rfl, _, rfl, x, _, dx, _, _, rfl, hx, T.c_Letter, T.n_Letter_title, rfl, _, rfl, x, _, dx, _, _, rfl, hx, T.c_Letter, T.n_Letter_body, rfl, _, rfl, x, _, dx, _, _, rfl, hx, T.c_Letter, T.n_Letter_day, rfl, _, rfl, x, _, dx, _, _, rfl, hx, T.c_Letter, T.n_Letter_answers, rfl, (by show 5 ≤ sizeLine; decide), k⟩
end
structure Good (s t b : Str) (d : Int) (an : Str) : Prop where
  s_ : WordS s
  t_ : Asc t
  tl : t.length ≤ 60
  tn : ¬ 10 ∈ t.cps.toList
  b_ : Asc b
  bl : b.length ≤ 400
  d0 : 0 ≤ d
  d1 : d ≤ 9999
  a_ : an = "" ∨ WordS an
abbrev lfs (s t b : Str) (d : Int) (an : Str) : List (Str × V) := [("sender", .str s), ("title", .str t), ("body", .str b), ("day", .int d), ("answers", .str an), ("found", .non)]
def IsLet (a : Adr) (H : Hp) (x : Addr) (s t b : Str) (d : Int) (an : Str) : Prop := ∃ dx, H x = some (.ins a.C_Letter dx (lfs s t b d an))
theorem IsLet.mono {a : Adr} {H H' : Hp} {x : Addr} {s t b : Str} {d : Int} {an : Str} (h : IsLet a H x s t b d an) (q : Same H H') : IsLet a H' x s t b d an := let ⟨dx, e⟩ := h; ⟨dx, q _ _ e⟩
theorem isW_of {x : Str} (h : WordS x) : isW x = true := by
  unfold isW
  have h1 := h.lo
  have h2 := h.hi
  rw [decide_eq_true (by omega), decide_eq_true (by omega), Bool.true_and, Bool.true_and]
  exact List.all_eq_true.mpr fun c hc => decide_eq_true (h.in_ c hc)
def rowsOf (s t : Str) (d : Int) (an : Str) : List Str := if an = "" then [("from " : Str) ++ s, ("day " : Str) ++ dtx d, ("title " : Str) ++ t] else [("from " : Str) ++ s, ("day " : Str) ++ dtx d, ("answers " : Str) ++ an, ("title " : Str) ++ t]
def ltext (s t b : Str) (d : Int) (an : Str) : Str := (Txt.join "\n" (rowsOf s t d an) ++ ("\n\n" : Str)) ++ b
theorem fromL : ("from " : Str).length = 5 ∧ ¬ 10 ∈ ("from " : Str).cps.toList := by decide +kernel
theorem dayL : ("day " : Str).length = 4 ∧ ¬ 10 ∈ ("day " : Str).cps.toList := by decide +kernel
theorem answersL : ("answers " : Str).length = 8 ∧ ¬ 10 ∈ ("answers " : Str).cps.toList := by decide +kernel
theorem titleL : ("title " : Str).length = 6 ∧ ¬ 10 ∈ ("title " : Str).cps.toList := by decide +kernel
theorem aZ_nonl : ¬ 10 ∈ aZ.cps.toList := by decide +kernel
theorem word_nonl {x : Str} (h : WordS x) : ¬ 10 ∈ x.cps.toList := fun z => aZ_nonl (h.in_ 10 z)
theorem cat_nonl {x y : Str} (h1 : ¬ 10 ∈ x.cps.toList) (h2 : ¬ 10 ∈ y.cps.toList) : ¬ 10 ∈ (x ++ y).cps.toList := fun z => by
  rw [cat_list] at z
  exact (List.mem_append.mp z).elim h1 h2
theorem rows_ok {s t b : Str} {d : Int} {an : Str} (g : Good s t b d an) : ∀ p ∈ rowsOf s t d an, (¬ 10 ∈ p.cps.toList ∧ 0 < p.length) ∧ p.length ≤ 100 := by
  have hs := g.s_.hi
  have ht := g.tl
  have hd := dtx_len g.d0 g.d1
  have k1 : (¬ 10 ∈ (("from " : Str) ++ s).cps.toList ∧ 0 < (("from " : Str) ++ s).length) ∧ (("from " : Str) ++ s).length ≤ 100 := ⟨⟨cat_nonl fromL.2 (word_nonl g.s_), by rw [cat_len, fromL.1]; omega⟩, by rw [cat_len, fromL.1]; omega⟩
  have k2 : (¬ 10 ∈ (("day " : Str) ++ dtx d).cps.toList ∧ 0 < (("day " : Str) ++ dtx d).length) ∧ (("day " : Str) ++ dtx d).length ≤ 100 := ⟨⟨cat_nonl dayL.2 (dtx_nonl g.d0 g.d1), by rw [cat_len, dayL.1]; omega⟩, by rw [cat_len, dayL.1]; omega⟩
  have k3 : (¬ 10 ∈ (("title " : Str) ++ t).cps.toList ∧ 0 < (("title " : Str) ++ t).length) ∧ (("title " : Str) ++ t).length ≤ 100 := ⟨⟨cat_nonl titleL.2 g.tn, by rw [cat_len, titleL.1]; omega⟩, by rw [cat_len, titleL.1]; omega⟩
  intro p hp
  unfold rowsOf at hp
  by_cases h : an = ""
  · rw [if_pos h] at hp
    simp only [List.mem_cons, List.not_mem_nil, or_false] at hp
    rcases hp with rfl | rfl | rfl
    · exact k1
    · exact k2
    · exact k3
  · rw [if_neg h] at hp
    have wa := g.a_.resolve_left h
    have ha := wa.hi
    simp only [List.mem_cons, List.not_mem_nil, or_false] at hp
    rcases hp with rfl | rfl | rfl | rfl
    · exact k1
    · exact k2
    · exact ⟨⟨cat_nonl answersL.2 (word_nonl wa), by rw [cat_len, answersL.1]; omega⟩, by rw [cat_len, answersL.1]; omega⟩
    · exact k3
theorem rows_ne (s t : Str) (d : Int) (an : Str) : rowsOf s t d an ≠ [] := by unfold rowsOf; split <;> simp
theorem rows_len (s t : Str) (d : Int) (an : Str) : (rowsOf s t d an).length ≤ 4 := by unfold rowsOf; split <;> simp
theorem sum_le100 : ∀ (l : List Str), (∀ p ∈ l, p.length ≤ 100) → (l.map (·.length)).sum ≤ 100 * l.length
  | [], _ => Nat.le_refl _
  | p :: r, h => by
    have h1 := h p List.mem_cons_self
    have h2 := sum_le100 r fun q hq => h q (List.mem_cons_of_mem _ hq)
    rw [List.map_cons, List.sum_cons, List.length_cons]
    omega
theorem rows_fit {s t b : Str} {d : Int} {an : Str} (g : Good s t b d an) : ((rowsOf s t d an).map (·.length)).sum + (rowsOf s t d an).length * ("\n" : Str).length ≤ 16777216 := by
  have h1 := sum_le100 (rowsOf s t d an) fun p hp => (rows_ok g p hp).2
  have h2 := rows_len s t d an
  have h3 : ("\n" : Str).length = 1 := by decide +kernel
  rw [h3]
  omega
theorem head_len {s t b : Str} {d : Int} {an : Str} (g : Good s t b d an) : (Txt.join "\n" (rowsOf s t d an)).length ≤ 404 := by
  have e : Txt.join "\n" (rowsOf s t d an) = Str.join "\n" (rowsOf s t d an) := StrLaws.glued_eq_join _ _
  have h0 := StrLaws.join_length_le "\n" (rowsOf s t d an)
  have h1 := sum_le100 (rowsOf s t d an) fun p hp => (rows_ok g p hp).2
  have h2 := rows_len s t d an
  have h3 : ("\n" : Str).length = 1 := by decide +kernel
  rw [e]
  rw [h3] at h0
  omega
theorem ltext_find {s t b : Str} {d : Int} {an : Str} (g : Good s t b d an) : Txt.find (ltext s t b d an) "\n\n" = ((Txt.join "\n" (rowsOf s t d an)).length : Int) := by
  refine find_gap rfl ?_
  have e : Txt.join "\n" (rowsOf s t d an) = Str.join "\n" (rowsOf s t d an) := StrLaws.glued_eq_join _ _
  rw [e]
  exact join_single _ fun p hp => (rows_ok g p hp).1
theorem ltext_head (s t b : Str) (d : Int) (an : Str) : Txt.slice (ltext s t b d an) none (some ((Txt.join "\n" (rowsOf s t d an)).length : Int)) = Txt.join "\n" (rowsOf s t d an) := by
  refine str_ext ?_
  rw [slice_to]
  unfold ltext
  rw [cat_list, cat_list, List.append_assoc, List.take_append_of_le_length (by rw [len_list]; exact Nat.le_refl _), len_list, List.take_of_length_le (Nat.le_refl _)]
theorem ltext_body (s t b : Str) (d : Int) (an : Str) : Txt.slice (ltext s t b d an) (some (((Txt.join "\n" (rowsOf s t d an)).length : Int) + (("\n\n" : Str).length : Int))) none = b := by
  refine str_ext ?_
  have e : ((Txt.join "\n" (rowsOf s t d an)).length : Int) + (("\n\n" : Str).length : Int) = (((Txt.join "\n" (rowsOf s t d an) ++ ("\n\n" : Str)).cps.toList.length : Nat) : Int) := by
    rw [← len_list, cat_len]; omega
  rw [e, slice_from]
  unfold ltext
  generalize (Txt.join "\n" (rowsOf s t d an) ++ ("\n\n" : Str)) = A
  rw [cat_list, List.drop_left']
  rfl
theorem ltext_rows {s t b : Str} {d : Int} {an : Str} (g : Good s t b d an) : Txt.split (Txt.join "\n" (rowsOf s t d an)) "\n" = rowsOf s t d an := split_rows (rows_ne _ _ _ _) fun p hp => (rows_ok g p hp).1.1
theorem drop_front (a b : Str) : Txt.slice (a ++ b) (some (a.length : Int)) none = b := by
  refine str_ext ?_
  rw [slice_from, cat_list, List.drop_left']
  exact (len_list a).symm
inductive spLText_I (a : Adr) (vs : List V) (H : Hp) (Q : VK) : Prop
  | mk : ∀ x s t b d an, vs = [.ref x] → IsLet a H x s t b d an → Good s t b d an → (∀ H', Same H H' → Q (.str (ltext s t b d an)) H') → spLText_I a vs H Q
def spLText (a : Adr) : Sp := fun vs H Q _ => spLText_I a vs H Q
theorem log_day {d : Int} (h0 : 0 ≤ d) (h1 : d ≤ 9999) : d.natAbs.log2 < 1920 := by
  by_cases h : d.natAbs = 0
  · rw [h]; decide
  · exact Nat.lt_of_lt_of_le ((Nat.log2_lt h).mpr (Nat.lt_of_le_of_lt (show d.natAbs ≤ 9999 by omega) (by decide : 9999 < 2 ^ 14))) (by decide)
section
variable {P : Program} {w : World} {K : PySem.W.Frag} {mg : Str → Option Value} {base : Heap} {a : Adr}
theorem ok_ltext {fd : FuncData} (F : Fun K "letter_text" "letter_text" sletter_text a.f_letter_text fd) (T : Txt K mg a) : FnOk P w K mg base CX0 1 a.f_letter_text fd ["letter"] (spLText a) := by
  refine F.ok sc_letter_text (fun vs H Q E h => ?_) (fun cdv A outer st H vs Q E hr h => ?_)
  · obtain ⟨x, s, t, b, d, an, rfl, _⟩ := h; rfl
  · obtain ⟨x, s, t, b, d, an, rfl, ⟨dx, hx⟩, g, k⟩ := h
    have hsm : ∀ n : Nat, n ≤ 1000 → n ≤ sizeLine := fun n h => Nat.le_of_lt (small1000 h)
    have hs := g.s_.hi
    have ht := g.tl
    have hb := g.bl
    have hd := dtx_len g.d0 g.d1
    have hh := head_len g
    obtain ⟨t2, h2, sp2⟩ : ∃ tt, PSs (cxOf CX0 P w K mg base n_letter_text "letter_text" (defScope sletter_text) a.f_letter_text cdv A outer st H E).nox ((defBody sletter_text).drop 2) tt ∧
        ∀ (H1 : Hp) (l : Addr) (rs : List Str), Same H H1 → x ≠ l → H l = none → H1 l = some (.lst (rs.map V.str)) → rs ++ [("title " : Str) ++ t] = rowsOf s t d an →
          tt { nx := fun _ H' => Q .non H', rt := Q } [some (.ref x), some (.ref l)] H1 := by
      refine ⟨_, (pss_cons (ps_expr (pe_bm PySem.F.plainAttrs_list PySem.F.slot_list_append PySem.F.type_list_append mt_append (pv 1) (pac (pe_op op_add_str (pe_gl rfl T.g_TITLE) (pe_fld (pv 0) rfl)) pa_nil)))
        (pss_one (ps_ret (pe_op op_add_str (pe_op op_add_str (pe_bm PySem.F.plainAttrs_str PySem.F.slot_str_join PySem.F.type_str_join mt_join pe_str (pac (pv 1) pa_nil)) (pe_gl rfl T.g_GAP)) (pe_fld (pv 0) rfl))))), fun H1 l rs s1 ne nl hl er => ?_⟩
      have hrl : rs.length ≤ 4 := by
        have e := congrArg List.length er
        have := rows_len s t d an
        rw [List.length_append] at e
        omega
      refine ⟨_, rfl, .inl ⟨rfl, _, SqL.of hl⟩, _, rfl, x, _, dx, _, _, rfl, s1 _ _ hx, T.c_Letter, T.n_Letter_title, rfl, _, _, rfl, rfl, hsm _ (by rw [titleL.1]; omega), ?_⟩
      refine ⟨l, _, _, rfl, rfl, hl, (by rw [List.length_map]; exact small1000 (by omega)), ?_⟩
      have e2 : rs.map V.str ++ [V.str (("title " : Str) ++ t)] = (rowsOf s t d an).map V.str := by rw [← er, List.map_append]; rfl
      rw [e2]
      have s2 : Same H (upd H1 l (.lst ((rowsOf s t d an).map V.str))) := s1.upd_of nl
      refine ⟨rfl, _, rfl, "\n", l, _, rfl, rfl, SqL.of upd_same, rows_fit g, _, _, rfl, rfl, hsm _ (by rw [gap_len]; omega), ?_⟩
      exact ⟨_, rfl, x, _, dx, _, _, rfl, s2 _ _ hx, T.c_Letter, T.n_Letter_body, rfl, _, _, rfl, rfl, hsm _ (by rw [cat_len, gap_len]; omega), k _ s2⟩
    refine ⟨_, (pss_cons (ps_set (i := 1) sc_letter_text.nd rfl (Or.inl rfl) (pe_lstS (pas_cons (pe_op op_add_str (pe_gl rfl T.g_FROM) (pe_fld (pv 0) rfl)) (pas_cons (pe_op op_add_str (pe_gl rfl T.g_DAY) (pe_bm PySem.F.plainAttrs_str PySem.F.slot_str_zfill PySem.F.type_str_zfill mt_zfill (pe_callTy call_str_int rfl T.b_str PyProof.Rows.boot_str (pac (pe_fld (pv 0) rfl) pa_nil)) (pac (pe_gl rfl T.g_DAY_FIGURES) pa_nil))) pas_nil))))
        (pss_cons (ps_if (pt_cmpR op_ne (pe_fld (pv 0) rfl) pe_str (nomark _)) (pss_one (ps_expr (pe_bm PySem.F.plainAttrs_list PySem.F.slot_list_append PySem.F.type_list_append mt_append (pv 1) (pac (pe_op op_add_str (pe_gl rfl T.g_ANSWERS) (pe_fld (pv 0) rfl)) pa_nil)))) pss_nil)
        h2)), ?_⟩
    refine ⟨_, rfl, x, _, dx, _, _, rfl, hx, T.c_Letter, T.n_Letter_sender, rfl, _, _, rfl, rfl, hsm _ (by rw [fromL.1]; omega), ?_⟩
    refine ⟨_, rfl, x, _, dx, _, _, rfl, hx, T.c_Letter, T.n_Letter_day, rfl, d, rfl, log_day g.d0 g.d1, rfl, _, 4, rfl, rfl, (by decide +kernel), ?_⟩
    refine ⟨_, _, rfl, rfl, hsm _ (by show ("day " : Str).length + (dtx d).length ≤ 1000; rw [dayL.1]; omega), ?_⟩
    refine ⟨(by show 2 ≤ sizeLine; decide), fun l hl => ?_⟩
    have ne : x ≠ l := ne_of_none hx hl
    have s1 : Same H (upd H l (.lst [V.str (("from " : Str) ++ s), V.str (("day " : Str) ++ dtx d)])) := Same.upd_new hl
    refine ⟨_, rfl, x, _, dx, _, _, rfl, s1 _ _ hx, T.c_Letter, T.n_Letter_answers, rfl, rfl, _, rfl, ?_⟩
    by_cases han : an = ""
    · have e : decide (V.str an = V.str "") = true := by rw [han]; simp
      rw [e]
      refine iteF (sp2 _ l [("from " : Str) ++ s, ("day " : Str) ++ dtx d] s1 ne hl upd_same ?_)
      unfold rowsOf
      rw [if_pos han]
      rfl
    · have e : decide (V.str an = V.str "") = false := by simp [han]
      rw [e]
      have wa := (g.a_.resolve_left han).hi
      refine iteT ⟨_, rfl, .inl ⟨rfl, _, SqL.of upd_same⟩, _, rfl, x, _, dx, _, _, rfl, s1 _ _ hx, T.c_Letter, T.n_Letter_answers, rfl, _, _, rfl, rfl, hsm _ (by rw [answersL.1]; omega), ?_⟩
      refine ⟨l, _, _, rfl, rfl, upd_same, (by show 2 < sizeLine; decide), ?_⟩
      refine sp2 _ l [("from " : Str) ++ s, ("day " : Str) ++ dtx d, ("answers " : Str) ++ an] (s1.upd_of hl) ne hl upd_same ?_
      unfold rowsOf
      rw [if_neg han]
      rfl
end
theorem rows3 {s t : Str} {d : Int} : rowsOf s t d "" = [("from " : Str) ++ s, ("day " : Str) ++ dtx d, ("title " : Str) ++ t] := by unfold rowsOf; rw [if_pos rfl]
theorem rows4 {s t : Str} {d : Int} {an : Str} (h : an ≠ "") : rowsOf s t d an = [("from " : Str) ++ s, ("day " : Str) ++ dtx d, ("answers " : Str) ++ an, ("title " : Str) ++ t] := by unfold rowsOf; rw [if_neg h]
abbrev Parts := Str × Str × Str × Int × Str
theorem fig_back {c : Nat} (h : c ∈ figS.cps.toList) : 48 ≤ c ∧ c ≤ 57 := by
  have e : figS.cps.toList = [48, 49, 50, 51, 52, 53, 54, 55, 56, 57] := by decide +kernel
  rw [e] at h
  simp only [List.mem_cons, List.not_mem_nil, or_false] at h
  omega
abbrev figB (y : Str) : Bool := y.cps.toList.all fun c => decide (c ∈ figS.cps.toList)
theorem four_val (a b c e : Nat) : PySem.NumText.digitsVal [a, b, c, e] = (((a - 48) * 10 + (b - 48)) * 10 + (c - 48)) * 10 + (e - 48) := by
  unfold PySem.NumText.digitsVal
  simp only [List.foldl_cons, List.foldl_nil]
  omega
theorem four_of {l : List Nat} (h : l.length = 4) : ∃ a b c e, l = [a, b, c, e] := by
  match l, h with
  | [a, b, c, e], _ => exact ⟨a, b, c, e, rfl⟩
theorem val4 {y : Str} (h : y.length = 4) (hf : figB y = true) : ∃ d : Int, 0 ≤ d ∧ d ≤ 9999 ∧ PySem.intText? y = some d ∧ dtx d = y := by
  have hd : PySem.NumText.AllDigits y.cps.toList := fun c hc => fig_back (of_decide_eq_true (List.all_eq_true.mp hf c hc))
  have hl := len_list y
  rw [h] at hl
  obtain ⟨a, b, c, e, hy⟩ := four_of hl.symm
  have hi : PySem.intText? y = some ((PySem.NumText.digitsVal y.cps.toList : Nat) : Int) := PySem.intText_digits hd (by rw [hy]; simp) (by omega)
  rw [hy] at hi hd
  have ha := hd a (by simp)
  have hb := hd b (by simp)
  have hc := hd c (by simp)
  have he := hd e (by simp)
  have hv := four_val a b c e
  have h9 : PySem.NumText.digitsVal [a, b, c, e] ≤ 9999 := by omega
  generalize hn : PySem.NumText.digitsVal [a, b, c, e] = n at *
  refine ⟨(n : Int), by omega, by omega, hi, ?_⟩
  have h0 : (0 : Int) ≤ (n : Int) := by omega
  have h1 : (n : Int) ≤ 9999 := by omega
  have dl := dtx_len h0 h1
  rw [len_list] at dl
  obtain ⟨a', b', c', e', hy'⟩ := four_of dl
  have dd := dtx_digits h0 h1
  have dr := dtx_reads h0 h1
  rw [PySem.intText_digits dd (by rw [hy']; simp) (by rw [len_list, dl]; decide)] at dr
  rw [hy'] at dd dr
  have ha' := dd a' (by simp)
  have hb' := dd b' (by simp)
  have hc' := dd c' (by simp)
  have he' := dd e' (by simp)
  have hv' := four_val a' b' c' e'
  have ev : PySem.NumText.digitsVal [a', b', c', e'] = n := by have := Option.some.inj dr; omega
  refine str_ext ?_
  rw [hy, hy']
  have q1 : a' = a := by omega
  have q2 : b' = b := by omega
  have q3 : c' = c := by omega
  have q4 : e' = e := by omega
  rw [q1, q2, q3, q4]
theorem pre_of {x p : Str} {n : Nat} (h : Txt.slice x none (some (n : Int)) = p) : x = p ++ Txt.slice x (some (n : Int)) none := by
  refine str_ext ?_
  rw [cat_list, ← h, slice_to, slice_from, List.take_append_drop]
theorem pre_at {p y : Str} {n : Nat} (hp : p.length = n) : Txt.slice (p ++ y) none (some (n : Int)) = p := by
  refine str_ext ?_
  rw [slice_to, cat_list, List.take_append_of_le_length (by rw [← len_list, hp]; exact Nat.le_refl _), List.take_of_length_le (by rw [← len_list, hp]; exact Nat.le_refl _)]
theorem post_at {p y : Str} {n : Nat} (hp : p.length = n) : Txt.slice (p ++ y) (some (n : Int)) none = y := by
  subst hp
  exact drop_front p y
theorem word_of {x : Str} (h : isW x = true) : WordS x := by
  unfold isW at h
  rw [Bool.and_eq_true, Bool.and_eq_true] at h
  have h1 := of_decide_eq_true h.1
  have h2 := of_decide_eq_true h.2.1
  exact ⟨by omega, by omega, fun c hc => of_decide_eq_true (List.all_eq_true.mp h.2.2 c hc)⟩
theorem good_of {s t b an : Str} {d : Int} (ht : Asc t) (hb : Asc b) (h : checkD (.str s) (.str t) (.str b) (.int d) (.str an) = true) : Good s t b d an := by
  simp only [checkD, wordD, textD, lineD, dayD, answD, Bool.and_eq_true, Bool.or_eq_true, Bool.not_eq_true', decide_eq_true_eq, decide_eq_false_iff_not] at h
  obtain ⟨h1, h2, h3, h4, h5, h6⟩ := h
  exact ⟨word_of h1, ht, by omega, h3, hb, by omega, h5.1, h5.2, h6.elim (fun z => .inr (word_of z)) .inl⟩
theorem of_good {s t b an : Str} {d : Int} (g : Good s t b d an) : checkD (.str s) (.str t) (.str b) (.int d) (.str an) = true := by
  simp only [checkD, wordD, textD, lineD, dayD, answD, Bool.and_eq_true, Bool.or_eq_true, Bool.not_eq_true', decide_eq_true_eq, decide_eq_false_iff_not]
  have h1 := g.tl
  have h2 := g.bl
  exact ⟨isW_of g.s_, by omega, g.tn, by omega, ⟨g.d0, g.d1⟩, g.a_.elim .inr (fun z => .inl (isW_of z))⟩
theorem join_one (x : Str) : (Str.join "\n" [x]).cps.toList = x.cps.toList := rfl
theorem join_app : ∀ (xs ys : List Str), xs ≠ [] → ys ≠ [] → (Str.join "\n" (xs ++ ys)).cps.toList = (Str.join "\n" xs).cps.toList ++ 10 :: (Str.join "\n" ys).cps.toList
  | [], _, h, _ => absurd rfl h
  | _, [], _, h => absurd rfl h
  | [x], y :: r, _, _ => by rw [List.singleton_append, join_cons2, join_one]
  | x :: x' :: xs, y :: r, _, h => by
    rw [List.cons_append, List.cons_append, join_cons2, ← List.cons_append, join_app (x' :: xs) (y :: r) (by simp) h, join_cons2, List.append_assoc, List.cons_append]
theorem split_ne (x : Str) : Txt.split x "\n" ≠ [] := fun z => by
  have := PyProof.Rows.split_pos x "\n"
  rw [z] at this
  exact absurd this (by decide)
theorem split_nonl (x : Str) : ∀ p ∈ Txt.split x "\n", ¬ 10 ∈ p.cps.toList := fun p hp => by
  rw [nl_eq] at hp
  exact StrLaws.split_free _ 10 p hp
theorem split_join (x : Str) : Txt.join "\n" (Txt.split x "\n") = x := by
  rw [show Txt.join "\n" (Txt.split x "\n") = Str.join "\n" (Txt.split x "\n") from StrLaws.glued_eq_join _ _]
  exact StrLaws.join_split _ _
/-- the rows of a letter's text, its body's too -/
theorem ltext_join (s t b : Str) (d : Int) (an : Str) {bs : List Str} (h0 : bs ≠ []) (hb : b = Txt.join "\n" bs) : ltext s t b d an = Txt.join "\n" (rowsOf s t d an ++ ("" : Str) :: bs) := by
  have e : ∀ l, Txt.join "\n" l = Str.join "\n" l := fun l => StrLaws.glued_eq_join _ _
  refine str_ext ?_
  unfold ltext
  rw [hb, e, e, e, cat_list, cat_list, join_app _ _ (rows_ne _ _ _ _) (by simp), gap_signs]
  cases bs with
  | nil => exact absurd rfl h0
  | cons y r => rw [join_cons2, List.append_assoc]; rfl
theorem ltext_split {s t b : Str} {d : Int} {an : Str} (g : Good s t b d an) : Txt.split (ltext s t b d an) "\n" = rowsOf s t d an ++ ("" : Str) :: Txt.split b "\n" := by
  rw [ltext_join s t b d an (split_ne b) (split_join b).symm]
  refine split_rows (by simp) fun p hp => ?_
  rcases List.mem_append.mp hp with z | z
  · exact (rows_ok g p z).1.1
  · rcases List.mem_cons.mp z with z | z
    · subst z; decide +kernel
    · exact split_nonl b p z
def law2 (r0 r1 r2 r3 : Str) (bs : List Str) (an : Str) : Option Parts :=
  if Txt.slice r2 none (some 6) = "title " ∧ r3 = "" ∧ r2.length ≤ 66 ∧ isW (Txt.slice r0 (some 5) none) = true ∧ figB (Txt.slice r1 (some 4) none) = true ∧ (Txt.join "\n" bs).length ≤ 400 then
    (PySem.intText? (Txt.slice r1 (some 4) none)).map fun d => (Txt.slice r0 (some 5) none, Txt.slice r2 (some 6) none, Txt.join "\n" bs, d, an) else none
def lawR : List Str → Option Parts
  | r0 :: r1 :: r2 :: r3 :: r4 :: rr =>
    if Txt.slice r0 none (some 5) = "from " ∧ Txt.slice r1 none (some 4) = "day " ∧ r1.length = 8 then
      if Txt.slice r2 none (some 8) = "answers " then
        (if isW (Txt.slice r2 (some 8) none) = true ∧ rr ≠ [] then law2 r0 r1 r3 r4 rr (Txt.slice r2 (some 8) none) else none)
      else law2 r0 r1 r2 r3 (r4 :: rr) ""
    else none
  | _ => none
theorem law2_good {s t b y r0 r1 r2 r3 : Str} {bs : List Str} {d : Int} {an an' : Str} (h0 : Txt.slice r0 none (some 5) = "from ") (h1 : Txt.slice r1 none (some 4) = "day ") (h8 : r1.length = 8) (ha : an = "" ∨ WordS an) (hr2 : Asc r2) (hbs : Asc (Txt.join "\n" bs)) (hn : ¬ 10 ∈ r2.cps.toList)
    (h : law2 r0 r1 r2 r3 bs an = some (s, t, b, d, an')) : Good s t b d an ∧ an' = an ∧ r0 = ("from " : Str) ++ s ∧ r1 = ("day " : Str) ++ dtx d ∧ r2 = ("title " : Str) ++ t ∧ r3 = "" ∧ b = Txt.join "\n" bs := by
  unfold law2 at h
  split at h
  · rename_i c
    obtain ⟨c1, c2, c3, c4, c5, c6⟩ := c
    have p0 : r0 = _ := pre_of (n := 5) h0
    have p1 : r1 = _ := pre_of (n := 4) h1
    have p2 : r2 = _ := pre_of (n := 6) c1
    have l1 : (Txt.slice r1 (some ((4 : Nat) : Int)) none).length = 4 := by
      have := congrArg Str.length p1
      rw [cat_len, dayL.1, h8] at this
      omega
    obtain ⟨d', q1, q2, q3, q4⟩ := val4 l1 c5
    rw [show PySem.intText? (Txt.slice r1 (some 4) none) = some d' from q3] at h
    simp only [Option.map_some, Option.some.injEq, Prod.mk.injEq] at h
    obtain ⟨rfl, rfl, rfl, rfl, rfl⟩ := h
    have l2 : (Txt.slice r2 (some ((6 : Nat) : Int)) none).length ≤ 60 := by
      have := congrArg Str.length p2
      rw [cat_len, titleL.1] at this
      omega
    refine ⟨⟨word_of c4, slice_asc hr2 _ _, l2, fun z => hn (slice_mem z), hbs, c6, q1, q2, ha⟩, rfl, p0, ?_, p2, c2, rfl⟩
    rw [q4]
    exact p1
  · cases h
theorem law2_of {s t b : Str} {d : Int} {an : Str} {bs : List Str} (g : Good s t b d an) (hb : b = Txt.join "\n" bs) : law2 (("from " : Str) ++ s) (("day " : Str) ++ dtx d) (("title " : Str) ++ t) "" bs an = some (s, t, b, d, an) := by
  have e0 : Txt.slice (("from " : Str) ++ s) (some 5) none = s := post_at (n := 5) fromL.1
  have e1 : Txt.slice (("day " : Str) ++ dtx d) (some 4) none = dtx d := post_at (n := 4) dayL.1
  have e2 : Txt.slice (("title " : Str) ++ t) (some 6) none = t := post_at (n := 6) titleL.1
  have e3 : Txt.slice (("title " : Str) ++ t) none (some 6) = "title " := pre_at (n := 6) titleL.1
  unfold law2
  rw [e0, e1, e2, e3, ← hb, dtx_reads g.d0 g.d1]
  have hl := g.tl
  rw [if_pos ⟨rfl, rfl, by rw [cat_len, titleL.1]; omega, isW_of g.s_, dtx_figs g.d0 g.d1, g.bl⟩]
  rfl
theorem join_mem {c : Nat} : ∀ {ps : List Str}, c ∈ (Txt.join "\n" ps).cps.toList → c = 10 ∨ ∃ p ∈ ps, c ∈ p.cps.toList := by
  intro ps h
  rw [show Txt.join "\n" ps = Str.join "\n" ps from StrLaws.glued_eq_join _ _] at h
  induction ps with
  | nil => exact absurd h (by show ¬ c ∈ ("" : Str).cps.toList; rw [show ("" : Str).cps.toList = [] by decide +kernel]; simp)
  | cons p r ih =>
    cases r with
    | nil => exact .inr ⟨p, List.mem_cons_self, h⟩
    | cons q r =>
      rw [join_cons2] at h
      rcases List.mem_append.mp h with z | z
      · exact .inr ⟨p, List.mem_cons_self, z⟩
      · rcases List.mem_cons.mp z with z | z
        · exact .inl z
        · rcases ih z with z | ⟨y, hy, z⟩
          · exact .inl z
          · exact .inr ⟨y, List.mem_cons_of_mem _ hy, z⟩
theorem mem_join {c : Nat} : ∀ {ps : List Str} {p : Str}, p ∈ ps → c ∈ p.cps.toList → c ∈ (Txt.join "\n" ps).cps.toList := by
  intro ps p hp hc
  rw [show Txt.join "\n" ps = Str.join "\n" ps from StrLaws.glued_eq_join _ _]
  induction ps with
  | nil => cases hp
  | cons q r ih =>
    cases r with
    | nil =>
      rcases List.mem_cons.mp hp with z | z
      · subst z; exact hc
      · cases z
    | cons q' r =>
      rw [join_cons2]
      rcases List.mem_cons.mp hp with z | z
      · subst z; exact List.mem_append_left _ hc
      · exact List.mem_append_right _ (List.mem_cons_of_mem _ (ih z))
theorem split_asc {x : Str} (h : Asc x) : ∀ p ∈ Txt.split x "\n", Asc p := fun p hp c hc => h c (by
  have := mem_join hp hc
  rw [split_join] at this
  exact this)
theorem joins_asc {ps : List Str} (h : ∀ p ∈ ps, Asc p) : Asc (Txt.join "\n" ps) := fun c hc => by
  rcases join_mem hc with z | ⟨p, hp, z⟩
  · subst z; decide
  · exact h p hp c z
theorem answ_not {t : Str} : Txt.slice (("title " : Str) ++ t) none (some 8) ≠ "answers " := fun z => by
  have e := congrArg (fun y : Str => y.cps.toList.head?) z
  have : (Txt.slice (("title " : Str) ++ t) none (some ((8 : Nat) : Int))).cps.toList.head? = some 116 := by
    rw [slice_to, cat_list, show ("title " : Str).cps.toList = [116, 105, 116, 108, 101, 32] by decide +kernel]
    rfl
  have e' : some 116 = (Str.ofString "answers ").cps.toList.head? := this.symm.trans e
  exact absurd e' (by decide +kernel)
theorem law_some {x s t b : Str} {d : Int} {an : Str} (ha : Asc x) (h : lawR (Txt.split x "\n") = some (s, t, b, d, an)) : Good s t b d an ∧ x = ltext s t b d an := by
  have hj := split_join x
  have hA := split_asc ha
  have hN := split_nonl x
  generalize Txt.split x "\n" = R at *
  unfold lawR at h
  split at h
  · rename_i r0 r1 r2 r3 r4 rr
    split at h
    · rename_i c
      obtain ⟨c0, c1, c8⟩ := c
      split at h
      · rename_i c2
        split at h
        · rename_i c3
          obtain ⟨g, ean, e0, e1, e2, e3, e4⟩ := law2_good (y := x) c0 c1 c8 (.inr (word_of c3.1)) (hA r3 (by simp)) (joins_asc fun p hp => hA p (by simp [hp])) (hN r3 (by simp)) h
          have e5 : r2 = ("answers " : Str) ++ an := by rw [ean]; exact pre_of (n := 8) c2
          rw [← ean] at g c3
          refine ⟨g, ?_⟩
          rw [ltext_join s t b d an c3.2 e4, rows4, ← hj, ← e0, ← e1, ← e2, ← e3, ← e5]
          · rfl
          · intro z
            have := (word_of c3.1).lo
            rw [z, empty_len] at this
            exact absurd this (by decide)
        · cases h
      · rename_i c2
        obtain ⟨g, rfl, e0, e1, e2, e3, e4⟩ := law2_good (y := x) c0 c1 c8 (.inl rfl) (hA r2 (by simp)) (joins_asc fun p hp => hA p (by simp only [List.mem_cons] at hp ⊢; rcases hp with z | z <;> simp [z])) (hN r2 (by simp)) h
        refine ⟨g, ?_⟩
        rw [ltext_join s t b d "" (by simp) e4, rows3, ← hj, ← e0, ← e1, ← e2, ← e3]
        rfl
    · cases h
  · cases h
theorem law_good {s t b : Str} {d : Int} {an : Str} (g : Good s t b d an) : lawR (Txt.split (ltext s t b d an) "\n") = some (s, t, b, d, an) := by
  rw [ltext_split g]
  have hj := (split_join b).symm
  have hne := split_ne b
  generalize Txt.split b "\n" = bs at *
  cases bs with
  | nil => exact absurd rfl hne
  | cons y r =>
    have f0 : Txt.slice (("from " : Str) ++ s) none (some 5) = "from " := pre_at (n := 5) fromL.1
    have f1 : Txt.slice (("day " : Str) ++ dtx d) none (some 4) = "day " := pre_at (n := 4) dayL.1
    have f8 : (("day " : Str) ++ dtx d).length = 8 := by rw [cat_len, dayL.1, dtx_len g.d0 g.d1]
    by_cases han : an = ""
    · subst han
      rw [rows3]
      show (if _ then _ else _) = _
      rw [if_pos ⟨f0, f1, f8⟩, if_neg answ_not]
      exact law2_of g hj
    · rw [rows4 han]
      have f2 : Txt.slice (("answers " : Str) ++ an) none (some 8) = "answers " := pre_at (n := 8) answersL.1
      have f3 : Txt.slice (("answers " : Str) ++ an) (some 8) none = an := post_at (n := 8) answersL.1
      show (if _ then _ else _) = _
      rw [if_pos ⟨f0, f1, f8⟩, if_pos f2, f3, if_pos ⟨isW_of (g.a_.resolve_left han), by simp⟩]
      exact law2_of g hj
/-- what the program reads -/
def dayP (y : Str) : Option Int := if y.length = 4 ∧ figB y = true then PySem.intText? y else none
def mkP (s y an t b : Str) : Option Parts := (dayP y).bind fun d => if checkD (.str s) (.str t) (.str b) (.int d) (.str an) = true then some (s, t, b, d, an) else none
def cutP (rows : List Str) (b : Str) : Option Parts := match rows with
  | [r0, r1, r2] => mkP (Txt.slice r0 (some 5) none) (Txt.slice r1 (some 4) none) "" (Txt.slice r2 (some 6) none) b
  | [r0, r1, r2, r3] => mkP (Txt.slice r0 (some 5) none) (Txt.slice r1 (some 4) none) (Txt.slice r2 (some 8) none) (Txt.slice r3 (some 6) none) b
  | _ => none
def sameP (x : Str) : Parts → Bool := fun (s, t, b, d, an) => decide (ltext s t b d an = x)
def readP (x : Str) : Option Parts := if Txt.find x "\n\n" < 0 then none else (cutP (Txt.split (Txt.slice x none (some (Txt.find x "\n\n"))) "\n") (Txt.slice x (some (Txt.find x "\n\n" + 2)) none)).filter (sameP x)
theorem mkP_good {s y an t b : Str} {p : Parts} (ht : Asc t) (hb : Asc b) (h : mkP s y an t b = some p) : ∃ d, p = (s, t, b, d, an) ∧ Good s t b d an := by
  unfold mkP at h
  obtain ⟨d, _, h2⟩ := Option.bind_eq_some_iff.mp h
  split at h2
  · rename_i c
    exact ⟨d, (Option.some.inj h2).symm, good_of ht hb c⟩
  · cases h2
theorem cutP_good {R : List Str} {b : Str} {p : Parts} (hR : ∀ r ∈ R, Asc r) (hb : Asc b) (h : cutP R b = some p) : Good p.1 p.2.1 p.2.2.1 p.2.2.2.1 p.2.2.2.2 := by
  unfold cutP at h
  split at h
  · obtain ⟨d, rfl, g⟩ := mkP_good (slice_asc (hR _ (by simp)) _ _) hb h
    exact g
  · obtain ⟨d, rfl, g⟩ := mkP_good (slice_asc (hR _ (by simp)) _ _) hb h
    exact g
  · cases h
theorem mkP_of {s t b : Str} {d : Int} {an : Str} (g : Good s t b d an) : mkP s (dtx d) an t b = some (s, t, b, d, an) := by
  unfold mkP dayP
  rw [if_pos ⟨dtx_len g.d0 g.d1, dtx_figs g.d0 g.d1⟩, dtx_reads g.d0 g.d1]
  show (if _ then _ else _) = _
  rw [if_pos (of_good g)]
theorem read_good {s t b : Str} {d : Int} {an : Str} (g : Good s t b d an) : readP (ltext s t b d an) = some (s, t, b, d, an) := by
  unfold readP
  have e2 : ((Txt.join "\n" (rowsOf s t d an)).length : Int) + 2 = ((Txt.join "\n" (rowsOf s t d an)).length : Int) + (("\n\n" : Str).length : Int) := by rw [gap_len]; rfl
  rw [ltext_find g, if_neg (by omega), ltext_head, e2, ltext_body, ltext_rows g]
  have key : cutP (rowsOf s t d an) b = some (s, t, b, d, an) := by
    by_cases han : an = ""
    · subst han
      rw [rows3]
      show mkP _ _ _ _ _ = _
      rw [show Txt.slice (("from " : Str) ++ s) (some 5) none = s from post_at (n := 5) fromL.1, show Txt.slice (("day " : Str) ++ dtx d) (some 4) none = dtx d from post_at (n := 4) dayL.1, show Txt.slice (("title " : Str) ++ t) (some 6) none = t from post_at (n := 6) titleL.1]
      exact mkP_of g
    · rw [rows4 han]
      show mkP _ _ _ _ _ = _
      rw [show Txt.slice (("from " : Str) ++ s) (some 5) none = s from post_at (n := 5) fromL.1, show Txt.slice (("day " : Str) ++ dtx d) (some 4) none = dtx d from post_at (n := 4) dayL.1, show Txt.slice (("title " : Str) ++ t) (some 6) none = t from post_at (n := 6) titleL.1, show Txt.slice (("answers " : Str) ++ an) (some 8) none = an from post_at (n := 8) answersL.1]
      exact mkP_of g
  rw [key]
  show (if sameP _ _ = true then _ else _) = _
  rw [if_pos (show sameP (ltext s t b d an) (s, t, b, d, an) = true from decide_eq_true rfl)]
theorem read_some {x : Str} {p : Parts} (ha : Asc x) (h : readP x = some p) : Good p.1 p.2.1 p.2.2.1 p.2.2.2.1 p.2.2.2.2 ∧ x = ltext p.1 p.2.1 p.2.2.1 p.2.2.2.1 p.2.2.2.2 := by
  unfold readP at h
  split at h
  · cases h
  · obtain ⟨h1, h2⟩ := Option.filter_eq_some_iff.mp h
    exact ⟨cutP_good (split_asc (slice_asc ha _ _)) (slice_asc ha _ _) h1, (of_decide_eq_true h2).symm⟩
theorem read_law {x : Str} (ha : Asc x) : readP x = lawR (Txt.split x "\n") := by
  cases h : readP x with
  | some p =>
    obtain ⟨g, e⟩ := read_some ha h
    rw [e, law_good g]
  | none =>
    cases h2 : lawR (Txt.split x "\n") with
    | none => rfl
    | some p =>
      obtain ⟨s, t, b, d, an⟩ := p
      obtain ⟨g, e⟩ := law_some ha h2
      rw [e, read_good g] at h
      cases h
inductive spDayX_I (a : Adr) (vs : List V) (H : Hp) (Q : VK) (E : XK) : Prop
  | mk : ∀ y : Str, vs = [.str y] → y.length ≤ 1000 → (∀ d, dayP y = some d → ∀ H', Same H H' → Q (.int d) H') → (dayP y = none → ∀ H', Same H H' → E (.ref a.C_NoLetter) none H') → spDayX_I a vs H Q E
def spDayX (a : Adr) : Sp := fun vs H Q E => spDayX_I a vs H Q E
inductive spCutX_I (a : Adr) (vs : List V) (H : Hp) (Q : VK) (E : XK) : Prop
  | mk : ∀ (p : Addr) (R : List Str) (b : Str), vs = [.ref p, .str b] → H p = some (.lst (R.map V.str)) → R.length ≤ 1001 → (∀ r ∈ R, r.length ≤ 1000 ∧ Asc r) → b.length ≤ 1000 → Asc b →
      (∀ s t b' d an, cutP R b = some (s, t, b', d, an) → ∀ x H', H x = none → Same H H' → IsLet a H' x s t b' d an → Q (.ref x) H') → (cutP R b = none → ∀ H', Same H H' → E (.ref a.C_NoLetter) none H') → spCutX_I a vs H Q E
def spCutX (a : Adr) : Sp := fun vs H Q E => spCutX_I a vs H Q E
inductive spReadX_I (a : Adr) (vs : List V) (H : Hp) (Q : VK) (E : XK) : Prop
  | mk : ∀ y : Str, vs = [.str y] → y.length ≤ 1000 → Asc y → (∀ s t b d an, readP y = some (s, t, b, d, an) → ∀ x H', H x = none → Same H H' → IsLet a H' x s t b d an → Q (.ref x) H') → (readP y = none → ∀ H', Same H H' → E (.ref a.C_NoLetter) none H') → spReadX_I a vs H Q E
def spReadX (a : Adr) : Sp := fun vs H Q E => spReadX_I a vs H Q E
theorem split_le {x : Str} : ∀ p ∈ Txt.split x "\n", p.length ≤ x.length := by
  have key : ∀ (ps : List Str) (p : Str), p ∈ ps → p.length ≤ (Txt.join "\n" ps).length := by
    intro ps p hp
    rw [show Txt.join "\n" ps = Str.join "\n" ps from StrLaws.glued_eq_join _ _, len_list, len_list]
    induction ps with
    | nil => cases hp
    | cons q r ih =>
      cases r with
      | nil =>
        rcases List.mem_cons.mp hp with z | z
        · subst z; exact Nat.le_refl _
        · cases z
      | cons q' r =>
        rw [join_cons2, List.length_append, List.length_cons]
        rcases List.mem_cons.mp hp with z | z
        · subst z; omega
        · have := ih z; omega
  intro p hp
  have := key _ p hp
  rw [split_join] at this
  exact this
theorem split_many (x : Str) : (Txt.split x "\n").length ≤ x.length + 1 := by
  have key : ∀ (ps : List Str), ps ≠ [] → ps.length ≤ (Txt.join "\n" ps).length + 1 := by
    intro ps h
    rw [show Txt.join "\n" ps = Str.join "\n" ps from StrLaws.glued_eq_join _ _, len_list]
    induction ps with
    | nil => exact absurd rfl h
    | cons q r ih =>
      cases r with
      | nil => exact Nat.le_add_left _ _
      | cons q' r =>
        have := ih (by simp)
        rw [join_cons2]
        simp only [List.length_append, List.length_cons] at this ⊢
        omega
  have := key _ (split_ne x)
  rw [split_join] at this
  exact this
section
variable {P : Program} {w : World} {K : PySem.W.Frag} {mg : Str → Option Value} {base : Heap} {a : Adr}
theorem ok_dayX {fd : FuncData} (F : Fun K "read_day" "read_day" sread_day a.f_read_day fd) (T : Txt K mg a) (FF : Funs K a) : FnOk P w K mg base (CXF P w) 2 a.f_read_day fd ["figures"] (spDayX a) := by
  obtain ⟨fdA, F_all_among, b_all_among⟩ := FF.F_all_among
  have G_all_among : FnOk P w K mg base CX0 1 a.f_all_among fdA ["text", "signs"] spAmong := ok_among F_all_among T
  refine F.okX sc_read_day (fun vs H Q E h => ?_) (fun cdv A outer st H vs Q E hr h => ?_)
  · obtain ⟨y, rfl, _⟩ := h; rfl
  · obtain ⟨y, rfl, hl, kg, kb⟩ := h
    have hr_all_among : Room 1 _ := hr
    refine ⟨_, (pss_cons (ps_if (PW.pt (pw_or (pt_cmpR op_ne (pe_callB call_len_str rfl T.b_len PySem.boot_len (pac (pv 0) pa_nil)) (pe_gl rfl T.g_DAY_FIGURES) (nomark _)) (pw_or1 (pt_not (pt_val (pe_call G_all_among hr_all_among rfl T.m_all_among F_all_among.kp b_all_among .nil pass0 (pac (pv 0) (pac (pe_gl rfl T.g_FIGURES) pa_nil)))))))) (pss_one (ps_raise T.x_NoLetter T.mx_NoLetter hr.hd rfl (pac pe_str pa_nil))) pss_nil)
        (pss_one (ps_ret (pe_callTy call_int_text rfl T.b_int PyProof.Rows.boot_int (pac (pv 0) pa_nil))))), ?_⟩
    refine ⟨_, rfl, y, rfl, Nat.le_of_lt (small1000 hl), rfl, _, rfl, ?_⟩
    by_cases h4 : y.length = 4
    · rw [show (!decide (V.int ((y.length : Nat) : Int) = V.int 4)) = false by rw [h4]; rfl]
      refine iteF ⟨_, rfl, y, figS, rfl, hl, fun H1 s1 => ⟨_, rfl, ?_⟩⟩
      cases hf : figB y with
      | true =>
        rw [show (y.cps.toList.all fun c => decide (c ∈ figS.cps.toList)) = true from hf]
        obtain ⟨d, d0, d1, hi, hx⟩ := val4 h4 hf
        have e : dayP y = some d := by unfold dayP; rw [if_pos ⟨h4, hf⟩, hi]
        exact iteF ⟨_, rfl, y, d, rfl, by omega, hi, kg d e H1 s1⟩
      | false =>
        rw [show (y.cps.toList.all fun c => decide (c ∈ figS.cps.toList)) = false from hf]
        exact iteT ⟨by show 1 ≤ sizeLine; decide, kb (by unfold dayP; rw [if_neg fun z => by rw [hf] at z; exact absurd z.2 (by decide)]) H1 s1⟩
    · rw [show (!decide (V.int ((y.length : Nat) : Int) = V.int 4)) = true by rw [decide_eq_false fun z => h4 (by have := V.int.inj z; omega)]; rfl]
      exact iteT (iteT ⟨by show 1 ≤ sizeLine; decide, kb (by unfold dayP; rw [if_neg fun z => h4 z.1]) H (Same.refl H)⟩)
theorem ok_cutX {fd : FuncData} (F : Fun K "cut_letter" "cut_letter" scut_letter a.f_cut_letter fd) (T : Txt K mg a) (FF : Funs K a) : FnOk P w K mg base (CXF P w) 7 a.f_cut_letter fd ["rows", "body"] (spCutX a) := by
  obtain ⟨fdA, F_read_day, b_read_day⟩ := FF.F_read_day
  have G_read_day : FnOk P w K mg base (CXF P w) 2 a.f_read_day fdA ["figures"] (spDayX a) := ok_dayX F_read_day T FF
  obtain ⟨fdI, F_init, b_Letter_init, _⟩ := FF.F_Letter_init
  have G_Letter_init : FnOk P w K mg base (CXF P w) 5 a.f_Letter_init fdI ["self", "sender", "title", "body", "day", "answers"] (spInitD a) := ok_initD F_init T FF
  refine F.okX sc_cut_letter (fun vs H Q E h => ?_) (fun cdv A outer st H vs Q E hr h => ?_)
  · obtain ⟨p, R, b, rfl, _⟩ := h; rfl
  · obtain ⟨p, R, b, rfl, hp, hm, hR, hb, hba, kg, kb⟩ := h
    have hr_read_day : Room 2 _ := hr.mono (by decide)
    have hr_Letter_mk : Room 6 _ := hr
    have hsm : ∀ n : Nat, n ≤ 1000 → n ≤ sizeLine := fun n h => Nat.le_of_lt (small1000 h)
    refine ⟨_, (pss_cons (ps_if (PW.pt (pw_and (pt_cmpR op_ne (pe_callB call_len_seq rfl T.b_len PySem.boot_len (pac (pv 0) pa_nil)) pe_int (nomark _)) (pw_and1 (pt_cmpR op_ne (pe_callB call_len_seq rfl T.b_len PySem.boot_len (pac (pv 0) pa_nil)) pe_int (nomark _))))) (pss_one (ps_raise T.x_NoLetter T.mx_NoLetter hr.hd rfl (pac pe_str pa_nil))) pss_nil)
        (pss_cons (ps_set (i := 2) sc_cut_letter.nd rfl (Or.inl rfl) (pe_slice sl_str (pe_ix ix_list (pv 0) pe_int (fun _ _ => rfl)) (po_some (pe_callB call_len_str rfl T.b_len PySem.boot_len (pac (pe_gl rfl T.g_FROM) pa_nil))) po_none))
        (pss_cons (ps_set (i := 3) sc_cut_letter.nd rfl (Or.inl rfl) (pe_callX (R := fun _ => E) G_read_day hr_read_day rfl T.m_read_day F_read_day.kp b_read_day .nil passF (pac (pe_slice sl_str (pe_ix ix_list (pv 0) pe_int (fun _ _ => rfl)) (po_some (pe_callB call_len_str rfl T.b_len PySem.boot_len (pac (pe_gl rfl T.g_DAY) pa_nil))) po_none) pa_nil)))
        (pss_cons (ps_set (i := 4) sc_cut_letter.nd rfl (Or.inl rfl) (pe_ifExp (pt_cmpR op_eq (pe_callB call_len_seq rfl T.b_len PySem.boot_len (pac (pv 0) pa_nil)) pe_int (nomark _)) (pe_slice sl_str (pe_ix ix_list (pv 0) pe_int (fun _ _ => rfl)) (po_some (pe_callB call_len_str rfl T.b_len PySem.boot_len (pac (pe_gl rfl T.g_ANSWERS) pa_nil))) po_none) pe_str))
        (pss_cons (ps_set (i := 5) sc_cut_letter.nd rfl (Or.inl rfl) (pe_slice sl_str (pe_ix ix_list (pv 0) (pe_un un_neg pe_int) (fun _ _ => rfl)) (po_some (pe_callB call_len_str rfl T.b_len PySem.boot_len (pac (pe_gl rfl T.g_TITLE) pa_nil))) po_none))
        (pss_one (ps_ret (pe_makeX (R := fun _ => E) T.k_Letter G_Letter_init hr_Letter_mk rfl T.mc_Letter b_Letter_init .nil passF (pac (pv 2) (pac (pv 5) (pac (pv 1) (pac (pv 3) (pac (pv 4) pa_nil))))))))))))), ?_⟩
    have lF : (("from " : Str).length : Int) = 5 := by rw [fromL.1]; rfl
    have lD : (("day " : Str).length : Int) = 4 := by rw [dayL.1]; rfl
    have lA : (("answers " : Str).length : Int) = 8 := by rw [answersL.1]; rfl
    have lT : (("title " : Str).length : Int) = 6 := by rw [titleL.1]; rfl
    have hS0 : SqL K H p (R.map V.str) := SqL.of hp
    have no : R.length ≠ 3 → R.length ≠ 4 → cutP R b = none := fun h3 h4 => by
      unfold cutP
      split
      · exact absurd rfl h3
      · exact absurd rfl h4
      · rfl
    refine ⟨_, rfl, p, _, rfl, .inl hS0, rfl, _, rfl, ?_⟩
    have d3 : (!decide (V.int (((R.map V.str).length : Nat) : Int) = V.int 3)) = !decide (R.length = 3) := by
      rw [List.length_map]
      by_cases h : R.length = 3
      · rw [h]; rfl
      · rw [decide_eq_false h, decide_eq_false fun z => h (by have := V.int.inj z; omega)]
    have d4 : (!decide (V.int (((R.map V.str).length : Nat) : Int) = V.int 4)) = !decide (R.length = 4) := by
      rw [List.length_map]
      by_cases h : R.length = 4
      · rw [h]; rfl
      · rw [decide_eq_false h, decide_eq_false fun z => h (by have := V.int.inj z; omega)]
    rw [d3]
    by_cases h3 : R.length = 3
    · rw [decide_eq_true h3]
      refine iteF (iteF ?_)
      match R, h3, hR, hp, kg, kb with
      | [r0, r1, r2], _, hR, hp, kg, kb =>
        have hS : SqL K H p ([r0, r1, r2].map V.str) := SqL.of hp
        obtain ⟨z0, a0⟩ := hR r0 (by simp)
        obtain ⟨z1, a1⟩ := hR r1 (by simp)
        obtain ⟨z2, a2⟩ := hR r2 (by simp)
        refine ⟨_, rfl, p, _, _, _, rfl, rfl, hS, rfl, _, rfl, (by rw [fromL.1]; decide), _, rfl, _, rfl, hsm _ z0, ?_⟩
        rw [lF]
        refine ⟨_, rfl, p, _, _, _, rfl, rfl, hS, rfl, _, rfl, (by rw [dayL.1]; decide), _, rfl, _, rfl, hsm _ z1, ?_⟩
        rw [lD]
        refine ⟨_, rfl, Nat.le_trans (sl_le _ _ _) z1, fun d hd H1 s1 => ?_, fun hd H1 s1 => kb (by show mkP _ _ _ _ _ = none; unfold mkP; rw [hd]; rfl) H1 s1⟩
        have hS1 : SqL K H1 p ([r0, r1, r2].map V.str) := SqL.of (s1 _ _ hp)
        refine ⟨_, rfl, p, _, rfl, .inl hS1, rfl, _, rfl, iteF ?_⟩
        refine ⟨_, rfl, _, rfl, p, _, _, _, rfl, rfl, hS1, rfl, _, rfl, (by rw [titleL.1]; decide), _, rfl, _, rfl, hsm _ z2, ?_⟩
        rw [lT]
        refine ⟨_, rfl, _, rfl, _, rfl, _, rfl, _, rfl, fun x dx nx nd ne => ?_⟩
        have s2 : Same H1 (upd (upd H1 dx (.own x)) x (.ins a.C_Letter dx [])) := fun c o e => by rw [upd_ne (ne_of_none e nx), upd_ne (ne_of_none e nd)]; exact e
        refine ⟨x, dx, _, _, _, _, _, _, _, _, _, _, rfl, upd_same, .str (Nat.le_trans (sl_le _ _ _) z0) (slice_asc a0 _ _), .str (Nat.le_trans (sl_le _ _ _) z2) (slice_asc a2 _ _), .str hb hba, .int d, .str (by decide +kernel) (asc_of (by decide +kernel)), fun hg H2 k2 e2 => ⟨rfl, ?_⟩, fun hg H2 s3 => ?_⟩
        · exact kg _ _ _ d _ (by show mkP _ _ _ _ _ = _; unfold mkP; rw [hd]; show (if _ then _ else _) = _; rw [if_pos hg]) x H2 (s1.free nx) (s1.trans fun c o e => k2 c o (ne_of_none e nx) (s2 _ _ e)) ⟨dx, e2⟩
        · exact kb (by show mkP _ _ _ _ _ = _; unfold mkP; rw [hd]; show (if _ then _ else _) = _; rw [if_neg (by rw [hg]; decide)]) H2 (s1.trans (s2.trans s3))
    · rw [decide_eq_false h3]
      refine iteT ⟨_, rfl, p, _, rfl, .inl hS0, rfl, _, rfl, ?_⟩
      rw [d4]
      by_cases h4 : R.length = 4
      · rw [decide_eq_true h4]
        refine iteF ?_
        match R, h4, hR, hp, kg, kb with
        | [r0, r1, r2, r3], _, hR, hp, kg, kb =>
          have hS : SqL K H p ([r0, r1, r2, r3].map V.str) := SqL.of hp
          obtain ⟨z0, a0⟩ := hR r0 (by simp)
          obtain ⟨z1, a1⟩ := hR r1 (by simp)
          obtain ⟨z2, a2⟩ := hR r2 (by simp)
          obtain ⟨z3, a3⟩ := hR r3 (by simp)
          refine ⟨_, rfl, p, _, _, _, rfl, rfl, hS, rfl, _, rfl, (by rw [fromL.1]; decide), _, rfl, _, rfl, hsm _ z0, ?_⟩
          rw [lF]
          refine ⟨_, rfl, p, _, _, _, rfl, rfl, hS, rfl, _, rfl, (by rw [dayL.1]; decide), _, rfl, _, rfl, hsm _ z1, ?_⟩
          rw [lD]
          refine ⟨_, rfl, Nat.le_trans (sl_le _ _ _) z1, fun d hd H1 s1 => ?_, fun hd H1 s1 => kb (by show mkP _ _ _ _ _ = none; unfold mkP; rw [hd]; rfl) H1 s1⟩
          have hS1 : SqL K H1 p ([r0, r1, r2, r3].map V.str) := SqL.of (s1 _ _ hp)
          refine ⟨_, rfl, p, _, rfl, .inl hS1, rfl, _, rfl, iteT ?_⟩
          refine ⟨_, rfl, p, _, _, _, rfl, rfl, hS1, rfl, _, rfl, (by rw [answersL.1]; decide), _, rfl, _, rfl, hsm _ z2, ?_⟩
          rw [lA]
          refine ⟨_, rfl, _, rfl, p, _, _, _, rfl, rfl, hS1, rfl, _, rfl, (by rw [titleL.1]; decide), _, rfl, _, rfl, hsm _ z3, ?_⟩
          rw [lT]
          refine ⟨_, rfl, _, rfl, _, rfl, _, rfl, _, rfl, fun x dx nx nd ne => ?_⟩
          have s2 : Same H1 (upd (upd H1 dx (.own x)) x (.ins a.C_Letter dx [])) := fun c o e => by rw [upd_ne (ne_of_none e nx), upd_ne (ne_of_none e nd)]; exact e
          refine ⟨x, dx, _, _, _, _, _, _, _, _, _, _, rfl, upd_same, .str (Nat.le_trans (sl_le _ _ _) z0) (slice_asc a0 _ _), .str (Nat.le_trans (sl_le _ _ _) z3) (slice_asc a3 _ _), .str hb hba, .int d, .str (Nat.le_trans (sl_le _ _ _) z2) (slice_asc a2 _ _), fun hg H2 k2 e2 => ⟨rfl, ?_⟩, fun hg H2 s3 => ?_⟩
          · exact kg _ _ _ d _ (by show mkP _ _ _ _ _ = _; unfold mkP; rw [hd]; show (if _ then _ else _) = _; rw [if_pos hg]) x H2 (s1.free nx) (s1.trans fun c o e => k2 c o (ne_of_none e nx) (s2 _ _ e)) ⟨dx, e2⟩
          · exact kb (by show mkP _ _ _ _ _ = _; unfold mkP; rw [hd]; show (if _ then _ else _) = _; rw [if_neg (by rw [hg]; decide)]) H2 (s1.trans (s2.trans s3))
      · rw [decide_eq_false h4]
        exact iteT ⟨by show 1 ≤ sizeLine; decide, kb (no h3 h4) H (Same.refl H)⟩
theorem ok_readX {fd : FuncData} (F : Fun K "read_letter" "read_letter" sread_letter a.f_read_letter fd) (T : Txt K mg a) (FF : Funs K a) : FnOk P w K mg base (CXF P w) 8 a.f_read_letter fd ["text"] (spReadX a) := by
  obtain ⟨fdA, F_cut_letter, b_cut_letter⟩ := FF.F_cut_letter
  have G_cut_letter : FnOk P w K mg base (CXF P w) 7 a.f_cut_letter fdA ["rows", "body"] (spCutX a) := ok_cutX F_cut_letter T FF
  obtain ⟨fdB, F_letter_text, b_letter_text⟩ := FF.F_letter_text
  have G_letter_text : FnOk P w K mg base CX0 1 a.f_letter_text fdB ["letter"] (spLText a) := ok_ltext F_letter_text T
  refine F.okX sc_read_letter (fun vs H Q E h => ?_) (fun cdv A outer st H vs Q E hr h => ?_)
  · obtain ⟨y, rfl, _⟩ := h; rfl
  · obtain ⟨y, rfl, hl, ha, kg, kb⟩ := h
    have hr_cut_letter : Room 7 _ := hr
    have hr_letter_text : Room 1 _ := hr.mono (by decide)
    have hsm : ∀ n : Nat, n ≤ 1000 → n ≤ sizeLine := fun n h => Nat.le_of_lt (small1000 h)
    refine ⟨_, (pss_cons (ps_if (pt_not (pt_val (pe_callB call_isinst rfl T.b_isinstance PyProof.Rows.boot_isinstance (pac (pv 0) (pac (pe_bltn (v := .ty "str") rfl T.b_str PyProof.Rows.boot_str rfl) pa_nil))))) (pss_one (ps_raise T.x_NoLetter T.mx_NoLetter hr.hd rfl (pac pe_str pa_nil))) pss_nil)
        (pss_cons (ps_set (i := 1) sc_read_letter.nd rfl (Or.inl rfl) (pe_bm PySem.F.plainAttrs_str PySem.F.slot_str_find PySem.F.type_str_find mt_find (pv 0) (pac (pe_gl rfl T.g_GAP) pa_nil)))
        (pss_cons (ps_if (pt_cmpR op_lt (pv 1) pe_int (nomark _)) (pss_one (ps_raise T.x_NoLetter T.mx_NoLetter hr.hd rfl (pac pe_str pa_nil))) pss_nil)
        (pss_cons (ps_set (i := 2) sc_read_letter.nd rfl (Or.inl rfl) (pe_callX (R := fun _ => E) G_cut_letter hr_cut_letter rfl T.m_cut_letter F_cut_letter.kp b_cut_letter .nil passF (pac (pe_bm PySem.F.plainAttrs_str PySem.F.slot_str_split PySem.F.type_str_split mt_split1 (pe_slice sl_str (pv 0) po_none (po_some (pv 1))) (pac pe_str pa_nil)) (pac (pe_slice sl_str (pv 0) (po_some (pe_op op_add (pv 1) (pe_callB call_len_str rfl T.b_len PySem.boot_len (pac (pe_gl rfl T.g_GAP) pa_nil)))) po_none) pa_nil))))
        (pss_cons (ps_if (pt_cmpR op_ne (pe_call G_letter_text hr_letter_text rfl T.m_letter_text F_letter_text.kp b_letter_text .nil pass0 (pac (pv 2) pa_nil)) (pv 0) (nomark _)) (pss_one (ps_raise T.x_NoLetter T.mx_NoLetter hr.hd rfl (pac pe_str pa_nil))) pss_nil)
        (pss_one (ps_ret (pv 2)))))))), ?_⟩
    refine ⟨_, rfl, _, _, _, _, _, rfl, rfl, TyOf.str _, kitSS, _, rfl, iteF ?_⟩
    refine ⟨_, rfl, rfl, _, _, rfl, rfl, ?_⟩
    refine ⟨_, rfl, _, _, rfl, rfl, _, rfl, ?_⟩
    by_cases hf : Txt.find y "\n\n" < 0
    · rw [decide_eq_true hf]
      exact iteT ⟨by show 1 ≤ sizeLine; decide, kb (by unfold readP; rw [if_pos hf]) H (Same.refl H)⟩
    · rw [decide_eq_false hf]
      refine iteF ⟨_, rfl, _, rfl, _, rfl, _, rfl, hsm _ hl, ?_⟩
      have l1 : (Txt.slice y none (some (Txt.find y "\n\n"))).length ≤ 1000 := Nat.le_trans (sl_le _ _ _) hl
      refine ⟨rfl, _, _, rfl, rfl, (by decide +kernel), Nat.le_trans l1 (by decide), fun l nl => ?_⟩
      have eR : readP y = (cutP (Txt.split (Txt.slice y none (some (Txt.find y "\n\n"))) "\n") (Txt.slice y (some (Txt.find y "\n\n" + 2)) none)).filter (sameP y) := by unfold readP; rw [if_neg hf]
      have hA : ∀ r ∈ Txt.split (Txt.slice y none (some (Txt.find y "\n\n"))) "\n", r.length ≤ 1000 ∧ Asc r := fun r hr => ⟨Nat.le_trans (split_le r hr) l1, split_asc (slice_asc ha _ _) r hr⟩
      have hM : (Txt.split (Txt.slice y none (some (Txt.find y "\n\n"))) "\n").length ≤ 1001 := Nat.le_trans (split_many _) (Nat.add_le_add_right l1 1)
      have s1 : Same H (upd H l (.lst ((Txt.split (Txt.slice y none (some (Txt.find y "\n\n"))) "\n").map V.str))) := Same.upd_new nl
      refine ⟨_, rfl, _, rfl, _, rfl, (by rw [gap_len]; decide), _, _, rfl, rfl, _, rfl, _, rfl, hsm _ hl, ?_⟩
      rw [show (("\n\n" : Str).length : Int) = 2 by rw [gap_len]; rfl]
      have l2 : (Txt.slice y (some (Txt.find y "\n\n" + 2)) none).length ≤ 1000 := Nat.le_trans (sl_le _ _ _) hl
      have a2 : Asc (Txt.slice y (some (Txt.find y "\n\n" + 2)) none) := slice_asc ha _ _
      refine ⟨l, _, _, rfl, upd_same, hM, hA, l2, a2, fun s t b d an hc x H2 nx s2 hL => ?_, fun hc H2 s2 => kb (by rw [eR, hc]; rfl) H2 (s1.trans s2)⟩
      have g := cutP_good (fun r hr => (hA r hr).2) a2 hc
      have s3 := s1.trans s2
      refine ⟨_, rfl, x, s, t, b, d, an, rfl, hL, g, fun H3 s4 => ?_⟩
      refine ⟨_, rfl, rfl, _, rfl, ?_⟩
      by_cases he : ltext s t b d an = y
      · rw [show (!decide (V.str (ltext s t b d an) = V.str y)) = false by rw [he, decide_eq_true rfl]; rfl]
        refine iteF ⟨_, rfl, kg s t b d an (by rw [eR, hc]; show (if sameP y (s, t, b, d, an) = true then _ else _) = _; rw [if_pos (show sameP y (s, t, b, d, an) = true from decide_eq_true he)]) x H3 (s1.free nx) (s3.trans s4) (hL.mono s4)⟩
      · rw [show (!decide (V.str (ltext s t b d an) = V.str y)) = true by rw [decide_eq_false fun z => he (V.str.inj z)]; rfl]
        exact iteT ⟨by show 1 ≤ sizeLine; decide, kb (by rw [eR, hc]; show (if sameP y (s, t, b, d, an) = true then _ else _) = _; rw [if_neg (show ¬ sameP y (s, t, b, d, an) = true from fun z => he (of_decide_eq_true z))]) H3 (s3.trans s4)⟩
end
/-- a comprehension over a text with a test -/
theorem comp_strF {x : Str} {fr : List (Nat × Str)} {tt : TT} {te : TE} {σ : St} {H1 : Hp} {Q : VK} (pr : Nat → Bool) (hz : x.cps.size ≤ sizeLine)
    (htt : ∀ (c : Nat) (H3 : Hp) (Q' : Bool → Hp → Prop), c ∈ x.cps.toList → Q' (pr c) H3 → tt (some (.str ⟨#[c]⟩) :: frV σ fr) H3 Q')
    (hte : ∀ (c : Nat) (H3 : Hp) (Q' : VK), c ∈ x.cps.toList → Q' (.str ⟨#[c]⟩) H3 → te (some (.str ⟨#[c]⟩) :: frV σ fr) H3 Q')
    (hQ : ∀ D, H1 D = none → Q (.ref D) (upd H1 D (.lst ((x.cps.toList.filter pr).map fun c => V.str ⟨#[c]⟩)))) :
    compGoal (Its x) fr tt te σ H1 Q := by
  unfold compGoal
  intro D hD
  refine ⟨fun i m ys H2 => m = x.cps.size - i ∧ i ≤ x.cps.size ∧ ys = ((x.cps.toList.take i).filter pr).map (fun c => V.str ⟨#[c]⟩) ∧ H2 = upd H1 D (.lst ys), ⟨x.cps.size, by simp, Nat.zero_le _, by simp, rfl⟩, ?_⟩
  rintro i m ys H2 ⟨rfl, hi, rfl, rfl⟩
  refine ⟨upd_same, ?_⟩
  by_cases hlt : i < x.cps.size
  · refine .inr ⟨hlt, ?_⟩
    rintro v H3 ⟨rfl, c, hc, rfl⟩
    have hcl : x.cps.toList[i]? = some c := by simpa using hc
    have hm := List.mem_of_getElem? hcl
    have et : x.cps.toList.take (i + 1) = x.cps.toList.take i ++ [c] := by rw [List.take_add_one, hcl]; rfl
    refine htt c _ _ hm ?_
    cases hp : pr c
    · refine iteF ⟨x.cps.size - (i + 1), by omega, rfl, hlt, ?_, rfl⟩
      rw [et, List.filter_append, List.filter_cons, hp]
      simp
    · refine iteT (hte c _ _ hm ⟨upd_same, ?_, x.cps.size - (i + 1), by omega, rfl, hlt, ?_, upd_upd⟩)
      · have := List.length_filter_le pr (x.cps.toList.take i)
        rw [List.length_take] at this
        rw [List.length_map]
        omega
      · rw [et, List.filter_append, List.filter_cons, hp]
        simp
  · have e : i = x.cps.size := by omega
    subst e
    have e2 : x.cps.toList.take x.cps.size = x.cps.toList := List.take_of_length_le (by simp)
    refine .inl ⟨rfl, ?_⟩
    rw [e2]
    exact hQ D hD
theorem filter_nil_iff {α : Type} (p : α → Bool) (l : List α) : (l.filter fun x => !p x) = [] ↔ l.all p = true := by
  rw [List.filter_eq_nil_iff, List.all_eq_true]
  constructor
  · intro h x hx
    have := h x hx
    cases e : p x with
    | true => rfl
    | false => rw [e] at this; exact absurd rfl this
  · intro h x hx
    rw [h x hx]
    decide
theorem rds_signs {K : PySem.W.Frag} {H : Hp} : ∀ l : List Nat, RDs K H (l.map fun c => V.str ⟨#[c]⟩) (l.map fun c => PyData.str ⟨#[c]⟩)
  | [] => .nil
  | _ :: r => .cons (.str _) (rds_signs r)
inductive spLIsW_I (vs : List V) (H : Hp) (Q : VK) : Prop
  | mk : ∀ x : Str, vs = [.str x] → x.length ≤ 1000 → Asc x → (∀ H', Same H H' → Q (.bl (isW x)) H') → spLIsW_I vs H Q
def spLIsW : Sp := fun vs H Q _ => spLIsW_I vs H Q
theorem shaped_signs {x : Str} (h : Asc x) (p : Nat → Bool) : SeqAt.shaped (.list ((x.cps.toList.filter p).map fun c => PyData.str ⟨#[c]⟩)) = true := by
  have e : ((x.cps.toList.filter p).map fun c => PyData.str ⟨#[c]⟩) = ((x.cps.toList.filter p).map fun c => (⟨#[c]⟩ : Str)).map PyData.str := by rw [List.map_map]; rfl
  rw [e]
  exact shaped_strs fun y hy => by
    obtain ⟨c, hc, rfl⟩ := List.mem_map.mp hy
    exact fun d hd => by
      rw [List.mem_singleton.mp hd]
      exact h c (List.mem_filter.mp hc).1
section
variable {P : Program} {w : World} {K : PySem.W.Frag} {mg : Str → Option Value} {base : Heap} {a : Adr}
theorem ok_lisw {fd : FuncData} (F : Fun K "_law_is_word" "_law_is_word" sl_is_word a.f_l_is_word fd) (T : Txt K mg a) : FnOk P w K mg base CX0 1 a.f_l_is_word fd ["_law_text"] spLIsW := by
  refine F.ok sc_l_is_word (fun vs H Q E h => ?_) (fun cdv A outer s H vs Q E hr h => ?_)
  · obtain ⟨x, rfl, _⟩ := h; rfl
  · obtain ⟨x, rfl, hx, ha, k⟩ := h
    have hu64 := hr.units
    refine ⟨_, (pss_cons (ps_if (pt_not (pt_chain op_lt op_lt pe_int (pe_callB call_len_str rfl T.b_len PySem.boot_len (pac (pv 0) pa_nil)) pe_int)) (pss_one (ps_ret pe_bl)) pss_nil)
        (pss_one (ps_ret (pe_cmpR (op_eqD hu64) (pe_comp (sc := defScope sl_is_word) (N := n_l_is_word) (fr := []) ⟨rfl, rfl, by decide +kernel, by decide +kernel, by decide +kernel, by decide +kernel, by decide +kernel⟩ rfl rfl rfl (pi_str (pv 0)) (fun _ _ _ _ => pts_one (pt_cmpR op_notin_str (pv 0) pe_str (by with_unfolding_all rfl))) (fun _ _ _ _ => (pv 0))) (pe_lstS pas_nil) (nomark _))))), ?_⟩
    refine ⟨_, rfl, x, rfl, Nat.le_of_lt (small1000 hx), _, _, rfl, rfl, _, rfl, ?_⟩
    have hdef : isW x = (decide (1 ≤ (x.length : Int)) && (decide ((x.length : Int) ≤ 20) && x.cps.toList.all fun c => decide (c ∈ aZ.cps.toList))) := rfl
    by_cases h1 : (0 : Int) < (x.length : Int)
    · rw [decide_eq_true h1]
      rw [decide_eq_true (by omega), Bool.true_and] at hdef
      refine iteT ⟨_, _, rfl, rfl, _, rfl, ?_⟩
      by_cases h2 : (x.length : Int) < 21
      · rw [decide_eq_true h2]
        rw [decide_eq_true (by omega), Bool.true_and] at hdef
        refine iteF ⟨_, rfl, x, rfl, comp_strF (fun c => !decide (c ∈ aZ.cps.toList)) (Nat.le_of_lt (small1000 hx)) ?_ ?_ ?_⟩
        · intro c H3 Q' hc q
          refine ⟨_, rfl, _, _, rfl, rfl, _, rfl, ?_⟩
          rw [StrLaws.found_one]
          exact q
        · intro c H3 Q' hc q
          exact ⟨_, rfl, q⟩
        · intro D hD
          refine ⟨by show 0 ≤ sizeLine; decide, fun l hl => ?_⟩
          have e1 : (upd (upd H D (.lst ((x.cps.toList.filter fun c => !decide (c ∈ aZ.cps.toList)).map fun c => V.str ⟨#[c]⟩))) l (.lst [])) D = some (.lst ((x.cps.toList.filter fun c => !decide (c ∈ aZ.cps.toList)).map fun c => V.str ⟨#[c]⟩)) := by
            rw [upd_ne (ne_of_none upd_same hl)]; exact upd_same
          refine ⟨_, .list [], .lst (SqL.of e1) (rds_signs _), .lst (SqL.of upd_same) .nil, shaped_signs ha _, rfl, ?_⟩
          have hres : PyData.eqv (.list ((x.cps.toList.filter fun c => !decide (c ∈ aZ.cps.toList)).map fun c => PyData.str ⟨#[c]⟩)) (.list []) = isW x := by
            rw [hdef]
            have hi := filter_nil_iff (fun c => decide (c ∈ aZ.cps.toList)) x.cps.toList
            cases hall : x.cps.toList.all fun c => decide (c ∈ aZ.cps.toList) with
            | true => rw [hi.mpr hall]; rfl
            | false =>
              cases hf : x.cps.toList.filter fun c => !decide (c ∈ aZ.cps.toList) with
              | nil => rw [hi.mp hf] at hall; cases hall
              | cons y r => rfl
          rw [hres]
          exact k _ ((Same.upd_new hD).trans (Same.upd_new hl))
      · rw [decide_eq_false h2]
        rw [decide_eq_false (by omega), Bool.false_and] at hdef
        refine iteT ?_
        rw [← hdef]
        exact k H (Same.refl H)
    · rw [decide_eq_false h1]
      rw [decide_eq_false (by omega), Bool.false_and] at hdef
      refine iteF ⟨_, rfl, iteT ?_⟩
      rw [← hdef]
      exact k H (Same.refl H)
end
theorem rows_sum : ∀ (l : List Str), (∀ p ∈ l, p.length ≤ 1000) → (l.map (·.length)).sum ≤ 1000 * l.length
  | [], _ => Nat.le_refl _
  | p :: r, h => by
    have h1 := h p List.mem_cons_self
    have h2 := rows_sum r fun q hq => h q (List.mem_cons_of_mem _ hq)
    rw [List.map_cons, List.sum_cons, List.length_cons]
    omega
theorem nl_len : ("\n" : Str).length = 1 := by decide +kernel
theorem rows_fit1 {l : List Str} (h : ∀ p ∈ l, p.length ≤ 1000) (hl : l.length ≤ 3003) : (l.map (·.length)).sum + l.length * ("\n" : Str).length ≤ 16777216 := by
  have := rows_sum l h
  rw [nl_len]
  omega
inductive spPIn_I (vs : List V) (H : Hp) (Q : VK) : Prop
  | mk : ∀ x : Str, vs = [.str x] → x.length ≤ 1000 → Asc x → (lawR (Txt.split x "\n") = none → ∀ H', Same H H' → Q .non H') →
      (∀ s t b d an, lawR (Txt.split x "\n") = some (s, t, b, d, an) → ∀ p H', H p = none → Same H H' → H' p = some (.tup [.str s, .str t, .str b, .int d, .str an]) → Q (.ref p) H') → spPIn_I vs H Q
def spPIn : Sp := fun vs H Q _ => spPIn_I vs H Q
section
variable {P : Program} {w : World} {K : PySem.W.Frag} {mg : Str → Option Value} {base : Heap} {a : Adr}
theorem ok_lpin {fd : FuncData} (F : Fun K "_law_parts_in" "_law_parts_in" sl_parts_in a.f_l_parts_in fd) (T : Txt K mg a) (FF : Funs K a) : FnOk P w K mg base CX0 2 a.f_l_parts_in fd ["_law_text"] spPIn := by
  obtain ⟨fdW, F_l_is_word, b_l_is_word⟩ := FF.F_l_is_word
  have G_l_is_word : FnOk P w K mg base CX0 1 a.f_l_is_word fdW ["_law_text"] spLIsW := ok_lisw F_l_is_word T
  refine F.ok sc_l_parts_in (fun vs H Q E h => ?_) (fun cdv A outer s H vs Q E hr h => ?_)
  · obtain ⟨x, rfl, _⟩ := h; rfl
  · obtain ⟨x, rfl, hx, ha, kn, ks⟩ := h
    have hr_l_is_word : Room 1 _ := hr
    have hsm : ∀ n : Nat, n ≤ 1000 → n ≤ sizeLine := fun n h => Nat.le_of_lt (small1000 h)
    obtain ⟨t4, h4, sp4⟩ : ∃ t, PSs (cxOf CX0 P w K mg base n_l_parts_in "_law_parts_in" (defScope sl_parts_in) a.f_l_parts_in cdv A outer s H E).nox ((defBody sl_parts_in).drop 4) t ∧
        ∀ (H1 : Hp) (l : Addr) (r0 r1 r2 r3 : Str) (bs : List Str) (an : Str), Same H H1 → H1 l = some (.lst ((r0 :: r1 :: r2 :: r3 :: bs).map V.str)) → (∀ r ∈ r0 :: r1 :: r2 :: r3 :: bs, r.length ≤ 1000 ∧ Asc r) → bs.length ≤ 1000 → (Txt.join "\n" bs).length ≤ 1000 → r1.length = 8 → Txt.slice r1 none (some 4) = "day " →
          lawR (Txt.split x "\n") = law2 r0 r1 r2 r3 bs an →
          t { nx := fun _ H' => Q .non H', rt := Q } [some (.str x), some (.ref l), some (.str an), none, none] H1 := by
      refine ⟨_, (pss_cons (ps_if (PW.pt (pw_or (pt_cmpR op_ne (pe_slice sl_str (pe_ix ix_list (pv 1) pe_int (fun _ _ => rfl)) po_none (po_some pe_int)) pe_str (nomark _)) (pw_or (pt_cmpR op_ne (pe_ix ix_list (pv 1) pe_int (fun _ _ => rfl)) pe_str (nomark _)) (pw_or (pt_cmpR op_gt (pe_callB call_len_str rfl T.b_len PySem.boot_len (pac (pe_ix ix_list (pv 1) pe_int (fun _ _ => rfl)) pa_nil)) pe_int (nomark _)) (pw_or1 (pt_not (pt_val (pe_call G_l_is_word hr_l_is_word rfl T.m_l_is_word F_l_is_word.kp b_l_is_word .nil pass0 (pac (pe_slice sl_str (pe_ix ix_list (pv 1) pe_int (fun _ _ => rfl)) (po_some pe_int) po_none) pa_nil))))))))) (pss_one (ps_ret pe_non)) pss_nil)
        (pss_cons (ps_set (i := 3) sc_l_parts_in.nd rfl (Or.inl rfl) (pe_bm PySem.F.plainAttrs_str PySem.F.slot_str_join PySem.F.type_str_join mt_join pe_str (pac (pe_slice sl_list (pv 1) (po_some pe_int) po_none) pa_nil)))
        (pss_cons (ps_for PassesOwn.never rfl (pi_str (pe_slice sl_str (pe_ix ix_list (pv 1) pe_int (fun _ _ => rfl)) (po_some pe_int) po_none)) (pg_name (i := 4) sc_l_parts_in.nd rfl (Or.inl rfl)) (pss_one (ps_if (pt_cmpR op_notin_str (pv 4) pe_str (by with_unfolding_all rfl)) (pss_one (ps_ret pe_non)) pss_nil)))
        (pss_cons (ps_if (pt_cmpR op_gt (pe_callB call_len_str rfl T.b_len PySem.boot_len (pac (pv 3) pa_nil)) pe_int (nomark _)) (pss_one (ps_ret pe_non)) pss_nil)
        (pss_one (ps_ret (pe_tupS (pas_cons (pe_slice sl_str (pe_ix ix_list (pv 1) pe_int (fun _ _ => rfl)) (po_some pe_int) po_none) (pas_cons (pe_slice sl_str (pe_ix ix_list (pv 1) pe_int (fun _ _ => rfl)) (po_some pe_int) po_none) (pas_cons (pv 3) (pas_cons (pe_callTy call_int_text rfl T.b_int PyProof.Rows.boot_int (pac (pe_slice sl_str (pe_ix ix_list (pv 1) pe_int (fun _ _ => rfl)) (po_some pe_int) po_none) pa_nil)) (pas_cons (pv 2) pas_nil)))))))))))), fun H1 l r0 r1 r2 r3 bs an s1 hl hR hbn hbj h8 hday hlaw => ?_⟩
      obtain ⟨z0, a0⟩ := hR r0 (by simp)
      obtain ⟨z1, a1⟩ := hR r1 (by simp)
      obtain ⟨z2, a2⟩ := hR r2 (by simp)
      have hS : SqL K H1 l ((r0 :: r1 :: r2 :: r3 :: bs).map V.str) := SqL.of hl
      have i0 : atI ((r0 :: r1 :: r2 :: r3 :: bs).map V.str) 0 = some (.str r0) := atI_nat (j := 0) rfl
      have i1 : atI ((r0 :: r1 :: r2 :: r3 :: bs).map V.str) 1 = some (.str r1) := atI_nat (j := 1) rfl
      have i2 : atI ((r0 :: r1 :: r2 :: r3 :: bs).map V.str) 2 = some (.str r2) := atI_nat (j := 2) rfl
      have i3 : atI ((r0 :: r1 :: r2 :: r3 :: bs).map V.str) 3 = some (.str r3) := atI_nat (j := 3) rfl
      have l4 : (Txt.slice r1 (some 4) none).length = 4 := by
        have p1 : r1 = _ := pre_of (n := 4) hday
        have := congrArg Str.length p1
        rw [cat_len, dayL.1, h8] at this
        show (Txt.slice r1 (some ((4 : Nat) : Int)) none).length = 4
        omega
      have no : (∀ H', Same H H' → law2 r0 r1 r2 r3 bs an = none → Q .non H') := fun H' sH e => kn (hlaw.trans e) H' sH
      refine ⟨_, rfl, l, _, _, _, rfl, rfl, hS, i2, _, rfl, r2, rfl, hsm _ z2, rfl, _, rfl, ?_⟩
      rw [str_ne]
      by_cases c1 : Txt.slice r2 none (some 6) = "title "
      case neg =>
        rw [decide_eq_false c1]
        exact iteT (iteT (no H1 s1 (if_neg fun z => c1 z.1)))
      rw [decide_eq_true c1]
      refine iteF ⟨_, rfl, l, _, _, _, rfl, rfl, hS, i3, rfl, _, rfl, ?_⟩
      rw [str_ne]
      by_cases c2 : r3 = ""
      case neg =>
        rw [decide_eq_false c2]
        exact iteT (iteT (no H1 s1 (if_neg fun z => c2 z.2.1)))
      rw [decide_eq_true c2]
      refine iteF ⟨_, rfl, l, _, _, _, rfl, rfl, hS, i2, r2, rfl, hsm _ z2, _, _, rfl, rfl, _, rfl, ?_⟩
      by_cases c3 : r2.length ≤ 66
      case neg =>
        rw [decide_eq_true (by omega)]
        exact iteT (iteT (no H1 s1 (if_neg fun z => c3 z.2.2.1)))
      rw [decide_eq_false (by omega)]
      refine iteF ⟨_, rfl, l, _, _, _, rfl, rfl, hS, i0, _, rfl, r0, rfl, hsm _ z0, ?_⟩
      refine ⟨_, rfl, Nat.le_trans (sl_le _ _ _) z0, slice_asc a0 _ _, fun H2 s2 => ⟨_, rfl, ?_⟩⟩
      have s12 := s1.trans s2
      cases c4 : isW (Txt.slice r0 (some 5) none) with
      | false =>
        exact iteT (no H2 s12 (if_neg fun z => by rw [c4] at z; exact absurd z.2.2.2.1 (by decide)))
      | true =>
        refine iteF ?_
        have hl2 := s2 _ _ hl
        have hS2 : SqL K H2 l ((r0 :: r1 :: r2 :: r3 :: bs).map V.str) := SqL.of hl2
        refine ⟨rfl, _, rfl, _, rfl, l, _, rfl, hS2, fun q hq => ?_⟩
        rw [cut_from V.str _ 4 (by decide)]
        have s3 : Same H2 (upd H2 q (.lst (((r0 :: r1 :: r2 :: r3 :: bs).drop 4).map V.str))) := Same.upd_new hq
        have s13 := s12.trans s3
        refine ⟨_, q, bs, rfl, rfl, SqL.of upd_same, rows_fit1 (fun r hr => (hR r (by simp [hr])).1) (by omega), ?_⟩
        have hl3 := s3 _ _ hl2
        show tSeq _ _ _ _ (upd H2 q (.lst (((r0 :: r1 :: r2 :: r3 :: bs).drop 4).map V.str)))
        generalize upd H2 q (.lst (((r0 :: r1 :: r2 :: r3 :: bs).drop 4).map V.str)) = H3 at s3 s13 hl3
        have hS3 : SqL K H3 l ((r0 :: r1 :: r2 :: r3 :: bs).map V.str) := SqL.of hl3
        refine ⟨_, rfl, l, _, _, _, rfl, rfl, hS3, i1, _, rfl, r1, rfl, hsm _ z1, ?_⟩
        refine ⟨_, rfl, for_str (fun i σ H' => H' = H3 ∧ (∃ o, σ = [some (.str x), some (.ref l), some (.str an), some (.str (Txt.join "\n" bs)), o]) ∧ ((Txt.slice r1 (some 4) none).cps.toList.take i).all (fun c => decide (c ∈ figS.cps.toList)) = true) ⟨rfl, ⟨_, rfl⟩, by simp⟩ ?_ ?_⟩
        · rintro i c σ H' hc ⟨rfl, ⟨o, rfl⟩, hall⟩
          refine ⟨_, rfl, _, _, rfl, rfl, _, rfl, ?_⟩
          rw [StrLaws.found_one]
          have hcl : (Txt.slice r1 (some 4) none).cps.toList[i]? = some c := by simpa using hc
          by_cases hm : c ∈ figS.cps.toList
          · rw [decide_eq_true hm]
            refine iteF ⟨rfl, ⟨_, rfl⟩, ?_⟩
            rw [List.take_add_one, hcl, List.all_append, hall, Option.toList_some, List.all_cons, List.all_nil, Bool.and_true, Bool.true_and]
            exact decide_eq_true hm
          · rw [decide_eq_false hm]
            refine iteT (no _ s13 (if_neg fun z => hm (of_decide_eq_true (List.all_eq_true.mp z.2.2.2.2.1 c (List.mem_of_getElem? hcl)))))
        · rintro σ H' ⟨rfl, ⟨o, rfl⟩, hall⟩
          have c5 : figB (Txt.slice r1 (some 4) none) = true := by
            rw [List.take_of_length_le (by simp)] at hall
            exact hall
          refine ⟨_, rfl, _, rfl, hsm _ hbj, _, _, rfl, rfl, _, rfl, ?_⟩
          by_cases c6 : (Txt.join "\n" bs).length ≤ 400
          case neg =>
            rw [decide_eq_true (by omega)]
            exact iteT (no _ s13 (if_neg fun z => c6 z.2.2.2.2.2))
          rw [decide_eq_false (by omega)]
          obtain ⟨d, d0, d1, hi, hdx⟩ := val4 l4 c5
          refine iteF ⟨_, rfl, l, _, _, _, rfl, rfl, hS3, i0, _, rfl, r0, rfl, hsm _ z0, ?_⟩
          refine ⟨_, rfl, l, _, _, _, rfl, rfl, hS3, i2, _, rfl, r2, rfl, hsm _ z2, ?_⟩
          refine ⟨_, rfl, _, rfl, l, _, _, _, rfl, rfl, hS3, i1, _, rfl, r1, rfl, hsm _ z1, _, d, rfl, by omega, hi, _, rfl, (by show 5 ≤ sizeLine; decide), fun p hp => ?_⟩
          refine ks _ _ _ d an ?_ p _ (s13.free hp) (s13.upd_of (s13.free hp)) upd_same
          rw [hlaw]
          unfold law2
          rw [if_pos ⟨c1, c2, c3, c4, c5, c6⟩, hi]
          rfl
    refine ⟨_, (pss_cons (ps_set (i := 1) sc_l_parts_in.nd rfl (Or.inl rfl) (pe_bm PySem.F.plainAttrs_str PySem.F.slot_str_split PySem.F.type_str_split mt_split1 (pv 0) (pac pe_str pa_nil)))
        (pss_cons (ps_set (i := 2) sc_l_parts_in.nd rfl (Or.inl rfl) pe_str)
        (pss_cons (ps_if (PW.pt (pw_or (pt_cmpR op_lt (pe_callB call_len_seq rfl T.b_len PySem.boot_len (pac (pv 1) pa_nil)) pe_int (nomark _)) (pw_or (pt_cmpR op_ne (pe_slice sl_str (pe_ix ix_list (pv 1) pe_int (fun _ _ => rfl)) po_none (po_some pe_int)) pe_str (nomark _)) (pw_or (pt_cmpR op_ne (pe_slice sl_str (pe_ix ix_list (pv 1) pe_int (fun _ _ => rfl)) po_none (po_some pe_int)) pe_str (nomark _)) (pw_or1 (pt_cmpR op_ne (pe_callB call_len_str rfl T.b_len PySem.boot_len (pac (pe_ix ix_list (pv 1) pe_int (fun _ _ => rfl)) pa_nil)) pe_int (nomark _))))))) (pss_one (ps_ret pe_non)) pss_nil)
        (pss_cons (ps_if (pt_cmpR op_eq (pe_slice sl_str (pe_ix ix_list (pv 1) pe_int (fun _ _ => rfl)) po_none (po_some pe_int)) pe_str (nomark _)) (pss_cons (ps_set (i := 2) sc_l_parts_in.nd rfl (Or.inl rfl) (pe_slice sl_str (pe_ix ix_list (pv 1) pe_int (fun _ _ => rfl)) (po_some pe_int) po_none))
        (pss_cons (ps_set (i := 1) sc_l_parts_in.nd rfl (Or.inl rfl) (pe_op op_cat (pe_slice sl_list (pv 1) po_none (po_some pe_int)) (pe_slice sl_list (pv 1) (po_some pe_int) po_none)))
        (pss_one (ps_if (PW.pt (pw_or (pt_not (pt_val (pe_call G_l_is_word hr_l_is_word rfl T.m_l_is_word F_l_is_word.kp b_l_is_word .nil pass0 (pac (pv 2) pa_nil)))) (pw_or1 (pt_cmpR op_lt (pe_callB call_len_seq rfl T.b_len PySem.boot_len (pac (pv 1) pa_nil)) pe_int (nomark _))))) (pss_one (ps_ret pe_non)) pss_nil)))) pss_nil)
        h4)))), ?_⟩
    refine ⟨_, rfl, rfl, _, _, rfl, rfl, (by decide +kernel), Nat.le_trans hx (by decide), fun l nl => ?_⟩
    have hA := split_asc ha
    have hL : ∀ r ∈ Txt.split x "\n", r.length ≤ 1000 := fun r hr => Nat.le_trans (split_le r hr) hx
    have hM : (Txt.split x "\n").length ≤ 1001 := Nat.le_trans (split_many _) (Nat.add_le_add_right hx 1)
    have hJ := split_join x
    generalize Txt.split x "\n" = R at *
    have s1 : Same H (upd H l (.lst (R.map V.str))) := Same.upd_new nl
    have e1 : (upd H l (.lst (R.map V.str))) l = some (.lst (R.map V.str)) := upd_same
    show tSeq _ _ _ _ (upd H l (.lst (R.map V.str)))
    generalize upd H l (.lst (R.map V.str)) = H1 at s1 e1
    refine ⟨_, rfl, l, _, rfl, .inl (SqL.of e1), _, _, rfl, rfl, _, rfl, ?_⟩
    rw [List.length_map]
    match R, hA, hL, hM, hJ, kn, ks, sp4, e1 with
    | [], hA, hL, hM, hJ, kn, ks, sp4, e1 => exact iteT (iteT (kn rfl _ s1))
    | [_], hA, hL, hM, hJ, kn, ks, sp4, e1 => exact iteT (iteT (kn rfl _ s1))
    | [_, _], hA, hL, hM, hJ, kn, ks, sp4, e1 => exact iteT (iteT (kn rfl _ s1))
    | [_, _, _], hA, hL, hM, hJ, kn, ks, sp4, e1 => exact iteT (iteT (kn rfl _ s1))
    | [_, _, _, _], hA, hL, hM, hJ, kn, ks, sp4, e1 => exact iteT (iteT (kn rfl _ s1))
    | r0 :: r1 :: r2 :: r3 :: r4 :: rr, hA, hL, hM, hJ, kn, ks, sp4, e1 =>
      rw [decide_eq_false (by simp only [List.length_cons]; omega)]
      have hS : SqL K H1 l ((r0 :: r1 :: r2 :: r3 :: r4 :: rr).map V.str) := SqL.of e1
      have i0 : atI ((r0 :: r1 :: r2 :: r3 :: r4 :: rr).map V.str) 0 = some (.str r0) := atI_nat (j := 0) rfl
      have i1 : atI ((r0 :: r1 :: r2 :: r3 :: r4 :: rr).map V.str) 1 = some (.str r1) := atI_nat (j := 1) rfl
      have i2 : atI ((r0 :: r1 :: r2 :: r3 :: r4 :: rr).map V.str) 2 = some (.str r2) := atI_nat (j := 2) rfl
      have z0 := hL r0 (by simp)
      have z1 := hL r1 (by simp)
      have z2 := hL r2 (by simp)
      have hall : ∀ r ∈ r0 :: r1 :: r2 :: r3 :: r4 :: rr, r.length ≤ 1000 ∧ Asc r := fun r hr => ⟨hL r hr, hA r hr⟩
      have jle : ∀ bs : List Str, bs ≠ [] → (∃ fs : List Str, fs ++ bs = r0 :: r1 :: r2 :: r3 :: r4 :: rr) → (Txt.join "\n" bs).length ≤ 1000 := fun bs hb ⟨fs, e⟩ => by
        cases fs with
        | nil => rw [List.nil_append] at e; rw [e, hJ]; exact hx
        | cons f fs =>
          have q := join_app (f :: fs) bs (by simp) hb
          rw [e] at q
          have q2 := congrArg List.length q
          rw [List.length_append, List.length_cons] at q2
          rw [show Txt.join "\n" bs = Str.join "\n" bs from StrLaws.glued_eq_join _ _, len_list]
          rw [show Txt.join "\n" (r0 :: r1 :: r2 :: r3 :: r4 :: rr) = Str.join "\n" (r0 :: r1 :: r2 :: r3 :: r4 :: rr) from StrLaws.glued_eq_join _ _] at hJ
          rw [hJ, ← len_list] at q2
          omega
      have no : ∀ H', Same H H' → ¬ (Txt.slice r0 none (some 5) = "from " ∧ Txt.slice r1 none (some 4) = "day " ∧ r1.length = 8) → Q .non H' := fun H' sH z => kn (if_neg z) H' sH
      refine iteF ⟨_, rfl, l, _, _, _, rfl, rfl, hS, i0, _, rfl, r0, rfl, hsm _ z0, rfl, _, rfl, ?_⟩
      rw [str_ne]
      by_cases c0 : Txt.slice r0 none (some 5) = "from "
      case neg => rw [decide_eq_false c0]; exact iteT (iteT (no _ s1 fun z => c0 z.1))
      rw [decide_eq_true c0]
      refine iteF ⟨_, rfl, l, _, _, _, rfl, rfl, hS, i1, _, rfl, r1, rfl, hsm _ z1, rfl, _, rfl, ?_⟩
      rw [str_ne]
      by_cases c1 : Txt.slice r1 none (some 4) = "day "
      case neg => rw [decide_eq_false c1]; exact iteT (iteT (no _ s1 fun z => c1 z.2.1))
      rw [decide_eq_true c1]
      refine iteF ⟨_, rfl, l, _, _, _, rfl, rfl, hS, i1, r1, rfl, hsm _ z1, rfl, _, rfl, ?_⟩
      rw [int_ne]
      by_cases c8 : r1.length = 8
      case neg => rw [decide_eq_false (by omega)]; exact iteT (no _ s1 fun z => c8 z.2.2)
      rw [decide_eq_true (by omega)]
      refine iteF ⟨_, rfl, l, _, _, _, rfl, rfl, hS, i2, _, rfl, r2, rfl, hsm _ z2, rfl, _, rfl, ?_⟩
      rw [str_eq]
      have hlaw : lawR (r0 :: r1 :: r2 :: r3 :: r4 :: rr) = (if Txt.slice r2 none (some 8) = "answers " then
        (if isW (Txt.slice r2 (some 8) none) = true ∧ rr ≠ [] then law2 r0 r1 r3 r4 rr (Txt.slice r2 (some 8) none) else none)
        else law2 r0 r1 r2 r3 (r4 :: rr) "") := if_pos ⟨c0, c1, c8⟩
      by_cases c2 : Txt.slice r2 none (some 8) = "answers "
      · rw [decide_eq_true c2]
        rw [if_pos c2] at hlaw
        refine iteT ⟨_, rfl, l, _, _, _, rfl, rfl, hS, i2, _, rfl, r2, rfl, hsm _ z2, ?_⟩
        refine ⟨_, rfl, _, rfl, l, _, rfl, hS, fun q1 n1 => ?_⟩
        rw [cut_front V.str _ 2 (by decide)]
        have s2 := s1.upd_of (p := q1) (o := .lst (((r0 :: r1 :: r2 :: r3 :: r4 :: rr).take (2 : Int).toNat).map V.str)) (s1.free n1)
        have s2' : Same H1 (upd H1 q1 (.lst (((r0 :: r1 :: r2 :: r3 :: r4 :: rr).take (2 : Int).toNat).map V.str))) := Same.upd_new n1
        have f1 : (upd H1 q1 (.lst (((r0 :: r1 :: r2 :: r3 :: r4 :: rr).take (2 : Int).toNat).map V.str))) q1 = some (.lst ([r0, r1].map V.str)) := upd_same
        generalize upd H1 q1 (.lst (((r0 :: r1 :: r2 :: r3 :: r4 :: rr).take (2 : Int).toNat).map V.str)) = H2 at s2 s2' f1
        refine ⟨_, rfl, _, rfl, l, _, rfl, SqL.of (s2' _ _ e1), fun q2 n2 => ?_⟩
        rw [cut_from V.str _ 3 (by decide)]
        have s3' : Same H2 (upd H2 q2 (.lst (((r0 :: r1 :: r2 :: r3 :: r4 :: rr).drop (3 : Int).toNat).map V.str))) := Same.upd_new n2
        have f2 : (upd H2 q2 (.lst (((r0 :: r1 :: r2 :: r3 :: r4 :: rr).drop (3 : Int).toNat).map V.str))) q2 = some (.lst ((r3 :: r4 :: rr).map V.str)) := upd_same
        have f1' := s3' _ _ f1
        generalize upd H2 q2 (.lst (((r0 :: r1 :: r2 :: r3 :: r4 :: rr).drop (3 : Int).toNat).map V.str)) = H3 at s3' f2 f1'
        have s3 := s2.trans s3'
        have hsz : ([r0, r1].map V.str).length + ((r3 :: r4 :: rr).map V.str).length ≤ sizeLine := by
          simp only [List.length_map, List.length_cons, List.length_nil] at hM ⊢
          exact Nat.le_trans (show _ ≤ 2000 by omega) (by decide)
        refine ⟨q1, q2, _, _, rfl, rfl, f1', f2, hsz, fun q3 n3 => ?_⟩
        have s4 := s3.upd_of (p := q3) (o := .lst ([r0, r1].map V.str ++ (r3 :: r4 :: rr).map V.str)) (s3.free n3)
        have f3 : (upd H3 q3 (.lst ([r0, r1].map V.str ++ (r3 :: r4 :: rr).map V.str))) q3 = some (.lst ((r0 :: r1 :: r3 :: r4 :: rr).map V.str)) := upd_same
        generalize upd H3 q3 (.lst ([r0, r1].map V.str ++ (r3 :: r4 :: rr).map V.str)) = H4 at s4 f3
        refine ⟨_, rfl, _, rfl, Nat.le_trans (sl_le _ _ _) z2, slice_asc (hA r2 (by simp)) _ _, fun H5 s5 => ⟨_, rfl, ?_⟩⟩
        have s15 := s4.trans s5
        have f5 := s5 _ _ f3
        cases c3 : isW (Txt.slice r2 (some 8) none) with
        | false =>
          exact iteT (iteT (kn (hlaw.trans (if_neg fun z => by rw [c3] at z; exact absurd z.1 (by decide))) _ s15))
        | true =>
          refine iteF ⟨_, rfl, q3, _, rfl, .inl (SqL.of f5), _, _, rfl, rfl, _, rfl, ?_⟩
          rw [List.length_map]
          cases rr with
          | nil => exact iteT (kn (hlaw.trans (if_neg fun z => z.2 rfl)) _ s15)
          | cons r5 rr =>
            rw [decide_eq_false (by simp only [List.length_cons]; omega)]
            refine iteF (sp4 H5 q3 r0 r1 r3 r4 (r5 :: rr) _ s15 f5 (fun r hr => hall r (by simp only [List.mem_cons] at hr ⊢; rcases hr with z | z | z | z | z | z <;> simp [z])) (by simp only [List.length_cons] at hM ⊢; omega) (jle _ (by simp) ⟨[r0, r1, r2, r3, r4], rfl⟩) c8 c1 (hlaw.trans (if_pos ⟨c3, by simp⟩)))
      · rw [decide_eq_false c2]
        rw [if_neg c2] at hlaw
        exact iteF (sp4 H1 l r0 r1 r2 r3 (r4 :: rr) "" s1 e1 hall (by simp only [List.length_cons] at hM ⊢; omega) (jle _ (by simp) ⟨[r0, r1, r2, r3], rfl⟩) c8 c1 hlaw)
end
theorem join_snoc (x : Str) : ∀ (rs : List Str), rs ≠ [] → Str.join "\n" (rs ++ [x]) = (Str.join "\n" rs ++ ("\n" : Str)) ++ x
  | [], h => absurd rfl h
  | [p], _ => rfl
  | p :: q :: r, _ => by
    have ih := join_snoc x (q :: r) (by simp)
    refine str_ext ?_
    rw [List.cons_append, List.cons_append, join_cons2, ← List.cons_append, ih, cat_list, cat_list, cat_list, cat_list, join_cons2]
    simp
theorem title_eq : ("\ntitle " : Str) = ("\n" : Str) ++ ("title " : Str) := by decide +kernel
theorem text_eq (t : Str) (rs : List Str) (h : rs ≠ []) : (Txt.join "\n" rs ++ ("\ntitle " : Str)) ++ t = Txt.join "\n" (rs ++ [("title " : Str) ++ t]) := by
  have e : ∀ l, Txt.join "\n" l = Str.join "\n" l := fun l => StrLaws.glued_eq_join _ _
  rw [e, e, join_snoc _ _ h, title_eq]
  refine str_ext ?_
  simp only [cat_list, List.append_assoc]
theorem ntitle_len : ("\ntitle " : Str).length = 7 := by decide +kernel
structure Lse (s t b : Str) (d : Int) (an : Str) : Prop where
  sa : Asc s
  sl : s.length ≤ 20
  ta : Asc t
  tl : t.length ≤ 62
  ba : Asc b
  bl : b.length ≤ 401
  d0 : 0 ≤ d
  d1 : d ≤ 9999
  aa : Asc an
  al : an.length ≤ 20
theorem aZ_asc : Asc aZ := asc_of (by decide +kernel)
theorem word_asc {x : Str} (h : WordS x) : Asc x := fun c hc => aZ_asc c (h.in_ c hc)
theorem Good.lse {s t b : Str} {d : Int} {an : Str} (g : Good s t b d an) : Lse s t b d an := by
  have h1 := g.tl
  have h2 := g.bl
  exact ⟨word_asc g.s_, g.s_.hi, g.t_, by omega, g.b_, by omega, g.d0, g.d1, g.a_.elim (fun z => by rw [z]; exact asc_of (by decide +kernel)) word_asc, g.a_.elim (fun z => by rw [z, empty_len]; decide) (·.hi)⟩
theorem lse_rows {s t b : Str} {d : Int} {an : Str} (g : Lse s t b d an) : ∀ p ∈ rowsOf s t d an, Asc p ∧ p.length ≤ 100 := by
  have h1 := g.sl
  have h2 := g.tl
  have h3 := g.al
  have h4 := dtx_len g.d0 g.d1
  intro p hp
  unfold rowsOf at hp
  have fr : Asc (("from " : Str) ++ s) ∧ (("from " : Str) ++ s).length ≤ 100 := ⟨(asc_of (by decide +kernel)).app g.sa, by rw [cat_len, fromL.1]; omega⟩
  have da : Asc (("day " : Str) ++ dtx d) ∧ (("day " : Str) ++ dtx d).length ≤ 100 := ⟨(asc_of (by decide +kernel)).app (dtx_asc g.d0 g.d1), by rw [cat_len, dayL.1]; omega⟩
  have ti : Asc (("title " : Str) ++ t) ∧ (("title " : Str) ++ t).length ≤ 100 := ⟨(asc_of (by decide +kernel)).app g.ta, by rw [cat_len, titleL.1]; omega⟩
  have aw : Asc (("answers " : Str) ++ an) ∧ (("answers " : Str) ++ an).length ≤ 100 := ⟨(asc_of (by decide +kernel)).app g.aa, by rw [cat_len, answersL.1]; omega⟩
  split at hp
  · simp only [List.mem_cons, List.not_mem_nil, or_false] at hp
    rcases hp with rfl | rfl | rfl
    · exact fr
    · exact da
    · exact ti
  · simp only [List.mem_cons, List.not_mem_nil, or_false] at hp
    rcases hp with rfl | rfl | rfl | rfl
    · exact fr
    · exact da
    · exact aw
    · exact ti
theorem join_le {ps : List Str} (h : ∀ p ∈ ps, p.length ≤ 100) : (Txt.join "\n" ps).length ≤ 101 * ps.length := by
  have e : Txt.join "\n" ps = Str.join "\n" ps := StrLaws.glued_eq_join _ _
  have h0 := StrLaws.join_length_le "\n" ps
  have h1 := sum_le100 ps h
  rw [e]
  rw [nl_len] at h0
  omega
theorem lse_asc {s t b : Str} {d : Int} {an : Str} (g : Lse s t b d an) : Asc (ltext s t b d an) := ((joins_asc fun p hp => (lse_rows g p hp).1).app (asc_of (by decide +kernel))).app g.ba
theorem lse_len {s t b : Str} {d : Int} {an : Str} (g : Lse s t b d an) : (ltext s t b d an).length ≤ 406 + b.length := by
  have h1 := join_le fun p hp => (lse_rows g p hp).2
  have h2 := rows_len s t d an
  unfold ltext
  rw [cat_len, cat_len, gap_len]
  omega
theorem join_len : ∀ (ps : List Str), ps ≠ [] → (Txt.join "\n" ps).length + 1 = (ps.map (·.length)).sum + ps.length := by
  intro ps h
  rw [show Txt.join "\n" ps = Str.join "\n" ps from StrLaws.glued_eq_join _ _, len_list]
  induction ps with
  | nil => exact absurd rfl h
  | cons q r ih =>
    cases r with
    | nil =>
      rw [join_one, ← len_list]
      simp
    | cons q' r =>
      have := ih (by simp)
      rw [join_cons2, List.length_append, List.length_cons, ← len_list, List.map_cons, List.sum_cons, List.length_cons]
      omega
theorem small_len {s t b : Str} {d : Int} {an : Str} (g : Lse s t b d an) (ht : t.length ≤ 8) (hb : b.length ≤ 8) : (ltext s t b d an).length ≤ 100 := by
  have h1 := g.sl
  have h3 := g.al
  have h4 := dtx_len g.d0 g.d1
  have h5 := join_len (rowsOf s t d an) (rows_ne _ _ _ _)
  unfold ltext
  rw [cat_len, cat_len, gap_len]
  by_cases han : an = ""
  · subst han
    rw [rows3] at h5 ⊢
    simp only [List.map_cons, List.map_nil, List.sum_cons, List.sum_nil, List.length_cons, List.length_nil, cat_len, fromL.1, dayL.1, titleL.1] at h5
    omega
  · rw [rows4 han] at h5 ⊢
    simp only [List.map_cons, List.map_nil, List.sum_cons, List.sum_nil, List.length_cons, List.length_nil, cat_len, fromL.1, dayL.1, titleL.1, answersL.1] at h5
    omega
inductive spTextL_I (vs : List V) (H : Hp) (Q : VK) : Prop
  | mk : ∀ p s t b d an, vs = [.ref p] → H p = some (.tup [.str s, .str t, .str b, .int d, .str an]) → Lse s t b d an → (∀ H', Same H H' → Q (.str (ltext s t b d an)) H') → spTextL_I vs H Q
def spTextL : Sp := fun vs H Q _ => spTextL_I vs H Q
section
variable {P : Program} {w : World} {K : PySem.W.Frag} {mg : Str → Option Value} {base : Heap} {a : Adr}
theorem ok_textL {fd : FuncData} (F : Fun K "_law_text_of" "_law_text_of" sl_text_of a.f_l_text_of fd) (T : Txt K mg a) : FnOk P w K mg base CX0 1 a.f_l_text_of fd ["_law_parts_here"] spTextL := by
  refine F.ok sc_l_text_of (fun vs H Q E h => ?_) (fun cdv A outer st H vs Q E hr h => ?_)
  · obtain ⟨p, s, t, b, d, an, rfl, _⟩ := h; rfl
  · obtain ⟨p, s, t, b, d, an, rfl, hp, g, k⟩ := h
    have hsm : ∀ n : Nat, n ≤ 1000 → n ≤ sizeLine := fun n h => Nat.le_of_lt (small1000 h)
    have hs := g.sl
    have ht := g.tl
    have hb := g.bl
    have hd := dtx_len g.d0 g.d1
    have h4 := num_le4 g.d0 g.d1
    have hhr := lse_rows g
    have hhn := rows_len s t d an
    obtain ⟨t2, h2, sp2⟩ : ∃ tt, PSs (cxOf CX0 P w K mg base n_l_text_of "_law_text_of" (defScope sl_text_of) a.f_l_text_of cdv A outer st H E).nox ((defBody sl_text_of).drop 2) tt ∧
        ∀ (H1 : Hp) (l : Addr) (rs : List Str), Same H H1 → H1 l = some (.lst (rs.map V.str)) → rs ≠ [] → rs ++ [("title " : Str) ++ t] = rowsOf s t d an →
          tt { nx := fun _ H' => Q .non H', rt := Q } [some (.ref p), some (.ref l)] H1 := by
      refine ⟨_, (pss_one (ps_ret (pe_op op_add_str (pe_op op_add_str (pe_op op_add_str (pe_op op_add_str (pe_bm PySem.F.plainAttrs_str PySem.F.slot_str_join PySem.F.type_str_join mt_join pe_str (pac (pv 1) pa_nil)) pe_str) (pe_ix ix_tup (pv 0) pe_int (fun _ _ => rfl))) pe_str) (pe_ix ix_tup (pv 0) pe_int (fun _ _ => rfl))))), fun H1 l rs s1 hl hne er => ?_⟩
      have hrl : rs.length ≤ 4 := by
        have e := congrArg List.length er
        rw [List.length_append] at e
        omega
      have hr1 : ∀ q ∈ rs, q.length ≤ 100 := fun q hq => (hhr q (by rw [← er]; exact List.mem_append_left _ hq)).2
      have hsum := sum_le100 rs hr1
      have hjl := join_le hr1
      have hjl2 := join_le fun q hq => (hhr q hq).2
      have hS : SqT K H1 p [.str s, .str t, .str b, .int d, .str an] := SqT.of (s1 _ _ hp)
      have et := text_eq t rs hne
      rw [er] at et
      refine ⟨rfl, _, rfl, "\n", l, rs, rfl, rfl, SqL.of hl, (by rw [nl_len]; omega), _, _, rfl, rfl, hsm _ (by rw [ntitle_len]; omega), ?_⟩
      refine ⟨_, rfl, p, _, _, _, rfl, rfl, hS, rfl, _, _, rfl, rfl, hsm _ (by rw [cat_len, ntitle_len]; omega), ?_⟩
      rw [et]
      refine ⟨_, _, rfl, rfl, hsm _ (by rw [gap_len]; omega), ?_⟩
      exact ⟨_, rfl, p, _, _, _, rfl, rfl, hS, rfl, _, _, rfl, rfl, hsm _ (by rw [cat_len, gap_len]; omega), k _ s1⟩
    refine ⟨_, (pss_cons (ps_set (i := 1) sc_l_text_of.nd rfl (Or.inl rfl) (pe_lstG (pas_cons (pe_op op_add_str pe_str (pe_ix ix_tup (pv 0) pe_int (fun _ _ => rfl))) (pas_cons (pe_op op_add_str pe_str (pe_slice sl_str (pe_op op_add_str pe_str (pe_callTy call_str_int rfl T.b_str PyProof.Rows.boot_str (pac (pe_ix ix_tup (pv 0) pe_int (fun _ _ => rfl)) pa_nil))) (po_some (pe_un un_neg pe_int)) po_none)) pas_nil))))
        (pss_cons (ps_if (pt_cmpR op_ne (pe_ix ix_tup (pv 0) pe_int (fun _ _ => rfl)) pe_str (nomark _)) (pss_one (ps_expr (pe_bm PySem.F.plainAttrs_list PySem.F.slot_list_append PySem.F.type_list_append mt_append (pv 1) (pac (pe_op op_add_str pe_str (pe_ix ix_tup (pv 0) pe_int (fun _ _ => rfl))) pa_nil)))) pss_nil)
        h2)), ?_⟩
    have hS : SqT K H p [.str s, .str t, .str b, .int d, .str an] := SqT.of hp
    refine ⟨_, rfl, p, _, _, _, rfl, rfl, hS, rfl, _, _, rfl, rfl, hsm _ (by rw [fromL.1]; omega), ?_⟩
    refine ⟨_, rfl, p, _, _, _, rfl, rfl, hS, rfl, d, rfl, log_day g.d0 g.d1, _, _, rfl, rfl, hsm _ (by rw [ooo_len]; omega), ?_⟩
    refine ⟨_, rfl, _, rfl, _, rfl, hsm _ (by rw [cat_len, ooo_len]; omega), ?_⟩
    have esl : Txt.slice (("000" : Str) ++ Str.ofString (toString d)) (some (-4)) none = dtx d := dtx_slice g.d0 g.d1
    have esl' : Txt.slice (Str.ofString "000" ++ Str.ofString (toString d)) (some (-4)) none = dtx d := esl
    rw [esl']
    refine ⟨_, _, rfl, rfl, hsm _ (by rw [dayL.1]; omega), ?_⟩
    refine ⟨by show 2 ≤ sizeLine; decide, fun l H1 hl s1 e1 => ?_⟩
    have hS1 : SqT K H1 p [.str s, .str t, .str b, .int d, .str an] := SqT.of (s1 _ _ hp)
    refine ⟨_, rfl, p, _, _, _, rfl, rfl, hS1, rfl, rfl, _, rfl, ?_⟩
    rw [str_ne]
    by_cases han : an = ""
    · rw [decide_eq_true han]
      refine iteF (sp2 H1 l [("from " : Str) ++ s, ("day " : Str) ++ dtx d] s1 e1 (by simp) ?_)
      unfold rowsOf
      rw [if_pos han]
      rfl
    · rw [decide_eq_false han]
      have wa := g.al
      refine iteT ⟨_, rfl, .inl ⟨rfl, _, SqL.of e1⟩, _, rfl, p, _, _, _, rfl, rfl, hS1, rfl, _, _, rfl, rfl, hsm _ (by rw [answersL.1]; omega), ?_⟩
      refine ⟨l, _, _, rfl, rfl, e1, (by show 2 < sizeLine; decide), ?_⟩
      refine sp2 _ l [("from " : Str) ++ s, ("day " : Str) ++ dtx d, ("answers " : Str) ++ an] (s1.upd_of hl) upd_same (by simp) ?_
      unfold rowsOf
      rw [if_neg han]
      rfl
end
def cnt (ps : List Str) : Nat := (ps.map (·.length)).sum + ps.length
theorem cnt_app (ps qs : List Str) : cnt (ps ++ qs) = cnt ps + cnt qs := by
  unfold cnt
  rw [List.map_append, List.sum_append, List.length_append]
  omega
theorem join_cnt (ps : List Str) : (Txt.join "\n" ps).length ≤ cnt ps := by
  by_cases h : ps = []
  · subst h
    show (Txt.join "\n" []).length ≤ 0
    rw [show Txt.join "\n" [] = "" from rfl, empty_len]
    exact Nat.le_refl _
  · have := join_len ps h
    unfold cnt
    omega
theorem cnt_split (y : Str) : cnt (Txt.split y "\n") = y.length + 1 := by
  have := join_len _ (split_ne y)
  rw [split_join] at this
  unfold cnt
  omega
theorem cnt_set : ∀ (l : List Str) (i : Nat) (x z : Str), l[i]? = some z → cnt (l.set i x) + z.length = cnt l + x.length
  | [], i, x, z, h => by cases h
  | y :: r, 0, x, z, h => by
    cases h
    unfold cnt
    simp only [List.set_cons_zero, List.map_cons, List.sum_cons, List.length_cons]
    omega
  | y :: r, i + 1, x, z, h => by
    have := cnt_set r i x z h
    unfold cnt at this ⊢
    simp only [List.set_cons_succ, List.map_cons, List.sum_cons, List.length_cons]
    omega
theorem cnt_take_drop (l : List Str) (i : Nat) : cnt (l.take i) + cnt (l.drop i) = cnt l := by rw [← cnt_app, List.take_append_drop]
theorem cnt_mem {l : List Str} {x : Str} (h : x ∈ l) : x.length + 1 ≤ cnt l := by
  obtain ⟨i, hi, rfl⟩ := List.getElem_of_mem h
  have := cnt_set l i "" l[i] (List.getElem?_eq_getElem hi)
  rw [empty_len] at this
  have h2 : 1 ≤ (l.set i "").length := by rw [List.length_set]; omega
  have h3 : (l.set i "").length ≤ cnt (l.set i "") := by unfold cnt; omega
  omega
theorem swap_cnt {l : List Str} {i j : Nat} {x z : Str} (hi : l[i]? = some x) (hj : l[j]? = some z) : cnt ((l.set i z).set j x) = cnt l := by
  have h1 := cnt_set l i z x hi
  have hz : (l.set i z)[j]? = some z := by
    by_cases e : i = j
    · subst e
      have := (List.getElem?_eq_some_iff.mp hi).1
      rw [List.getElem?_set_self this]
    · rw [List.getElem?_set_ne e]; exact hj
  have h2 := cnt_set (l.set i z) j x z hz
  omega
theorem map_set (l : List Str) (i : Nat) (x : Str) : (l.map V.str).set i (.str x) = (l.set i x).map V.str := by rw [List.map_set]
theorem mem_set {l : List Str} {i : Nat} {x y : Str} (h : y ∈ l.set i x) : y ∈ l ∨ y = x := List.mem_or_eq_of_mem_set h
inductive spSpoil_I (vs : List V) (H : Hp) (Q : VK) : Prop
  | mk : ∀ (y : Str) (R : Addr) (rs : List Int) (k : Int), vs = [.str y, .ref R, .int k] → H R = some (.lst (rs.map V.int)) → (∀ r ∈ rs, 0 ≤ r ∧ r < 2147483629) → 0 ≤ k → k + 2 < (rs.length : Int) → y.length ≤ 400 → Asc y →
      (∀ y' : Str, Asc y' → y'.length ≤ 2 * y.length + 2 → ∀ H', Same H H' → Q (.str y') H') → spSpoil_I vs H Q
def spSpoil : Sp := fun vs H Q _ => spSpoil_I vs H Q
abbrev oddS : Str := " 0123456789abcdefghijklmnopqrstuvwxyzAZ\n\n\n.-|\t+_"
theorem odd_len : oddS.cps.toList.length = 48 := by decide +kernel
theorem odd_asc : Asc oddS := asc_of (by decide +kernel)
theorem odd_small : oddS.length ≤ sizeLine := Nat.le_of_lt (small1000 (by decide +kernel))
section
variable {P : Program} {w : World} {K : PySem.W.Frag} {mg : Str → Option Value} {base : Heap} {a : Adr}
theorem ok_spoil {fd : FuncData} (F : Fun K "_law_spoilt" "_law_spoilt" sl_spoilt a.f_l_spoilt fd) (T : Txt K mg a) : FnOk P w K mg base CX0 1 a.f_l_spoilt fd ["_law_text", "_law_row_here", "_law_k"] spSpoil := by
  refine F.ok sc_l_spoilt (fun vs H Q E h => ?_) (fun cdv A outer s H vs Q E hr h => ?_)
  · obtain ⟨y, R, rs, k, rfl, _⟩ := h; rfl
  · obtain ⟨y, R, rs, k, rfl, hR, hb, k0, k1, hy, ha, kk⟩ := h
    have hsm : ∀ n : Nat, n ≤ 1000 → n ≤ sizeLine := fun n h => Nat.le_of_lt (small1000 h)
    obtain ⟨z0, e0, b00, b01⟩ := row_pick hb k k0 (by omega)
    obtain ⟨z1, e1, b10, b11⟩ := row_pick hb (k + 1) (by omega) (by omega)
    obtain ⟨z2, e2, b20, b21⟩ := row_pick hb (k + 2) (by omega) (by omega)
    have sq : ∀ {H1 : Hp}, Same H H1 → SqL K H1 R (rs.map V.int) := fun s1 => SqL.of (s1 _ _ hR)
    obtain ⟨t6, h6, sp6⟩ : ∃ t, PSs (cxOf CX0 P w K mg base n_l_spoilt "_law_spoilt" (defScope sl_spoilt) a.f_l_spoilt cdv A outer s H E).nox ((defBody sl_spoilt).drop 6) t ∧
        ∀ (wy at_ : Int) (sg : Str), t { nx := fun _ H' => Q .non H', rt := Q } [some (.str y), some (.ref R), some (.int k), some (.int wy), some (.int at_), some (.str sg), none, none, none, none] H := by
      refine ⟨_, (pss_cons (ps_set (i := 6) sc_l_spoilt.nd rfl (Or.inl rfl) (pe_bm PySem.F.plainAttrs_str PySem.F.slot_str_split PySem.F.type_str_split mt_splitG (pv 0) (pac pe_str pa_nil)))
        (pss_cons (ps_set (i := 7) sc_l_spoilt.nd rfl (Or.inl rfl) (pe_op op_mod (pe_ix ix_list (pv 1) (pe_op op_add (pv 2) pe_int) (fun _ _ => rfl)) (pe_callB call_len_seq rfl T.b_len PySem.boot_len (pac (pv 6) pa_nil))))
        (pss_cons (ps_set (i := 8) sc_l_spoilt.nd rfl (Or.inl rfl) (pe_op op_mod (pe_ix ix_list (pv 1) (pe_op op_add (pv 2) pe_int) (fun _ _ => rfl)) (pe_callB call_len_seq rfl T.b_len PySem.boot_len (pac (pv 6) pa_nil))))
        (pss_cons (ps_if (pt_cmpR op_eq (pv 3) pe_int (nomark _)) (pss_one (ps_ret (pe_bm PySem.F.plainAttrs_str PySem.F.slot_str_join PySem.F.type_str_join mt_join pe_str (pac (pe_op op_catG (pe_op op_catG (pe_slice sl_listG (pv 6) po_none (po_some (pv 7))) (pe_slice sl_listG (pv 6) (po_some (pv 7)) (po_some (pe_op op_add (pv 7) pe_int)))) (pe_slice sl_listG (pv 6) (po_some (pv 7)) po_none)) pa_nil)))) pss_nil)
        (pss_cons (ps_if (pt_cmpR op_eq (pv 3) pe_int (nomark _)) (pss_one (ps_ret (pe_bm PySem.F.plainAttrs_str PySem.F.slot_str_join PySem.F.type_str_join mt_join pe_str (pac (pe_op op_catG (pe_slice sl_listG (pv 6) po_none (po_some (pv 7))) (pe_slice sl_listG (pv 6) (po_some (pe_op op_add (pv 7) pe_int)) po_none)) pa_nil)))) pss_nil)
        (pss_cons (ps_set (i := 9) sc_l_spoilt.nd rfl (Or.inl rfl) (pe_ix ix_list (pv 6) (pv 7) (fun _ _ => rfl)))
        (pss_cons (ps_asg (pe_ix ix_list (pv 6) (pv 8) (fun _ _ => rfl)) (pg_sub (pv 6) (pv 7) set_list))
        (pss_cons (ps_asg (pv 9) (pg_sub (pv 6) (pv 8) set_list))
        (pss_one (ps_ret (pe_bm PySem.F.plainAttrs_str PySem.F.slot_str_join PySem.F.type_str_join mt_join pe_str (pac (pv 6) pa_nil)))))))))))), fun wy at_ sg => ?_⟩
      refine ⟨_, rfl, rfl, _, _, rfl, rfl, (by decide +kernel), Nat.le_trans hy (by decide), fun l H1 nl s1 hl => ?_⟩
      have hC := cnt_split y
      have hA := split_asc ha
      have hL : ∀ r ∈ Txt.split y "\n", r.length ≤ 1000 := fun r hr => by have := split_le r hr; omega
      have hM := split_many y
      have hne := split_ne y
      generalize Txt.split y "\n" = L at *
      have hpos : 0 < (L.length : Int) := by
        cases L with
        | nil => exact absurd rfl hne
        | cons _ _ => simp only [List.length_cons]; omega
      have hlm : (((L.map V.str).length : Nat) : Int) = (L.length : Int) := by rw [List.length_map]
      have m0 : 0 ≤ z1 % (L.length : Int) := Int.emod_nonneg _ (by omega)
      have m1 : z1 % (L.length : Int) < (L.length : Int) := Int.emod_lt_of_pos _ hpos
      have n0 : 0 ≤ z2 % (L.length : Int) := Int.emod_nonneg _ (by omega)
      have n1 : z2 % (L.length : Int) < (L.length : Int) := Int.emod_lt_of_pos _ hpos
      have hS : SqL K H1 l (L.map V.str) := SqL.of hl
      refine ⟨_, rfl, _, rfl, _, _, rfl, rfl, R, _, _, _, rfl, rfl, sq s1, e1, _, rfl, l, _, rfl, .inl hS, _, _, rfl, rfl, (by rw [hlm]; exact hpos), ?_⟩
      rw [hlm]
      refine ⟨_, rfl, _, rfl, _, _, rfl, rfl, R, _, _, _, rfl, rfl, sq s1, e2, _, rfl, l, _, rfl, .inl hS, _, _, rfl, rfl, (by rw [hlm]; exact hpos), ?_⟩
      rw [hlm]
      generalize z1 % (L.length : Int) = one at m0 m1
      generalize z2 % (L.length : Int) = oth at n0 n1
      obtain ⟨x1, hx1, hxm⟩ : ∃ x1, L[one.toNat]? = some x1 ∧ x1 ∈ L := by
        have h : one.toNat < L.length := by omega
        exact ⟨_, List.getElem?_eq_getElem h, List.getElem_mem h⟩
      obtain ⟨x2, hx2, hxm2⟩ : ∃ x2, L[oth.toNat]? = some x2 ∧ x2 ∈ L := by
        have h : oth.toNat < L.length := by omega
        exact ⟨_, List.getElem?_eq_getElem h, List.getElem_mem h⟩
      have fin : ∀ (ps : List Str), (∀ p ∈ ps, p ∈ L) → cnt ps ≤ 2 * y.length + 2 → ∀ H', Same H H' → Q (.str (Txt.join "\n" ps)) H' := fun ps hp hc H' sH => kk _ (joins_asc fun p h => hA p (hp p h)) (Nat.le_trans (join_cnt ps) hc) H' sH
      have fit : ∀ (ps : List Str), (∀ p ∈ ps, p ∈ L) → ps.length ≤ 3003 → (ps.map (·.length)).sum + ps.length * ("\n" : Str).length ≤ 16777216 := fun ps hp hc => rows_fit1 (fun p h => hL p (hp p h)) hc
      have mt : ∀ n p, p ∈ L.take n → p ∈ L := fun n p h => List.mem_of_mem_take h
      have md : ∀ n p, p ∈ L.drop n → p ∈ L := fun n p h => List.mem_of_mem_drop h
      refine ⟨_, rfl, rfl, _, rfl, ite2 (fun _ => ?_) (fun _ => ?_)⟩
      · refine ⟨rfl, _, rfl, _, rfl, _, rfl, l, _, rfl, hS, fun q1 H2 nq1 s2 f1 => ?_⟩
        rw [cut_front V.str _ _ m0] at f1
        refine ⟨_, rfl, _, rfl, _, rfl, _, rfl, _, _, rfl, rfl, _, rfl, l, _, rfl, SqL.of (s2 _ _ hl), fun q2 H3 nq2 s3 f2 => ?_⟩
        rw [cut_mid V.str _ _ _ m0 (by omega)] at f2
        have f1' := s3 _ _ f1
        refine ⟨q1, q2, _, _, rfl, rfl, f1', f2, ?_, fun q3 H4 nq3 s4 f3 => ?_⟩
        · simp only [List.length_map, List.length_take, List.length_drop]
          exact Nat.le_trans (show _ ≤ 2000 by omega) (by decide)
        rw [← List.map_append] at f3
        have s24 := s2.trans (s3.trans s4)
        refine ⟨_, rfl, _, rfl, _, rfl, l, _, rfl, SqL.of (s24 _ _ hl), fun q4 H5 nq4 s5 f4 => ?_⟩
        rw [cut_from V.str _ _ m0] at f4
        have f3' := s5 _ _ f3
        refine ⟨q3, q4, _, _, rfl, rfl, f3', f4, ?_, fun q5 H6 nq5 s6 f5 => ?_⟩
        · simp only [List.length_map, List.length_append, List.length_take, List.length_drop]
          exact Nat.le_trans (show _ ≤ 3000 by omega) (by decide)
        rw [← List.map_append] at f5
        have hin : ∀ p ∈ (L.take one.toNat ++ (L.drop one.toNat).take ((one + 1).toNat - one.toNat)) ++ L.drop one.toNat, p ∈ L := fun p hp => by
          rcases List.mem_append.mp hp with z | z
          · rcases List.mem_append.mp z with z | z
            · exact mt _ p z
            · exact md _ p (List.mem_of_mem_take z)
          · exact md _ p z
        refine ⟨_, q5, _, rfl, rfl, SqL.of f5, fit _ hin ?_, fin _ hin ?_ _ (s1.trans (s24.trans (s5.trans s6)))⟩
        · simp only [List.length_append, List.length_take, List.length_drop]
          omega
        · have e1 : (one + 1).toNat - one.toNat = 1 := by omega
          have e2 : (L.drop one.toNat).take 1 = [x1] := by
            rw [List.take_one, List.head?_drop, hx1]
            rfl
          rw [e1, e2, cnt_app, cnt_app]
          have h1 := cnt_take_drop L one.toNat
          have h2 := cnt_mem hxm
          have h3 : cnt [x1] = x1.length + 1 := by unfold cnt; simp
          omega
      refine ⟨_, rfl, rfl, _, rfl, ite2 (fun _ => ?_) (fun _ => ?_)⟩
      · refine ⟨rfl, _, rfl, _, rfl, _, rfl, l, _, rfl, hS, fun q1 H2 nq1 s2 f1 => ?_⟩
        rw [cut_front V.str _ _ m0] at f1
        refine ⟨_, rfl, _, rfl, _, _, rfl, rfl, _, rfl, l, _, rfl, SqL.of (s2 _ _ hl), fun q2 H3 nq2 s3 f2 => ?_⟩
        rw [cut_from V.str _ _ (by omega)] at f2
        have f1' := s3 _ _ f1
        refine ⟨q1, q2, _, _, rfl, rfl, f1', f2, ?_, fun q3 H4 nq3 s4 f3 => ?_⟩
        · simp only [List.length_map, List.length_take, List.length_drop]
          exact Nat.le_trans (show _ ≤ 2000 by omega) (by decide)
        rw [← List.map_append] at f3
        have hin : ∀ p ∈ L.take one.toNat ++ L.drop (one + 1).toNat, p ∈ L := fun p hp => by
          rcases List.mem_append.mp hp with z | z
          · exact mt _ p z
          · exact md _ p z
        refine ⟨_, q3, _, rfl, rfl, SqL.of f3, fit _ hin ?_, fin _ hin ?_ _ (s1.trans (s2.trans (s3.trans s4)))⟩
        · simp only [List.length_append, List.length_take, List.length_drop]
          omega
        · rw [cnt_app]
          have h1 := cnt_take_drop L one.toNat
          have h2 := cnt_take_drop L (one + 1).toNat
          have h3 := cnt_take_drop (L.drop one.toNat) 1
          rw [List.drop_drop, show one.toNat + 1 = (one + 1).toNat by omega] at h3
          omega
      have a1 : atI (L.map V.str) one = some (.str x1) := by
        have := atI_nat (xs := L.map V.str) (j := one.toNat) (v := .str x1) (by rw [List.getElem?_map, hx1]; rfl)
        rwa [show ((one.toNat : Nat) : Int) = one by omega] at this
      have a2 : atI (L.map V.str) oth = some (.str x2) := by
        have := atI_nat (xs := L.map V.str) (j := oth.toNat) (v := .str x2) (by rw [List.getElem?_map, hx2]; rfl)
        rwa [show ((oth.toNat : Nat) : Int) = oth by omega] at this
      have i1 : ixN (L.map V.str).length one = some one.toNat := by unfold ixN; rw [if_pos m0, if_pos (by rw [List.length_map]; exact m1)]
      refine ⟨_, rfl, _, rfl, l, _, _, _, rfl, rfl, hS, a1, ?_⟩
      refine ⟨_, rfl, _, rfl, l, _, _, _, rfl, rfl, hS, a2, ?_⟩
      refine ⟨_, rfl, _, rfl, l, _, _, _, rfl, rfl, hl, i1, ?_⟩
      rw [map_set]
      have s2 : Same H (upd H1 l (.lst ((L.set one.toNat x2).map V.str))) := s1.upd_of nl
      have f1 : (upd H1 l (.lst ((L.set one.toNat x2).map V.str))) l = some (.lst ((L.set one.toNat x2).map V.str)) := upd_same
      generalize upd H1 l (.lst ((L.set one.toNat x2).map V.str)) = H2 at s2 f1
      have i2 : ixN ((L.set one.toNat x2).map V.str).length oth = some oth.toNat := by unfold ixN; rw [if_pos n0, if_pos (by rw [List.length_map, List.length_set]; exact n1)]
      refine ⟨_, rfl, _, rfl, _, rfl, l, _, _, _, rfl, rfl, f1, i2, ?_⟩
      rw [map_set]
      have s3 : Same H (upd H2 l (.lst (((L.set one.toNat x2).set oth.toNat x1).map V.str))) := s2.upd_of nl
      have f2 : (upd H2 l (.lst (((L.set one.toNat x2).set oth.toNat x1).map V.str))) l = some (.lst (((L.set one.toNat x2).set oth.toNat x1).map V.str)) := upd_same
      have hin : ∀ p ∈ (L.set one.toNat x2).set oth.toNat x1, p ∈ L := fun p hp => by
        rcases mem_set hp with z | z
        · rcases mem_set z with z | z
          · exact z
          · rw [z]; exact hxm2
        · rw [z]; exact hxm
      refine ⟨rfl, _, rfl, _, l, _, rfl, rfl, SqL.of f2, fit _ hin (by rw [List.length_set, List.length_set]; omega), fin _ hin (by rw [swap_cnt hx1 hx2]; omega) _ s3⟩
    refine ⟨_, (pss_cons (ps_set (i := 3) sc_l_spoilt.nd rfl (Or.inl rfl) (pe_op op_mod (pe_ix ix_list (pv 1) (pv 2) (fun _ _ => rfl)) pe_int))
        (pss_cons (ps_set (i := 4) sc_l_spoilt.nd rfl (Or.inl rfl) (pe_op op_mod (pe_ix ix_list (pv 1) (pe_op op_add (pv 2) pe_int) (fun _ _ => rfl)) (pe_op op_add (pe_callB call_len_str rfl T.b_len PySem.boot_len (pac (pv 0) pa_nil)) pe_int)))
        (pss_cons (ps_set (i := 5) sc_l_spoilt.nd rfl (Or.inl rfl) (pe_ix ix_str pe_str (pe_op op_mod (pe_ix ix_list (pv 1) (pe_op op_add (pv 2) pe_int) (fun _ _ => rfl)) pe_int) (fun _ _ => rfl)))
        (pss_cons (ps_if (pt_cmpR op_lt (pv 3) pe_int (nomark _)) (pss_one (ps_ret (pe_op op_add_str (pe_op op_add_str (pe_slice sl_str (pv 0) po_none (po_some (pv 4))) (pv 5)) (pe_slice sl_str (pv 0) (po_some (pv 4)) po_none)))) pss_nil)
        (pss_cons (ps_if (pt_cmpR op_eq (pv 3) pe_int (nomark _)) (pss_one (ps_ret (pe_op op_add_str (pe_op op_add_str (pe_slice sl_str (pv 0) po_none (po_some (pv 4))) (pv 5)) (pe_slice sl_str (pv 0) (po_some (pe_op op_add (pv 4) pe_int)) po_none)))) pss_nil)
        (pss_cons (ps_if (pt_cmpR op_eq (pv 3) pe_int (nomark _)) (pss_one (ps_ret (pe_op op_add_str (pe_slice sl_str (pv 0) po_none (po_some (pv 4))) (pe_slice sl_str (pv 0) (po_some (pe_op op_add (pv 4) pe_int)) po_none)))) pss_nil)
        h6)))))), ?_⟩
    have s0 : Same H H := Same.refl H
    refine ⟨_, rfl, _, rfl, R, _, _, _, rfl, rfl, sq s0, e0, _, _, rfl, rfl, (by show (0 : Int) < 7; decide), ?_⟩
    refine ⟨_, rfl, _, rfl, _, _, rfl, rfl, R, _, _, _, rfl, rfl, sq s0, e1, _, rfl, y, rfl, hsm _ (by omega), _, _, rfl, rfl, _, _, rfl, rfl, (by show (0 : Int) < (y.length : Int) + 1; omega), ?_⟩
    obtain ⟨c, hc, hcm⟩ := pick_sign (z := oddS) (i := z2 % 48) (Int.emod_nonneg _ (by decide)) (by rw [odd_len]; exact Int.emod_lt_of_pos _ (by decide))
    refine ⟨_, rfl, _, rfl, _, _, rfl, rfl, R, _, _, _, rfl, rfl, sq s0, e2, _, _, rfl, rfl, (by show (0 : Int) < 48; decide), oddS, _, c, rfl, rfl, odd_small, hc, ?_⟩
    have hc1 := one_len c
    have ac := odd_asc.one hcm
    have l1 := sl_le y none (some (z1 % ((y.length : Int) + 1)))
    have l2 := sl_le y (some (z1 % ((y.length : Int) + 1))) none
    have l3 := sl_le y (some (z1 % ((y.length : Int) + 1) + 1)) none
    refine ⟨_, rfl, _, _, rfl, rfl, _, rfl, ite2 (fun _ => ?_) (fun _ => ?_)⟩
    · refine ⟨_, rfl, _, rfl, _, rfl, y, rfl, hsm _ (by omega), _, rfl, _, _, rfl, rfl, hsm _ (by rw [hc1]; omega), _, rfl, _, rfl, _, rfl, y, rfl, hsm _ (by omega), _, _, rfl, rfl, hsm _ (by rw [cat_len, hc1]; omega), ?_⟩
      exact kk _ (((slice_asc ha _ _).app ac).app (slice_asc ha _ _)) (by rw [cat_len, cat_len, hc1]; omega) H s0
    refine ⟨_, rfl, rfl, _, rfl, ite2 (fun _ => ?_) (fun _ => ?_)⟩
    · refine ⟨_, rfl, _, rfl, _, rfl, y, rfl, hsm _ (by omega), _, rfl, _, _, rfl, rfl, hsm _ (by rw [hc1]; omega), _, rfl, _, rfl, _, _, rfl, rfl, _, rfl, y, rfl, hsm _ (by omega), _, _, rfl, rfl, hsm _ (by rw [cat_len, hc1]; omega), ?_⟩
      exact kk _ (((slice_asc ha _ _).app ac).app (slice_asc ha _ _)) (by rw [cat_len, cat_len, hc1]; omega) H s0
    refine ⟨_, rfl, rfl, _, rfl, ite2 (fun _ => ?_) (fun _ => ?_)⟩
    · refine ⟨_, rfl, _, rfl, _, rfl, y, rfl, hsm _ (by omega), _, rfl, _, rfl, _, _, rfl, rfl, _, rfl, y, rfl, hsm _ (by omega), _, _, rfl, rfl, hsm _ (by omega), ?_⟩
      exact kk _ ((slice_asc ha _ _).app (slice_asc ha _ _)) (by rw [cat_len]; omega) H s0
    exact sp6 _ _ _
end
inductive spOneClass_I (a : Adr) (vs : List V) (H : Hp) (Q : VK) : Prop
  | mk : ∀ (e : Addr), vs = [.ref e] → H e = some (ExcO a.C_NoLetter e) → (∀ H', Same H H' → Q (.bl true) H') → spOneClass_I a vs H Q
def spOneClass (a : Adr) : Sp := fun vs H Q _ => spOneClass_I a vs H Q
section
variable {P : Program} {w : World} {K : PySem.W.Frag} {mg : Str → Option Value} {base : Heap} {a : Adr}
theorem ok_oneclass {fd : FuncData} (F : Fun K "_law_of_one_class" "_law_of_one_class" sl_of_one_class a.f_l_of_one_class fd) (T : Txt K mg a) : FnOkU P w K mg base 1 a.f_l_of_one_class fd ["_law_e"] (spOneClass a) := by
  refine F.okU sc_l_of_one_class (fun vs H Q E h => ?_) (fun cdv A outer s H vs Q E hr h => ?_)
  · obtain ⟨e, rfl, _⟩ := h; rfl
  · obtain ⟨e, rfl, he, k⟩ := h
    refine ⟨_, (pss_cons (ps_set (i := 1) sc_l_of_one_class.nd rfl (Or.inl rfl) (pe_lstS (pas_cons (pe_callB call_isexc rfl T.b_isinstance PyProof.Rows.boot_isinstance (pac (pv 0) (pac (pe_gl (v := .ref a.C_NoWord) rfl ⟨_, T.mx_NoWord, rfl⟩) pa_nil))) (pas_cons (pe_callB call_isexc rfl T.b_isinstance PyProof.Rows.boot_isinstance (pac (pv 0) (pac (pe_gl (v := .ref a.C_NoLetter) rfl ⟨_, T.mx_NoLetter, rfl⟩) pa_nil))) (pas_cons (pe_callB call_isexc rfl T.b_isinstance PyProof.Rows.boot_isinstance (pac (pv 0) (pac (pe_gl (v := .ref a.C_NoRule) rfl ⟨_, T.mx_NoRule, rfl⟩) pa_nil))) (pas_cons (pe_callB call_isexc rfl T.b_isinstance PyProof.Rows.boot_isinstance (pac (pv 0) (pac (pe_gl (v := .ref a.C_NoName) rfl ⟨_, T.mx_NoName, rfl⟩) pa_nil))) pas_nil))))))
        (pss_cons (ps_set (i := 1) sc_l_of_one_class.nd rfl (Or.inl rfl) (pe_op op_cat (pv 1) (pe_lstS (pas_cons (pe_callB call_isexc rfl T.b_isinstance PyProof.Rows.boot_isinstance (pac (pv 0) (pac (pe_gl (v := .ref a.C_NoParcel) rfl ⟨_, T.mx_NoParcel, rfl⟩) pa_nil))) (pas_cons (pe_callB call_isexc rfl T.b_isinstance PyProof.Rows.boot_isinstance (pac (pv 0) (pac (pe_gl (v := .ref a.C_NoRow) rfl ⟨_, T.mx_NoRow, rfl⟩) pa_nil))) pas_nil)))))
        (pss_one (ps_ret (pe_and (pe_callB call_isexc rfl T.b_isinstance PyProof.Rows.boot_isinstance (pac (pv 0) (pac (pe_bltn (v := .ty "ValueError") rfl T.b_ValueError boot_VE rfl) pa_nil))) (pe_one (pe_cmpR op_eq (pe_bm PySem.F.plainAttrs_list PySem.F.slot_list_count PySem.F.type_list_count mt_countB (pv 1) (pac pe_bl pa_nil)) pe_int (nomark _)))))))), ?_⟩
    refine ⟨_, rfl, e, _, _, _, _, rfl, he, T.xg_NoLetter, rfl, T.ki_NoLetter_NoWord, _, rfl, e, _, _, _, _, rfl, he, T.xg_NoLetter, rfl, T.ki_NoLetter_NoLetter, _, rfl, e, _, _, _, _, rfl, he, T.xg_NoLetter, rfl, T.ki_NoLetter_NoRule, _, rfl, e, _, _, _, _, rfl, he, T.xg_NoLetter, rfl, T.ki_NoLetter_NoName, (by show 4 ≤ sizeLine; decide), fun l hl => ?_⟩
    have s1 : Same H (upd H l (.lst [.bl false, .bl true, .bl false, .bl false])) := Same.upd_new hl
    have e1 : (upd H l (.lst [.bl false, .bl true, .bl false, .bl false])) l = some (.lst [.bl false, .bl true, .bl false, .bl false]) := upd_same
    show tSeq _ _ _ _ (upd H l (.lst [.bl false, .bl true, .bl false, .bl false]))
    generalize upd H l (.lst [.bl false, .bl true, .bl false, .bl false]) = H1 at s1 e1
    have he1 := s1 _ _ he
    refine ⟨_, rfl, _, rfl, e, _, _, _, _, rfl, he1, T.xg_NoLetter, rfl, T.ki_NoLetter_NoParcel, _, rfl, e, _, _, _, _, rfl, he1, T.xg_NoLetter, rfl, T.ki_NoLetter_NoRow, (by show 2 ≤ sizeLine; decide), fun m hm => ?_⟩
    have s2 : Same H1 (upd H1 m (.lst [.bl false, .bl false])) := Same.upd_new hm
    have e2 : (upd H1 m (.lst [.bl false, .bl false])) m = some (.lst [.bl false, .bl false]) := upd_same
    have e12 := s2 _ _ e1
    have he2 := s2 _ _ he1
    generalize upd H1 m (.lst [.bl false, .bl false]) = H2 at s2 e2 e12 he2
    refine ⟨l, m, _, _, rfl, rfl, e12, e2, (by show 6 ≤ sizeLine; decide), fun r hr => ?_⟩
    have s3 : Same H2 (upd H2 r (.lst ([false, true, false, false, false, false].map V.bl))) := Same.upd_new hr
    have e3 : (upd H2 r (.lst ([false, true, false, false, false, false].map V.bl))) r = some (.lst ([false, true, false, false, false, false].map V.bl)) := upd_same
    show tSeq _ _ _ _ (upd H2 r (.lst ([false, true, false, false, false, false].map V.bl)))
    generalize upd H2 r (.lst ([false, true, false, false, false, false].map V.bl)) = H3 at s3 e3
    have he3 := s3 _ _ he2
    refine ⟨_, rfl, e, _, _, _, _, rfl, he3, T.xg_NoLetter, rfl, T.ki_NoLetter_ValueError, _, rfl, ?_⟩
    refine iteT ?_
    refine ⟨_, rfl, .inl ⟨rfl, _, SqL.of e3⟩, r, [false, true, false, false, false, false], true, rfl, rfl, e3, rfl, ?_⟩
    exact k _ (s1.trans (s2.trans s3))
end
def okV : V → Bool
  | .str y => decide (y.length ≤ 1000) && y.cps.toList.all fun c => decide (c < 128)
  | _ => false
theorem pickF {H : Hp} {q : Addr} {xs : List V} {i : Int} (f : H q = some (.lst xs)) (h0 : 0 ≤ i) (h1 : i < (xs.length : Int)) (ok : xs.all okV = true) : ∃ y, atI xs i = some (.str y) ∧ Asc y ∧ y.length ≤ 1000 := by
  obtain ⟨v, hv, hvm, _⟩ := atI_some h0 h1
  have := List.all_eq_true.mp ok v hvm
  cases v with
  | str y =>
    rw [show okV (.str y) = (decide (y.length ≤ 1000) && y.cps.toList.all fun c => decide (c < 128)) from rfl, Bool.and_eq_true] at this
    exact ⟨y, hv, asc_of this.2, of_decide_eq_true this.1⟩
  | _ => cases this
inductive spOddT_I (vs : List V) (H : Hp) (Q : VK) : Prop
  | mk : ∀ n : Int, vs = [.int n] → (∀ y : Str, Asc y → y.length ≤ 1000 → ∀ H', Same H H' → Q (.str y) H') → spOddT_I vs H Q
def spOddT : Sp := fun vs H Q _ => spOddT_I vs H Q
inductive spRefX_I (vs : List V) (H : Hp) (Q : VK) : Prop
  | mk : ∀ y : Str, vs = [.str y] → y.length ≤ 1000 → Asc y → readP y = none → (∀ H', Same H H' → Q (.bl true) H') → spRefX_I vs H Q
def spRefX : Sp := fun vs H Q _ => spRefX_I vs H Q
inductive spLReadX_I (vs : List V) (H : Hp) (Q : VK) : Prop
  | mk : ∀ (y s t b : Str) (d : Int) (an : Str), vs = [.str y] → y.length ≤ 1000 → Asc y → readP y = some (s, t, b, d, an) → (∀ p H', Same H H' → H' p = some (.tup [.str s, .str t, .str b, .int d, .str an]) → Q (.ref p) H') → spLReadX_I vs H Q
def spLReadX : Sp := fun vs H Q _ => spLReadX_I vs H Q
section
variable {P : Program} {w : World} {K : PySem.W.Frag} {mg : Str → Option Value} {base : Heap} {a : Adr}
theorem ok_oddt {fd : FuncData} (F : Fun K "_law_odd_text" "_law_odd_text" sl_odd_text a.f_l_odd_text fd) (T : Txt K mg a) : FnOk P w K mg base CX0 1 a.f_l_odd_text fd ["_law_number"] spOddT := by
  refine F.ok sc_l_odd_text (fun vs H Q E h => ?_) (fun cdv A outer s H vs Q E hr h => ?_)
  · obtain ⟨n, rfl, _⟩ := h; rfl
  · obtain ⟨n, rfl, k⟩ := h
    refine ⟨_, (pss_cons (ps_set (i := 1) sc_l_odd_text.nd rfl (Or.inl rfl) (pe_lstG (pas_cons pe_str (pas_cons pe_str (pas_cons pe_str (pas_cons pe_str (pas_cons pe_str pas_nil)))))))
        (pss_cons (ps_set (i := 1) sc_l_odd_text.nd rfl (Or.inl rfl) (pe_op op_catG (pv 1) (pe_lstG (pas_cons pe_str pas_nil))))
        (pss_cons (ps_set (i := 1) sc_l_odd_text.nd rfl (Or.inl rfl) (pe_op op_catG (pv 1) (pe_lstG (pas_cons pe_str (pas_cons pe_str pas_nil)))))
        (pss_cons (ps_set (i := 1) sc_l_odd_text.nd rfl (Or.inl rfl) (pe_op op_catG (pv 1) (pe_lstG (pas_cons pe_str pas_nil))))
        (pss_cons (ps_set (i := 1) sc_l_odd_text.nd rfl (Or.inl rfl) (pe_op op_catG (pv 1) (pe_lstG (pas_cons pe_str (pas_cons pe_str pas_nil)))))
        (pss_cons (ps_set (i := 1) sc_l_odd_text.nd rfl (Or.inl rfl) (pe_op op_catG (pv 1) (pe_lstG (pas_cons pe_str (pas_cons pe_str pas_nil)))))
        (pss_cons (ps_set (i := 1) sc_l_odd_text.nd rfl (Or.inl rfl) (pe_op op_catG (pv 1) (pe_lstG (pas_cons pe_str pas_nil))))
        (pss_cons (ps_set (i := 1) sc_l_odd_text.nd rfl (Or.inl rfl) (pe_op op_catG (pv 1) (pe_lstG (pas_cons pe_str (pas_cons pe_str (pas_cons pe_str pas_nil))))))
        (pss_cons (ps_set (i := 1) sc_l_odd_text.nd rfl (Or.inl rfl) (pe_op op_catG (pv 1) (pe_lstG (pas_cons pe_str (pas_cons pe_str pas_nil)))))
        (pss_cons (ps_set (i := 1) sc_l_odd_text.nd rfl (Or.inl rfl) (pe_op op_catG (pv 1) (pe_lstG (pas_cons pe_str pas_nil))))
        (pss_one (ps_ret (pe_ix ix_list (pv 1) (pe_op op_mod (pv 0) pe_int) (fun _ _ => rfl)))))))))))))), ?_⟩
    refine ⟨by show 5 ≤ sizeLine; decide, fun l H1 nl s1 e1 => ?_⟩
    refine ⟨_, rfl, by show 1 ≤ sizeLine; decide, fun m2 H2 _ s2 f2 => ⟨l, m2, _, _, rfl, rfl, s2 _ _ e1, f2, by show 6 ≤ sizeLine; decide, fun l2 H2 _ s2b e2 => ?_⟩⟩
    refine ⟨_, rfl, by show 2 ≤ sizeLine; decide, fun m3 H3 _ s3 f3 => ⟨l2, m3, _, _, rfl, rfl, s3 _ _ e2, f3, by show 8 ≤ sizeLine; decide, fun l3 H3 _ s3b e3 => ?_⟩⟩
    refine ⟨_, rfl, by show 1 ≤ sizeLine; decide, fun m4 H4 _ s4 f4 => ⟨l3, m4, _, _, rfl, rfl, s4 _ _ e3, f4, by show 9 ≤ sizeLine; decide, fun l4 H4 _ s4b e4 => ?_⟩⟩
    refine ⟨_, rfl, by show 2 ≤ sizeLine; decide, fun m5 H5 _ s5 f5 => ⟨l4, m5, _, _, rfl, rfl, s5 _ _ e4, f5, by show 11 ≤ sizeLine; decide, fun l5 H5 _ s5b e5 => ?_⟩⟩
    refine ⟨_, rfl, by show 2 ≤ sizeLine; decide, fun m6 H6 _ s6 f6 => ⟨l5, m6, _, _, rfl, rfl, s6 _ _ e5, f6, by show 13 ≤ sizeLine; decide, fun l6 H6 _ s6b e6 => ?_⟩⟩
    refine ⟨_, rfl, by show 1 ≤ sizeLine; decide, fun m7 H7 _ s7 f7 => ⟨l6, m7, _, _, rfl, rfl, s7 _ _ e6, f7, by show 14 ≤ sizeLine; decide, fun l7 H7 _ s7b e7 => ?_⟩⟩
    refine ⟨_, rfl, by show 3 ≤ sizeLine; decide, fun m8 H8 _ s8 f8 => ⟨l7, m8, _, _, rfl, rfl, s8 _ _ e7, f8, by show 17 ≤ sizeLine; decide, fun l8 H8 _ s8b e8 => ?_⟩⟩
    refine ⟨_, rfl, by show 2 ≤ sizeLine; decide, fun m9 H9 _ s9 f9 => ⟨l8, m9, _, _, rfl, rfl, s9 _ _ e8, f9, by show 19 ≤ sizeLine; decide, fun l9 H9 _ s9b e9 => ?_⟩⟩
    refine ⟨_, rfl, by show 1 ≤ sizeLine; decide, fun m10 H10 _ s10 f10 => ⟨l9, m10, _, _, rfl, rfl, s10 _ _ e9, f10, by show 20 ≤ sizeLine; decide, fun l10 H10 _ s10b e10 => ?_⟩⟩
    obtain ⟨y, hy, ay, ly⟩ := pickF (i := n % 20) e10 (Int.emod_nonneg _ (by decide)) (Int.emod_lt_of_pos _ (by decide)) (by decide +kernel)
    refine ⟨_, rfl, _, rfl, _, _, rfl, rfl, (by show (0 : Int) < 20; decide), l10, _, _, _, rfl, rfl, SqL.of e10, hy, ?_⟩
    exact k y ay ly _ (s1.trans (s2.trans (s2b.trans (s3.trans (s3b.trans (s4.trans (s4b.trans (s5.trans (s5b.trans (s6.trans (s6b.trans (s7.trans (s7b.trans (s8.trans (s8b.trans (s9.trans (s9b.trans (s10.trans s10b))))))))))))))))))
theorem ok_refX {fd : FuncData} (F : Fun K "_law_refused" "_law_refused" sl_refused a.f_l_refused fd) (T : Txt K mg a) (FF : Funs K a) : FnOk P w K mg base CX0 9 a.f_l_refused fd ["_law_text"] spRefX := by
  obtain ⟨fdR, F_read, b_read⟩ := FF.F_read_letter
  have G_read : FnOk P w K mg base (CXF P w) 8 a.f_read_letter fdR ["text"] (spReadX a) := ok_readX F_read T FF
  obtain ⟨fdO, F_l_one, b_l_one⟩ := FF.F_l_of_one_class
  have G_l_one : FnOkU P w K mg base 1 a.f_l_of_one_class fdO ["_law_e"] (spOneClass a) := ok_oneclass F_l_one T
  refine F.ok sc_l_refused (fun vs H Q E h => ?_) (fun cdv A outer s H vs Q E hr h => ?_)
  · obtain ⟨y, rfl, _⟩ := h; rfl
  · obtain ⟨y, rfl, hl, ha, hn, k⟩ := h
    have hr8 : Room 8 _ := hr
    refine ⟨_, (pss_cons (ps_set (i := 1) sc_l_refused.nd rfl (Or.inl rfl) pe_bl)
        (pss_cons (ps_tryX (R := fun σ c _ H' => c = .ref a.C_NoLetter ∧ σ = [some (.str y), some (.bl false), none] ∧ Same H H') rfl T.mx_NoLetter T.x_NoLetter rfl rfl (fun σ C H' q => by obtain ⟨e, _⟩ := q; cases e; exact ⟨T.x_NoLetter, T.s_NoLetter_NoLetter⟩)
          (fun pn => pss_one (ps_expr (pe_callX (R := fun σ c _ H' => c = .ref a.C_NoLetter ∧ σ = [some (.str y), some (.bl false), none] ∧ Same H H') G_read hr8 rfl T.m_read_letter F_read.kp b_read .nil passT (pac (pv 0) pa_nil))))
          (fun ev => pss_one (ps_set (i := 1) sc_l_refused.nd rfl (Or.inl rfl) pe_bl)))
        (pss_cons (ps_tryAs (i := 2) (R := fun σ c _ H' => c = .ref a.C_NoLetter ∧ σ = [some (.str y), some (.bl true), none] ∧ Same H H') rfl T.mx_MailError T.x_MailError rfl rfl rfl sc_l_refused.nd rfl rfl (fun σ C H' q => by obtain ⟨e, _⟩ := q; cases e; exact ⟨T.x_NoLetter, T.s_NoLetter_MailError⟩)
          (fun pn => pss_one (ps_expr (pe_callX (R := fun σ c _ H' => c = .ref a.C_NoLetter ∧ σ = [some (.str y), some (.bl true), none] ∧ Same H H') G_read hr8 rfl T.m_read_letter F_read.kp b_read .nil passT (pac (pv 0) pa_nil))))
          (fun ev => pss_one (ps_ret (pe_and (pv 1) (pe_one (pe_callU (E := E) G_l_one ((hr.mono (by decide)).toU.mark _) rfl T.m_l_of_one_class F_l_one.kp b_l_one .nil (pac (pv 2) pa_nil)))))))
        (pss_one (ps_ret pe_bl))))), ?_⟩
    refine ⟨fun σ' C H' hq => ?_, ?_⟩
    · obtain ⟨hC, rfl, s1⟩ := hq
      refine ⟨fun σ' C H' e hq he => ?_, ?_⟩
      · obtain ⟨hC, rfl, s2⟩ := hq
        cases hC
        exact ⟨_, rfl, _, rfl, iteT ⟨_, rfl, e, rfl, upd_same, fun H2 s3 => k _ (s2.trans ((Same.upd_new he).trans s3))⟩⟩
      · refine ⟨_, rfl, y, rfl, hl, ha, fun s t b d an hs => ?_, fun _ H2 s2 => ⟨rfl, rfl, s1.trans s2⟩⟩
        rw [hn] at hs
        cases hs
    · refine ⟨_, rfl, y, rfl, hl, ha, fun s t b d an hs => ?_, fun _ H2 s2 => ⟨rfl, rfl, s2⟩⟩
      rw [hn] at hs
      cases hs
theorem ok_lreadX {fd : FuncData} (F : Fun K "_law_read" "_law_read" sl_read a.f_l_read fd) (T : Txt K mg a) (FF : Funs K a) : FnOk P w K mg base CX0 9 a.f_l_read fd ["_law_text"] spLReadX := by
  obtain ⟨fdR, F_read, b_read⟩ := FF.F_read_letter
  have G_read : FnOk P w K mg base (CXF P w) 8 a.f_read_letter fdR ["text"] (spReadX a) := ok_readX F_read T FF
  obtain ⟨fdB, F_Letter_parts, b_Letter_parts⟩ := FF.F_Letter_parts
  have G_Letter_parts : FnOk P w K mg base CX0 1 a.f_Letter_parts fdB ["self"] (spPartsV a) := ok_partsV F_Letter_parts T
  refine F.ok sc_l_read (fun vs H Q E h => ?_) (fun cdv A outer st H vs Q E hr h => ?_)
  · obtain ⟨y, s, t, b, d, an, rfl, _⟩ := h; rfl
  · obtain ⟨y, s, t, b, d, an, rfl, hl, ha, hs, k⟩ := h
    have hr8 : Room 8 _ := hr
    have hr1 : Room 1 _ := hr.mono (by decide)
    refine ⟨_, (pss_one (ps_tryX (R := fun _ _ _ _ => False) rfl T.mx_NoLetter T.x_NoLetter rfl rfl (fun σ C H' q => q.elim)
          (fun pn => pss_one (ps_ret (pe_meth0 (pe_callX (R := fun _ _ _ _ => False) G_read hr8 rfl T.m_read_letter F_read.kp b_read .nil passT (pac (pv 0) pa_nil)) T.c_Letter T.M_Letter_parts G_Letter_parts hr1 b_Letter_parts .nil pass0)))
          (fun ev => pss_one (ps_ret (pe_tupG pas_nil))))), ?_⟩
    refine ⟨fun σ' C H' hq => hq.elim, ?_⟩
    refine ⟨_, rfl, y, rfl, hl, ha, fun s' t' b' d' an' hs' x H2 nx s2 hL => ?_, fun hn => by rw [hn] at hs; cases hs⟩
    rw [hs] at hs'
    simp only [Option.some.injEq, Prod.mk.injEq] at hs'
    obtain ⟨rfl, rfl, rfl, rfl, rfl⟩ := hs'
    obtain ⟨dx, ex⟩ := hL
    exact ⟨x, dx, _, rfl, ex, rfl, x, dx, _, _, _, _, _, rfl, ex, fun p hp => k p _ (s2.upd_of (s2.free hp)) upd_same⟩
end
/-- a title -/
structure Tit (t : Str) : Prop where
  a_ : Asc t
  l_ : t.length ≤ 60
  n_ : ¬ 10 ∈ t.cps.toList
structure Bod (b : Str) : Prop where
  a_ : Asc b
  l_ : b.length ≤ 400
theorem prt_tit {t : Str} (h : Prt t) (hl : t.length ≤ 60) : Tit t := ⟨h.asc, hl, fun z => absurd (h 10 z).1 (by decide)⟩
def spLParts : Sp := fun vs H Q _ => ∃ (R : Addr) (rs : List Int) (bs : Int), vs = [.ref R, .int bs] ∧ H R = some (.lst (rs.map V.int)) ∧ 16 ≤ rs.length ∧ (∀ r ∈ rs, 0 ≤ r ∧ r < 2147483629) ∧ 0 ≤ bs ∧ bs < 2147483629 ∧
  ∀ p s t b d an H', Good s t b d an → Same H H' → H' p = some (.tup [.str s, .str t, .str b, .int d, .str an]) → Q (.ref p) H'
section
variable {P : Program} {w : World} {K : PySem.W.Frag} {mg : Str → Option Value} {base : Heap} {a : Adr}
theorem ok_lparts {fd : FuncData} (F : Fun K "_law_parts" "_law_parts" sl_parts a.f_l_parts fd) (T : Txt K mg a) (FF : Funs K a) : FnOk P w K mg base CX0 2 a.f_l_parts fd ["_law_row_here", "_law_base"] spLParts := by
  obtain ⟨fdS, F_l_signs, b_l_signs⟩ := FF.F_l_signs
  obtain ⟨fdW, F_l_word, b_l_word⟩ := FF.F_l_word
  have G_l_signs : FnOk P w K mg base CX0 1 a.f_l_signs fdS ["_law_number", "_law_many"] spSigns := ok_signs F_l_signs T
  have G_l_word : FnOk P w K mg base CX0 1 a.f_l_word fdW ["_law_base", "_law_turn"] spWord := ok_word F_l_word T
  refine F.ok sc_l_parts (fun vs H Q E h => ?_) (fun cdv A outer s H vs Q E hr h => ?_)
  · obtain ⟨R, rs, bs, rfl, _⟩ := h; rfl
  · obtain ⟨R, rs, bs, rfl, hR, hl, hb, hb0, hb1, k⟩ := h
    have hr_l_signs : Room 1 _ := hr
    have hr_l_word : Room 1 _ := hr
    have hsm : ∀ n : Nat, n ≤ 1000 → n ≤ sizeLine := fun n h => Nat.le_of_lt (small1000 h)
    obtain ⟨z0, e0, b00, b01⟩ := row_pick hb 0 (by decide) (by omega)
    obtain ⟨z1, e1, b10, b11⟩ := row_pick hb 1 (by decide) (by omega)
    obtain ⟨z2, e2, b20, b21⟩ := row_pick hb 2 (by decide) (by omega)
    obtain ⟨z3, e3, b30, b31⟩ := row_pick hb 3 (by decide) (by omega)
    obtain ⟨z4, e4, b40, b41⟩ := row_pick hb 4 (by decide) (by omega)
    obtain ⟨z5, e5, b50, b51⟩ := row_pick hb 5 (by decide) (by omega)
    obtain ⟨z6, e6, b60, b61⟩ := row_pick hb 6 (by decide) (by omega)
    obtain ⟨z7, e7, b70, b71⟩ := row_pick hb 7 (by decide) (by omega)
    obtain ⟨z8, e8, b80, b81⟩ := row_pick hb 8 (by decide) (by omega)
    obtain ⟨z9, e9, b90, b91⟩ := row_pick hb 9 (by decide) (by omega)
    obtain ⟨z10, e10, b100, b101⟩ := row_pick hb 10 (by decide) (by omega)
    have sq : ∀ {H1 : Hp}, Same H H1 → SqL K H1 R (rs.map V.int) := fun s1 => SqL.of (s1 _ _ hR)
    clear hR
    obtain ⟨t4, h4, sp4⟩ : ∃ t, PSs (cxOf CX0 P w K mg base n_l_parts "_law_parts" (defScope sl_parts) a.f_l_parts cdv A outer s H E).nox ((defBody sl_parts).drop 4) t ∧
        ∀ (H1 : Hp) (o4 : Option V) (t1 b1 : Str), Same H H1 → Tit t1 → Bod b1 →
          t { nx := fun _ H' => Q .non H', rt := Q } [some (.ref R), some (.int bs), some (.str t1), some (.str b1), o4, none, none] H1 := by
      refine ⟨_, (pss_cons (ps_set (i := 5) sc_l_parts.nd rfl (Or.inl rfl) (pe_ix ix_list (pe_lstS (pas_cons (pe_op op_mod (pe_ix ix_list (pv 0) pe_int (fun _ _ => rfl)) pe_int) (pas_cons (pe_op op_mod (pe_ix ix_list (pv 0) pe_int (fun _ _ => rfl)) pe_int) (pas_cons pe_int (pas_cons pe_int pas_nil))))) (pe_op op_mod (pe_ix ix_list (pv 0) pe_int (fun _ _ => rfl)) pe_int) (fun _ _ => rfl)))
        (pss_cons (ps_set (i := 6) sc_l_parts.nd rfl (Or.inl rfl) pe_str)
        (pss_cons (ps_if (pt_cmpR op_eq (pe_op op_mod (pe_ix ix_list (pv 0) pe_int (fun _ _ => rfl)) pe_int) pe_int (nomark _)) (pss_one (ps_set (i := 6) sc_l_parts.nd rfl (Or.inl rfl) (pe_call G_l_word hr_l_word rfl T.m_l_word F_l_word.kp b_l_word .nil pass0 (pac (pv 1) (pac (pe_op op_mod (pe_op op_fdiv (pe_ix ix_list (pv 0) pe_int (fun _ _ => rfl)) pe_int) pe_int) pa_nil))))) pss_nil)
        (pss_one (ps_ret (pe_tupS (pas_cons (pe_call G_l_word hr_l_word rfl T.m_l_word F_l_word.kp b_l_word .nil pass0 (pac (pv 1) (pac (pe_op op_add pe_int (pe_op op_mod (pe_ix ix_list (pv 0) pe_int (fun _ _ => rfl)) pe_int)) pa_nil))) (pas_cons (pv 2) (pas_cons (pv 3) (pas_cons (pv 5) (pas_cons (pv 6) pas_nil))))))))))), fun H1 o4 t1 b1 s1 ht hbd => ?_⟩
      refine ⟨_, rfl, R, _, _, _, rfl, rfl, sq s1, e7, _, _, rfl, rfl, (by show (0 : Int) < 10000; decide), _, rfl, R, _, _, _, rfl, rfl, sq s1, e7, _, _, rfl, rfl, (by show (0 : Int) < 10; decide), (by show 4 ≤ sizeLine; decide), fun l hl' => ?_⟩
      have s2 : Same H (upd H1 l (.lst [.int (z7 % 10000), .int (z7 % 10), .int 0, .int 9999])) := s1.upd_of (s1.free hl')
      obtain ⟨v, hv, hvm, _⟩ := atI_some (xs := [V.int (z7 % 10000), V.int (z7 % 10), V.int 0, V.int 9999]) (i := z8 % 4) (Int.emod_nonneg _ (by decide)) (Int.emod_lt_of_pos _ (by decide))
      obtain ⟨d, rfl, hd0, hd1⟩ : ∃ d : Int, v = .int d ∧ 0 ≤ d ∧ d ≤ 9999 := by
        have m1 : 0 ≤ z7 % 10000 := Int.emod_nonneg _ (by decide)
        have m2 : z7 % 10000 < 10000 := Int.emod_lt_of_pos _ (by decide)
        have m3 : 0 ≤ z7 % 10 := Int.emod_nonneg _ (by decide)
        have m4 : z7 % 10 < 10 := Int.emod_lt_of_pos _ (by decide)
        simp only [List.mem_cons, List.not_mem_nil, or_false] at hvm
        rcases hvm with rfl | rfl | rfl | rfl
        · exact ⟨_, rfl, by omega, by omega⟩
        · exact ⟨_, rfl, by omega, by omega⟩
        · exact ⟨_, rfl, by decide, by decide⟩
        · exact ⟨_, rfl, by decide, by decide⟩
      refine ⟨_, rfl, R, _, _, _, rfl, rfl, sq s2, e8, _, _, rfl, rfl, (by show (0 : Int) < 4; decide), l, _, _, _, rfl, rfl, SqL.of upd_same, hv, ?_⟩
      have m1 : 0 ≤ z9 / 2 % 9 := Int.emod_nonneg _ (by decide)
      have m2 : z9 / 2 % 9 < 9 := Int.emod_lt_of_pos _ (by decide)
      have m3 : 0 ≤ z10 % 9 := Int.emod_nonneg _ (by decide)
      have m4 : z10 % 9 < 9 := Int.emod_lt_of_pos _ (by decide)
      have fin : ∀ (H3 : Hp) (an : Str), Same H H3 → (an = "" ∨ WordS an) → tRet (tTup (tCons (tCall spWord [] E0 (tCons (tVar 1) (tCons (tOp (rI0 fun i j => .int (i + j)) (tC (.int 9)) (tOp (rI (fun _ j => 0 < j) fun i j => .int (i % j)) (tOp (rIxL K) (tVar 0) (tC (.int 10))) (tC (.int 9)))) tNil))) (tCons (tVar 2) (tCons (tVar 3) (tCons (tVar 5) (tCons (tVar 6) tNil)))))) { nx := fun _ H' => Q .non H', rt := Q } [some (.ref R), some (.int bs), some (.str t1), some (.str b1), o4, some (.int d), some (.str an)] H3 := fun H3 an s3 han => by
        refine ⟨_, rfl, _, rfl, R, _, _, _, rfl, rfl, sq s3, e10, _, _, rfl, rfl, (by show (0 : Int) < 9; decide), _, _, rfl, rfl, ?_⟩
        refine ⟨bs, 9 + z10 % 9, rfl, hb0, hb1, by omega, by omega, fun x H4 hx s4 => ?_⟩
        have s5 := s3.trans s4
        refine ⟨_, rfl, _, rfl, _, rfl, _, rfl, (by show 5 ≤ sizeLine; decide), fun p hp => ?_⟩
        exact k p x t1 b1 d an _ ⟨hx, ht.a_, ht.l_, ht.n_, hbd.a_, hbd.l_, hd0, hd1, han⟩ (s5.upd_of (s5.free hp)) upd_same
      refine ⟨_, rfl, R, _, _, _, rfl, rfl, sq s2, e9, _, _, rfl, rfl, (by show (0 : Int) < 2; decide), rfl, _, rfl, ?_⟩
      refine ite2 (fun _ => ?_) (fun _ => fin _ _ s2 (.inl rfl))
      refine ⟨_, rfl, _, rfl, R, _, _, _, rfl, rfl, sq s2, e9, _, _, rfl, rfl, ⟨by decide, by decide⟩, _, _, rfl, rfl, (by show (0 : Int) < 9; decide), ?_⟩
      exact ⟨bs, z9 / 2 % 9, rfl, hb0, hb1, by omega, by omega, fun x H4 hx s4 => fin _ _ (s2.trans s4) (.inr hx)⟩
    obtain ⟨t3, h3, sp3⟩ : ∃ t, PSs (cxOf CX0 P w K mg base n_l_parts "_law_parts" (defScope sl_parts) a.f_l_parts cdv A outer s H E).nox ((defBody sl_parts).drop 3) t ∧
        ∀ (H1 : Hp) (o4 : Option V) (t1 b1 : Str), Same H H1 → Tit t1 → Bod b1 →
          t { nx := fun _ H' => Q .non H', rt := Q } [some (.ref R), some (.int bs), some (.str t1), some (.str b1), o4, none, none] H1 := by
      refine ⟨_, (pss_cons (ps_if (pt_cmpR op_eq (pe_op op_mod (pe_ix ix_list (pv 0) pe_int (fun _ _ => rfl)) pe_int) pe_int (nomark _)) (pss_cons (ps_set (i := 2) sc_l_parts.nd rfl (Or.inl rfl) (pe_op op_add_str (pe_slice sl_str (pv 2) po_none (po_some pe_int)) (pe_slice sl_str (pv 2) po_none (po_some pe_int))))
        (pss_one (ps_set (i := 3) sc_l_parts.nd rfl (Or.inl rfl) (pe_slice sl_str (pe_op op_add_str (pe_op op_add_str (pv 2) pe_str) (pv 3)) po_none (po_some pe_int))))) pss_nil)
        h4), fun H1 o4 t1 b1 s1 ht hbd => ?_⟩
      refine ⟨_, rfl, R, _, _, _, rfl, rfl, sq s1, e5, _, _, rfl, rfl, (by show (0 : Int) < 8; decide), rfl, _, rfl, ?_⟩
      refine ite2 (fun _ => ?_) (fun _ => sp4 H1 _ t1 b1 s1 ht hbd)
      have l1 : (Txt.slice t1 none (some 20)).length ≤ 20 := cut_to_le t1 20
      have hl1 := ht.l_
      have hl2 := hbd.l_
      have l2 : (Txt.slice t1 none (some 20) ++ Txt.slice t1 none (some 20)).length ≤ 40 := by rw [cat_len]; exact Nat.add_le_add l1 l1
      have l3 : ((Txt.slice t1 none (some 20) ++ Txt.slice t1 none (some 20)) ++ (" " : Str)).length ≤ 41 := by rw [cat_len, blank_len]; omega
      refine ⟨_, rfl, _, rfl, t1, rfl, hsm _ (by omega), _, rfl, _, rfl, t1, rfl, hsm _ (by omega), _, _, rfl, rfl, hsm _ (Nat.le_trans (Nat.add_le_add l1 l1) (by decide)), ?_⟩
      have ta : Asc (Txt.slice t1 none (some 20) ++ Txt.slice t1 none (some 20)) := (slice_asc ht.a_ _ _).app (slice_asc ht.a_ _ _)
      refine ⟨_, rfl, _, _, rfl, rfl, hsm _ (by rw [blank_len]; omega), _, rfl, _, _, rfl, rfl, hsm _ (by omega), _, rfl, _, rfl, hsm _ (by rw [cat_len]; omega), ?_⟩
      refine sp4 H1 _ _ _ s1 ⟨ta, by omega, fun z => ?_⟩ ⟨slice_asc ((ta.app blank_prt.asc).app hbd.a_) _ _, cut_to_le _ 400⟩
      rw [cat_list] at z
      rcases List.mem_append.mp z with z | z
      · exact ht.n_ (slice_mem z)
      · exact ht.n_ (slice_mem z)
    obtain ⟨t2, h2, sp2⟩ : ∃ t, PSs (cxOf CX0 P w K mg base n_l_parts "_law_parts" (defScope sl_parts) a.f_l_parts cdv A outer s H E).nox ((defBody sl_parts).drop 2) t ∧
        ∀ (H1 : Hp) (t1 b1 : Str), Same H H1 → Tit t1 → Bod b1 →
          t { nx := fun _ H' => Q .non H', rt := Q } [some (.ref R), some (.int bs), some (.str t1), some (.str b1), none, none, none] H1 := by
      refine ⟨_, (pss_cons (ps_if (pt_cmpR op_eq (pe_op op_mod (pe_ix ix_list (pv 0) pe_int (fun _ _ => rfl)) pe_int) pe_int (nomark _)) (pss_cons (ps_set (i := 4) sc_l_parts.nd rfl (Or.inl rfl) (pe_op op_mod (pe_ix ix_list (pv 0) pe_int (fun _ _ => rfl)) (pe_op op_add (pe_callB call_len_str rfl T.b_len PySem.boot_len (pac (pv 3) pa_nil)) pe_int)))
        (pss_one (ps_set (i := 3) sc_l_parts.nd rfl (Or.inl rfl) (pe_slice sl_str (pe_op op_add_str (pe_op op_add_str (pe_slice sl_str (pv 3) po_none (po_some (pv 4))) pe_str) (pe_slice sl_str (pv 3) (po_some (pv 4)) po_none)) po_none (po_some pe_int))))) pss_nil)
        h3), fun H1 t1 b1 s1 ht hbd => ?_⟩
      refine ⟨_, rfl, R, _, _, _, rfl, rfl, sq s1, e5, _, _, rfl, rfl, (by show (0 : Int) < 4; decide), rfl, _, rfl, ?_⟩
      refine ite2 (fun _ => ?_) (fun _ => sp3 H1 _ t1 b1 s1 ht hbd)
      have hl2 := hbd.l_
      refine ⟨_, rfl, R, _, _, _, rfl, rfl, sq s1, e6, _, rfl, b1, rfl, hsm _ (by omega), _, _, rfl, rfl, _, _, rfl, rfl, (by show (0 : Int) < (b1.length : Int) + 1; omega), ?_⟩
      have l1 := sl_le b1 none (some (z6 % ((b1.length : Int) + 1)))
      have l2 := sl_le b1 (some (z6 % ((b1.length : Int) + 1))) none
      have hn1 : ("\n" : Str).length = 1 := by decide +kernel
      have na : Asc "\n" := asc_of (by decide +kernel)
      refine ⟨_, rfl, _, rfl, _, rfl, b1, rfl, hsm _ (by omega), _, _, rfl, rfl, hsm _ (by rw [hn1]; omega), _, rfl, _, rfl, _, rfl, b1, rfl, hsm _ (by omega), _, _, rfl, rfl, hsm _ (by rw [cat_len, hn1]; omega), _, rfl, _, rfl, hsm _ (by rw [cat_len, cat_len, hn1]; omega), ?_⟩
      exact sp3 H1 _ _ _ s1 ht ⟨slice_asc (((slice_asc hbd.a_ _ _).app na).app (slice_asc hbd.a_ _ _)) _ _, cut_to_le _ 400⟩
    refine ⟨_, (pss_cons (ps_set (i := 2) sc_l_parts.nd rfl (Or.inl rfl) (pe_call G_l_signs hr_l_signs rfl T.m_l_signs F_l_signs.kp b_l_signs .nil pass0 (pac (pe_ix ix_list (pv 0) pe_int (fun _ _ => rfl)) (pac (pe_op op_mod (pe_ix ix_list (pv 0) pe_int (fun _ _ => rfl)) pe_int) pa_nil))))
        (pss_cons (ps_set (i := 3) sc_l_parts.nd rfl (Or.inl rfl) (pe_call G_l_signs hr_l_signs rfl T.m_l_signs F_l_signs.kp b_l_signs .nil pass0 (pac (pe_ix ix_list (pv 0) pe_int (fun _ _ => rfl)) (pac (pe_op op_mod (pe_ix ix_list (pv 0) pe_int (fun _ _ => rfl)) (pe_ix ix_list (pe_lstS (pas_cons pe_int (pas_cons pe_int (pas_cons pe_int pas_nil)))) (pe_op op_mod (pe_ix ix_list (pv 0) pe_int (fun _ _ => rfl)) pe_int) (fun _ _ => rfl))) pa_nil))))
        h2)), ?_⟩
    have s0 : Same H H := Same.refl H
    have n0 : 0 ≤ z1 % 61 := Int.emod_nonneg _ (by decide)
    have n1 : z1 % 61 < 61 := Int.emod_lt_of_pos _ (by decide)
    refine ⟨_, rfl, R, _, _, _, rfl, rfl, sq s0, e0, _, rfl, R, _, _, _, rfl, rfl, sq s0, e1, _, _, rfl, rfl, (by show (0 : Int) < 61; decide), ?_⟩
    refine ⟨z0, (z1 % 61).toNat, (by rw [show (((z1 % 61).toNat : Nat) : Int) = z1 % 61 by omega]; rfl), b00, by omega, by omega, fun t1 pt1 lt1 => ?_⟩
    have ht : Tit t1 := prt_tit pt1 (by omega)
    obtain ⟨v, hv, hvm, _⟩ := atI_some (xs := [V.int 20, V.int 20, V.int 401]) (i := z4 % 3) (Int.emod_nonneg _ (by decide)) (Int.emod_lt_of_pos _ (by decide))
    obtain ⟨m, rfl, hm0, hm1⟩ : ∃ m : Int, v = .int m ∧ 0 < m ∧ m ≤ 401 := by
      simp only [List.mem_cons, List.not_mem_nil, or_false] at hvm
      rcases hvm with rfl | rfl | rfl
      · exact ⟨_, rfl, by decide, by decide⟩
      · exact ⟨_, rfl, by decide, by decide⟩
      · exact ⟨_, rfl, by decide, by decide⟩
    have n2 : 0 ≤ z3 % m := Int.emod_nonneg _ (by omega)
    have n3 : z3 % m < m := Int.emod_lt_of_pos _ hm0
    refine ⟨_, rfl, R, _, _, _, rfl, rfl, sq s0, e2, _, rfl, R, _, _, _, rfl, rfl, sq s0, e3, (by show 3 ≤ sizeLine; decide), fun l hl' => ?_⟩
    have s1 : Same H (upd H l (.lst [V.int 20, V.int 20, V.int 401])) := Same.upd_new hl'
    refine ⟨_, rfl, R, _, _, _, rfl, rfl, sq s1, e4, _, _, rfl, rfl, (by show (0 : Int) < 3; decide), l, _, _, _, rfl, rfl, SqL.of upd_same, hv, _, _, rfl, rfl, hm0, ?_⟩
    refine ⟨z2, (z3 % m).toNat, (by rw [show (((z3 % m).toNat : Nat) : Int) = z3 % m by omega]; rfl), b20, by omega, by omega, fun b1 pb1 lb1 => ?_⟩
    exact sp2 _ t1 b1 s1 ht ⟨pb1.asc, by omega⟩
end
theorem shaped_parts {s t b : Str} {d : Int} {an : Str} (g : Good s t b d an) : SeqAt.shaped (.tuple [.str s, .str t, .str b, .int d, .str an]) = true := by
  have h1 := (word_asc g.s_).ok
  have h2 := g.t_.ok
  have h3 := g.b_.ok
  have h4 : PyData.strOk an = true := g.lse.aa.ok
  simp [SeqAt.shaped, PyData.canLay0, PyData.canLayAll0, PyData.depth, PyData.depthAll, h1, h2, h3, h4]
theorem mul_len (x : Str) (n : Int) : (Txt.mul x n).length = n.toNat * x.length := by rw [len_list, mul_signs, len_rep, len_list]
theorem mul_asc {x : Str} (h : Asc x) (n : Int) : Asc (Txt.mul x n) := fun c hc => by
  rw [mul_signs] at hc
  obtain ⟨l, hl, hc⟩ := List.mem_flatten.mp hc
  rw [(List.mem_replicate.mp hl).2] at hc
  exact h c hc
section
variable {P : Program} {w : World} {K : PySem.W.Frag} {mg : Str → Option Value} {base : Heap} {a : Adr}
theorem ok_law {fd : FuncData} (F : Fun K "law" "law" slaw a.f_law fd) (T : Txt K mg a) (FF : Funs K a) : FnOk P w K mg base CX0 14 a.f_law fd ["_law_script"] (spLaw K) := by
  obtain ⟨fd1, F_l_row, b_l_row⟩ := FF.F_l_row
  have G_l_row : FnOk P w K mg base CX0 1 a.f_l_row fd1 ["_law_script", "_law_many"] (spRow K) := ok_row F_l_row T
  obtain ⟨fd2, F_l_parts, b_l_parts⟩ := FF.F_l_parts
  have G_l_parts : FnOk P w K mg base CX0 2 a.f_l_parts fd2 ["_law_row_here", "_law_base"] spLParts := ok_lparts F_l_parts T FF
  obtain ⟨fd3, F_l_text_of, b_l_text_of⟩ := FF.F_l_text_of
  have G_l_text_of : FnOk P w K mg base CX0 1 a.f_l_text_of fd3 ["_law_parts_here"] spTextL := ok_textL F_l_text_of T
  obtain ⟨fd4, F_l_odd_text, b_l_odd_text⟩ := FF.F_l_odd_text
  have G_l_odd_text : FnOk P w K mg base CX0 1 a.f_l_odd_text fd4 ["_law_number"] spOddT := ok_oddt F_l_odd_text T
  obtain ⟨fd5, F_l_spoilt, b_l_spoilt⟩ := FF.F_l_spoilt
  have G_l_spoilt : FnOk P w K mg base CX0 1 a.f_l_spoilt fd5 ["_law_text", "_law_row_here", "_law_k"] spSpoil := ok_spoil F_l_spoilt T
  obtain ⟨fd6, F_l_parts_in, b_l_parts_in⟩ := FF.F_l_parts_in
  have G_l_parts_in : FnOk P w K mg base CX0 2 a.f_l_parts_in fd6 ["_law_text"] spPIn := ok_lpin F_l_parts_in T FF
  obtain ⟨fd7, F_l_refused, b_l_refused⟩ := FF.F_l_refused
  have G_l_refused : FnOk P w K mg base CX0 9 a.f_l_refused fd7 ["_law_text"] spRefX := ok_refX F_l_refused T FF
  obtain ⟨fd8, F_l_read, b_l_read⟩ := FF.F_l_read
  have G_l_read : FnOk P w K mg base CX0 9 a.f_l_read fd8 ["_law_text"] spLReadX := ok_lreadX F_l_read T FF
  refine F.ok sc_law (fun vs H Q E h => ?_) (fun cdv A outer s H vs Q E hr h => ?_)
  · obtain ⟨q, ns, rfl, _⟩ := h; rfl
  · obtain ⟨q, ns, rfl, hS, hlen, k⟩ := h
    have hu64 := hr.units
    have hr_l_row : Room 1 _ := hr.mono (by decide)
    have hr_l_parts : Room 2 _ := hr.mono (by decide)
    have hr_l_text_of : Room 1 _ := hr.mono (by decide)
    have hr_l_odd_text : Room 1 _ := hr.mono (by decide)
    have hr_l_spoilt : Room 1 _ := hr.mono (by decide)
    have hr_l_parts_in : Room 2 _ := hr.mono (by decide)
    have hr_l_refused : Room 9 _ := hr.mono (by decide)
    have hr_l_read : Room 9 _ := hr.mono (by decide)
    have hsm : ∀ n : Nat, n ≤ 1000 → n ≤ sizeLine := fun n h => Nat.le_of_lt (small1000 h)
    obtain ⟨t5, h5, sp5⟩ : ∃ t, PSs (cxOf CX0 P w K mg base n_law "law" (defScope slaw) a.f_law cdv A outer s H E).nox ((defBody slaw).drop 5) t ∧
        ∀ (H1 : Hp) (o1 o2 : Option V) (y : Str), Asc y → y.length ≤ 1000 → t { nx := fun _ H' => Q .non H', rt := Q } [some (.ref q), o1, o2, some (.str y), none] H1 := by
      refine ⟨_, (pss_cons (ps_set (i := 4) sc_law.nd rfl (Or.inl rfl) (pe_call G_l_parts_in hr_l_parts_in rfl T.m_l_parts_in F_l_parts_in.kp b_l_parts_in .nil pass0 (pac (pv 3) pa_nil)))
        (pss_cons (ps_if (pt_cmpR op_isN (pv 4) pe_non (nomark _)) (pss_one (ps_ret (pe_call G_l_refused hr_l_refused rfl T.m_l_refused F_l_refused.kp b_l_refused .nil pass0 (pac (pv 3) pa_nil)))) pss_nil)
        (pss_one (ps_ret (pe_cmpR (op_eqD hu64) (pe_call G_l_read hr_l_read rfl T.m_l_read F_l_read.kp b_l_read .nil pass0 (pac (pv 3) pa_nil)) (pv 4) (nomark _)))))), fun H1 o1 o2 y ay ly => ?_⟩
      refine ⟨_, rfl, y, rfl, ly, ay, fun hn H2 s2 => ?_, fun s1 t1 b1 d1 an1 hs p H2 np s2 hp => ?_⟩
      · refine ⟨_, rfl, rfl, _, rfl, iteT ⟨_, rfl, y, rfl, ly, ay, (read_law ay).trans hn, fun H3 s3 => k H3⟩⟩
      · refine ⟨_, rfl, rfl, _, rfl, iteF ⟨_, rfl, y, s1, t1, b1, d1, an1, rfl, ly, ay, (read_law ay).trans hs, fun p2 H3 s3 hp2 => ⟨_, rfl, ?_⟩⟩⟩
        obtain ⟨g, _⟩ := law_some ay hs
        have rp : ∀ H', RDs K H' [.str s1, .str t1, .str b1, .int d1, .str an1] [.str s1, .str t1, .str b1, .int d1, .str an1] := fun H' => .cons (.str _) (.cons (.str _) (.cons (.str _) (.cons (.int _) (.cons (.str _) .nil))))
        exact eq_refl (.tup (SqT.of hp2) (rp _)) (.tup (SqT.of (s3 _ _ hp)) (rp _)) (shaped_parts g) (k H3)
    obtain ⟨t4, h4, sp4⟩ : ∃ t, PSs (cxOf CX0 P w K mg base n_law "law" (defScope slaw) a.f_law cdv A outer s H E).nox ((defBody slaw).drop 4) t ∧
        ∀ (H1 : Hp) (R p : Addr) (rs : List Int) (s1 t1 b1 : Str) (d1 : Int) (an1 y : Str), H1 R = some (.lst (rs.map V.int)) → rs.length = 24 → (∀ r ∈ rs, 0 ≤ r ∧ r < 2147483629) → Lse s1 t1 b1 d1 an1 → H1 p = some (.tup [.str s1, .str t1, .str b1, .int d1, .str an1]) → Asc y → y.length ≤ 100 →
          t { nx := fun _ H' => Q .non H', rt := Q } [some (.ref q), some (.ref R), some (.ref p), some (.str y), none] H1 := by
      refine ⟨_, (pss_cons (ps_if (pt_cmpR op_eq (pe_op op_mod (pe_ix ix_list (pv 1) pe_int (fun _ _ => rfl)) pe_int) pe_int (nomark _)) (pss_one (ps_set (i := 3) sc_law.nd rfl (Or.inl rfl) (pe_call G_l_text_of hr_l_text_of rfl T.m_l_text_of F_l_text_of.kp b_l_text_of .nil pass0 (pac (pe_op op_catTG (pe_op op_catTG (pe_slice sl_tupG (pv 2) po_none (po_some pe_int)) (pe_tupG (pas_cons (pe_op op_mul_str pe_str (pe_op op_add pe_int (pe_op op_mod (pe_ix ix_list (pv 1) pe_int (fun _ _ => rfl)) pe_int))) (pas_cons (pe_op op_mul_str pe_str (pe_op op_add pe_int (pe_op op_mod (pe_ix ix_list (pv 1) pe_int (fun _ _ => rfl)) pe_int))) pas_nil)))) (pe_slice sl_tupG (pv 2) (po_some pe_int) po_none)) pa_nil)))) (pss_one (ps_if (pt_cmpR op_lt (pe_op op_mod (pe_ix ix_list (pv 1) pe_int (fun _ _ => rfl)) pe_int) pe_int (nomark _)) (pss_one (ps_set (i := 3) sc_law.nd rfl (Or.inl rfl) (pe_call G_l_odd_text hr_l_odd_text rfl T.m_l_odd_text F_l_odd_text.kp b_l_odd_text .nil pass0 (pac (pe_ix ix_list (pv 1) pe_int (fun _ _ => rfl)) pa_nil)))) (pss_cons (ps_set (i := 3) sc_law.nd rfl (Or.inl rfl) (pe_call G_l_spoilt hr_l_spoilt rfl T.m_l_spoilt F_l_spoilt.kp b_l_spoilt .nil pass0 (pac (pv 3) (pac (pv 1) (pac pe_int pa_nil)))))
        (pss_one (ps_if (pt_cmpR op_lt (pe_op op_mod (pe_ix ix_list (pv 1) pe_int (fun _ _ => rfl)) pe_int) pe_int (nomark _)) (pss_one (ps_set (i := 3) sc_law.nd rfl (Or.inl rfl) (pe_call G_l_spoilt hr_l_spoilt rfl T.m_l_spoilt F_l_spoilt.kp b_l_spoilt .nil pass0 (pac (pv 3) (pac (pv 1) (pac pe_int pa_nil)))))) pss_nil))))))
        h5), fun H1 R p rs s1 t1 b1 d1 an1 y hR hl hb g hp ay ly => ?_⟩
      obtain ⟨z14, e14, _, _⟩ := row_pick hb 14 (by decide) (by omega)
      obtain ⟨z15, e15, c150, c151⟩ := row_pick hb 15 (by decide) (by omega)
      obtain ⟨z16, e16, _, _⟩ := row_pick hb 16 (by decide) (by omega)
      have sq : SqL K H1 R (rs.map V.int) := SqL.of hR
      refine ⟨_, rfl, R, _, _, _, rfl, rfl, sq, e14, _, _, rfl, rfl, (by show (0 : Int) < 9; decide), rfl, _, rfl, ite2 (fun _ => ?_) (fun _ => ?_)⟩
      · refine ⟨_, rfl, _, rfl, p, _, rfl, hp, fun p1 H2 s2 f1 => ?_⟩
        have m0 : 0 ≤ z15 % 3 := Int.emod_nonneg _ (by decide)
        have m1 : z15 % 3 < 3 := Int.emod_lt_of_pos _ (by decide)
        have m2 : 0 ≤ z16 % 3 := Int.emod_nonneg _ (by decide)
        have m3 : z16 % 3 < 3 := Int.emod_lt_of_pos _ (by decide)
        have sq2 : SqL K H2 R (rs.map V.int) := SqL.of (s2 _ _ hR)
        refine ⟨_, rfl, R, _, _, _, rfl, rfl, sq2, e15, _, _, rfl, rfl, (by show (0 : Int) < 3; decide), _, _, rfl, rfl, _, _, rfl, rfl, (by decide +kernel), (by show (-1000 : Int) ≤ 60 + z15 % 3; omega), (by show 60 + z15 % 3 ≤ (1000 : Int); omega), ?_⟩
        refine ⟨_, rfl, R, _, _, _, rfl, rfl, sq2, e16, _, _, rfl, rfl, (by show (0 : Int) < 3; decide), _, _, rfl, rfl, _, _, rfl, rfl, (by decide +kernel), (by show (-1000 : Int) ≤ 399 + z16 % 3; omega), (by show 399 + z16 % 3 ≤ (1000 : Int); omega), ?_⟩
        refine ⟨by show 2 ≤ sizeLine; decide, fun p2 H3 np2 s3 f2 => ?_⟩
        refine ⟨p1, p2, [.str s1], _, rfl, rfl, s3 _ _ f1, f2, (by show 3 ≤ sizeLine; decide), fun p3 H4 s4 f3 => ?_⟩
        refine ⟨_, rfl, _, rfl, p, _, rfl, (s2.trans (s3.trans s4)) _ _ hp, fun p4 H5 s5 f4 => ?_⟩
        refine ⟨p3, p4, _, [.int d1, .str an1], rfl, rfl, s5 _ _ f3, f4, (by show 5 ≤ sizeLine; decide), fun p5 H6 s6 f5 => ?_⟩
        have g' : Lse s1 (Txt.mul "t" (60 + z15 % 3)) (Txt.mul "b" (399 + z16 % 3)) d1 an1 := by
          have lt : ("t" : Str).length = 1 := by decide +kernel
          have lb : ("b" : Str).length = 1 := by decide +kernel
          refine ⟨g.sa, g.sl, mul_asc (asc_of (by decide +kernel)) _, ?_, mul_asc (asc_of (by decide +kernel)) _, ?_, g.d0, g.d1, g.aa, g.al⟩
          · rw [mul_len, lt]; omega
          · rw [mul_len, lb]; omega
        refine ⟨p5, s1, _, _, d1, an1, rfl, f5, g', fun H7 s7 => ?_⟩
        have := g'.bl
        exact sp5 H7 _ _ _ (lse_asc g') (Nat.le_trans (lse_len g') (by omega))
      · refine ⟨_, rfl, R, _, _, _, rfl, rfl, sq, e14, _, _, rfl, rfl, (by show (0 : Int) < 9; decide), _, _, rfl, rfl, _, rfl, ite2 (fun _ => ?_) (fun _ => ?_)⟩
        · exact ⟨_, rfl, R, _, _, _, rfl, rfl, sq, e15, z15, rfl, fun y2 ay2 ly2 H2 s2 => sp5 H2 _ _ y2 ay2 ly2⟩
        · refine ⟨_, rfl, _, rfl, y, R, rs, 15, rfl, hR, hb, by decide, by omega, by omega, ay, fun y2 ay2 ly2 H2 s2 => ?_⟩
          have sq2 : SqL K H2 R (rs.map V.int) := SqL.of (s2 _ _ hR)
          refine ⟨_, rfl, R, _, _, _, rfl, rfl, sq2, e14, _, _, rfl, rfl, (by show (0 : Int) < 9; decide), _, _, rfl, rfl, _, rfl, ite2 (fun _ => ?_) (fun _ => sp5 H2 _ _ y2 ay2 (by omega))⟩
          exact ⟨_, rfl, _, rfl, y2, R, rs, 18, rfl, s2 _ _ hR, hb, by decide, by omega, by omega, ay2, fun y3 ay3 ly3 H3 s3 => sp5 H3 _ _ y3 ay3 (by omega)⟩
    refine ⟨_, (pss_cons (ps_set (i := 1) sc_law.nd rfl (Or.inl rfl) (pe_call G_l_row hr_l_row rfl T.m_l_row F_l_row.kp b_l_row .nil pass0 (pac (pv 0) (pac pe_int pa_nil))))
        (pss_cons (ps_set (i := 2) sc_law.nd rfl (Or.inl rfl) (pe_call G_l_parts hr_l_parts rfl T.m_l_parts F_l_parts.kp b_l_parts .nil pass0 (pac (pv 1) (pac (pe_ix ix_list (pv 1) pe_int (fun _ _ => rfl)) pa_nil))))
        (pss_cons (ps_set (i := 2) sc_law.nd rfl (Or.inl rfl) (pe_tupG (pas_cons (pe_ix ix_tup (pv 2) pe_int (fun _ _ => rfl)) (pas_cons (pe_slice sl_str (pe_ix ix_tup (pv 2) pe_int (fun _ _ => rfl)) po_none (po_some (pe_op op_mod (pe_ix ix_list (pv 1) pe_int (fun _ _ => rfl)) pe_int))) (pas_cons (pe_slice sl_str (pe_ix ix_tup (pv 2) pe_int (fun _ _ => rfl)) po_none (po_some (pe_op op_mod (pe_ix ix_list (pv 1) pe_int (fun _ _ => rfl)) pe_int))) (pas_cons (pe_ix ix_tup (pv 2) pe_int (fun _ _ => rfl)) (pas_cons (pe_ix ix_tup (pv 2) pe_int (fun _ _ => rfl)) pas_nil)))))))
        (pss_cons (ps_set (i := 3) sc_law.nd rfl (Or.inl rfl) (pe_call G_l_text_of hr_l_text_of rfl T.m_l_text_of F_l_text_of.kp b_l_text_of .nil pass0 (pac (pv 2) pa_nil)))
        h4)))), ?_⟩
    refine ⟨_, rfl, q, ns, 24, rfl, hS, by decide, fun R rs H1 hl hb s1 hR => ?_⟩
    obtain ⟨z11, e11, b110, b111⟩ := row_pick hb 11 (by decide) (by omega)
    obtain ⟨z12, e12, _, _⟩ := row_pick hb 12 (by decide) (by omega)
    obtain ⟨z13, e13, _, _⟩ := row_pick hb 13 (by decide) (by omega)
    refine ⟨_, rfl, _, rfl, R, _, _, _, rfl, rfl, SqL.of hR, e11, ?_⟩
    refine ⟨R, rs, z11, rfl, hR, by omega, hb, b110, b111, fun p s1 t1 b1 d1 an1 H2 g s2 hp => ?_⟩
    have hSp : SqT K H2 p [.str s1, .str t1, .str b1, .int d1, .str an1] := SqT.of hp
    have sq2 : SqL K H2 R (rs.map V.int) := SqL.of (s2 _ _ hR)
    have ht := g.tl
    have hbl := g.bl
    refine ⟨_, rfl, p, _, _, _, rfl, rfl, hSp, rfl, ?_⟩
    refine ⟨_, rfl, p, _, _, _, rfl, rfl, hSp, rfl, _, rfl, R, _, _, _, rfl, rfl, sq2, e12, _, _, rfl, rfl, (by show (0 : Int) < 9; decide), _, rfl, t1, rfl, hsm _ (by omega), ?_⟩
    refine ⟨_, rfl, p, _, _, _, rfl, rfl, hSp, rfl, _, rfl, R, _, _, _, rfl, rfl, sq2, e13, _, _, rfl, rfl, (by show (0 : Int) < 9; decide), _, rfl, b1, rfl, hsm _ (by omega), ?_⟩
    refine ⟨_, rfl, p, _, _, _, rfl, rfl, hSp, rfl, _, rfl, p, _, _, _, rfl, rfl, hSp, rfl, (by show 5 ≤ sizeLine; decide), fun p2 H3 np2 s3 f2 => ?_⟩
    have n0 : 0 ≤ z12 % 9 := Int.emod_nonneg _ (by decide)
    have n1 : z12 % 9 < 9 := Int.emod_lt_of_pos _ (by decide)
    have n2 : 0 ≤ z13 % 9 := Int.emod_nonneg _ (by decide)
    have n3 : z13 % 9 < 9 := Int.emod_lt_of_pos _ (by decide)
    have cl : ∀ (x : Str) (z : Int), 0 ≤ z → z < 9 → (Txt.slice x none (some z)).length ≤ 8 := fun x z h0 h1 => by
      have := cut_to_le x z.toNat
      rw [show ((z.toNat : Nat) : Int) = z by omega] at this
      omega
    have lt := cl t1 (z12 % 9) n0 n1
    have lb := cl b1 (z13 % 9) n2 n3
    have g0 := g.lse
    have g' : Lse s1 (Txt.slice t1 none (some (z12 % 9))) (Txt.slice b1 none (some (z13 % 9))) d1 an1 := ⟨g0.sa, g0.sl, slice_asc g0.ta _ _, by omega, slice_asc g0.ba _ _, by omega, g0.d0, g0.d1, g0.aa, g0.al⟩
    refine ⟨_, rfl, p2, s1, _, _, d1, an1, rfl, f2, g', fun H4 s4 => ?_⟩
    exact sp4 H4 R p2 rs s1 _ _ d1 an1 _ ((s2.trans (s3.trans s4)) _ _ hR) hl hb g' (s4 _ _ f2) (lse_asc g') (small_len g' lt lb)
end
/-- what the walk asks of the things behind the top -/
def obs (K : PySem.W.Frag) : List (Option (FuncData × Option (List Value)) × Bool) × Bool :=
  ([Hd.see K (Hd.gl K "_wall") "_wall",
    Hd.see K (Hd.gl K "all_among") "all_among",
    Hd.see K (Hd.gl K "is_word") "is_word",
    Hd.see K (Hd.gl K "words_of") "words_of",
    Hd.see K (Hd.gl K "is_text") "is_text",
    Hd.see K (Hd.gl K "is_whole") "is_whole",
    Hd.see K (Hd.gl K "is_answered") "is_answered",
    Hd.see K (Hd.gl K "check_parts") "check_parts",
    Hd.see K (Hd.gl K "letter_text") "letter_text",
    Hd.see K (Hd.gl K "read_day") "read_day",
    Hd.see K (Hd.gl K "cut_letter") "cut_letter",
    Hd.see K (Hd.gl K "read_letter") "read_letter",
    Hd.see K (Hd.gl K "_law_row") "_law_row",
    Hd.see K (Hd.gl K "_law_word") "_law_word",
    Hd.see K (Hd.gl K "_law_signs") "_law_signs",
    Hd.see K (Hd.gl K "_law_parts") "_law_parts",
    Hd.see K (Hd.gl K "_law_text_of") "_law_text_of",
    Hd.see K (Hd.gl K "_law_of_one_class") "_law_of_one_class",
    Hd.see K (Hd.gl K "_law_is_word") "_law_is_word",
    Hd.see K (Hd.gl K "_law_parts_in") "_law_parts_in",
    Hd.see K (Hd.gl K "_law_spoilt") "_law_spoilt",
    Hd.see K (Hd.gl K "_law_odd_text") "_law_odd_text",
    Hd.see K (Hd.gl K "_law_refused") "_law_refused",
    Hd.see K (Hd.gl K "_law_read") "_law_read",
    Hd.see K (Hd.gl K "law") "law",
    Hd.see K (PySem.W.findIn K (.ref (Hd.cl K "Letter")) "__init__") "Letter.__init__",
    Hd.see K (PySem.W.findIn K (.ref (Hd.cl K "Letter")) "twin") "Letter.twin",
    Hd.see K (PySem.W.findIn K (.ref (Hd.cl K "Letter")) "parts") "Letter.parts",
    Hd.see K (PySem.W.findIn K (.ref (Hd.cl K "Letter")) "known") "Letter.known",
    Hd.see K (PySem.W.findIn K (.ref (Hd.cl K "Letter")) "words") "Letter.words",
    Hd.see K (PySem.W.findIn K (.ref (Hd.cl K "Letter")) "title_words") "Letter.title_words"],
   [decide (Hd.gl K "Letter" = some (some (.ref (Hd.cl K "Letter")))),
    decide (Hd.gl K "MailError" = some (some (.ref (Hd.cl K "MailError")))),
    decide (Hd.gl K "NoLetter" = some (some (.ref (Hd.cl K "NoLetter")))),
    decide (Hd.gl K "NoWord" = some (some (.ref (Hd.cl K "NoWord")))),
    decide (Hd.gl K "NoRule" = some (some (.ref (Hd.cl K "NoRule")))),
    decide (Hd.gl K "NoName" = some (some (.ref (Hd.cl K "NoName")))),
    decide (Hd.gl K "NoParcel" = some (some (.ref (Hd.cl K "NoParcel")))),
    decide (Hd.gl K "NoRow" = some (some (.ref (Hd.cl K "NoRow")))),
    decide ((Hd.gl K "FIGURES").map (Option.map Hd.bareV) = some (some (Hd.bv (.str "0123456789")))),
    decide ((Hd.gl K "WORD_SIGNS").map (Option.map Hd.bareV) = some (some (Hd.bv (.str "abcdefghijklmnopqrstuvwxyz0123456789")))),
    decide ((Hd.gl K "RUN_SIGNS").map (Option.map Hd.bareV) = some (some (Hd.bv (.str "abcdefghijklmnopqrstuvwxyzABCDEFGHIJKLMNOPQRSTUVWXYZ0123456789")))),
    decide ((Hd.gl K "MOST_WORD").map (Option.map Hd.bareV) = some (some (Hd.bv (.int 20)))),
    decide ((Hd.gl K "MOST_TITLE").map (Option.map Hd.bareV) = some (some (Hd.bv (.int 60)))),
    decide ((Hd.gl K "MOST_BODY").map (Option.map Hd.bareV) = some (some (Hd.bv (.int 400)))),
    decide ((Hd.gl K "LAST_DAY").map (Option.map Hd.bareV) = some (some (Hd.bv (.int 9999)))),
    decide ((Hd.gl K "DAY_FIGURES").map (Option.map Hd.bareV) = some (some (Hd.bv (.int 4)))),
    decide ((Hd.gl K "FROM").map (Option.map Hd.bareV) = some (some (Hd.bv (.str "from ")))),
    decide ((Hd.gl K "DAY").map (Option.map Hd.bareV) = some (some (Hd.bv (.str "day ")))),
    decide ((Hd.gl K "ANSWERS").map (Option.map Hd.bareV) = some (some (Hd.bv (.str "answers ")))),
    decide ((Hd.gl K "TITLE").map (Option.map Hd.bareV) = some (some (Hd.bv (.str "title ")))),
    decide ((Hd.gl K "GAP").map (Option.map Hd.bareV) = some (some (Hd.bv (.str "\n\n")))),
    PySem.W.plainGet K (Hd.cl K "Letter") Str.empty,
    PySem.W.hasDictIn K (Hd.cl K "Letter"),
    PySem.W.plainOver K (Hd.cl K "Letter"),
    decide (PySem.W.findIn K (.ref (Hd.cl K "Letter")) "__setattr__" = some (some (.builtin "object.__setattr__"))),
    PySem.W.keepIn K (.ref (Hd.cl K "Letter")),
    PySem.W.makesIn K (Hd.cl K "Letter"),
    decide (PySem.W.findIn K (.ref (Hd.cl K "Letter")) "sender" = some none),
    decide (PySem.W.findIn K (.ref (Hd.cl K "Letter")) "title" = some none),
    decide (PySem.W.findIn K (.ref (Hd.cl K "Letter")) "body" = some none),
    decide (PySem.W.findIn K (.ref (Hd.cl K "Letter")) "day" = some none),
    decide (PySem.W.findIn K (.ref (Hd.cl K "Letter")) "answers" = some none),
    decide (PySem.W.findIn K (.ref (Hd.cl K "Letter")) "found" = some none),
    PySem.W.excIn K (Hd.cl K "MailError") mroVE "ValueError.__new__",
    PySem.W.excIn K (Hd.cl K "NoLetter") mroVE "ValueError.__new__",
    decide (PySem.W.mroIn K (Hd.cl K "NoLetter") (.ref (Hd.cl K "MailError")) = some true),
    decide (PySem.W.mroIn K (Hd.cl K "NoLetter") (.ref (Hd.cl K "NoLetter")) = some true),
    decide (PySem.W.specialIn K (.builtin "object.__class__") "__get__" = some (some (.builtin "getset_descriptor.__get__"))),
    decide (PySem.W.takesIn K (.builtin "object.__class__") = some true),
    decide (PySem.W.findIn K (.ref (Hd.cl K "NoLetter")) "__getattribute__" = some (some (.builtin "BaseException.__getattribute__"))),
    decide (PySem.W.findIn K (.ref (Hd.cl K "NoLetter")) "__getattr__" = some none),
    PySem.W.hasDictIn K (Hd.cl K "NoLetter"),
    decide (PySem.W.findIn K (.ref (Hd.cl K "NoLetter")) "__class__" = some (some (.builtin "object.__class__"))),
    decide (PySem.W.mroIn K (Hd.cl K "NoLetter") (.type "object") = some true),
    decide (PySem.W.mroIn K (Hd.cl K "NoLetter") (.type "BaseException") = some true),
    decide (PySem.W.kitOne K (.ref (Hd.cl K "NoLetter")) (.ref (Hd.cl K "NoWord")) = some false),
    decide (PySem.W.kitOne K (.ref (Hd.cl K "NoLetter")) (.ref (Hd.cl K "NoLetter")) = some true),
    decide (PySem.W.kitOne K (.ref (Hd.cl K "NoLetter")) (.ref (Hd.cl K "NoRule")) = some false),
    decide (PySem.W.kitOne K (.ref (Hd.cl K "NoLetter")) (.ref (Hd.cl K "NoName")) = some false),
    decide (PySem.W.kitOne K (.ref (Hd.cl K "NoLetter")) (.type "ValueError") = some true),
    decide (PySem.W.kitOne K (.ref (Hd.cl K "NoLetter")) (.ref (Hd.cl K "NoParcel")) = some false),
    decide (PySem.W.kitOne K (.ref (Hd.cl K "NoLetter")) (.ref (Hd.cl K "NoRow")) = some false),
    decide (Hd.gl K "len" = some none),
    decide (Hd.gl K "range" = some none),
    decide (Hd.gl K "isinstance" = some none),
    decide (Hd.gl K "str" = some none),
    decide (Hd.gl K "int" = some none),
    decide (Hd.gl K "bool" = some none),
    decide (Hd.gl K "list" = some none),
    decide (Hd.gl K "all" = some none),
    decide (Hd.gl K "ValueError" = some none)].all id)
def good : List (Option (FuncData × Option (List Value)) × Bool) × Bool :=
  ([(some (Hd.bareFn "_wall" "_wall" swall, none), true),
    (some (Hd.bareFn "all_among" "all_among" sall_among, none), true),
    (some (Hd.bareFn "is_word" "is_word" sis_word, none), true),
    (some (Hd.bareFn "words_of" "words_of" swords_of, none), true),
    (some (Hd.bareFn "is_text" "is_text" sis_text, none), true),
    (some (Hd.bareFn "is_whole" "is_whole" sis_whole, none), true),
    (some (Hd.bareFn "is_answered" "is_answered" sis_answered, none), true),
    (some (Hd.bareFn "check_parts" "check_parts" scheck_parts, none), true),
    (some (Hd.bareFn "letter_text" "letter_text" sletter_text, none), true),
    (some (Hd.bareFn "read_day" "read_day" sread_day, none), true),
    (some (Hd.bareFn "cut_letter" "cut_letter" scut_letter, none), true),
    (some (Hd.bareFn "read_letter" "read_letter" sread_letter, none), true),
    (some (Hd.bareFn "_law_row" "_law_row" sl_row, none), true),
    (some (Hd.bareFn "_law_word" "_law_word" sl_word, none), true),
    (some (Hd.bareFn "_law_signs" "_law_signs" sl_signs, none), true),
    (some (Hd.bareFn "_law_parts" "_law_parts" sl_parts, none), true),
    (some (Hd.bareFn "_law_text_of" "_law_text_of" sl_text_of, none), true),
    (some (Hd.bareFn "_law_of_one_class" "_law_of_one_class" sl_of_one_class, none), true),
    (some (Hd.bareFn "_law_is_word" "_law_is_word" sl_is_word, none), true),
    (some (Hd.bareFn "_law_parts_in" "_law_parts_in" sl_parts_in, none), true),
    (some (Hd.bareFn "_law_spoilt" "_law_spoilt" sl_spoilt, none), true),
    (some (Hd.bareFn "_law_odd_text" "_law_odd_text" sl_odd_text, none), true),
    (some (Hd.bareFn "_law_refused" "_law_refused" sl_refused, none), true),
    (some (Hd.bareFn "_law_read" "_law_read" sl_read, none), true),
    (some (Hd.bareFn "law" "law" slaw, none), true),
    (some (Hd.bareFn "__init__" "Letter.__init__" sLetter_init, some [Hd.bv (.str "")]), true),
    (some (Hd.bareFn "twin" "Letter.twin" sLetter_twin, none), true),
    (some (Hd.bareFn "parts" "Letter.parts" sLetter_parts, none), true),
    (some (Hd.bareFn "known" "Letter.known" sLetter_known, none), true),
    (some (Hd.bareFn "words" "Letter.words" sLetter_words, none), true),
    (some (Hd.bareFn "title_words" "Letter.title_words" sLetter_title_words, none), true)], true)
theorem all_mk {l : PySem.W.OpenLaw} {w : World} {K : PySem.W.Frag} {h : Heap} {mg : Str → Option Value} {fa : Addr} (X : K.In h) (E : obs K = good) (G : h.Ns mainGlobals mg) (hfa : mg "law" = some (.ref fa)) :
    ∃ fd : FuncData, (∀ (s : Shared) (v : Value), BindsTo s fd ⟨[v], []⟩ [("_law_script", v)]) ∧ ∀ base : Heap, K.In base → base.Ns mainGlobals mg → FnOk l.prog w K mg base CX0 14 fa fd ["_law_script"] (spLaw K) := by
  have e1 := congrArg Prod.fst E
  have e2 := congrArg Prod.snd E
  obtain ⟨a1, k1, i1, _, F1⟩ := Hd.see_fun (st := swall) (Hd.eq_at e1 0 rfl rfl)
  have b1 := F1.binds (ps := ["k"]) fun _ _ _ _ _ _ => by refine us_1 ?_; intros; rfl
  obtain ⟨a2, k2, i2, _, F2⟩ := Hd.see_fun (st := sall_among) (Hd.eq_at e1 1 rfl rfl)
  have b2 := F2.binds (ps := ["text", "signs"]) fun _ _ _ _ _ _ => by refine us_2 ?_; intros; rfl
  obtain ⟨a3, k3, i3, _, F3⟩ := Hd.see_fun (st := sis_word) (Hd.eq_at e1 2 rfl rfl)
  have b3 := F3.binds (ps := ["thing"]) fun _ _ _ _ _ _ => by refine us_1 ?_; intros; rfl
  obtain ⟨a4, k4, i4, _, F4⟩ := Hd.see_fun (st := swords_of) (Hd.eq_at e1 3 rfl rfl)
  have b4 := F4.binds (ps := ["text"]) fun _ _ _ _ _ _ => by refine us_1 ?_; intros; rfl
  obtain ⟨a5, k5, i5, _, F5⟩ := Hd.see_fun (st := sis_text) (Hd.eq_at e1 4 rfl rfl)
  have b5 := F5.binds (ps := ["thing", "most"]) fun _ _ _ _ _ _ => by refine us_2 ?_; intros; rfl
  obtain ⟨a6, k6, i6, _, F6⟩ := Hd.see_fun (st := sis_whole) (Hd.eq_at e1 5 rfl rfl)
  have b6 := F6.binds (ps := ["thing"]) fun _ _ _ _ _ _ => by refine us_1 ?_; intros; rfl
  obtain ⟨a7, k7, i7, _, F7⟩ := Hd.see_fun (st := sis_answered) (Hd.eq_at e1 6 rfl rfl)
  have b7 := F7.binds (ps := ["thing"]) fun _ _ _ _ _ _ => by refine us_1 ?_; intros; rfl
  obtain ⟨a8, k8, i8, _, F8⟩ := Hd.see_fun (st := scheck_parts) (Hd.eq_at e1 7 rfl rfl)
  have b8 := F8.binds (ps := ["sender", "title", "body", "day", "answers"]) fun _ _ _ _ _ _ => by refine us_5 ?_; intros; rfl
  obtain ⟨a9, k9, i9, _, F9⟩ := Hd.see_fun (st := sletter_text) (Hd.eq_at e1 8 rfl rfl)
  have b9 := F9.binds (ps := ["letter"]) fun _ _ _ _ _ _ => by refine us_1 ?_; intros; rfl
  obtain ⟨a10, k10, i10, _, F10⟩ := Hd.see_fun (st := sread_day) (Hd.eq_at e1 9 rfl rfl)
  have b10 := F10.binds (ps := ["figures"]) fun _ _ _ _ _ _ => by refine us_1 ?_; intros; rfl
  obtain ⟨a11, k11, i11, _, F11⟩ := Hd.see_fun (st := scut_letter) (Hd.eq_at e1 10 rfl rfl)
  have b11 := F11.binds (ps := ["rows", "body"]) fun _ _ _ _ _ _ => by refine us_2 ?_; intros; rfl
  obtain ⟨a12, k12, i12, _, F12⟩ := Hd.see_fun (st := sread_letter) (Hd.eq_at e1 11 rfl rfl)
  have b12 := F12.binds (ps := ["text"]) fun _ _ _ _ _ _ => by refine us_1 ?_; intros; rfl
  obtain ⟨a13, k13, i13, _, F13⟩ := Hd.see_fun (st := sl_row) (Hd.eq_at e1 12 rfl rfl)
  have b13 := F13.binds (ps := ["_law_script", "_law_many"]) fun _ _ _ _ _ _ => by refine us_2 ?_; intros; rfl
  obtain ⟨a14, k14, i14, _, F14⟩ := Hd.see_fun (st := sl_word) (Hd.eq_at e1 13 rfl rfl)
  have b14 := F14.binds (ps := ["_law_base", "_law_turn"]) fun _ _ _ _ _ _ => by refine us_2 ?_; intros; rfl
  obtain ⟨a15, k15, i15, _, F15⟩ := Hd.see_fun (st := sl_signs) (Hd.eq_at e1 14 rfl rfl)
  have b15 := F15.binds (ps := ["_law_number", "_law_many"]) fun _ _ _ _ _ _ => by refine us_2 ?_; intros; rfl
  obtain ⟨a16, k16, i16, _, F16⟩ := Hd.see_fun (st := sl_parts) (Hd.eq_at e1 15 rfl rfl)
  have b16 := F16.binds (ps := ["_law_row_here", "_law_base"]) fun _ _ _ _ _ _ => by refine us_2 ?_; intros; rfl
  obtain ⟨a17, k17, i17, _, F17⟩ := Hd.see_fun (st := sl_text_of) (Hd.eq_at e1 16 rfl rfl)
  have b17 := F17.binds (ps := ["_law_parts_here"]) fun _ _ _ _ _ _ => by refine us_1 ?_; intros; rfl
  obtain ⟨a18, k18, i18, _, F18⟩ := Hd.see_fun (st := sl_of_one_class) (Hd.eq_at e1 17 rfl rfl)
  have b18 := F18.binds (ps := ["_law_e"]) fun _ _ _ _ _ _ => by refine us_1 ?_; intros; rfl
  obtain ⟨a19, k19, i19, _, F19⟩ := Hd.see_fun (st := sl_is_word) (Hd.eq_at e1 18 rfl rfl)
  have b19 := F19.binds (ps := ["_law_text"]) fun _ _ _ _ _ _ => by refine us_1 ?_; intros; rfl
  obtain ⟨a20, k20, i20, _, F20⟩ := Hd.see_fun (st := sl_parts_in) (Hd.eq_at e1 19 rfl rfl)
  have b20 := F20.binds (ps := ["_law_text"]) fun _ _ _ _ _ _ => by refine us_1 ?_; intros; rfl
  obtain ⟨a21, k21, i21, _, F21⟩ := Hd.see_fun (st := sl_spoilt) (Hd.eq_at e1 20 rfl rfl)
  have b21 := F21.binds (ps := ["_law_text", "_law_row_here", "_law_k"]) fun _ _ _ _ _ _ => by refine us_3 ?_; intros; rfl
  obtain ⟨a22, k22, i22, _, F22⟩ := Hd.see_fun (st := sl_odd_text) (Hd.eq_at e1 21 rfl rfl)
  have b22 := F22.binds (ps := ["_law_number"]) fun _ _ _ _ _ _ => by refine us_1 ?_; intros; rfl
  obtain ⟨a23, k23, i23, _, F23⟩ := Hd.see_fun (st := sl_refused) (Hd.eq_at e1 22 rfl rfl)
  have b23 := F23.binds (ps := ["_law_text"]) fun _ _ _ _ _ _ => by refine us_1 ?_; intros; rfl
  obtain ⟨a24, k24, i24, _, F24⟩ := Hd.see_fun (st := sl_read) (Hd.eq_at e1 23 rfl rfl)
  have b24 := F24.binds (ps := ["_law_text"]) fun _ _ _ _ _ _ => by refine us_1 ?_; intros; rfl
  obtain ⟨a25, k25, i25, _, F25⟩ := Hd.see_fun (st := slaw) (Hd.eq_at e1 24 rfl rfl)
  have b25 := F25.binds (ps := ["_law_script"]) fun _ _ _ _ _ _ => by refine us_1 ?_; intros; rfl
  obtain ⟨a26, k26, i26, D26, kV26, dc26, pm26, an26, cd26, ct26, o26, it26, Dn26, F26, t26, s26, m26⟩ := Hd.see_funD (st := sLetter_init) (Hd.eq_at e1 25 rfl rfl)
  obtain ⟨dv26_0, rfl, rd26_0⟩ := Hd.map1 m26
  have b26_0 : Binds K (PySem.W.fnOf "__init__" "Letter.__init__" (defArgs sLetter_init) (defBody sLetter_init) (defScope sLetter_init) (.ref D26) kV26 dc26 pm26 an26 cd26 ct26) ["self", "sender", "title", "body", "day", "answers"] [dv26_0] := fun s us X' hl => have hl' : us.length = 5 := (by simpa using hl); (by clear hl; revert hl'; revert us; refine us_5 ?_; intros; exact PySem.W.binds_K (fd := PySem.W.fnOf "__init__" "Letter.__init__" (defArgs sLetter_init) (defBody sLetter_init) (defScope sLetter_init) (.ref D26) kV26 dc26 pm26 an26 cd26 ct26) X' rfl t26 s26 rfl rfl)
  have b26_1 : Binds K (PySem.W.fnOf "__init__" "Letter.__init__" (defArgs sLetter_init) (defBody sLetter_init) (defScope sLetter_init) (.ref D26) kV26 dc26 pm26 an26 cd26 ct26) ["self", "sender", "title", "body", "day", "answers"] [] := fun s us X' hl => have hl' : us.length = 6 := (by simpa using hl); (by clear hl; revert hl'; revert us; refine us_6 ?_; intros; exact PySem.W.binds_K (fd := PySem.W.fnOf "__init__" "Letter.__init__" (defArgs sLetter_init) (defBody sLetter_init) (defScope sLetter_init) (.ref D26) kV26 dc26 pm26 an26 cd26 ct26) X' rfl t26 s26 rfl rfl)
  obtain ⟨a27, k27, i27, _, F27⟩ := Hd.see_fun (st := sLetter_twin) (Hd.eq_at e1 26 rfl rfl)
  have b27 := F27.binds (ps := ["self"]) fun _ _ _ _ _ _ => by refine us_1 ?_; intros; rfl
  obtain ⟨a28, k28, i28, _, F28⟩ := Hd.see_fun (st := sLetter_parts) (Hd.eq_at e1 27 rfl rfl)
  have b28 := F28.binds (ps := ["self"]) fun _ _ _ _ _ _ => by refine us_1 ?_; intros; rfl
  obtain ⟨a29, k29, i29, _, F29⟩ := Hd.see_fun (st := sLetter_known) (Hd.eq_at e1 28 rfl rfl)
  have b29 := F29.binds (ps := ["self"]) fun _ _ _ _ _ _ => by refine us_1 ?_; intros; rfl
  obtain ⟨a30, k30, i30, _, F30⟩ := Hd.see_fun (st := sLetter_words) (Hd.eq_at e1 29 rfl rfl)
  have b30 := F30.binds (ps := ["self"]) fun _ _ _ _ _ _ => by refine us_1 ?_; intros; rfl
  obtain ⟨a31, k31, i31, _, F31⟩ := Hd.see_fun (st := sLetter_title_words) (Hd.eq_at e1 30 rfl rfl)
  have b31 := F31.binds (ps := ["self"]) fun _ _ _ _ _ _ => by refine us_1 ?_; intros; rfl
  have e : Value.ref fa = .ref (Hd.adOf (Hd.gl K "law")) := Option.some.inj (hfa.symm.trans (PySem.W.mg_of X G a25))
  injection e with e
  subst e
  let A : Adr := { f_wall := Hd.adOf (Hd.gl K "_wall"), f_all_among := Hd.adOf (Hd.gl K "all_among"), f_is_word := Hd.adOf (Hd.gl K "is_word"), f_words_of := Hd.adOf (Hd.gl K "words_of"), f_is_text := Hd.adOf (Hd.gl K "is_text"), f_is_whole := Hd.adOf (Hd.gl K "is_whole"), f_is_answered := Hd.adOf (Hd.gl K "is_answered"), f_check_parts := Hd.adOf (Hd.gl K "check_parts"), f_letter_text := Hd.adOf (Hd.gl K "letter_text"), f_read_day := Hd.adOf (Hd.gl K "read_day"), f_cut_letter := Hd.adOf (Hd.gl K "cut_letter"), f_read_letter := Hd.adOf (Hd.gl K "read_letter"), f_l_row := Hd.adOf (Hd.gl K "_law_row"), f_l_word := Hd.adOf (Hd.gl K "_law_word"), f_l_signs := Hd.adOf (Hd.gl K "_law_signs"), f_l_parts := Hd.adOf (Hd.gl K "_law_parts"), f_l_text_of := Hd.adOf (Hd.gl K "_law_text_of"), f_l_of_one_class := Hd.adOf (Hd.gl K "_law_of_one_class"), f_l_is_word := Hd.adOf (Hd.gl K "_law_is_word"), f_l_parts_in := Hd.adOf (Hd.gl K "_law_parts_in"), f_l_spoilt := Hd.adOf (Hd.gl K "_law_spoilt"), f_l_odd_text := Hd.adOf (Hd.gl K "_law_odd_text"), f_l_refused := Hd.adOf (Hd.gl K "_law_refused"), f_l_read := Hd.adOf (Hd.gl K "_law_read"), f_law := Hd.adOf (Hd.gl K "law"), f_Letter_init := Hd.adOf (PySem.W.findIn K (.ref (Hd.cl K "Letter")) "__init__"), f_Letter_twin := Hd.adOf (PySem.W.findIn K (.ref (Hd.cl K "Letter")) "twin"), f_Letter_parts := Hd.adOf (PySem.W.findIn K (.ref (Hd.cl K "Letter")) "parts"), f_Letter_known := Hd.adOf (PySem.W.findIn K (.ref (Hd.cl K "Letter")) "known"), f_Letter_words := Hd.adOf (PySem.W.findIn K (.ref (Hd.cl K "Letter")) "words"), f_Letter_title_words := Hd.adOf (PySem.W.findIn K (.ref (Hd.cl K "Letter")) "title_words"), C_Letter := Hd.cl K "Letter", C_MailError := Hd.cl K "MailError", C_NoLetter := Hd.cl K "NoLetter", C_NoWord := Hd.cl K "NoWord", C_NoRule := Hd.cl K "NoRule", C_NoName := Hd.cl K "NoName", C_NoParcel := Hd.cl K "NoParcel", C_NoRow := Hd.cl K "NoRow" }
  have T : Txt K mg A := ⟨PySem.W.mg_of X G a1,
    PySem.W.mg_of X G a2,
    PySem.W.mg_of X G a3,
    PySem.W.mg_of X G a4,
    PySem.W.mg_of X G a5,
    PySem.W.mg_of X G a6,
    PySem.W.mg_of X G a7,
    PySem.W.mg_of X G a8,
    PySem.W.mg_of X G a9,
    PySem.W.mg_of X G a10,
    PySem.W.mg_of X G a11,
    PySem.W.mg_of X G a12,
    PySem.W.mg_of X G a13,
    PySem.W.mg_of X G a14,
    PySem.W.mg_of X G a15,
    PySem.W.mg_of X G a16,
    PySem.W.mg_of X G a17,
    PySem.W.mg_of X G a18,
    PySem.W.mg_of X G a19,
    PySem.W.mg_of X G a20,
    PySem.W.mg_of X G a21,
    PySem.W.mg_of X G a22,
    PySem.W.mg_of X G a23,
    PySem.W.mg_of X G a24,
    PySem.W.mg_of X G a25,
    Hd.const_at X G (of_decide_eq_true (Hd.all_at e2 8 rfl)),
    Hd.const_at X G (of_decide_eq_true (Hd.all_at e2 9 rfl)),
    Hd.const_at X G (of_decide_eq_true (Hd.all_at e2 10 rfl)),
    Hd.const_at X G (of_decide_eq_true (Hd.all_at e2 11 rfl)),
    Hd.const_at X G (of_decide_eq_true (Hd.all_at e2 12 rfl)),
    Hd.const_at X G (of_decide_eq_true (Hd.all_at e2 13 rfl)),
    Hd.const_at X G (of_decide_eq_true (Hd.all_at e2 14 rfl)),
    Hd.const_at X G (of_decide_eq_true (Hd.all_at e2 15 rfl)),
    Hd.const_at X G (of_decide_eq_true (Hd.all_at e2 16 rfl)),
    Hd.const_at X G (of_decide_eq_true (Hd.all_at e2 17 rfl)),
    Hd.const_at X G (of_decide_eq_true (Hd.all_at e2 18 rfl)),
    Hd.const_at X G (of_decide_eq_true (Hd.all_at e2 19 rfl)),
    Hd.const_at X G (of_decide_eq_true (Hd.all_at e2 20 rfl)),
    PySem.W.mg_none_of X G (of_decide_eq_true (Hd.all_at e2 52 rfl)),
    PySem.W.mg_none_of X G (of_decide_eq_true (Hd.all_at e2 53 rfl)),
    PySem.W.mg_none_of X G (of_decide_eq_true (Hd.all_at e2 54 rfl)),
    PySem.W.mg_none_of X G (of_decide_eq_true (Hd.all_at e2 55 rfl)),
    PySem.W.mg_none_of X G (of_decide_eq_true (Hd.all_at e2 56 rfl)),
    PySem.W.mg_none_of X G (of_decide_eq_true (Hd.all_at e2 57 rfl)),
    PySem.W.mg_none_of X G (of_decide_eq_true (Hd.all_at e2 58 rfl)),
    PySem.W.mg_none_of X G (of_decide_eq_true (Hd.all_at e2 59 rfl)),
    PySem.W.mg_of X G (of_decide_eq_true (Hd.all_at e2 0 rfl)),
    ⟨(Hd.all_at e2 21 rfl), (Hd.all_at e2 22 rfl), (Hd.all_at e2 23 rfl), (of_decide_eq_true (Hd.all_at e2 24 rfl))⟩,
    ⟨(Hd.all_at e2 26 rfl), a26, i26, (Hd.all_at e2 25 rfl)⟩,
    ⟨a27, i27, k27⟩,
    ⟨a28, i28, k28⟩,
    ⟨a29, i29, k29⟩,
    ⟨a30, i30, k30⟩,
    ⟨a31, i31, k31⟩,
    (Hd.no_at (Hd.all_at e2 27 rfl)),
    (Hd.no_at (Hd.all_at e2 28 rfl)),
    (Hd.no_at (Hd.all_at e2 29 rfl)),
    (Hd.no_at (Hd.all_at e2 30 rfl)),
    (Hd.no_at (Hd.all_at e2 31 rfl)),
    (Hd.no_at (Hd.all_at e2 32 rfl)),
    PySem.W.mg_of X G (of_decide_eq_true (Hd.all_at e2 1 rfl)),
    ⟨(Hd.all_at e2 33 rfl)⟩,
    PySem.W.mg_of X G (of_decide_eq_true (Hd.all_at e2 2 rfl)),
    ⟨(Hd.all_at e2 34 rfl)⟩,
    mro_of (of_decide_eq_true (Hd.all_at e2 35 rfl)),
    mro_of (of_decide_eq_true (Hd.all_at e2 36 rfl)),
    PySem.W.mg_of X G (of_decide_eq_true (Hd.all_at e2 3 rfl)),
    PySem.W.mg_of X G (of_decide_eq_true (Hd.all_at e2 4 rfl)),
    PySem.W.mg_of X G (of_decide_eq_true (Hd.all_at e2 5 rfl)),
    PySem.W.mg_of X G (of_decide_eq_true (Hd.all_at e2 6 rfl)),
    PySem.W.mg_of X G (of_decide_eq_true (Hd.all_at e2 7 rfl)),
    ⟨(of_decide_eq_true (Hd.all_at e2 39 rfl)), (of_decide_eq_true (Hd.all_at e2 40 rfl)), (Hd.all_at e2 41 rfl), (of_decide_eq_true (Hd.all_at e2 42 rfl)), (of_decide_eq_true (Hd.all_at e2 37 rfl)), (of_decide_eq_true (Hd.all_at e2 38 rfl)), (of_decide_eq_true (Hd.all_at e2 43 rfl)), (of_decide_eq_true (Hd.all_at e2 44 rfl))⟩,
    (of_decide_eq_true (Hd.all_at e2 45 rfl)),
    (of_decide_eq_true (Hd.all_at e2 46 rfl)),
    (of_decide_eq_true (Hd.all_at e2 47 rfl)),
    (of_decide_eq_true (Hd.all_at e2 48 rfl)),
    (of_decide_eq_true (Hd.all_at e2 49 rfl)),
    (of_decide_eq_true (Hd.all_at e2 50 rfl)),
    (of_decide_eq_true (Hd.all_at e2 51 rfl)),
    PySem.W.mg_none_of X G (of_decide_eq_true (Hd.all_at e2 60 rfl)),
    trivial⟩
  have FF : Funs K A := ⟨⟨_, F1, b1⟩, ⟨_, F2, b2⟩, ⟨_, F3, b3⟩, ⟨_, F4, b4⟩, ⟨_, F5, b5⟩, ⟨_, F6, b6⟩, ⟨_, F7, b7⟩, ⟨_, F8, b8⟩, ⟨_, F9, b9⟩, ⟨_, F10, b10⟩, ⟨_, F11, b11⟩, ⟨_, F12, b12⟩, ⟨_, F13, b13⟩, ⟨_, F14, b14⟩, ⟨_, F15, b15⟩, ⟨_, F16, b16⟩, ⟨_, F17, b17⟩, ⟨_, F18, b18⟩, ⟨_, F19, b19⟩, ⟨_, F20, b20⟩, ⟨_, F21, b21⟩, ⟨_, F22, b22⟩, ⟨_, F23, b23⟩, ⟨_, F24, b24⟩, ⟨_, F25, b25⟩, ⟨_, F26, b26_1, ⟨_, (.cons (Hd.bare_rel rd26_0) .nil), b26_0⟩⟩, ⟨_, F27, b27⟩, ⟨_, F28, b28⟩, ⟨_, F29, b29⟩, ⟨_, F30, b30⟩, ⟨_, F31, b31⟩⟩
  obtain ⟨_, _, kV, doc, pm, an, cdv, ct, _, rfl, _, _⟩ := F25.ex
  exact ⟨_, fun s v => .of_eq rfl, fun base _ _ => ok_law F25 T FF⟩
abbrev PP : Program := PySem.Challenge.pw_mailroom_k07_texts_of_letters_read
def loose : List Str := (["_wall", "MailError", "NoWord", "NoLetter", "NoRule", "NoName", "NoParcel", "NoRow", "FIGURES", "WORD_SIGNS", "RUN_SIGNS", "MOST_WORD", "all_among", "is_word", "words_of", "MOST_TITLE", "MOST_BODY", "LAST_DAY", "DAY_FIGURES", "FROM", "DAY", "ANSWERS", "TITLE", "GAP", "is_text", "is_whole", "is_answered", "check_parts", "Letter", "letter_text", "read_day", "cut_letter", "read_letter", "_law_row", "_law_word", "_law_signs", "_law_parts", "_law_text_of", "_law_of_one_class", "_law_is_word", "_law_parts_in", "_law_spoilt", "_law_odd_text", "_law_refused", "_law_read"] : List String).map Str.ofString
theorem seen (w : World) (os : OsState) : (Hd.runT (Hd.stepQ Hd.denQ PP w) (Hd.okQ 11 (some (.ref 6))) 12000 (Hd.S0 w os) (PySem.W.topStub PP)).map (fun s => (Hd.chk PP w.params s.abs, Hd.seenQ (PySem.W.view PP [49]) loose (PySem.importedModules PP.main.body) (fun s => PySem.W.recOk [] s) true s.abs, obs (Hd.fragT s))) = some (true, PySem.W.openGood (PySem.W.view PP [49]) loose, good) := by kernel_rfl
theorem look : PySem.W.Fast.tw9446332074065402090 PySem.Challenge.rw_mailroom_k07_texts_of_letters_read = true := by kernel_rfl
theorem opens : PySem.W.opening PP = PySem.W.plainProg PP.main.scope.names := by kernel_rfl
theorem fence (s : Shared) : fenceModules? PP s = some s := by kernel_rfl
end K07
open PySem PySem.W PyProof.Rows
set_option maxRecDepth 100000 in
set_option maxHeartbeats 0 in
theorem PySem.Challenge.cw_mailroom_k07_texts_of_letters_read_holds : PySem.Challenge.rw_mailroom_k07_texts_of_letters_read.Holds := by
  refine Hd.close (q := view K07.PP [49]) (loose := K07.loose) (N := 12000) (obs := K07.obs) (good := K07.good) K07.look K07.opens rfl K07.fence K07.seen rfl rfl rfl rfl (by decide +kernel) ⟨rfl, rfl, rfl, rfl, rfl, by decide +kernel⟩ ?hw ?hc
  case hw => w_witness2
  case hc => exact Hd.walk (n := 63) (k := 14) (x := "_law_script") (sp := K07.spLaw) rfl (by decide) rfl ⟨rfl, by decide, by decide, rfl⟩ (fun w K mg fa h KX y G hmg => K07.all_mk KX y G hmg) (fun _ _ a ns hl _ hS => ⟨a, ns, rfl, hS, hl, fun _ => rfl⟩)
#print axioms PySem.Challenge.cw_mailroom_k07_texts_of_letters_read_holds
