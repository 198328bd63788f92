import PyProof.Rows.All
import Wide.All
import OpenK.AllK
import Wide.FinOn
import Lean
import PyProof.EqAt
import PyProof.EqKinds
import PyProof.TupleCall
import PyProof.P3In
import KE.KDictLaws
import PyProof.Rows.SetFrom
import KE.KRevSl
import KE.KIntText
import KE.KLcPair
import KE.KIsAll
import PyProof.ExcArgsOwn
import PyProof.ExcAttrAll.ValueError
import PyProof.NsDelKeeps
import PyProof.Rows.CountFlat
import KE.RegKIsAll
import PySem.Challenge.RW_mailroom_k32_folders_refused
noncomputable section
set_option Elab.async false
set_option linter.all false
set_option maxRecDepth 100000
namespace L2
open PySem PySem.Spec PyProof.Rows
/-- a key: an int or a str -/
abbrev Key := Sum Int Str
def keyIs : Key → Value → Bool
  | .inl k, v => Value.isInt k v
  | .inr x, v => Value.isStrOf x v
def keyH (w : World) : Key → Int
  | .inl k => hashInt k
  | .inr x => hashStr w x
theorem keyIs_shape : ∀ {k : Key} {v : Value}, keyIs k v = true → (∃ i t, k = Sum.inl i ∧ v = Value.int i t) ∨ (∃ x t, k = Sum.inr x ∧ v = Value.str x t)
  | .inl i, v, h => by
    obtain ⟨t, e⟩ := Value.isInt_shape (k := i) (v := v) h
    exact .inl ⟨i, t, rfl, e⟩
  | .inr x, v, h => by
    obtain ⟨t, e⟩ := Value.isStrOf_shape (x := x) (v := v) h
    exact .inr ⟨x, t, rfl, e⟩
theorem keyIs_int (i : Int) (t : Tok) : keyIs (.inl i) (.int i t) = true := by simp [keyIs, Value.isInt]
theorem keyIs_str (x : Str) (t : Tok) : keyIs (.inr x) (.str x t) = true := by simp [keyIs, Value.isStrOf]
theorem key_ll (a b : Int) : decide ((Sum.inl a : Key) = Sum.inl b) = (a == b) := by
  by_cases e : a = b
  · subst e; simp
  · have h : ¬ (Sum.inl a : Key) = Sum.inl b := fun q => e (Sum.inl.inj q)
    rw [decide_eq_false h]
    exact (beq_eq_false_iff_ne.mpr e).symm
theorem key_rr (a b : Str) : decide ((Sum.inr a : Key) = Sum.inr b) = decide (a = b) := by
  by_cases e : a = b
  · subst e; simp
  · have h : ¬ (Sum.inr a : Key) = Sum.inr b := fun q => e (Sum.inr.inj q)
    rw [decide_eq_false h, decide_eq_false e]
theorem key_lr (a : Int) (b : Str) : decide ((Sum.inl a : Key) = Sum.inr b) = false := decide_eq_false (fun q => nomatch q)
theorem key_rl (a : Str) (b : Int) : decide ((Sum.inr a : Key) = Sum.inl b) = false := decide_eq_false (fun q => nomatch q)
def mixKind (prog : Program) (w : World) : PySem.KeyKind prog w Key where
  is := keyIs
  hash := keyH w
  inj := fun v a b ha hb => by
    rcases keyIs_shape ha with ⟨i, t, rfl, rfl⟩ | ⟨x, t, rfl, rfl⟩
    · rcases keyIs_shape hb with ⟨j, u, rfl, e⟩ | ⟨y, u, rfl, e⟩
      · injection e with e1 _; rw [e1]
      · exact nomatch e
    · rcases keyIs_shape hb with ⟨j, u, rfl, e⟩ | ⟨y, u, rfl, e⟩
      · exact nomatch e
      · injection e with e1 _; rw [e1]
  byValue := fun k v h => by
    rcases keyIs_shape h with ⟨i, t, rfl, rfl⟩ | ⟨x, t, rfl, rfl⟩ <;> rfl
  pyHash := fun hv h => by
    rcases keyIs_shape hv with ⟨i, t, rfl, rfl⟩ | ⟨x, t, rfl, rfl⟩
    · exact wpAny_pyHash_int h
    · exact wpAny_pyHash_str h
  eqBool := fun hu hv h => by
    rcases keyIs_shape hu with ⟨i, t, rfl, rfl⟩ | ⟨x, t, rfl, rfl⟩
    · rcases keyIs_shape hv with ⟨j, u, rfl, rfl⟩ | ⟨y, u, rfl, rfl⟩
      · rw [key_ll] at h; exact wpAny_eqBool_int h
      · rw [key_lr] at h; exact SeqAt.EqAt.int_str i t y u _ _ _ _ h
    · rcases keyIs_shape hv with ⟨j, u, rfl, rfl⟩ | ⟨y, u, rfl, rfl⟩
      · rw [key_rl] at h; exact SeqAt.EqAt.str_int x t j u _ _ _ _ h
      · rw [key_rr] at h; exact wpAny_eqBool_str h
  «strs» := fun k x t v h => by
    rcases keyIs_shape h with ⟨i, u, rfl, e⟩ | ⟨y, u, rfl, e⟩
    · exact nomatch e
    · injection e with e1 _
      subst e1
      cases v <;> rfl
theorem mixKind_int (prog : Program) (w : World) (i : Int) (t : Tok) : (mixKind prog w).is (.inl i) (.int i t) = true := keyIs_int i t
theorem mixKind_str (prog : Program) (w : World) (x : Str) (t : Tok) : (mixKind prog w).is (.inr x) (.str x t) = true := keyIs_str x t
end L2
namespace L2
open PySem PySem.Spec PyProof.Rows
/-- a value, without the heap -/
inductive V where
  | non | bl (b : Bool) | int (i : Int) | str (x : Str) | byt (b : Array UInt8) | flt (b : UInt64) | ref (a : Addr) | ty (n : String)
  deriving DecidableEq
def RelV : V → Value → Prop
  | .non, u => u = Value.none
  | .bl b, u => u = Value.bool b
  | .int i, u => ∃ t, u = Value.int i t
  | .str x, u => ∃ t, u = Value.str x t
  | .byt b, u => ∃ t, u = Value.bytes b t
  | .flt b, u => ∃ t, u = Value.float b t
  | .ref a, u => u = Value.ref a
  | .ty n, u => u = Value.type n
abbrev Vals : List V → List Value → Prop := Paired RelV
theorem Vals.length {xs : List V} {us : List Value} (r : Vals xs us) : xs.length = us.length := Paired.length r
theorem Vals.get : ∀ {xs : List V} {us : List Value} {i : Nat} {x : V}, Vals xs us → xs[i]? = some x → ∃ u, us[i]? = some u ∧ RelV x u
  | _, _, _, _, .nil, e => by simp at e
  | _, _, 0, _, .cons r _, e => by simp at e; subst e; exact ⟨_, rfl, r⟩
  | _, _, i + 1, x, .cons _ t, e => by
    obtain ⟨u, h1, h2⟩ := Vals.get (i := i) (x := x) t (by simpa using e)
    exact ⟨u, by simpa using h1, h2⟩
theorem Vals.set {x : V} {u : Value} (r : RelV x u) : ∀ {xs : List V} {us : List Value} (i : Nat), Vals xs us → Vals (xs.set i x) (us.set i u)
  | _, _, _, .nil => .nil
  | _, _, 0, .cons _ t => .cons r t
  | _, _, i + 1, .cons q t => .cons q (Vals.set r i t)
theorem Vals.append : ∀ {xs ys : List V} {us ws : List Value}, Vals xs us → Vals ys ws → Vals (xs ++ ys) (us ++ ws)
  | _, _, _, _, .nil, s => s
  | _, _, _, _, .cons r t, s => .cons r (Vals.append t s)
theorem Vals.take : ∀ {xs : List V} {us : List Value} (n : Nat), Vals xs us → Vals (xs.take n) (us.take n)
  | _, _, 0, _ => .nil
  | _, _, _ + 1, .nil => .nil
  | _, _, n + 1, .cons r t => .cons r (Vals.take n t)
theorem Vals.drop : ∀ {xs : List V} {us : List Value} (n : Nat), Vals xs us → Vals (xs.drop n) (us.drop n)
  | _, _, 0, r => r
  | _, _, _ + 1, .nil => .nil
  | _, _, n + 1, .cons _ t => Vals.drop n t
theorem Vals.none_of : ∀ {xs : List V} {us : List Value} {i : Nat}, Vals xs us → xs[i]? = none → us[i]? = none := fun {xs us i} r e => by
  have h1 := r.length
  have h2 : xs.length ≤ i := List.getElem?_eq_none_iff.mp e
  exact List.getElem?_eq_none_iff.mpr (by omega)
def RelO : Option V → Option Value → Prop
  | some v, some u => RelV v u
  | none, none => True
  | _, _ => False
def KV {κ : Type} : List (κ × V) → List (κ × Value) → Prop := Paired fun (p : κ × V) (q : κ × Value) => p.1 = q.1 ∧ RelV p.2 q.2
/-- a key of a dict (00_mix): an int or a text -/
def kV : Key → V
  | .inl i => .int i
  | .inr x => .str x
/-- what stands at a tracked address -/
inductive HO where
  /-- a list -/
  | lst (xs : List V)
  /-- a tuple (never changes) -/
  | tup (xs : List V)
  /-- a dict whose keys are ints and texts; one whose keys are tuples of ints and texts (the empty one is both) -/
  | dK (kvs : List (Key × V)) | dT (kvs : List (List Key × V))
  /-- a set of ints: its members, its size -/
  | set (S : Int → Bool) (n : Nat)
  /-- an instance of the class at C, its dict at dx, its attributes -/
  | ins (C dx : Addr) (fs : List (Str × V))
  /-- the dict of the instance at x -/
  | own (x : Addr)
  /-- the dict of an exception -/
  | xd (fs : List (Str × V))
  /-- a bound method, f of x -/
  | met (f x : Addr)
  /-- a range object lo, lo + 1, .. below hi -/
  | rng (lo hi : Int)
  /-- a thing that is known to the object (the script; a dict while a loop walks it): read, never written while it is so -/
  | frz (o : Obj) (u : HO)
  /-- a code object's table -/
  | tbl (ps : Array Value)
  /-- any other thing, by what is true of its one object (a def of one's own: SetO a S n := HO.ext fun h => ..) -/
  | ext (φ : Heap → Prop)
abbrev Hp := Addr → Option HO
def upd (H : Hp) (a : Addr) (o : HO) : Hp := fun b => if b = a then some o else H b
theorem upd_same {H : Hp} {a : Addr} {o : HO} : upd H a o a = some o := by unfold upd; rw [if_pos rfl]
theorem upd_ne {H : Hp} {a b : Addr} {o : HO} (h : b ≠ a) : upd H a o b = H b := by unfold upd; rw [if_neg h]
theorem upd_upd {H : Hp} {a : Addr} {o u : HO} : upd (upd H a o) a u = upd H a u := by
  funext b; unfold upd; split <;> rfl
/-- two objects of different content stand apart -/
theorem ne_of {H : Hp} {a b : Addr} {o u : HO} (h : H a = some o) (h' : H b = some u) (d : o ≠ u) : a ≠ b := by
  intro e; subst e; rw [h] at h'; exact d (Option.some.inj h')
theorem ne_of_none {H : Hp} {a b : Addr} {o : HO} (h : H a = some o) (h' : H b = none) : a ≠ b := by
  intro e; subst e; rw [h] at h'; cases h'
section
variable (P : Program) (w : World)
def ObjOk (H : Hp) (h : Heap) (a : Addr) : HO → Prop
  | .lst xs => xs.length ≤ sizeLine ∧ ∃ (its : List Value) (n : Nat), Vals xs its ∧ h.get? a = some { cls := .type "list", data := .seq its.toArray n }
  | .tup xs => xs.length ≤ sizeLine ∧ ∃ its : List Value, Vals xs its ∧ IsTup h a its.toArray
  | .dK kvs => kvs.length ≤ sizeLine ∧ (a == sysModules) = false ∧ ∃ vs, KV kvs vs ∧ h.DictOf (mixKind P w) a vs
  | .dT kvs => kvs.length ≤ sizeLine ∧ (a == sysModules) = false ∧ ∃ xs : List (List Key × Addr × Value),
      Paired (fun (p : List Key × V) (q : List Key × Addr × Value) => p.1 = q.1 ∧ H q.2.1 = some (.tup (p.1.map kV)) ∧ RelV p.2 q.2.2) kvs xs ∧
      ∃ o es ep, h.get? a = some o ∧ o.ExactDict ∧ o.data = .dict es ep ∧ es.toList = xs.map (entryOfKey (tupleKind (mixKind P w))) ∧ (xs.map (·.1)).Nodup
  | .set S n => h.SetOf (intKind P w) a S n
  | .ins C dx fs => H dx = some (.own a) ∧ fs.length ≤ 1000 ∧ dx ≠ a ∧ h.get? a = some (PySem.W.instObj C dx) ∧
      ∃ mA, h.Ns1 dx mA ∧ (∀ f, RelO (fs.lookup f) (mA f)) ∧ PySem.Within mA (fs.map (·.1))
  | .own _ => ∃ o, h.get? a = some o
  | .xd fs => ∃ mA, h.Ns1 a mA ∧ ∀ f, RelO (fs.lookup f) (mA f)
  | .rng lo hi => ∃ t u v, h.get? a = some { cls := .type "range", data := .fields #[.int lo t, .int hi u, .int 1 v] }
  | .frz o u => h.get? a = some o ∧ ObjOk H h a u
  | .tbl ps => h.get? a = some { cls := .none, data := .fields ps }
  | .met f x => h.get? a = some (PySem.W.methodObj (.ref f) (.ref x))
  | .ext φ => φ h ∧ (∃ o, h.get? a = some o) ∧ ∀ h1 h2 : Heap, φ h1 → (∀ o, h1.get? a = some o → h2.get? a = some o) → φ h2
/-- the abstract heap is held -/
def HOk (H : Hp) (h : Heap) : Prop := ∀ a o, H a = some o → ObjOk P w H h a o
end
section
variable {P : Program} {w : World} {H H' : Hp} {h h' : Heap} {a : Addr} {o : HO}
theorem ObjOk.lt (x : ObjOk P w H h a o) : a < h.objs.size := by
  cases o with
  | lst xs => obtain ⟨_, _, _, _, e⟩ := x; exact Heap.lt_size e
  | tup xs => obtain ⟨_, _, _, p⟩ := x; exact p.lt
  | dK kvs => obtain ⟨_, _, _, _, o, _, _, e, _⟩ := x; exact Heap.lt_size e
  | dT kvs => obtain ⟨_, _, _, _, o, _, _, e, _⟩ := x; exact Heap.lt_size e
  | set S n => obtain ⟨o, _, _, _, e, _⟩ := x; exact Heap.lt_size e
  | ins C dx fs => obtain ⟨_, _, _, e, _⟩ := x; exact Heap.lt_size e
  | own y => obtain ⟨_, e⟩ := x; exact Heap.lt_size e
  | xd fs => obtain ⟨_, ⟨_, _, _, e, _⟩, _⟩ := x; exact Heap.lt_size e
  | rng lo hi => obtain ⟨_, _, _, e⟩ := x; exact Heap.lt_size e
  | frz ob u => obtain ⟨e, _⟩ := x; exact Heap.lt_size e
  | tbl ps => exact Heap.lt_size (show h.get? a = some _ from x)
  | met f y => exact Heap.lt_size (show h.get? a = some _ from x)
  | ext φ => obtain ⟨_, ⟨_, e⟩, _⟩ := x; exact Heap.lt_size e
theorem Paired.mapP {α β : Type} {F G : α → β → Prop} : ∀ {l₁ : List α} {l₂ : List β}, Paired F l₁ l₂ → (∀ a b, F a b → G a b) → Paired G l₁ l₂
  | _, _, .nil, _ => .nil
  | _, _, .cons r t, f => .cons (f _ _ r) (Paired.mapP t f)
/-- what an object's description leans on: its own object, its own dict, the tuples -/
theorem ObjOk.stay (x : ObjOk P w H h a o) (k : ∀ b u, (b = a ∨ H b = some (.own a)) → h.get? b = some u → h'.get? b = some u)
    (ho : ∀ b, H b = some (.own a) → H' b = some (.own a)) (ht : ∀ b xs, H b = some (.tup xs) → H' b = some (.tup xs)) : ObjOk P w H' h' a o := by
  induction o with
  | lst xs => obtain ⟨z, its, n, r, e⟩ := x; exact ⟨z, its, n, r, k _ _ (.inl rfl) e⟩
  | tup xs => obtain ⟨z, its, r, ob, e, c⟩ := x; exact ⟨z, its, r, ob, k _ _ (.inl rfl) e, c⟩
  | dK kvs => obtain ⟨z, y, vs, r, ob, es, ep, e, c⟩ := x; exact ⟨z, y, vs, r, ob, es, ep, k _ _ (.inl rfl) e, c⟩
  | dT kvs =>
    obtain ⟨z, y, xs, r, ob, es, ep, e, c⟩ := x
    exact ⟨z, y, xs, Paired.mapP r fun p q z => ⟨z.1, ht _ _ z.2.1, z.2.2⟩, ob, es, ep, k _ _ (.inl rfl) e, c⟩
  | set S n => obtain ⟨ob, es, ep, t, e, c⟩ := x; exact ⟨ob, es, ep, t, k _ _ (.inl rfl) e, c⟩
  | ins C dx fs =>
    obtain ⟨d, z, ne, e, mA, ⟨od, es, ep, e2, c⟩, r⟩ := x
    exact ⟨ho _ d, z, ne, k _ _ (.inl rfl) e, mA, ⟨od, es, ep, k _ _ (.inr d) e2, c⟩, r⟩
  | own y => obtain ⟨ob, e⟩ := x; exact ⟨ob, k _ _ (.inl rfl) e⟩
  | xd fs => obtain ⟨mA, ⟨od, es, ep, e, c⟩, r⟩ := x; exact ⟨mA, ⟨od, es, ep, k _ _ (.inl rfl) e, c⟩, r⟩
  | rng lo hi => obtain ⟨t, u, v, e⟩ := x; exact ⟨t, u, v, k _ _ (.inl rfl) e⟩
  | frz ob u ih => obtain ⟨e, q⟩ := x; exact ⟨k _ _ (.inl rfl) e, ih q⟩
  | tbl ps =>
    have e : h.get? a = some { cls := .none, data := .fields ps } := x
    show h'.get? a = some { cls := .none, data := .fields ps }
    exact k a _ (.inl rfl) e
  | met f y =>
    have e : h.get? a = some (PySem.W.methodObj (.ref f) (.ref y)) := x
    show h'.get? a = some (PySem.W.methodObj (.ref f) (.ref y))
    exact k a _ (.inl rfl) e
  | ext φ => obtain ⟨p, ⟨o, e⟩, st⟩ := x; exact ⟨st _ _ p fun o q => k _ _ (.inl rfl) q, ⟨o, k _ _ (.inl rfl) e⟩, st⟩
theorem HOk.lt (x : HOk P w H h) (e : H a = some o) : a < h.objs.size := (x a o e).lt
theorem HOk.fresh (x : HOk P w H h) (e : h.objs.size ≤ a) : H a = none := by
  cases q : H a with
  | none => rfl
  | some u => exact absurd (Nat.lt_of_lt_of_le (x.lt q) e) (Nat.lt_irrefl _)
/-- every object of the heap is kept -/
theorem HOk.kept (x : HOk P w H h) (k : ∀ b u, h.get? b = some u → h'.get? b = some u) : HOk P w H h' := fun a o e =>
  (x a o e).stay (fun b u _ q => k b u q) (fun _ q => q) fun _ _ q => q
/-- a new object is laid and tracked -/
theorem HOk.laid (x : HOk P w H h) (k : ∀ b u, h.get? b = some u → h'.get? b = some u) (hp : h.objs.size ≤ a) (new : ObjOk P w (upd H a o) h' a o) : HOk P w (upd H a o) h' := fun b u e => by
  have hn := x.fresh hp
  by_cases hb : b = a
  · subst hb; rw [upd_same] at e; cases e; exact new
  · rw [upd_ne hb] at e
    exact (x b u e).stay (fun c v _ q => k c v q) (fun c q => by rw [upd_ne (ne_of_none q hn)]; exact q) fun c xs q => by rw [upd_ne (ne_of_none q hn)]; exact q
end
/-- what may be read as u: it is u, or a known u -/
def Rd (H : Hp) (a : Addr) (u : HO) : Prop := H a = some u ∨ ∃ o, H a = some (.frz o u)
theorem Rd.of {H : Hp} {a : Addr} {u : HO} (h : H a = some u) : Rd H a u := .inl h
theorem Rd.ok {P : Program} {w : World} {H : Hp} {h : Heap} {a : Addr} {u : HO} (r : Rd H a u) (x : HOk P w H h) : ObjOk P w H h a u := by
  rcases r with r | ⟨o, r⟩
  · exact x a u r
  · obtain ⟨_, q⟩ := x a _ r
    exact q
/-- what may be written -/
def Mut : Option HO → Prop
  | some (.lst _) => True
  | some (.dK _) => True
  | some (.dT _) => True
  | some (.set _ _) => True
  | some (.ins _ _ _) => True
  | some (.ext _) => True
  | _ => False
section
variable {P : Program} {w : World} {H : Hp} {h h' : Heap} {x e : Addr} {o' : HO}
/-- the object at e is changed: x itself, or the dict of the instance x -/
theorem HOk.write (ok : HOk P w H h) (mu : Mut (H x)) (he : e = x ∨ H e = some (.own x)) (k : ∀ b u, b ≠ e → h.get? b = some u → h'.get? b = some u) (heo : ∃ u, h'.get? e = some u)
    (new : ObjOk P w (upd H x o') h' x o') : HOk P w (upd H x o') h' := fun b u q => by
  have nown : ∀ c y, H c = some (.own y) → c ≠ x := fun c y r z => by subst z; rw [r] at mu; exact mu
  have ntup : ∀ c xs, H c = some (.tup xs) → c ≠ x := fun c xs r z => by subst z; rw [r] at mu; exact mu
  by_cases hb : b = x
  · subst hb; rw [upd_same] at q; cases q; exact new
  · rw [upd_ne hb] at q
    by_cases hbe : b = e
    · have q' : H b = some (.own x) := by
        rcases he with z | z
        · exact absurd (hbe.trans z) hb
        · rw [hbe]; exact z
      rw [q] at q'; cases q'
      obtain ⟨v, hv⟩ := heo
      exact ⟨v, by rw [hbe]; exact hv⟩
    · refine (ok b u q).stay (fun c v hc r => k c v ?_ r) (fun c r => by rw [upd_ne (nown c b r)]; exact r) fun c xs r => by rw [upd_ne (ntup c xs r)]; exact r
      rcases hc with rfl | hc
      · exact hbe
      · rintro rfl
        rcases he with z | z
        · exact nown c b hc z
        · rw [hc] at z; cases z; exact hb rfl
end
structure Un (fs ex : List Addr) (H H' : Hp) (h h' : Heap) : Prop where
  keep : ∀ b o, h.get? b = some o → H b = none → b ∉ fs → b ∉ ex → h'.get? b = some o
  slot : ∀ b o, h.get? b = some o → H b = none → b ∈ fs → b ∉ ex → ∃ sl, h'.get? b = some { o with slots := sl }
  free : ∀ b o, h.get? b = some o → H b = none → b ∉ ex → H' b = none
  there : ∀ b o, h.get? b = some o → b ∉ ex → ∃ o', h'.get? b = some o'
  tups : ∀ b xs, H b = some (.tup xs) → H' b = some (.tup xs)
  frzs : ∀ b o u, H b = some (.frz o u) → H' b = some (.frz o u)
  tbls : ∀ b ps, H b = some (.tbl ps) → ∃ more, H' b = some (.tbl (ps ++ more))
section
variable {fs fs' ex ex' : List Addr} {H H1 H2 : Hp} {h h1 h2 h' : Heap} {a x e : Addr} {o : HO}
theorem Un.any (u : Un fs ex H H1 h h1) {b : Addr} {ob : Obj} (q : h.get? b = some ob) (n : H b = none) (hx : b ∉ ex) : ∃ sl, h1.get? b = some { ob with slots := sl } := by
  by_cases hb : b ∈ fs
  · exact u.slot b ob q n hb hx
  · exact ⟨ob.slots, u.keep b ob q n hb hx⟩
theorem Un.trans (a : Un fs ex H H1 h h1) (b : Un fs ex H1 H2 h1 h2) : Un fs ex H H2 h h2 where
  keep := fun c ob q n hc hx => b.keep c ob (a.keep c ob q n hc hx) (a.free c ob q n hx) hc hx
  slot := fun c ob q n hc hx => by
    obtain ⟨sl, e1⟩ := a.slot c ob q n hc hx
    obtain ⟨sl', e2⟩ := b.slot c _ e1 (a.free c ob q n hx) hc hx
    exact ⟨sl', e2⟩
  free := fun c ob q n hx => by
    obtain ⟨o', e1⟩ := a.there c ob q hx
    exact b.free c o' e1 (a.free c ob q n hx) hx
  there := fun c ob q hx => by
    obtain ⟨o', e1⟩ := a.there c ob q hx
    exact b.there c o' e1 hx
  tups := fun c xs q => b.tups c xs (a.tups c xs q)
  frzs := fun c ob xs q => b.frzs c ob xs (a.frzs c ob xs q)
  tbls := fun c ps q => by
    obtain ⟨m1, e1⟩ := a.tbls c ps q
    obtain ⟨m2, e2⟩ := b.tbls c _ e1
    exact ⟨m1 ++ m2, by rw [e2, Array.append_assoc]⟩
theorem Un.kept (k : ∀ b u, h.get? b = some u → h'.get? b = some u) : Un fs ex H H h h' :=
  ⟨fun b ob q _ _ _ => k b ob q, fun b ob q _ _ _ => ⟨ob.slots, k b ob q⟩, fun _ _ _ n _ => n, fun b ob q _ => ⟨ob, k b ob q⟩, fun _ _ q => q, fun _ _ _ q => q, fun _ ps q => ⟨#[], by rw [q]; simp⟩⟩
theorem Un.refl : Un fs ex H H h h := Un.kept fun _ _ q => q
theorem Un.laid (k : ∀ b u, h.get? b = some u → h'.get? b = some u) (hp : h.objs.size ≤ a) (hn : H a = none) : Un fs ex H (upd H a o) h h' where
  keep := fun b u q _ _ _ => k b u q
  slot := fun b u q _ _ _ => ⟨u.slots, k b u q⟩
  free := fun b u q n _ => by rw [upd_ne (Nat.ne_of_lt (Nat.lt_of_lt_of_le (Heap.lt_size q) hp))]; exact n
  there := fun b u q _ => ⟨u, k b u q⟩
  tups := fun b xs q => by rw [upd_ne (ne_of_none q hn)]; exact q
  frzs := fun b u xs q => by rw [upd_ne (ne_of_none q hn)]; exact q
  tbls := fun b ps q => ⟨#[], by rw [upd_ne (ne_of_none q hn), q]; simp⟩
theorem Un.write (mu : Mut (H x)) (he : e = x ∨ H e = some (.own x)) (k : ∀ b u, b ≠ e → h.get? b = some u → h'.get? b = some u) (heo : ∃ u, h'.get? e = some u) : Un fs ex H (upd H x o) h h' := by
  have hx : ∀ b, H b = none → b ≠ x := fun b n z => by subst z; rw [n] at mu; exact mu
  have hb : ∀ b, H b = none → b ≠ e := fun b n z => by
    subst z
    rcases he with r | r
    · exact hx b n r
    · rw [n] at r; cases r
  have hm : ∀ b u, H b = some u → ¬ Mut (some u) → b ≠ x := fun b u q nm z => by subst z; rw [q] at mu; exact nm mu
  refine ⟨fun b u q n _ _ => k b u (hb b n) q, fun b u q n _ _ => ⟨u.slots, k b u (hb b n) q⟩, fun b u q n _ => by rw [upd_ne (hx b n)]; exact n, fun b u q _ => ?_,
    fun b xs q => by rw [upd_ne (hm b _ q fun z => z)]; exact q, fun b u xs q => by rw [upd_ne (hm b _ q fun z => z)]; exact q, fun b ps q => ⟨#[], by rw [upd_ne (hm b _ q fun z => z), q]; simp⟩⟩
  by_cases hbe : b = e
  · subst hbe; exact heo
  · exact ⟨u, k b u hbe q⟩
theorem Un.mono (u : Un fs ex H H1 h h1) (hs : ∀ b ∈ fs, b ∈ fs') (hx : ∀ b ∈ ex, b ∈ ex') : Un fs' ex' H H1 h h1 :=
  ⟨fun b ob q n hb he => u.keep b ob q n (fun z => hb (hs b z)) fun z => he (hx b z), fun _ _ q n _ he => u.any q n fun z => he (hx _ z), fun b ob q n he => u.free b ob q n fun z => he (hx b z), fun b ob q he => u.there b ob q fun z => he (hx b z), u.tups, u.frzs, u.tbls⟩
end
def trk (h : Heap) (H : Hp) : List Addr := (List.range h.objs.size).filter fun a => (H a).isSome
def hidT (h : Heap) (H : Hp) : Heap := PySem.W.hideAll h (trk h H)
theorem hidT_size (h : Heap) (H : Hp) : (hidT h H).objs.size = h.objs.size := PySem.W.hideAll_size _ _
theorem hidT_get {h : Heap} {H : Hp} {b : Addr} {o : Obj} (e : h.get? b = some o) (n : H b = none) : (hidT h H).get? b = some o :=
  PySem.W.hideAll_get _ e fun hm => by
    have q : (H b).isSome = true := (List.mem_filter.mp hm).2
    rw [n] at q; simp at q
theorem of_hidT {h : Heap} {H : Hp} {b : Addr} {o : Obj} (e : (hidT h H).get? b = some o) : h.get? b = some o ∧ H b = none := by
  have e' : h.get? b = some o := PySem.W.of_hideAll (trk h H) e
  refine ⟨e', ?_⟩
  cases q : H b with
  | none => rfl
  | some x =>
    have hm : b ∈ trk h H := List.mem_filter.mpr ⟨List.mem_range.mpr (Heap.lt_size e'), by simp [q]⟩
    have z : (hidT h H).get? b = none := PySem.W.hideAll_none (trk h H) hm
    rw [z] at e; cases e
def allNews (g h : Heap) (L : Addr) : List (Addr × Obj) := (List.range h.objs.size).filterMap fun a => if a = L ∨ (g.get? a).isSome = true then none else (h.get? a).map fun o => (a, o)
def rest (g h : Heap) (L d : Addr) : List (Addr × Obj) := (allNews g h L).filter fun p => decide (p.1 ≠ d)
end L2
namespace L2
open PySem PySem.Spec PyProof.Rows
/-- the module's facts, over the base: the heap at the law's entry without what is tracked there -/
structure Mod (K : PySem.W.Frag) (mg : Str → Option Value) (base : Heap) : Prop where
  kin : K.In base
  glob : base.Ns mainGlobals mg
  blt : ∃ mb, base.Ns builtinsNs mb ∧ ∀ x : Str, x ≠ "__name__" → mb x = bootBuiltins x
  nolimit : base.NoLimit
/-- the context: a def's body (or a comprehension's block) running. base: fixed through the whole law; s₀, H₀: the entry; outer: the frames whose slots others may change (a def's callers); stack: all frames that run;
   ex: iterators that were made ahead of the entry and are walked here (a comprehension's); fn: the names whose cells were made at the entry (a def: all; a comprehension's block: its own); calm: not within an except suite; pn: pins that every state bears; xe: what is wanted of an exception that leaves the code -/
structure Cx where
  prog : Program
  w : World
  K : PySem.W.Frag
  mg : Str → Option Value
  base : Heap
  A : Around
  N : List Str
  s₀ : Shared
  H₀ : Hp
  env : Env
  outer : List Env
  stack : List Env
  ex : List Addr
  fn : Str → Bool
  calm : Bool
  pn : List (Addr × Obj)
  xe : Value → Shared → Prop
/-- the callers' frames -/
def frs (l : List Env) : List Addr := l.filterMap (·.frame)
abbrev Cx.fs (X : Cx) : List Addr := frs X.outer
def Vis (sc : Scope) (x : Str) : Prop := sc.names.lookup x = some .local ∨ sc.names.lookup x = some .cell ∨ sc.names.lookup x = some .free
def Loc (sc : Scope) (x : Str) : Prop := sc.names.lookup x = some .local ∨ sc.names.lookup x = some .cell
def Look (env : Env) (h : Heap) (m : Str → Option Value) (x : Str) (u : Value) : Prop :=
  (env.kindOf x = some .local ∧ m x = some u) ∨ ((env.kindOf x = some .cell ∨ env.kindOf x = some .free) ∧ ∃ c, env.cells.lookup x = some c ∧ h.IsCell c (some u))
structure Cx.Ok (X : Cx) : Prop where
  mod : Mod X.K X.mg X.base
  kind : X.env.scope.kind = .function
  glob : X.env.globals = mainGlobals
  blt : X.env.builtins = builtinsNs
  above : X.s₀.heap.objs.size ≤ X.env.locals
  inj : ∀ x y c, X.env.cells.lookup x = some c → X.env.cells.lookup y = some c → x = y
  has : ∀ x, (X.env.kindOf x = some .cell ∨ X.env.kindOf x = some .free) → ∃ c, X.env.cells.lookup x = some c
  cab : ∀ x c, X.fn x = true → X.env.cells.lookup x = some c → X.s₀.heap.objs.size ≤ c
  hd : X.calm = true → X.A.handled = none
  frames : X.A.frames = some X.stack
  stk : X.stack = X.outer ∨ (X.stack = X.env :: X.outer ∧ X.env.frame = some X.env.locals)
  exf : ∀ b ∈ X.ex, b ≠ X.env.locals ∧ ∀ x c, X.env.cells.lookup x = some c → c ≠ b
  bs : ∀ b o, X.base.get? b = some o → X.s₀.heap.get? b = some o ∧ X.H₀ b = none
  bsz : X.base.objs.size ≤ X.s₀.heap.objs.size
  noex : ∀ b o, X.base.get? b = some o → b ∉ X.ex
  exfs : ∀ b ∈ X.ex, b ∉ X.fs
  funs : X.s₀.heap.FunFrames X.base X.outer
  frf : ∀ b ∈ X.fs, X.H₀ b = none
structure Inv (X : Cx) (pins : List (Addr × Obj)) (σ : List (Option V)) (H : Hp) (s : Shared) : Prop where
  ok : X.Ok
  os : s.os = X.s₀.os
  bare : AllBare s.gens
  base : Un X.fs X.ex X.H₀ H X.s₀.heap s.heap
  loc : ∃ m, s.heap.Ns X.env.locals m ∧ ∀ (i : Nat) (x : Str) (v : V), X.N[i]? = some x → σ[i]? = some (some v) → Vis X.env.scope x → ∃ u, RelV v u ∧ Look X.env s.heap m x u
  cell : ∀ x c, X.env.cells.lookup x = some c → ∃ v, s.heap.IsCell c v
  free : H X.env.locals = none
  freeC : ∀ x c, X.env.cells.lookup x = some c → H c = none
  pin : ∀ p ∈ X.pn ++ pins, s.heap.get? p.1 = some p.2 ∧ H p.1 = none ∧ p.1 ≠ X.env.locals ∧ p.1 ∉ X.fs ∧ ∀ v, p.2.data ≠ .cell v
  hok : HOk X.prog X.w H s.heap
  len : σ.length = X.N.length
section
variable {X : Cx} {pins : List (Addr × Obj)} {σ : List (Option V)} {H H' : Hp} {s : Shared} {h' : Heap}
theorem Cx.Ok.nofr (ok : X.Ok) {b : Addr} {o : Obj} (e : X.base.get? b = some o) : b ∉ X.fs := fun hb => by
  have := (ok.funs.mem hb).1
  rw [e] at this; cases this
theorem Inv.bs (I : Inv X pins σ H s) : ∀ b o, X.base.get? b = some o → s.heap.get? b = some o ∧ H b = none := fun b o e =>
  ⟨I.base.keep b o (I.ok.bs b o e).1 (I.ok.bs b o e).2 (I.ok.nofr e) (I.ok.noex b o e), I.base.free b o (I.ok.bs b o e).1 (I.ok.bs b o e).2 (I.ok.noex b o e)⟩
theorem Inv.bk (I : Inv X pins σ H s) : ∀ b o, X.base.get? b = some o → s.heap.get? b = some o := fun b o e => (I.bs b o e).1
theorem Inv.mod (I : Inv X pins σ H s) : Mod X.K X.mg X.base := I.ok.mod
theorem Inv.kIn (I : Inv X pins σ H s) : X.K.In s.heap := I.ok.mod.kin.keeps I.bk
theorem Inv.nolimit (I : Inv X pins σ H s) : s.heap.NoLimit := I.ok.mod.nolimit.keeps I.bk
/-- the frame over the base: for OpenK's rules (K.In X.base is I.mod.kin) -/
theorem Inv.fr (I : Inv X pins σ H s) : ∃ m, Fr X.base X.env.locals s.heap m :=
  let ⟨m, hn, _⟩ := I.loc
  ⟨m, hn, I.bk, Nat.le_trans I.ok.bsz I.ok.above⟩
theorem Inv.lt (I : Inv X pins σ H s) : X.env.locals < s.heap.objs.size := let ⟨_, hn, _⟩ := I.loc; hn.lt
theorem Inv.sz (I : Inv X pins σ H s) : X.s₀.heap.objs.size ≤ s.heap.objs.size := Nat.le_trans I.ok.above (Nat.le_of_lt I.lt)
theorem Inv.nofs (I : Inv X pins σ H s) {a : Addr} (h : s.heap.objs.size ≤ a) : a ∉ X.fs := fun hb => by
  obtain ⟨_, o, ho, _⟩ := I.ok.funs.mem hb
  exact absurd (Nat.lt_of_lt_of_le (Heap.lt_size ho) (Nat.le_trans I.sz h)) (Nat.lt_irrefl _)
theorem Inv.cne (I : Inv X pins σ H s) : ∀ x c, X.env.cells.lookup x = some c → c ≠ X.env.locals := fun x c e z => by
  obtain ⟨v, o, ho, hd⟩ := I.cell x c e
  obtain ⟨m, ⟨o', es, ep, ho', hd', _⟩, _⟩ := I.loc
  rw [z, ho'] at ho; cases ho; rw [hd'] at hd; cases hd
theorem Inv.funs (I : Inv X pins σ H s) : s.heap.FunFrames X.base X.outer := by
  have all : ∀ (l : List Env), (∀ b ∈ frs l, b ∈ X.fs) → X.s₀.heap.FunFrames X.base l → s.heap.FunFrames X.base l := by
    intro l
    induction l with
    | nil => intro _ _; trivial
    | cons env r ih =>
      intro hs hl
      obtain ⟨hk, ⟨L, o, hf, hn, ho, hd⟩, hr⟩ := hl
      have hL : L ∈ X.fs := hs L (by unfold frs; rw [List.filterMap_cons, hf]; exact List.mem_cons_self)
      obtain ⟨sl, e⟩ := I.base.slot L o ho (I.ok.frf L hL) hL fun z => I.ok.exfs L z hL
      exact ⟨hk, ⟨L, _, hf, hn, e, hd⟩, ih (fun b hb => hs b (by unfold frs; rw [List.filterMap_cons, hf]; exact List.mem_cons_of_mem _ hb)) hr⟩
  exact all X.outer (fun _ hb => hb) I.ok.funs
/-- the frames that run, for a call -/
theorem Inv.stack (I : Inv X pins σ H s) : s.heap.FunFrames X.base X.stack := by
  rcases I.ok.stk with e | ⟨e, hf⟩
  · rw [e]; exact I.funs
  · rw [e]
    obtain ⟨m, hn, _⟩ := I.loc
    refine .cons (by rw [I.ok.kind]; decide) hf hn ?_ I.funs
    exact Heap.get?_none_of_le (Nat.le_trans I.ok.bsz I.ok.above)
theorem Inv.stkSub (I : Inv X pins σ H s) : ∀ b ∈ frs X.stack, b ∈ X.env.locals :: X.fs := fun b hb => by
  rcases I.ok.stk with e | ⟨e, hf⟩
  · rw [e] at hb; exact List.mem_cons_of_mem _ hb
  · rw [e] at hb
    unfold frs at hb
    rw [List.filterMap_cons, hf] at hb
    exact hb
theorem Inv.stkFree (I : Inv X pins σ H s) : ∀ b ∈ frs X.stack, H b = none := fun b hb => by
  rcases List.mem_cons.mp (I.stkSub b hb) with e | hb
  · rw [e]; exact I.free
  · obtain ⟨_, o, ho, _⟩ := I.ok.funs.mem hb
    exact I.base.free b o ho (I.ok.frf b hb) fun z => I.ok.exfs b z hb
/-- THE STEP: the untracked objects but the frame and the records at ch are kept (the callers' frames up to slots), the frame's map is kept, the new abstract heap is held -/
theorem Inv.step {g' : Array GenState} {t' : Nat} {d' : Drawn} {ch : List Addr} (I : Inv X pins σ H s)
    (hch : ∀ b ∈ ch, (b ∈ X.ex ∨ X.s₀.heap.objs.size ≤ b) ∧ b ≠ X.env.locals ∧ (∀ x c, X.env.cells.lookup x = some c → c ≠ b) ∧ ∀ p ∈ X.pn ++ pins, p.1 ≠ b)
    (keep : ∀ b o, b ≠ X.env.locals → b ∉ X.fs → b ∉ ch → s.heap.get? b = some o → H b = none → h'.get? b = some o)
    (slot : ∀ b o, b ≠ X.env.locals → b ∈ X.fs → b ∉ ch → s.heap.get? b = some o → H b = none → ∃ sl, h'.get? b = some { o with slots := sl }) (free : ∀ b o, b ∉ ch → s.heap.get? b = some o → H b = none → H' b = none)
    (there : ∀ b o, b ∉ ch → s.heap.get? b = some o → ∃ o', h'.get? b = some o')
    (tups : ∀ b xs, H b = some (.tup xs) → H' b = some (.tup xs)) (frzs : ∀ b o u, H b = some (.frz o u) → H' b = some (.frz o u)) (tbls : ∀ b ps, H b = some (.tbl ps) → ∃ more, H' b = some (.tbl (ps ++ more)))
    (ns : ∀ m, s.heap.Ns X.env.locals m → h'.Ns X.env.locals m) (hok : HOk X.prog X.w H' h') (hg : AllBare g') :
    Inv X pins σ H' { s with heap := h', gens := g', drawn := d', toks := t' } := by
  have neL : ∀ b o, X.s₀.heap.get? b = some o → b ≠ X.env.locals := fun b o e => Nat.ne_of_lt (Nat.lt_of_lt_of_le (Heap.lt_size e) I.ok.above)
  have neC : ∀ b o, X.s₀.heap.get? b = some o → b ∉ X.ex → b ∉ ch := fun b o e hx hb => by
    rcases (hch b hb).1 with z | z
    · exact hx z
    · exact absurd (Nat.lt_of_lt_of_le (Heap.lt_size e) z) (Nat.lt_irrefl _)
  have cellK : ∀ x c, X.env.cells.lookup x = some c → ∀ v, s.heap.IsCell c v → h'.IsCell c v := fun x c e v ⟨o, ho, hd⟩ => by
    have nch : c ∉ ch := fun z => (hch c z).2.2.1 x c e rfl
    by_cases hc : c ∈ X.fs
    · obtain ⟨sl, q⟩ := slot c o (I.cne x c e) hc nch ho (I.freeC x c e)
      exact ⟨_, q, hd⟩
    · exact ⟨o, keep c o (I.cne x c e) hc nch ho (I.freeC x c e), hd⟩
  refine ⟨I.ok, I.os, hg, ⟨fun b o e n hb hx => ?_, fun b o e n hb hx => ?_, fun b o e n hx => ?_, fun b o e hx => ?_, fun b xs e => tups b xs (I.base.tups b xs e), fun b o xs e => frzs b o xs (I.base.frzs b o xs e), fun b ps e => ?_⟩, ?_, fun x c e => ?_, ?_, fun x c e => ?_, fun p hp => ?_, hok, I.len⟩
  · exact keep b o (neL b o e) hb (neC b o e hx) (I.base.keep b o e n hb hx) (I.base.free b o e n hx)
  · obtain ⟨sl, e1⟩ := I.base.slot b o e n hb hx
    obtain ⟨sl', e2⟩ := slot b _ (neL b o e) hb (neC b o e hx) e1 (I.base.free b o e n hx)
    exact ⟨sl', e2⟩
  · obtain ⟨o', e1⟩ := I.base.there b o e hx
    exact free b o' (neC b o e hx) e1 (I.base.free b o e n hx)
  · obtain ⟨o', e1⟩ := I.base.there b o e hx
    exact there b o' (neC b o e hx) e1
  · obtain ⟨m1, e1⟩ := I.base.tbls b ps e
    obtain ⟨m2, e2⟩ := tbls b _ e1
    exact ⟨m1 ++ m2, by rw [e2, Array.append_assoc]⟩
  · obtain ⟨m, hn, hl⟩ := I.loc
    refine ⟨m, ns m hn, fun i x v e1 e2 e3 => ?_⟩
    obtain ⟨u, r, l⟩ := hl i x v e1 e2 e3
    refine ⟨u, r, ?_⟩
    rcases l with l | ⟨k, c, e, z⟩
    · exact .inl l
    · exact .inr ⟨k, c, e, cellK x c e _ z⟩
  · obtain ⟨v, z⟩ := I.cell x c e
    exact ⟨v, cellK x c e v z⟩
  · obtain ⟨m, ⟨o, _, _, ho, _⟩, _⟩ := I.loc
    exact free _ o (fun z => (hch _ z).2.1 rfl) ho I.free
  · obtain ⟨v, o, ho, hd⟩ := I.cell x c e
    exact free c o (fun z => (hch c z).2.2.1 x c e rfl) ho (I.freeC x c e)
  · obtain ⟨e, n, ne, nf, d⟩ := I.pin p hp
    have nch : p.1 ∉ ch := fun z => (hch p.1 z).2.2.2 p hp rfl
    exact ⟨keep p.1 p.2 ne nf nch e n, free p.1 p.2 nch e n, ne, nf, d⟩
/-- .. where the frame's own object is kept too -/
theorem Inv.un {t' : Nat} (I : Inv X pins σ H s) (u : Un X.fs [] H H' s.heap h') (hok : HOk X.prog X.w H' h') : Inv X pins σ H' { s with heap := h', toks := t' } := by
  obtain ⟨m, ⟨o, es, ep, ho, r⟩, _⟩ := id I.loc
  obtain ⟨sl, hL⟩ := u.any ho I.free (by simp)
  exact I.step (g' := s.gens) (d' := s.drawn) (ch := []) (fun _ z => nomatch z) (fun b o _ hb _ e n => u.keep b o e n hb (by simp)) (fun b o _ hb _ e n => u.slot b o e n hb (by simp)) (fun b o _ e n => u.free b o e n (by simp)) (fun b o _ e => u.there b o e (by simp)) u.tups u.frzs u.tbls (fun m' hm => by
    obtain ⟨o', es', ep', ho', r'⟩ := hm
    rw [ho] at ho'; cases ho'
    exact ⟨_, es', ep', hL, r'⟩) hok I.bare
/-- behind a call (or a comprehension's block): the slots of this frame may have changed too, the records at ch may have turned -/
theorem Inv.call {g' : Array GenState} {t' : Nat} {d' : Drawn} {ch : List Addr} (I : Inv X pins σ H s) (u : Un (frs X.stack) ch H H' s.heap h') (hok : HOk X.prog X.w H' h') (hg : AllBare g')
    (hch : ∀ b ∈ ch, (b ∈ X.ex ∨ X.s₀.heap.objs.size ≤ b) ∧ b ≠ X.env.locals ∧ (∀ x c, X.env.cells.lookup x = some c → c ≠ b) ∧ ∀ p ∈ X.pn ++ pins, p.1 ≠ b) :
    Inv X pins σ H' { s with heap := h', gens := g', drawn := d', toks := t' } := by
  obtain ⟨m, ⟨o, es, ep, ho, r⟩, _⟩ := id I.loc
  obtain ⟨sl, hL⟩ := u.any ho I.free fun z => (hch _ z).2.1 rfl
  exact I.step (ch := ch) hch (fun b o hL hb hc e n => u.keep b o e n (fun z => (List.mem_cons.mp (I.stkSub b z)).elim hL hb) hc) (fun b o _ _ hc e n => u.any e n hc) (fun b o hc e n => u.free b o e n hc) (fun b o hc e => u.there b o e hc) u.tups u.frzs u.tbls (fun m' hm => by
    obtain ⟨o', es', ep', ho', r'⟩ := hm
    rw [ho] at ho'; cases ho'
    exact ⟨_, es', ep', hL, r'⟩) hok hg
/-- an untracked record of ours (an iterator) has turned -/
theorem Inv.turned {t' : Nat} {it : Addr} (I : Inv X pins σ H s) (k : ∀ b o, b ≠ it → s.heap.get? b = some o → h'.get? b = some o) (hn : H it = none) (hL : it ≠ X.env.locals)
    (h1 : it ∈ X.ex ∨ X.s₀.heap.objs.size ≤ it) (h2 : ∀ x c, X.env.cells.lookup x = some c → c ≠ it) (h3 : ∀ p ∈ X.pn ++ pins, p.1 ≠ it) : Inv X pins σ H { s with heap := h', toks := t' } := by
  have nit : ∀ b u, H b = some u → b ≠ it := fun b u e z => by rw [z, hn] at e; cases e
  refine I.step (g' := s.gens) (d' := s.drawn) (ch := [it]) (fun b hb => ?_) (fun b o _ _ hc e _ => k b o (fun z => hc (by simp [z])) e) (fun b o _ _ hc e _ => ⟨o.slots, k b o (fun z => hc (by simp [z])) e⟩) (fun _ _ _ _ n => n)
    (fun b o hc e => ⟨o, k b o (fun z => hc (by simp [z])) e⟩) (fun _ _ e => e) (fun _ _ _ e => e) (fun b ps e => ⟨#[], by rw [e]; simp⟩) (fun m hm => ?_) (fun b u e => ?_) I.bare
  · have e : b = it := by simpa using hb
    subst e
    exact ⟨h1, hL, h2, h3⟩
  · obtain ⟨o, es, ep, ho, r⟩ := hm
    exact ⟨o, es, ep, k _ o (Ne.symm hL) ho, r⟩
  · refine (I.hok b u e).stay (fun c v hc q => k c v ?_ q) (fun _ q => q) fun _ _ q => q
    rcases hc with z | z
    · rw [z]; exact nit b u e
    · exact nit c _ z
theorem Inv.tok (I : Inv X pins σ H s) (t : Nat) : Inv X pins σ H { s with toks := t } := I.un (h' := s.heap) (t' := t) Un.refl I.hok
/-- all objects kept -/
theorem Inv.kept {t' : Nat} (I : Inv X pins σ H s) (k : ∀ b u, s.heap.get? b = some u → h'.get? b = some u) : Inv X pins σ H { s with heap := h', toks := t' } := I.un (Un.kept k) (I.hok.kept k)
/-- a new object laid and tracked -/
theorem Inv.laid {a : Addr} {o : HO} {t' : Nat} (I : Inv X pins σ H s) (k : ∀ b u, s.heap.get? b = some u → h'.get? b = some u) (hp : s.heap.objs.size ≤ a) (new : ObjOk X.prog X.w (upd H a o) h' a o) :
    Inv X pins σ (upd H a o) { s with heap := h', toks := t' } := I.un (Un.laid k hp (I.hok.fresh hp)) (I.hok.laid k hp new)
/-- an object written -/
theorem Inv.write {x e : Addr} {o : HO} {t' : Nat} (I : Inv X pins σ H s) (mu : Mut (H x)) (he : e = x ∨ H e = some (.own x)) (k : ∀ b u, b ≠ e → s.heap.get? b = some u → h'.get? b = some u) (heo : ∃ u, h'.get? e = some u)
    (new : ObjOk X.prog X.w (upd H x o) h' x o) : Inv X pins σ (upd H x o) { s with heap := h', toks := t' } := I.un (Un.write mu he k heo) (I.hok.write mu he k heo new)
theorem Inv.pins_of {pins' : List (Addr × Obj)} (I : Inv X pins σ H s) (h : ∀ p ∈ pins', s.heap.get? p.1 = some p.2 ∧ H p.1 = none ∧ p.1 ≠ X.env.locals ∧ p.1 ∉ X.fs ∧ ∀ v, p.2.data ≠ .cell v) : Inv X pins' σ H s :=
  ⟨I.ok, I.os, I.bare, I.base, I.loc, I.cell, I.free, I.freeC, fun p hp => (List.mem_append.mp hp).elim (fun z => I.pin p (List.mem_append_left _ z)) (h p), I.hok, I.len⟩
theorem nodup_ix {N : List Str} (hN : N.Nodup) {i j : Nat} {x : Str} (a : N[i]? = some x) (b : N[j]? = some x) : i = j := by
  obtain ⟨h1, e1⟩ := List.getElem?_eq_some_iff.mp a
  obtain ⟨h2, e2⟩ := List.getElem?_eq_some_iff.mp b
  exact (List.getElem_inj hN).mp (e1.trans e2.symm)
/-- a name is stored; what changed -/
theorem store_ok2 {M : Model} {A : Around} {E : Value → Shared → Prop} {i : Nat} {x : Str} {v : V} {u : Value} {Q : Unit → Shared → Prop} (I : Inv X pins σ H s) (hN : X.N.Nodup) (hi : X.N[i]? = some x) (hx : Loc X.env.scope x) (r : RelV v u)
    (h : ∀ s', Inv X pins (σ.set i (some v)) H s' → (∃ a, Heap.SameBut a s.heap s'.heap ∧ (a = X.env.locals ∨ X.env.cells.lookup x = some a)) → Q () s') (hf : X.fn x = true ∨ X.env.scope.names.lookup x = some .local := by first | exact .inl rfl | exact .inr rfl | assumption) : wpAny M A (storeName X.env x u) Q E s := by
  obtain ⟨m, hn, hl⟩ := id I.loc
  have hcls : (X.env.scope.kind == .class || (X.env.scope.kind == .module && X.env.locals != X.env.globals)) = false := by rw [I.ok.kind]; rfl
  have hiσ : i < σ.length := by rw [I.len]; exact (List.getElem?_eq_some_iff.mp hi).1
  have cne := I.cne
  have tracked : ∀ {a : Addr} {h' : Heap}, (∃ o, s.heap.get? a = some o ∧ H a = none) → Heap.SameBut a s.heap h' → HOk X.prog X.w H h' := fun {a h'} ha hs b ob e => by
    obtain ⟨_, _, hfree⟩ := ha
    refine (I.hok b ob e).stay (fun c w' hc q => (hs.2 c ?_).trans q) (fun _ q => q) fun _ _ q => q
    rintro rfl
    rcases hc with rfl | hc
    · rw [hfree] at e; cases e
    · rw [hfree] at hc; cases hc
  rcases hx with hk | hk
  · refine wpAny_storeName_local hk hn (fun h' hn' hs => ?_) hcls
    obtain ⟨oL, _, _, hoL, _⟩ := id hn
    refine h _ ⟨I.ok, I.os, I.bare, ⟨fun b o e n hb hx => ?_, fun b o e n hb hx => ?_, I.base.free, fun b o e hx => ?_, I.base.tups, I.base.frzs, I.base.tbls⟩, ⟨_, hn', fun j y v' e1 e2 e3 => ?_⟩, fun y c e => ?_, I.free, I.freeC, fun p hp => ?_, tracked ⟨oL, hoL, I.free⟩ hs, by simpa using I.len⟩ ⟨_, hs, .inl rfl⟩
    · exact (hs.2 b (Nat.ne_of_lt (Nat.lt_of_lt_of_le (Heap.lt_size e) I.ok.above))).trans (I.base.keep b o e n hb hx)
    · obtain ⟨sl, e1⟩ := I.base.slot b o e n hb hx
      exact ⟨sl, (hs.2 b (Nat.ne_of_lt (Nat.lt_of_lt_of_le (Heap.lt_size e) I.ok.above))).trans e1⟩
    · obtain ⟨o', e1⟩ := I.base.there b o e hx
      exact ⟨o', (hs.2 b (Nat.ne_of_lt (Nat.lt_of_lt_of_le (Heap.lt_size e) I.ok.above))).trans e1⟩
    · by_cases hj : j = i
      · subst hj
        rw [hi] at e1; cases e1
        rw [List.getElem?_set_self hiσ] at e2
        cases e2
        exact ⟨u, r, .inl ⟨hk, by simp⟩⟩
      · rw [List.getElem?_set_ne (Ne.symm hj)] at e2
        obtain ⟨u', r', q⟩ := hl j y v' e1 e2 e3
        refine ⟨u', r', ?_⟩
        rcases q with ⟨k, e⟩ | ⟨k, c, e, z⟩
        · refine .inl ⟨k, ?_⟩
          have : y ≠ x := fun e => hj (nodup_ix hN e1 (e ▸ hi))
          simp [this, e]
        · exact .inr ⟨k, c, e, z.sameBut hs (cne y c e)⟩
    · obtain ⟨w', z⟩ := I.cell y c e
      exact ⟨w', z.sameBut hs (cne y c e)⟩
    · obtain ⟨e, n, ne, nf, d⟩ := I.pin p hp
      exact ⟨(hs.2 p.1 ne).trans e, n, ne, nf, d⟩
  · have hfn : X.fn x = true := by
      rcases hf with z | z
      · exact z
      · rw [z] at hk; cases hk
    obtain ⟨c, hc⟩ := I.ok.has x (.inl hk)
    obtain ⟨w', z⟩ := I.cell x c hc
    refine wpAny_storeName_cell I.ok.kind hk hc z (fun h' hc' hs => ?_)
    obtain ⟨oc, hoc, hocd⟩ := id z
    refine h { s with heap := h' } ⟨I.ok, I.os, I.bare, ⟨fun b o e n hb hx => ?_, fun b o e n hb hx => ?_, I.base.free, fun b o e hx => ?_, I.base.tups, I.base.frzs, I.base.tbls⟩, ⟨m, hn.sameBut hs (Ne.symm (cne x c hc)), fun j y v' e1 e2 e3 => ?_⟩, fun y c' e => ?_, I.free, I.freeC, fun p hp => ?_, tracked ⟨oc, hoc, I.freeC x c hc⟩ hs, by simpa using I.len⟩ ⟨c, hs, .inr hc⟩
    · exact (hs.2 b (Nat.ne_of_lt (Nat.lt_of_lt_of_le (Heap.lt_size e) (I.ok.cab x c hfn hc)))).trans (I.base.keep b o e n hb hx)
    · obtain ⟨sl, e1⟩ := I.base.slot b o e n hb hx
      exact ⟨sl, (hs.2 b (Nat.ne_of_lt (Nat.lt_of_lt_of_le (Heap.lt_size e) (I.ok.cab x c hfn hc)))).trans e1⟩
    · obtain ⟨o', e1⟩ := I.base.there b o e hx
      exact ⟨o', (hs.2 b (Nat.ne_of_lt (Nat.lt_of_lt_of_le (Heap.lt_size e) (I.ok.cab x c hfn hc)))).trans e1⟩
    · by_cases hj : j = i
      · subst hj
        rw [hi] at e1; cases e1
        rw [List.getElem?_set_self hiσ] at e2
        cases e2
        exact ⟨u, r, .inr ⟨.inl hk, c, hc, hc'⟩⟩
      · rw [List.getElem?_set_ne (Ne.symm hj)] at e2
        obtain ⟨u', r', q⟩ := hl j y v' e1 e2 e3
        refine ⟨u', r', ?_⟩
        rcases q with q | ⟨k, c', e, z'⟩
        · exact .inl q
        · refine .inr ⟨k, c', e, z'.sameBut hs ?_⟩
          rintro rfl
          exact hj (nodup_ix hN e1 (I.ok.inj _ _ _ e hc ▸ hi))
    · by_cases hcc : c' = c
      · subst hcc; exact ⟨_, hc'⟩
      · obtain ⟨w2, z2⟩ := I.cell y c' e
        exact ⟨w2, z2.sameBut hs hcc⟩
    · obtain ⟨e, n, ne, nf, d⟩ := I.pin p hp
      refine ⟨(hs.2 p.1 ?_).trans e, n, ne, nf, d⟩
      intro q
      rw [q, hoc] at e
      have q' : oc = p.2 := Option.some.inj e
      exact d w' (by rw [← q']; exact hocd)
theorem store_ok {M : Model} {A : Around} {E : Value → Shared → Prop} {i : Nat} {x : Str} {v : V} {u : Value} {Q : Unit → Shared → Prop} (I : Inv X pins σ H s) (hN : X.N.Nodup) (hi : X.N[i]? = some x) (hx : Loc X.env.scope x) (r : RelV v u)
    (h : ∀ s', Inv X pins (σ.set i (some v)) H s' → Q () s') (hf : X.fn x = true ∨ X.env.scope.names.lookup x = some .local := by first | exact .inl rfl | exact .inr rfl | assumption) : wpAny M A (storeName X.env x u) Q E s :=
  store_ok2 I hN hi hx r (fun s' I' _ => h s' I') hf
/-- behind a call or a block, the state as it is -/
theorem Inv.call' {s' : Shared} {ch : List Addr} (I : Inv X pins σ H s) (ho : s'.os = s.os) (u : Un (frs X.stack) ch H H' s.heap s'.heap) (hok : HOk X.prog X.w H' s'.heap) (hg : AllBare s'.gens)
    (hch : ∀ b ∈ ch, (b ∈ X.ex ∨ X.s₀.heap.objs.size ≤ b) ∧ b ≠ X.env.locals ∧ (∀ x c, X.env.cells.lookup x = some c → c ≠ b) ∧ ∀ p ∈ X.pn ++ pins, p.1 ≠ b) : Inv X pins σ H' s' := by
  obtain ⟨h', g', d', t', o'⟩ := s'
  have e : o' = s.os := ho
  subst e
  exact I.call (g' := g') (t' := t') (d' := d') u hok hg hch
end
/-- an exception: its class, its own dict's address (where it has one), the abstract heap behind it -/
abbrev XK := Value → Option Addr → Hp → Prop
abbrev St := List (Option V)
abbrev VK := V → Hp → Prop
/-- an expression's reading; a test's; an argument list's -/
abbrev TE := St → Hp → VK → Prop
abbrev TT := St → Hp → (Bool → Hp → Prop) → Prop
abbrev TA := St → Hp → (List V → Hp → Prop) → Prop
/-- what is wanted behind a statement -/
structure Ends where
  nx : St → Hp → Prop
  rt : VK
  bk : St → Hp → Prop := fun _ _ => False
  ct : St → Hp → Prop := fun _ _ => False
abbrev TS := Ends → St → Hp → Prop
inductive EP (X : Cx) (pins : List (Addr × Obj)) (σ : St) (Q : VK) (u : Value) (s' : Shared) : Prop
  | mk : ∀ v H', Inv X pins σ H' s' → RelV v u → Q v H' → EP X pins σ Q u s'
inductive TP (X : Cx) (pins : List (Addr × Obj)) (σ : St) (Q : Bool → Hp → Prop) (b : Bool) (s' : Shared) : Prop
  | mk : ∀ H', Inv X pins σ H' s' → Q b H' → TP X pins σ Q b s'
inductive AP (X : Cx) (pins : List (Addr × Obj)) (σ : St) (Q : List V → Hp → Prop) (us : List Value) (s' : Shared) : Prop
  | mk : ∀ vs H', Inv X pins σ H' s' → Vals vs us → Q vs H' → AP X pins σ Q us s'
inductive SPn (X : Cx) (pins : List (Addr × Obj)) (N : St → Hp → Prop) (s' : Shared) : Prop
  | mk : ∀ σ' H', Inv X pins σ' H' s' → N σ' H' → SPn X pins N s'
inductive SPr (X : Cx) (pins : List (Addr × Obj)) (N : VK) (u : Value) (s' : Shared) : Prop
  | mk : ∀ v σ' H', Inv X pins σ' H' s' → RelV v u → N v H' → SPr X pins N u s'
def SP (X : Cx) (pins : List (Addr × Obj)) (D : Ends) (f : Flow) (s' : Shared) : Prop :=
  match f with
  | .next => SPn X pins D.nx s'
  | .brk => SPn X pins D.bk s'
  | .cont => SPn X pins D.ct s'
  | .ret u => SPr X pins D.rt u s'
def PE (X : Cx) (e : Expr) (t : TE) : Prop :=
  ∀ (pins : List (Addr × Obj)) (s : Shared) (σ : St) (H : Hp) (Q : VK), Inv X pins σ H s → t σ H Q → wpAny (model X.prog X.w) X.A (eval e X.env) (EP X pins σ Q) X.xe s
def PT (X : Cx) (e : Expr) (t : TT) : Prop :=
  ∀ (pins : List (Addr × Obj)) (s : Shared) (σ : St) (H : Hp) (Q : Bool → Hp → Prop), Inv X pins σ H s → t σ H Q → wpAny (model X.prog X.w) X.A (isTrue e X.env (eval e X.env)) (TP X pins σ Q) X.xe s
/-- a test whatever its 'whole' is (and, or) -/
def PW (X : Cx) (e : Expr) (t : TT) : Prop :=
  ∀ (whole : Sem Value) (pins : List (Addr × Obj)) (s : Shared) (σ : St) (H : Hp) (Q : Bool → Hp → Prop), Inv X pins σ H s → t σ H Q → wpAny (model X.prog X.w) X.A (isTrue e X.env whole) (TP X pins σ Q) X.xe s
theorem PW.pt {X : Cx} {e : Expr} {t : TT} (h : PW X e t) : PT X e t := h _
/-- an argument list (no star), from the left -/
def PA (X : Cx) (es : List Expr) (t : TA) : Prop :=
  ∀ (pos : Pos) (pins : List (Addr × Obj)) (s : Shared) (σ : St) (H : Hp) (Q : List V → Hp → Prop), Inv X pins σ H s → t σ H Q → wpAny (model X.prog X.w) X.A (spliced (backTo pos (starEach es X.env))) (AP X pins σ Q) X.xe s
def PS (X : Cx) (st : Stmt) (t : TS) : Prop :=
  ∀ (pins : List (Addr × Obj)) (s : Shared) (σ : St) (H : Hp) (D : Ends), Inv X pins σ H s → t D σ H → wpAny (model X.prog X.w) X.A (exec st X.env) (SP X pins D) X.xe s
def PSs (X : Cx) (st : List Stmt) (t : TS) : Prop :=
  ∀ (pins : List (Addr × Obj)) (s : Shared) (σ : St) (H : Hp) (D : Ends), Inv X pins σ H s → t D σ H → wpAny (model X.prog X.w) X.A (execs st X.env) (SP X pins D) X.xe s
/-- weaken the end -/
theorem thn {α : Type} {t : Sem α} {Q Q' : α → Shared → Prop} {M : Model} {A : Around} {E : Value → Shared → Prop} {s : Shared} (h : wpAny M A t Q E s) (hQ : ∀ a s, Q a s → Q' a s) : wpAny M A t Q' E s := wpAny_mono h hQ fun _ _ x => x
end L2
namespace L2
open PySem PySem.Spec PyProof.Rows
section
variable {X : Cx}
inductive tVar_I (i : Nat) (σ : St) (H : Hp) (Q : VK) : Prop
  | mk : ∀ v, σ[i]? = some (some v) → Q v H → tVar_I i σ H Q
def tVar (i : Nat) : TE := fun σ H Q => tVar_I i σ H Q
def tC (v : V) : TE := fun _ H Q => Q v H
theorem pe_var {i : Nat} {x : Str} {pos : Pos} (hN : X.N[i]? = some x) (hv : Vis X.env.scope x) (hd : (x == ("__debug__" : Str)) = false := by decide) (hcd : (x == ("__classdict__" : Str)) = false := by decide) : PE X (.Name x pos) (tVar i) := by
  intro pins s σ H Q I h
  obtain ⟨v, e, h⟩ := h
  obtain ⟨m, hn, hl⟩ := I.loc
  obtain ⟨u, r, l⟩ := hl i x v hN e hv
  have fin : EP X pins σ Q u s := ⟨v, H, I, r, h⟩
  rcases l with ⟨hk, hm⟩ | ⟨hk, c, hc, hcell⟩
  · exact wpAny_Name (wpAny_loadName_local I.ok.kind hk hn hm fin) hd
  · rcases hk with hk | hk
    · exact wpAny_Name (wpAny_loadName_cell I.ok.kind hk hc hcell fin) hd
    · exact wpAny_Name (wpAny_loadName_free I.ok.kind hk hc hcell fin hcd) hd
theorem pe_int {i j pos} : PE X (.Constant (.int i) j pos) (tC (.int i)) := fun _ _ _ H _ I h => wpAny_Constant_int ⟨.int i, H, I.tok _, ⟨_, rfl⟩, h⟩
theorem pe_bl {b j pos} : PE X (.Constant (.bool b) j pos) (tC (.bl b)) := fun _ _ _ H _ I h => Constant_bool ⟨.bl b, H, I, rfl, h⟩
theorem pe_non {j pos} : PE X (.Constant .none j pos) (tC .non) := fun _ _ _ H _ I h => Constant_none ⟨.non, H, I, rfl, h⟩
theorem pe_str {x j pos} : PE X (.Constant (.str x) j pos) (tC (.str x)) := fun _ _ _ H _ I h => Calls.Constant_str ⟨.str x, H, I.tok _, ⟨_, rfl⟩, h⟩
/-- a global name of the def -/
def Gl (X : Cx) (x : Str) : Prop := X.env.kindOf x = some .globalImplicit
theorem ld_glob {E : Value → Shared → Prop} {pins : List (Addr × Obj)} {s : Shared} {σ : St} {H : Hp} {x : Str} {u : Value} {pos : Pos} {Q : Value → Shared → Prop} (I : Inv X pins σ H s) (hg : Gl X x) (hm : X.mg x = some u) (h : Q u s)
    (hd : (x == ("__debug__" : Str)) = false := by decide) : wpAny (model X.prog X.w) X.A (eval (.Name x pos) X.env) Q E s :=
  Calls.Name_function_global I.ok.kind hg (Calls.loadGlobal_global (by rw [I.ok.glob]; exact I.mod.glob.keeps I.bk) hm h) hd
theorem ld_blt {E : Value → Shared → Prop} {pins : List (Addr × Obj)} {s : Shared} {σ : St} {H : Hp} {x : Str} {u : Value} {pos : Pos} {Q : Value → Shared → Prop} (I : Inv X pins σ H s) (hg : Gl X x) (hm : X.mg x = none) (hv : bootBuiltins x = some u) (h : Q u s)
    (hn : x ≠ "__name__" := by decide) (hd : (x == ("__debug__" : Str)) = false := by decide) : wpAny (model X.prog X.w) X.A (eval (.Name x pos) X.env) Q E s := by
  obtain ⟨mb, h1, h2⟩ := I.mod.blt
  exact Calls.Name_function_global I.ok.kind hg (Calls.loadGlobal_builtin (by rw [I.ok.glob]; exact I.mod.glob.keeps I.bk) hm (by rw [I.ok.blt]; exact h1.keeps I.bk) ((h2 x hn).trans hv) h) hd
/-- a module's constant, a class, a function, as a value -/
theorem pe_glob {x : Str} {v : V} {u : Value} {pos : Pos} (hg : Gl X x) (hm : X.mg x = some u) (r : RelV v u) (hd : (x == ("__debug__" : Str)) = false := by decide) : PE X (.Name x pos) (tC v) :=
  fun _ _ _ H _ I h => ld_glob I hg hm ⟨v, H, I, r, h⟩ hd
theorem pe_bltn {x : Str} {v : V} {u : Value} {pos : Pos} (hg : Gl X x) (hm : X.mg x = none) (hv : bootBuiltins x = some u) (r : RelV v u) (hn : x ≠ "__name__" := by decide) (hd : (x == ("__debug__" : Str)) = false := by decide) : PE X (.Name x pos) (tC v) :=
  fun _ _ _ H _ I h => ld_blt I hg hm hv ⟨v, H, I, r, h⟩ hn hd
variable {a b : Expr} {ta tb : TE} {pos : Pos}
def PC (X : Cx) (op : CmpOp) (a b : Expr) (t : TE) : Prop :=
  ∀ (pins : List (Addr × Obj)) (s : Shared) (σ : St) (H : Hp) (Q : VK), Inv X pins σ H s → t σ H Q →
    wpAny (model X.prog X.w) X.A (eval a X.env) (fun v s₁ => wpAny (model X.prog X.w) X.A (eval b X.env) (fun u s₂ => wpAny (model X.prog X.w) X.A (compareOp op v u) (EP X pins σ Q) X.xe s₂) X.xe s₁) X.xe s
theorem nobehind (b : Expr) {op : CmpOp} (h : op ≠ .In) (h2 : op ≠ .NotIn) : behindInMarks op b = false := by
  have e1 : (op == CmpOp.In) = false := by cases op <;> first | rfl | exact absurd rfl h
  have e2 : (op == CmpOp.NotIn) = false := by cases op <;> first | rfl | exact absurd rfl h2
  cases b <;> simp [behindInMarks, e1, e2]
/-- a comparison as a value, as a test -/
inductive tB_I (Q : (Bool → Hp → Prop)) (x : V) (H1 : Hp) : Prop
  | mk : ∀ c, x = .bl c → Q c H1 → tB_I Q x H1
def tB (t : TE) : TT := fun σ H Q => t σ H fun x H1 => tB_I Q x H1
theorem pe_cmp {op : CmpOp} {t : TE} (h : PC X op a b t) (h1 : behindInMarks op b = false := by first | exact nobehind _ (by decide) (by decide) | rfl) : PE X (.Compare a [op] [b] pos) t := fun pins s σ H Q I hw => wpAny_Compare1 (h pins s σ H Q I hw) h1
theorem pt_cmp {op : CmpOp} {t : TE} (h : PC X op a b t) (h1 : behindInMarks op b = false := by first | exact nobehind _ (by decide) (by decide) | rfl) : PT X (.Compare a [op] [b] pos) (tB t) := by
  intro pins s σ H Q I hw
  refine wpAny_isTrue_Compare1 (thn (h pins s σ H _ I hw) fun v s1 h1 => thn h1 fun u s2 h2 => thn h2 fun c s3 ⟨x, H1, I1, r1, q1⟩ => ?_) h1
  obtain ⟨d, rfl, q⟩ := q1
  cases r1
  exact wpAny_truthy_bool ⟨H1, I1, q⟩
/-- an expression whose value is a bool, as a test -/
theorem pt_val {e : Expr} {t : TE} (h : PE X e t) (he : ∀ whole, isTrue e X.env whole = (do let v ← whole; standAt e.pos; holding [v] (truthy v)) := by intro _; rfl) : PT X e (tB t) := by
  intro pins s σ H Q I hw
  refine isTrue_plain (thn (h pins s σ H _ I hw) fun v s1 ⟨x, H1, I1, r1, q1⟩ => ?_) (he _)
  obtain ⟨d, rfl, q⟩ := q1
  cases r1
  exact wpAny_truthy_bool ⟨H1, I1, q⟩
variable {tA tB' : TT} {rest : List Expr}
def tAnd (t u : TT) : TT := fun σ H Q => t σ H fun c H1 => if c = true then u σ H1 Q else Q false H1
def tOr (t u : TT) : TT := fun σ H Q => t σ H fun c H1 => if c = true then Q true H1 else u σ H1 Q
def tNot (t : TT) : TT := fun σ H Q => t σ H fun c H1 => Q (!c) H1
theorem pw_and1 (ha : PT X a tA) : PW X (.BoolOp .And [a] pos) tA := by
  intro wh pins s σ H Q I h
  refine isTrue_and (thn (ha pins s σ H Q I h) fun c s1 e => ?_)
  cases c with
  | true => exact isTrue_and_nil e
  | false => exact e
theorem pw_or1 (ha : PT X a tA) : PW X (.BoolOp .Or [a] pos) tA := by
  intro wh pins s σ H Q I h
  refine isTrue_or (thn (ha pins s σ H Q I h) fun c s1 e => ?_)
  cases c with
  | false => exact isTrue_or_nil e
  | true => exact e
theorem pw_and (ha : PT X a tA) (hb : PW X (.BoolOp .And (b :: rest) pos) tB') : PW X (.BoolOp .And (a :: b :: rest) pos) (tAnd tA tB') := by
  intro wh pins s σ H Q I h
  refine isTrue_and (thn (ha pins s σ H _ I h) fun c s1 ⟨H1, I1, q1⟩ => ?_)
  cases c with
  | true => exact hb wh pins s1 σ H1 Q I1 q1
  | false => exact ⟨H1, I1, q1⟩
theorem pw_or (ha : PT X a tA) (hb : PW X (.BoolOp .Or (b :: rest) pos) tB') : PW X (.BoolOp .Or (a :: b :: rest) pos) (tOr tA tB') := by
  intro wh pins s σ H Q I h
  refine isTrue_or (thn (ha pins s σ H _ I h) fun c s1 ⟨H1, I1, q1⟩ => ?_)
  cases c with
  | true => exact ⟨H1, I1, q1⟩
  | false => exact hb wh pins s1 σ H1 Q I1 q1
theorem pt_not (ha : PT X a tA) : PT X (.UnaryOp .Not a pos) (tNot tA) := by
  intro pins s σ H Q I h
  exact isTrue_not (thn (ha pins s σ H (fun c H1 => Q (!c) H1) I h) fun c s1 ⟨H1, I1, q1⟩ => ⟨H1, I1, q1⟩)
/-- .. as values (bools) -/
inductive tAndV_I (tb : TE) (σ : St) (Q : VK) (x : V) (H1 : Hp) : Prop
  | mk : ∀ c, x = .bl c → (if c = true then tb σ H1 Q else Q (.bl false) H1) → tAndV_I tb σ Q x H1
def tAndV (ta tb : TE) : TE := fun σ H Q => ta σ H fun x H1 => tAndV_I tb σ Q x H1
theorem pe_one {op} {t : TE} (h : PE X a t) : PE X (.BoolOp op [a] pos) t := fun pins s σ H Q I hw => BoolOp_one (h pins s σ H Q I hw)
theorem pe_and (ha : PE X a ta) (hb : PE X (.BoolOp .And (b :: rest) pos) tb) : PE X (.BoolOp .And (a :: b :: rest) pos) (tAndV ta tb) := by
  intro pins s σ H Q I h
  refine BoolOp_and (thn (ha pins s σ H _ I h) fun v s1 ⟨x, H1, I1, r1, q1⟩ => ?_)
  obtain ⟨c, rfl, q1⟩ := q1
  cases r1
  refine wpAny_truthy_bool ?_
  cases c with
  | true => exact hb pins s1 σ H1 Q I1 q1
  | false => exact ⟨.bl false, H1, I1, rfl, q1⟩
/-- a if t else b -/
def tIf (t : TT) (ta tb : TE) : TE := fun σ H Q => t σ H fun c H1 => if c = true then ta σ H1 Q else tb σ H1 Q
theorem pe_ifExp {c : Expr} (hc : PT X c tA) (ha : PE X a ta) (hb : PE X b tb) : PE X (.IfExp c a b pos) (tIf tA ta tb) := by
  intro pins s σ H Q I h
  refine wpAny_IfExp (thn (hc pins s σ H _ I h) fun d s1 ⟨H1, I1, q1⟩ => ?_)
  cases d with
  | true => exact ha pins s1 σ H1 Q I1 q1
  | false => exact hb pins s1 σ H1 Q I1 q1
end
end L2
namespace L2
open PySem PySem.Spec PyProof.Rows
def SqL (K : PySem.W.Frag) (H : Hp) (a : Addr) (xs : List V) : Prop :=
  Rd H a (.lst xs) ∨
    ∃ (o : Obj) (its : Array Value) (n : Nat), K.lookup a = some o ∧ o.cls = .type "list" ∧ o.dict = none ∧ o.data = .seq its n ∧ its.size ≤ sizeLine ∧ Vals xs its.toList
def SqT (K : PySem.W.Frag) (H : Hp) (a : Addr) (xs : List V) : Prop :=
  Rd H a (.tup xs) ∨
    ∃ (o : Obj) (its : Array Value) (n : Nat), K.lookup a = some o ∧ o.cls = .type "tuple" ∧ o.data = .seq its n ∧ its.size ≤ sizeLine ∧ Vals xs its.toList
def absV : Value → Option V
  | .none => some .non
  | .bool b => some (.bl b)
  | .int i _ => some (.int i)
  | .str x _ => some (.str x)
  | .bytes b _ => some (.byt b)
  | .float b _ => some (.flt b)
  | .ref a => some (.ref a)
  | .type n => some (.ty n)
  | _ => none
theorem RelV.abs {x : V} {u : Value} (r : RelV x u) : absV u = some x := by
  cases x with
  | non => cases r; rfl
  | bl _ => cases r; rfl
  | int _ => obtain ⟨t, rfl⟩ := r; rfl
  | str _ => obtain ⟨t, rfl⟩ := r; rfl
  | byt _ => obtain ⟨t, rfl⟩ := r; rfl
  | flt _ => obtain ⟨t, rfl⟩ := r; rfl
  | ref _ => cases r; rfl
  | ty _ => cases r; rfl
theorem RelV.inj {x y : V} {u : Value} (r : RelV x u) (q : RelV y u) : x = y := Option.some.inj (r.abs.symm.trans q.abs)
theorem Vals.inj : ∀ {xs ys : List V} {us : List Value}, Vals xs us → Vals ys us → xs = ys
  | _, _, _, .nil, .nil => rfl
  | _, _, _, .cons r t, .cons r' t' => by rw [r.inj r', Vals.inj t t']
section
variable {X : Cx} {pins : List (Addr × Obj)} {σ : St} {H : Hp} {s : Shared} {a : Addr} {xs ys : List V}
theorem SqL.of {K : PySem.W.Frag} (h : H a = some (.lst xs)) : SqL K H a xs := .inl (.inl h)
theorem SqT.of {K : PySem.W.Frag} (h : H a = some (.tup xs)) : SqT K H a xs := .inl (.inl h)
theorem Inv.list (I : Inv X pins σ H s) (h : SqL X.K H a xs) : ∃ its : List Value, Vals xs its ∧ PlainL s.heap a its.toArray ∧ xs.length ≤ sizeLine := by
  rcases h with h | ⟨o, its, n, hk, hc, hd, hs, hz, r⟩
  · obtain ⟨z, its, n, r, e⟩ := h.ok I.hok
    exact ⟨its, r, ⟨_, n, e, rfl, rfl, rfl⟩, z⟩
  · refine ⟨its.toList, r, ⟨o, n, I.kIn a o hk, hc, hd, by simpa using hs⟩, ?_⟩
    have e := r.length
    simp only [Array.length_toList] at e
    omega
theorem Inv.tuple (I : Inv X pins σ H s) (h : SqT X.K H a xs) : ∃ its : List Value, Vals xs its ∧ IsTup s.heap a its.toArray ∧ xs.length ≤ sizeLine := by
  rcases h with h | ⟨o, its, n, hk, hc, hs, hz, r⟩
  · obtain ⟨z, its, r, p⟩ := h.ok I.hok
    exact ⟨its, r, p, z⟩
  · refine ⟨its.toList, r, ⟨o, I.kIn a o hk, hc, n, by simpa using hs⟩, ?_⟩
    have e := r.length
    simp only [Array.length_toList] at e
    omega
theorem Inv.list_inj (I : Inv X pins σ H s) (h : SqL X.K H a xs) (h' : SqL X.K H a ys) : xs = ys := by
  obtain ⟨its, r, ⟨o, n, e, _, _, d⟩, _⟩ := I.list h
  obtain ⟨its', r', ⟨o', n', e', _, _, d'⟩, _⟩ := I.list h'
  rw [e] at e'; cases e'
  rw [d] at d'
  injection d' with d1 _
  have : its = its' := by simpa using congrArg Array.toList d1
  subst this
  exact r.inj r'
end
abbrev Cx.wish (X : Cx) (E : Value → Shared → Prop) : Cx := { X with xe := E }
/-- no exception leaves -/
abbrev Cx.nox (X : Cx) : Cx := X.wish fun _ _ => False
theorem Cx.Ok.wish {X : Cx} (ok : X.Ok) (E : Value → Shared → Prop) : (X.wish E).Ok :=
  ⟨ok.mod, ok.kind, ok.glob, ok.blt, ok.above, ok.inj, ok.has, ok.cab, ok.hd, ok.frames, ok.stk, ok.exf, ok.bs, ok.bsz, ok.noex, ok.exfs, ok.funs, ok.frf⟩
theorem Cx.Ok.unwish {X : Cx} {E : Value → Shared → Prop} (ok : (X.wish E).Ok) : X.Ok :=
  ⟨ok.mod, ok.kind, ok.glob, ok.blt, ok.above, ok.inj, ok.has, ok.cab, ok.hd, ok.frames, ok.stk, ok.exf, ok.bs, ok.bsz, ok.noex, ok.exfs, ok.funs, ok.frf⟩
section
variable {X : Cx} {pins : List (Addr × Obj)} {σ : St} {H : Hp} {s : Shared} {E : Value → Shared → Prop}
theorem Inv.wish (I : Inv X pins σ H s) (E : Value → Shared → Prop) : Inv (X.wish E) pins σ H s := ⟨I.ok.wish E, I.os, I.bare, I.base, I.loc, I.cell, I.free, I.freeC, I.pin, I.hok, I.len⟩
theorem Inv.unwish (I : Inv (X.wish E) pins σ H s) : Inv X pins σ H s := ⟨I.ok.unwish, I.os, I.bare, I.base, I.loc, I.cell, I.free, I.freeC, I.pin, I.hok, I.len⟩
theorem SP.unwish {D : Ends} {f : Flow} {s' : Shared} (h : SP (X.wish E) pins D f s') : SP X pins D f s' := by
  cases f with
  | next => obtain ⟨σ', H', I, q⟩ := h; exact ⟨σ', H', I.unwish, q⟩
  | brk => obtain ⟨σ', H', I, q⟩ := h; exact ⟨σ', H', I.unwish, q⟩
  | cont => obtain ⟨σ', H', I, q⟩ := h; exact ⟨σ', H', I.unwish, q⟩
  | ret u => obtain ⟨v, σ', H', I, r, q⟩ := h; exact ⟨v, σ', H', I.unwish, r, q⟩
theorem PE.nox {e : Expr} {t : TE} (h : PE X.nox e t) : PE X e t := fun pins s σ H Q I hw =>
  wpAny_mono (h pins s σ H Q (I.wish _) hw) (fun _ _ ⟨v, H', I', r, q⟩ => ⟨v, H', I'.unwish, r, q⟩) fun _ _ z => False.elim z
theorem PT.nox {e : Expr} {t : TT} (h : PT X.nox e t) : PT X e t := fun pins s σ H Q I hw =>
  wpAny_mono (h pins s σ H Q (I.wish _) hw) (fun _ _ ⟨H', I', q⟩ => ⟨H', I'.unwish, q⟩) fun _ _ z => False.elim z
theorem PSs.nox {st : List Stmt} {t : TS} (h : PSs X.nox st t) : PSs X st t := fun pins s σ H D I hw =>
  wpAny_mono (h pins s σ H D (I.wish _) hw) (fun _ _ q => q.unwish) fun _ _ z => False.elim z
end
section
variable {X : Cx} {st : Stmt} {rest : List Stmt} {t u : TS} {e : Expr} {te : TE} {pos : Pos}
def tNext : TS := fun D σ H => D.nx σ H
def tSeq (t u : TS) : TS := fun D σ H => t { D with nx := u D } σ H
theorem pss_nil : PSs X [] tNext := fun _ _ σ H _ I h => wpAny_execs_nil ⟨σ, H, I, h⟩
theorem pss_cons (h1 : PS X st t) (h2 : PSs X rest u) : PSs X (st :: rest) (tSeq t u) := by
  intro pins s σ H D I h
  refine wpAny_execs_cons (thn (h1 pins s σ H { D with nx := u D } I h) fun f s1 q => ?_)
  cases f with
  | next =>
    obtain ⟨σ', H', I', q⟩ := q
    exact h2 pins s1 σ' H' D I' q
  | ret v => exact q
  | brk => exact q
  | cont => exact q
theorem pss_one (h1 : PS X st t) : PSs X [st] t := by
  intro pins s σ H D I h
  refine wpAny_execs_cons (thn (h1 pins s σ H D I h) fun f s1 q => ?_)
  cases f with
  | next => exact wpAny_execs_nil q
  | ret v => exact q
  | brk => exact q
  | cont => exact q
/-- in a def's body nothing is shown -/
theorem Inv.quiet {pins : List (Addr × Obj)} {σ : St} {H : Hp} {s : Shared} (I : Inv X pins σ H s) : interactive X.env = false := by simp [interactive, I.ok.kind]
/-- an expression whose value is dropped -/
def tDrop (te : TE) : TS := fun D σ H => te σ H fun _ H1 => D.nx σ H1
theorem ps_expr (he : PE X e te) (hs : swapsWith e none pos.line X.env = pure false := by rfl) : PS X (.Expr e pos) (tDrop te) := by
  intro pins s σ H D I h
  exact wpAny_Expr_any (thn (he pins s σ H _ I h) fun v s1 ⟨x, H1, I1, r1, q1⟩ => ⟨σ, H1, I1, q1⟩) I.quiet hs
def tRet (te : TE) : TS := fun D σ H => te σ H D.rt
theorem ps_ret (he : PE X e te) : PS X (.Return (some e) pos) (tRet te) := by
  intro pins s σ H D I h
  exact wpAny_Return_some (thn (he pins s σ H _ I h) fun v s1 ⟨x, H1, I1, r1, q1⟩ => ⟨x, σ, H1, I1, r1, q1⟩)
def tIfS (c : TT) (t u : TS) : TS := fun D σ H => c σ H fun b H1 => if b = true then t D σ H1 else u D σ H1
theorem ps_if {c : Expr} {a b : List Stmt} {tc : TT} (hc : PT X c tc) (ha : PSs X a t) (hb : PSs X b u) : PS X (.If c a b pos) (tIfS tc t u) := by
  intro pins s σ H D I h
  refine wpAny_If (thn (hc pins s σ H _ I h) fun d s1 ⟨H1, I1, q1⟩ => ?_)
  cases d with
  | true => exact ha pins s1 σ H1 D I1 q1
  | false => exact hb pins s1 σ H1 D I1 q1
/-- code that the proof never comes to -/
def tNever : TS := fun _ _ _ => False
theorem ps_never : PS X st tNever := fun _ _ _ _ _ _ h => h.elim
theorem pss_never {sts : List Stmt} : PSs X sts tNever := fun _ _ _ _ _ _ h => h.elim
end
abbrev TG := V → St → Hp → (St → Hp → Prop) → Prop
def PG (X : Cx) (target : Expr) (t : TG) : Prop :=
  ∀ (pins : List (Addr × Obj)) (s : Shared) (σ : St) (H : Hp) (v : V) (u : Value) (Q : St → Hp → Prop), Inv X pins σ H s → RelV v u → t v σ H Q →
    wpAny (model X.prog X.w) X.A (assign target X.env u) (fun _ s' => ∃ σ' H', Inv X pins σ' H' s' ∧ Q σ' H') X.xe s
/-- o[i] = v, by values -/
abbrev TSet := V → V → V → Hp → (Hp → Prop) → Prop
def PSet (X : Cx) (t : TSet) : Prop :=
  ∀ (pins : List (Addr × Obj)) (s : Shared) (σ : St) (H : Hp) (o i v : V) (ov iv u : Value) (Q : Hp → Prop), Inv X pins σ H s → RelV o ov → RelV i iv → RelV v u → t o i v H Q →
    wpAny (model X.prog X.w) X.A (setItem ov iv u) (fun _ s' => ∃ H', Inv X pins σ H' s' ∧ Q H') X.xe s
section
variable {X : Cx} {pos : Pos}
def gName (i : Nat) : TG := fun v σ H Q => Q (σ.set i (some v)) H
theorem pg_name {i : Nat} {x : Str} (hN : X.N.Nodup) (hi : X.N[i]? = some x) (hx : Loc X.env.scope x) (hf : X.fn x = true ∨ X.env.scope.names.lookup x = some .local := by first | exact .inl rfl | exact .inr rfl | assumption) : PG X (.Name x pos) (gName i) := by
  intro pins s σ H v u Q I r h
  exact wpAny_assign_Name (store_ok I hN hi hx r (fun s' I' => ⟨_, H, I', h⟩) hf)
/-- o[i] = .. -/
def gSub (to ti : TE) (t : TSet) : TG := fun v σ H Q => to σ H fun o H1 => ti σ H1 fun i H2 => t o i v H2 fun H3 => Q σ H3
theorem pg_sub {o i : Expr} {to ti : TE} {t : TSet} (ho : PE X o to) (hi : PE X i ti) (hs : PSet X t)
    (ha : ∀ v, assign (.Subscript o i pos) X.env v = (do
      let ov ← holding [v] (eval o X.env)
      let iv ← holding [v, ov] (eval i X.env)
      standAt pos
      holding [v, ov, iv] (setItem ov iv v)
      release [v, ov, iv] []) := by intro _; rfl) : PG X (.Subscript o i pos) (gSub to ti t) := by
  intro pins s σ H v u Q I r h
  rw [ha]
  refine wpAny_bind (wpAny_holding (thn (ho pins s σ H _ I h) fun ov s1 ⟨x, H1, I1, r1, q1⟩ => ?_))
  refine wpAny_bind (wpAny_holding (thn (hi pins s1 σ H1 _ I1 q1) fun iv s2 ⟨y, H2, I2, r2, q2⟩ => ?_))
  refine wpAny_bind (wpAny_standAt (wpAny_bind (wpAny_holding (thn (hs pins s2 σ H2 x y v ov iv u _ I2 r1 r2 r q2) fun _ s3 ⟨H3, I3, q3⟩ => ?_))))
  exact wpAny_release ⟨σ, H3, I3, q3⟩
/-- target = value -/
def tAsg (te : TE) (g : TG) : TS := fun D σ H => te σ H fun x H1 => g x σ H1 D.nx
theorem ps_asg {tg e : Expr} {te : TE} {g : TG} (he : PE X e te) (hg : PG X tg g) (hs : swapsWithSole [tg] e pos.line X.env = pure false := by rfl) (hw : swappedStores [tg] e X.env = pure none := by rfl)
    (h1 : (assignEach [tg] X.env).map (·.2) = [assign tg X.env] := by rfl) : PS X (.Assign [tg] e pos) (tAsg te g) := by
  intro pins s σ H D I h
  refine wpAny_Assign_stores (thn (he pins s σ H _ I h) fun v s1 ⟨x, H1, I1, r1, q1⟩ => ?_) hs hw
  rw [h1]
  exact thn (hg pins s1 σ H1 x v _ I1 r1 q1) fun _ s2 ⟨σ2, H2, I2, q2⟩ => ⟨σ2, H2, I2, q2⟩
/-- name = value -/
theorem ps_set {i : Nat} {x : Str} {e : Expr} {te : TE} {pos' : Pos} (hN : X.N.Nodup) (hi : X.N[i]? = some x) (hx : Loc X.env.scope x) (he : PE X e te) (hs : swapsWith e (some (.Name x pos')) pos.line X.env = pure false := by rfl) (hf : X.fn x = true ∨ X.env.scope.names.lookup x = some .local := by first | exact .inl rfl | exact .inr rfl | assumption) :
    PS X (.Assign [.Name x pos'] e pos) (tAsg te (gName i)) := by
  intro pins s σ H D I h
  refine wpAny_Assign_Name (thn (he pins s σ H _ I h) fun v s1 ⟨y, H1, I1, r1, q1⟩ => ?_) hs
  exact store_ok I1 hN hi hx r1 (fun s2 I2 => ⟨_, H1, I2, q1⟩) hf
end
section
variable {X : Cx} {pos : Pos}
end
/-- at turn i: it yields x (the heap may grow), or it stops -/
structure It where
  go : Nat → Hp → Prop
  yld : Nat → Hp → V → Hp → Prop
  stop : Nat → Hp → Prop
/-- the iterator's own objects may turn: they are not the frame's, not pinned, younger than the entry (or a comprehension's own) -/
def FpOk (X : Cx) (pins : List (Addr × Obj)) (H : Hp) (b : Addr) : Prop :=
  H b = none ∧ b ≠ X.env.locals ∧ b ∉ X.fs ∧ (b ∈ X.ex ∨ X.s₀.heap.objs.size ≤ b) ∧ (∀ x c, X.env.cells.lookup x = some c → c ≠ b) ∧ ∀ p ∈ X.pn ++ pins, p.1 ≠ b
theorem Inv.fpOk {X : Cx} {pins : List (Addr × Obj)} {σ : St} {H H' : Hp} {s : Shared} {b : Addr} (I : Inv X pins σ H s) (hb : s.heap.objs.size ≤ b) (hn : H' b = none) : FpOk X pins H' b := by
  refine ⟨hn, Nat.ne_of_gt (Nat.lt_of_lt_of_le I.lt hb), I.nofs hb, .inr (Nat.le_trans I.sz hb), fun x c e z => ?_, fun p hp z => ?_⟩
  · obtain ⟨v, q⟩ := I.cell x c e
    exact absurd (Nat.lt_of_lt_of_le q.lt (by rw [z]; exact hb)) (Nat.lt_irrefl _)
  · exact absurd (Nat.lt_of_lt_of_le (Heap.lt_size (I.pin p hp).1) (by rw [z]; exact hb)) (Nat.lt_irrefl _)
structure Turn (P : Program) (w : World) (K : PySem.W.Frag) (tg : Expr) (J : It) (fp : List Addr) (it : Addr) (tn : Nat → Heap → Prop) : Prop where
  mem : it ∈ fp
  obj : ∀ i h, tn i h → ∀ b ∈ fp, ∃ o, h.get? b = some o ∧ ∀ v, o.data ≠ .cell v
  keep : ∀ i h h', tn i h → (∀ b ∈ fp, ∀ o, h.get? b = some o → h'.get? b = some o) → tn i h'
  item : ∀ (X : Cx), X.prog = P → X.w = w → X.K = K → X.calm = true → ∀ (i : Nat) (pins : List (Addr × Obj)) (s : Shared) (σ : St) (H : Hp) (E : Value → Shared → Prop), Inv X pins σ H s → (∀ b ∈ fp, FpOk X pins H b) → tn i s.heap → J.go i H →
    wpAny (model P w) X.A (pyNext (.ref it)) (fun r s1 => ∃ u, r = some u ∧
      wpAny (model P w) X.A (letOwnedTupleGo tg (.ref it) u) (fun _ s2 => ∃ x H', Inv X pins σ H' s2 ∧ RelV x u ∧ J.yld i H x H' ∧ tn (i + 1) s2.heap ∧ ∀ b ∈ fp, H' b = none) E s1) E s
  done : ∀ (X : Cx), X.prog = P → X.w = w → X.K = K → X.calm = true → ∀ (i : Nat) (pins : List (Addr × Obj)) (s : Shared) (σ : St) (H : Hp) (E : Value → Shared → Prop), Inv X pins σ H s → (∀ b ∈ fp, FpOk X pins H b) → tn i s.heap → J.stop i H →
    wpAny (model P w) X.A (pyNext (.ref it)) (fun r s1 => r = none ∧ Inv X pins σ H s1) E s
  self : ∀ (A : Around) (i : Nat) (s : Shared) (Q : Value → Shared → Prop) (E : Value → Shared → Prop), tn i s.heap → Q (.ref it) s → wpAny (model P w) A (pyIter (.ref it)) Q E s
abbrev TI := St → Hp → (It → Hp → Prop) → Prop
/-- an iterator has come -/
def PIE (X : Cx) (pins : List (Addr × Obj)) (σ : St) (tg : Expr) (R : It → Hp → Prop) (itv : Value) (s2 : Shared) : Prop :=
  ∃ (it : Addr) (fp : List Addr) (tn : Nat → Heap → Prop) (J : It) (H' : Hp), itv = .ref it ∧ Inv X pins σ H' s2 ∧ Turn X.prog X.w X.K tg J fp it tn ∧ tn 0 s2.heap ∧ (∀ b ∈ fp, FpOk X pins H' b) ∧ R J H'
def PI (X : Cx) (tg iter : Expr) (wi : TI) : Prop :=
  ∀ (pins : List (Addr × Obj)) (s : Shared) (σ : St) (H : Hp) (R : It → Hp → Prop), Inv X pins σ H s → wi σ H R →
    wpAny (model X.prog X.w) X.A (eval iter X.env) (fun v s1 => wpAny (model X.prog X.w) X.A (pyIter v) (PIE X pins σ tg R) X.xe s1) X.xe s
/-- the step ahead of the store is nothing for an iterator that keeps no tuple -/
theorem go_of {M : Model} {A : Around} {E : Value → Shared → Prop} {s : Shared} {tg : Expr} {it : Addr} {u : Value} {o : Obj} {n : String} {vs : Array Value} {Q : Unit → Shared → Prop} (ho : s.heap.get? it = some o) (hc : o.cls = .type n) (hd : o.data = .fields vs)
    (hn : ["enumerate", "zip", "dict_itemiterator", "dict_reverseitemiterator", "odict_iterator", "itertools.zip_longest", "itertools.pairwise"].contains n = false) (hQ : Q () s) : wpAny M A (letOwnedTupleGo tg (.ref it) u) Q E s := by
  unfold letOwnedTupleGo
  cases tg <;> first
    | exact wpAny_pure hQ
    | (cases u <;> first
        | exact wpAny_pure hQ
        | (refine wpAny_bind (wpAny_load ho ?_)
           rw [hc, hd]
           show wpAny M A (if (["enumerate", "zip", "dict_itemiterator", "dict_reverseitemiterator", "odict_iterator", "itertools.zip_longest", "itertools.pairwise"].contains n && vs[0]? == some (rawInt _)) = true then _ else _) Q E s
           rw [if_neg (by intro h; rw [hn, Bool.false_and] at h; cases h)]
           exact wpAny_pure hQ))
/-- the list at a, as it stands at each turn (a loop may append to it) -/
def Itl (K : PySem.W.Frag) (a : Addr) : It :=
  ⟨fun i H => ∃ xs x, SqL K H a xs ∧ xs[i]? = some x, fun i H x H' => H' = H ∧ ∀ xs, SqL K H a xs → xs[i]? = some x, fun i H => ∃ xs, SqL K H a xs ∧ xs.length ≤ i⟩
/-- lo, lo + 1, .. (n of them) -/
def Itr (lo : Int) (n : Nat) : It := ⟨fun i _ => i < n, fun i H x H' => H' = H ∧ x = .int (lo + i), fun i _ => n ≤ i⟩
theorem turn_list {P : Program} {w : World} {K : PySem.W.Frag} {tg : Expr} (a it : Addr) : Turn P w K tg (Itl K a) [it] it (fun i h => h.IsListIter it a i) where
  mem := by simp
  obj := fun i h st b hb => by
    have e : b = it := by simpa using hb
    subst e
    obtain ⟨o, e, c, d⟩ := st
    exact ⟨o, e, fun v z => by rw [d] at z; cases z⟩
  keep := fun i h h' st k => st.at fun o e => k it (by simp) o e
  item := by
    intro X hP hw hK hc i pins s σ H E I hf st hg
    subst hP hw hK
    obtain ⟨xs, x, hq, hx⟩ := hg
    obtain ⟨its, rv, p, hz⟩ := I.list hq
    obtain ⟨u, hu, ru⟩ := rv.get hx
    obtain ⟨f0, f1, f2, f3, f4, f5⟩ := hf it (by simp)
    refine wpAny_pyNext_list_item st p.isList (x := u) (by simpa using hu) fun h' st' sb => ?_
    have I1 : Inv X pins σ H { s with heap := h' } := I.turned (t' := s.toks) (fun b o hb e => (sb.2 b hb).trans e) f0 f1 f3 f4 f5
    obtain ⟨o, e, c, d⟩ := id st'
    exact ⟨u, rfl, go_of (s := { s with heap := h' }) e c d (by decide) ⟨x, H, I1, ru, ⟨rfl, fun ys hy => by rw [I.list_inj hy hq]; exact hx⟩, st', fun b hb => (hf b hb).1⟩⟩
  done := by
    intro X hP hw hK hc i pins s σ H E I hf st hg
    subst hP hw hK
    obtain ⟨xs, hq, hx⟩ := hg
    obtain ⟨its, rv, p, hz⟩ := I.list hq
    obtain ⟨f0, f1, f2, f3, f4, f5⟩ := hf it (by simp)
    have hl := rv.length
    exact wpAny_pyNext_list_end (I.ok.hd hc) st p.isList (by simp; omega) fun h' eb => ⟨rfl, I.turned (t' := s.toks) (fun b o hb e => eb b o hb e) f0 f1 f3 f4 f5⟩
  self := fun _ _ _ _ _ st h => wpAny_pyIter_listiter st h
theorem turn_range {P : Program} {w : World} {K : PySem.W.Frag} {tg : Expr} (it : Addr) (lo : Int) (n : Nat) : Turn P w K tg (Itr lo n) [it] it (fun i h => IsRangeIter h it (lo + (i : Nat) * 1) ((n : Int) - (i : Nat)) 1) where
  mem := by simp
  obj := fun i h st b hb => by
    have e : b = it := by simpa using hb
    subst e
    exact ⟨_, st, fun v z => by
      have z' : Data.fields _ = Data.cell v := z
      cases z'⟩
  keep := fun i h h' st k => k it (by simp) _ st
  item := by
    intro X hP hw hK hc i pins s σ H E I hf st hg
    subst hP hw hK
    obtain ⟨f0, f1, f2, f3, f4, f5⟩ := hf it (by simp)
    have W := Walks.range (prog := X.prog) (w := X.w) (I.ok.hd hc) it lo 1 n
    refine W.item i s _ _ hg st fun v h' tk hv st' kk => ?_
    obtain ⟨t, rfl⟩ := hv
    have I1 : Inv X pins σ H { s with heap := h', toks := tk } := I.turned (fun b o hb e => kk b o (by simpa using hb) e) f0 f1 f3 f4 f5
    refine ⟨_, rfl, go_of (s := { s with heap := h', toks := tk }) (n := "range_iterator") st' rfl rfl (by decide) ⟨.int (lo + i), H, I1, ⟨t, ?_⟩, ⟨rfl, rfl⟩, st', fun b hb => (hf b hb).1⟩⟩
    rw [Int.mul_one]
  done := by
    intro X hP hw hK hc i pins s σ H E I hf st hg
    subst hP hw hK
    obtain ⟨f0, f1, f2, f3, f4, f5⟩ := hf it (by simp)
    exact wpAny_pyNext_range_end (I.ok.hd hc) st (by have : n ≤ i := hg; omega) fun h' eb => ⟨rfl, I.turned (t' := s.toks) (fun b o hb e => eb b o hb e) f0 f1 f3 f4 f5⟩
  self := fun _ _ _ _ _ st h => wpAny_pyIter_rangeiter st h
end L2
namespace L2
open PySem PySem.Spec PyProof.Rows
section
variable {X : Cx} {tg : Expr}
inductive iList_I (K : PySem.W.Frag) (R : (It → Hp → Prop)) (x : V) (H1 : Hp) : Prop
  | mk : ∀ a, x = .ref a → (∃ xs, SqL K H1 a xs) → R (Itl K a) H1 → iList_I K R x H1
def iList (K : PySem.W.Frag) (tl : TE) : TI := fun σ H R => tl σ H fun x H1 => iList_I K R x H1
theorem pi_list {l : Expr} {tl : TE} (hl : PE X l tl) : PI X tg l (iList X.K tl) := by
  intro pins s σ H R I h
  refine thn (hl pins s σ H _ I h) fun v s1 ⟨x, H1, I1, r1, q1⟩ => ?_
  obtain ⟨a, e, ⟨xs, hq⟩, q⟩ := q1
  subst e
  cases r1
  obtain ⟨its, rv, p, hz⟩ := I1.list hq
  refine wpAny_pyIter_list p.isList ?_
  refine ⟨s1.heap.objs.size, [s1.heap.objs.size], _, _, H1, rfl, I1.kept (t' := s1.toks) fun b o e => Heap.get?_push_of_some _ e, turn_list a _, ⟨_, Heap.get?_push_size _ rfl, rfl, rfl⟩, fun b hb => ?_, q⟩
  have e : b = s1.heap.objs.size := by simpa using hb
  subst e
  exact I1.fpOk (Nat.le_refl _) (I1.hok.fresh (Nat.le_refl _))
/-- a range object just made, walked -/
theorem range_it {pins : List (Addr × Obj)} {σ : St} {H : Hp} {s : Shared} {R : It → Hp → Prop} {E : Value → Shared → Prop} {lo hi : Int} {t u v : Tok} {tk : Nat} (I : Inv X pins σ H s) (h1 : -(2 ^ 62) ≤ lo) (h2 : lo < 2 ^ 62) (h3 : -(2 ^ 62) ≤ hi) (h4 : hi < 2 ^ 62)
    (q : R (Itr lo (hi - lo).toNat) H) : wpAny (model X.prog X.w) X.A (pyIter (.ref s.heap.objs.size)) (PIE X pins σ tg R) E { s with heap := s.heap.push { cls := .type "range", data := .fields #[.int lo t, .int hi u, .int 1 v] }, toks := tk } := by
  refine wpAny_pyIter_range (IsRange.new ..) (small_one h1 h2 h3 h4) ?_
  have I1 : Inv X pins σ H { s with heap := s.heap.push { cls := .type "range", data := .fields #[.int lo t, .int hi u, .int 1 v] }, toks := tk } := I.kept fun b o e => Heap.get?_push_of_some _ e
  refine ⟨(s.heap.push { cls := .type "range", data := .fields #[.int lo t, .int hi u, .int 1 v] }).objs.size, [(s.heap.push { cls := .type "range", data := .fields #[.int lo t, .int hi u, .int 1 v] }).objs.size], _, _, H, rfl,
    I1.kept (t' := tk) fun b o e => Heap.get?_push_of_some _ e, turn_range _ lo (hi - lo).toNat, ?_, fun b hb => ?_, q⟩
  · have e1 : lo + ((0 : Nat) : Int) * 1 = lo := by simp
    have e2 : (((hi - lo).toNat : Nat) : Int) - ((0 : Nat) : Int) = Builtin.Range.rangeSize lo hi 1 := by rw [rangeSize_one]; split <;> omega
    show IsRangeIter _ _ (lo + ((0 : Nat) : Int) * 1) ((((hi - lo).toNat : Nat) : Int) - ((0 : Nat) : Int)) 1
    rw [e1, e2]
    exact Heap.get?_push_size _ rfl
  · have e : b = (s.heap.push { cls := .type "range", data := .fields #[.int lo t, .int hi u, .int 1 v] }).objs.size := by simpa using hb
    subst e
    exact I1.fpOk (Nat.le_refl _) (I1.hok.fresh (Nat.le_refl _))
inductive iRng1_I (R : (It → Hp → Prop)) (vs : List V) (H1 : Hp) : Prop
  | mk : ∀ j : Int, vs = [.int j] → -(2 ^ 62) ≤ j → j < 2 ^ 62 → R (Itr 0 j.toNat) H1 → iRng1_I R vs H1
def iRng1 (ta : TA) : TI := fun σ H R => ta σ H fun vs H1 => iRng1_I R vs H1
theorem pi_range1 {a : Expr} {ta : TA} {p pos : Pos} (hg : Gl X "range") (hm : X.mg "range" = none) (ha : PA X [a] ta) (hs : starEach [a] X.env = [(false, eval a X.env)] := by rfl) : PI X tg (.Call (.Name "range" p) [a] [] pos) (iRng1 ta) := by
  intro pins s σ H R I h
  refine Call_ (ld_blt I hg hm boot_range (PyProof.Rows.callWith_type1 (thn (ha pos pins s σ H _ I h) fun us s1 ⟨vs, H1, I1, r1, q1⟩ => ?_) hs rfl))
  obtain ⟨j, e, q1, q2, q⟩ := q1
  subst e
  cases r1 with
  | cons r rr =>
    cases rr
    obtain ⟨t, rfl⟩ := r
    exact call_range_1 (range_it I1 (by omega) (by omega) q1 q2 (by simpa using q))
/-- W: the invariant by the turn and a measure; N: what the body is to reach -/
inductive tFor_I (g : TG) (tb : TS) (D : Ends) (σ : St) (J : It) (H1 : Hp) : Prop
  | mk : ∀ W : Nat → Nat → St → Hp → Prop, (∃ m, W 0 m σ H1) → (∀ i m σ H, W i m σ H → (J.stop i H ∧ D.nx σ H) ∨ (J.go i H ∧ ∃ N : St → Hp → Prop, (∀ σ' H', N σ' H' → ∃ m', m' < m ∧ W (i + 1) m' σ' H') ∧ ∀ x H', J.yld i H x H' → g x σ H' fun σ2 H2 => tb { D with nx := N, ct := N, bk := D.nx } σ2 H2)) → tFor_I g tb D σ J H1
def tFor (wi : TI) (g : TG) (tb : TS) : TS := fun D σ H => wi σ H fun J H1 => tFor_I g tb D σ J H1
/-- the records at fp as they stand -/
def pinsAt (fp : List Addr) (h : Heap) : List (Addr × Obj) := fp.filterMap fun b => (h.get? b).map fun o => (b, o)
theorem mem_pinsAt {fp : List Addr} {h : Heap} {b : Addr} {o : Obj} (hb : b ∈ fp) (e : h.get? b = some o) : (b, o) ∈ pinsAt fp h := List.mem_filterMap.mpr ⟨b, hb, by rw [e]; rfl⟩
theorem of_pinsAt {fp : List Addr} {h : Heap} {p : Addr × Obj} (hp : p ∈ pinsAt fp h) : p.1 ∈ fp ∧ h.get? p.1 = some p.2 := by
  obtain ⟨b, hb, e⟩ := List.mem_filterMap.mp hp
  cases q : h.get? b with
  | none => rw [q] at e; cases e
  | some o =>
    rw [q] at e
    have e' : (b, o) = p := Option.some.inj e
    subst e'
    exact ⟨hb, q⟩
theorem Inv.pinned {pins : List (Addr × Obj)} {σ : St} {H : Hp} {s : Shared} {fp : List Addr} (I : Inv X pins σ H s) (hf : ∀ b ∈ fp, FpOk X pins H b) (ho : ∀ b ∈ fp, ∃ o, s.heap.get? b = some o ∧ ∀ v, o.data ≠ .cell v) : Inv X (pins ++ pinsAt fp s.heap) σ H s :=
  I.pins_of fun p hp => (List.mem_append.mp hp).elim (fun z => I.pin p (List.mem_append_right _ z)) fun z => by
    obtain ⟨hb, e⟩ := of_pinsAt z
    obtain ⟨f0, f1, f2, _⟩ := hf p.1 hb
    obtain ⟨o, e', d⟩ := ho p.1 hb
    rw [e] at e'; cases e'
    exact ⟨e, f0, f1, f2, d⟩
theorem Inv.unpinned {pins pl : List (Addr × Obj)} {σ : St} {H : Hp} {s : Shared} (I : Inv X (pins ++ pl) σ H s) : Inv X pins σ H s := I.pins_of fun p hp => I.pin p (List.mem_append_right _ (List.mem_append_left _ hp))
theorem ps_for {iter : Expr} {body : List Stmt} {wi : TI} {g : TG} {tb : TS} {pos : Pos} (hp : PassesOwn (model X.prog X.w) X.A X.env X.xe) (hc : X.calm = true) (hi : PI X tg iter wi) (hg : PG X tg g) (hb : PSs X body tb)
    (hs : ∀ x, foldedSetIterable iter X.env x = pure x := by intro _; rfl) : PS X (.For tg iter body [] pos) (tFor wi g tb) := by
  intro pins s σ H D I h
  refine wpAny_For (thn (hi pins s σ H _ I h) fun v s1 h1 => thn h1 fun itv s2 h2 => ?_) hs
  obtain ⟨it, fp, tn, J, H2, e, I2, T, st2, f2, W, ⟨m0, w0⟩, turn⟩ := h2
  subst e
  -- what stays true of the iterator's objects through the loop
  have stat : ∀ {H' : Hp}, (∀ b ∈ fp, H' b = none) → ∀ b ∈ fp, FpOk X pins H' b := fun hn b hb => ⟨hn b hb, (f2 b hb).2⟩
  refine codeAny_forLoop_any (fun n s' => ∃ i σ' H', Inv X pins σ' H' s' ∧ tn i s'.heap ∧ (∀ b ∈ fp, H' b = none) ∧ W i n σ' H') ?_ m0 ⟨0, σ, H2, I2, st2, fun b hb => (f2 b hb).1, w0⟩
  rintro n s3 ⟨i, σ3, H3, I3, st3, fr3, w3⟩
  rcases turn i n σ3 H3 w3 with ⟨stop, qn⟩ | ⟨go, N, hN, step⟩
  · refine wpAny_passesOwn hp (thn (T.done X rfl rfl rfl hc i pins s3 σ3 H3 X.xe I3 (stat fr3) st3 stop) fun r s4 ⟨hr, I4⟩ => ?_)
    subst hr
    exact wpAny_execs_nil ⟨σ3, H3, I4, qn⟩
  · refine wpAny_passesOwn hp (thn (T.item X rfl rfl rfl hc i pins s3 σ3 H3 X.xe I3 (stat fr3) st3 go) fun r s4 ⟨u, hr, h4⟩ => ?_)
    subst hr
    refine wpAny_passesOwn hp (thn h4 fun _ s5 ⟨x, H5, I5, r5, y5, st5, fr5⟩ => ?_)
    have I5' := I5.pinned (stat fr5) (T.obj _ _ st5)
    refine wpAny_passesOwn hp (thn (hg _ s5 σ3 H5 x u _ I5' r5 (step x H5 y5)) fun _ s6 ⟨σ6, H6, I6, q6⟩ => ?_)
    refine wpAny_passesOwn hp (thn (hb _ s6 σ6 H6 _ I6 q6) fun f s7 q7 => ?_)
    have again : ∀ {σ7 : St} {H7 : Hp}, Inv X (pins ++ pinsAt fp s5.heap) σ7 H7 s7 → N σ7 H7 → ∃ m, m < n ∧ ∃ i σ' H', Inv X pins σ' H' s7 ∧ tn i s7.heap ∧ (∀ b ∈ fp, H' b = none) ∧ W i m σ' H' := fun {σ7 H7} I7 n7 => by
      obtain ⟨m', hm, w7⟩ := hN σ7 H7 n7
      refine ⟨m', hm, i + 1, σ7, H7, I7.unpinned, T.keep _ _ _ st5 fun b hb o e => (I7.pin (b, o) (List.mem_append_right _ (List.mem_append_right _ (mem_pinsAt hb e)))).1, fun b hb => ?_, w7⟩
      obtain ⟨o, e, d⟩ := T.obj _ _ st5 b hb
      exact (I7.pin (b, o) (List.mem_append_right _ (List.mem_append_right _ (mem_pinsAt hb e)))).2.1
    cases f with
    | next => obtain ⟨σ7, H7, I7, n7⟩ := q7; exact again I7 n7
    | cont => obtain ⟨σ7, H7, I7, n7⟩ := q7; exact again I7 n7
    | brk => obtain ⟨σ7, H7, I7, q7⟩ := q7; exact ⟨σ7, H7, I7.unpinned, q7⟩
    | ret v => obtain ⟨x7, σ7, H7, I7, r7, q7⟩ := q7; exact ⟨x7, σ7, H7, I7.unpinned, r7, q7⟩
end
/-- over a list that the body leaves as it is -/
theorem for_list {K : PySem.W.Frag} {a : Addr} {xs : List V} {g : TG} {tb : TS} {D : Ends} {σ : St} {H : Hp} (Pv : Nat → St → Hp → Prop) (h0 : Pv 0 σ H) (hl : ∀ i σ H, i ≤ xs.length → Pv i σ H → SqL K H a xs)
    (hs : ∀ i x σ H, xs[i]? = some x → Pv i σ H → g x σ H fun σ2 H2 => tb { D with nx := Pv (i + 1), ct := Pv (i + 1), bk := D.nx } σ2 H2) (hd : ∀ σ H, Pv xs.length σ H → D.nx σ H) :
    tFor_I g tb D σ (Itl K a) H := by
  refine ⟨fun i m σ H => m = xs.length - i ∧ i ≤ xs.length ∧ Pv i σ H, ⟨xs.length, by simp, Nat.zero_le _, h0⟩, ?_⟩
  rintro i m σ H ⟨rfl, hi, p⟩
  have q := hl i σ H hi p
  by_cases hlt : i < xs.length
  · refine .inr ⟨⟨xs, xs[i], q, by simp [hlt]⟩, Pv (i + 1), fun σ' H' p' => ⟨xs.length - (i + 1), by omega, rfl, hlt, p'⟩, fun x H' y => ?_⟩
    obtain ⟨e, y⟩ := y
    subst e
    exact hs i x σ _ (y xs q) p
  · have e : i = xs.length := by omega
    subst e
    exact .inl ⟨⟨xs, q, Nat.le_refl _⟩, hd σ H p⟩
theorem for_range {lo : Int} {n : Nat} {g : TG} {tb : TS} {D : Ends} {σ : St} {H : Hp} (Pv : Nat → St → Hp → Prop) (h0 : Pv 0 σ H)
    (hs : ∀ i σ H, i < n → Pv i σ H → g (.int (lo + i)) σ H fun σ2 H2 => tb { D with nx := Pv (i + 1), ct := Pv (i + 1), bk := D.nx } σ2 H2) (hd : ∀ σ H, Pv n σ H → D.nx σ H) :
    tFor_I g tb D σ (Itr lo n) H := by
  refine ⟨fun i m σ H => m = n - i ∧ i ≤ n ∧ Pv i σ H, ⟨n, by simp, Nat.zero_le _, h0⟩, ?_⟩
  rintro i m σ H ⟨rfl, hi, p⟩
  by_cases hlt : i < n
  · refine .inr ⟨hlt, Pv (i + 1), fun σ' H' p' => ⟨n - (i + 1), by omega, rfl, hlt, p'⟩, fun x H' y => ?_⟩
    obtain ⟨e, y⟩ := y
    subst e y
    exact hs i σ _ hlt p
  · have e : i = n := by omega
    subst e
    exact .inl ⟨Nat.le_refl _, hd σ H p⟩
end L2
namespace L2
open PySem PySem.Spec PyProof.Rows
abbrev R2 := V → V → Hp → VK → Prop
/-- a two-place operation on values: f is binaryOp op, inplaceOp op or compareOp op -/
def OpR (X : Cx) (f : Value → Value → Sem Value) (r : R2) : Prop :=
  ∀ (pins : List (Addr × Obj)) (s : Shared) (σ : St) (H : Hp) (x y : V) (v u : Value) (Q : VK), Inv X pins σ H s → RelV x v → RelV y u → r x y H Q →
    wpAny (model X.prog X.w) X.A (f v u) (EP X pins σ Q) X.xe s
/-- a call of a value that is known (a builtin, a type) with values -/
def CallR (X : Cx) (f : Value) (r : List V → Hp → VK → Prop) : Prop :=
  ∀ (pins : List (Addr × Obj)) (s : Shared) (σ : St) (H : Hp) (xs : List V) (us : List Value) (Q : VK), Inv X pins σ H s → Vals xs us → r xs H Q →
    wpAny (model X.prog X.w) X.A (call f us) (EP X pins σ Q) X.xe s
/-- a value's truth -/
def TruR (X : Cx) (r : V → Hp → (Bool → Hp → Prop) → Prop) : Prop :=
  ∀ (pins : List (Addr × Obj)) (s : Shared) (σ : St) (H : Hp) (x : V) (v : Value) (Q : Bool → Hp → Prop), Inv X pins σ H s → RelV x v → r x H Q →
    wpAny (model X.prog X.w) X.A (truthy v) (TP X pins σ Q) X.xe s
def tOp (r : R2) (ta tb : TE) : TE := fun σ H Q => ta σ H fun x H1 => tb σ H1 fun y H2 => r x y H2 Q
/-- ints in, under C, and a value out -/
inductive rI_I (C : Int → Int → Prop) (g : Int → Int → V) (x : V) (y : V) (H : Hp) (Q : VK) : Prop
  | mk : ∀ i j, x = .int i → y = .int j → C i j → Q (g i j) H → rI_I C g x y H Q
def rI (C : Int → Int → Prop) (g : Int → Int → V) : R2 := fun x y H Q => rI_I C g x y H Q
inductive rI0_I (g : Int → Int → V) (x : V) (y : V) (H : Hp) (Q : VK) : Prop
  | mk : ∀ i j, x = .int i → y = .int j → Q (g i j) H → rI0_I g x y H Q
def rI0 (g : Int → Int → V) : R2 := fun x y H Q => rI0_I g x y H Q
section
variable {X : Cx} {a b c : Expr} {ta tb tc : TE} {pos : Pos}
theorem binT (ha : PE X a ta) (hb : PE X b tb) {pins : List (Addr × Obj)} {s : Shared} {σ : St} {H : Hp} {R : V → V → Hp → Prop} (I : Inv X pins σ H s)
    (h : ta σ H fun x H1 => tb σ H1 fun y H2 => R x y H2) {Q : Value → Shared → Prop} {f : Value → Value → Sem Value}
    (hf : ∀ v u s2 x y H2, Inv X pins σ H2 s2 → RelV x v → RelV y u → R x y H2 → wpAny (model X.prog X.w) X.A (f v u) Q X.xe s2) :
    wpAny (model X.prog X.w) X.A (eval a X.env) (fun v s₁ => wpAny (model X.prog X.w) X.A (eval b X.env) (fun u s₂ => wpAny (model X.prog X.w) X.A (f v u) Q X.xe s₂) X.xe s₁) X.xe s := by
  refine thn (ha pins s σ H _ I h) fun v s1 ⟨x, H1, I1, r1, q1⟩ => ?_
  refine thn (hb pins s1 σ H1 _ I1 q1) fun u s2 ⟨y, H2, I2, r2, q2⟩ => ?_
  exact hf v u s2 x y H2 I2 r1 r2 q2
theorem pe_op {op : Operator} {r : R2} (ho : OpR X (binaryOp op) r) (ha : PE X a ta) (hb : PE X b tb) : PE X (.BinOp a op b pos) (tOp r ta tb) := by
  intro pins s σ H Q I h
  exact wpAny_BinOp (binT ha hb I h fun v u s2 x y H2 I2 rx ry q => ho pins s2 σ H2 x y v u Q I2 rx ry q)
theorem opI {f : Value → Value → Sem Value} {C : Int → Int → Prop} {g : Int → Int → Int}
    (rule : ∀ (i j : Int) (t u : Tok) (s : Shared) (Q : Value → Shared → Prop) (E : Value → Shared → Prop), C i j → Q (.int (g i j) s.toks) { s with toks := s.toks + 1 } → wpAny (model X.prog X.w) X.A (f (.int i t) (.int j u)) Q E s) :
    OpR X f (rI C fun i j => .int (g i j)) := by
  intro pins s σ H x y v u Q I rx ry h
  obtain ⟨i, j, rfl, rfl, hc, q⟩ := h
  obtain ⟨t, rfl⟩ := rx
  obtain ⟨t', rfl⟩ := ry
  exact rule i j t t' s _ _ hc ⟨.int (g i j), H, I.tok _, ⟨_, rfl⟩, q⟩
theorem opI0 {f : Value → Value → Sem Value} {g : Int → Int → Int}
    (rule : ∀ (i j : Int) (t u : Tok) (s : Shared) (Q : Value → Shared → Prop) (E : Value → Shared → Prop), Q (.int (g i j) s.toks) { s with toks := s.toks + 1 } → wpAny (model X.prog X.w) X.A (f (.int i t) (.int j u)) Q E s) :
    OpR X f (rI0 fun i j => .int (g i j)) := by
  intro pins s σ H x y v u Q I rx ry h
  obtain ⟨i, j, rfl, rfl, q⟩ := h
  obtain ⟨t, rfl⟩ := rx
  obtain ⟨t', rfl⟩ := ry
  exact rule i j t t' s _ _ ⟨.int (g i j), H, I.tok _, ⟨_, rfl⟩, q⟩
theorem opB0 {f : Value → Value → Sem Value} {g : Int → Int → Bool}
    (rule : ∀ (i j : Int) (t u : Tok) (s : Shared) (Q : Value → Shared → Prop) (E : Value → Shared → Prop), Q (.bool (g i j)) s → wpAny (model X.prog X.w) X.A (f (.int i t) (.int j u)) Q E s) :
    OpR X f (rI0 fun i j => .bl (g i j)) := by
  intro pins s σ H x y v u Q I rx ry h
  obtain ⟨i, j, rfl, rfl, q⟩ := h
  obtain ⟨t, rfl⟩ := rx
  obtain ⟨t', rfl⟩ := ry
  exact rule i j t t' s _ _ ⟨.bl (g i j), H, I, rfl, q⟩
def CDiv (i j : Int) : Prop := 0 < j ∧ j < 1073741824
def CMul (i j : Int) : Prop := (-(2 ^ 64) < i ∧ i < 2 ^ 64) ∨ (-(2 ^ 64) < j ∧ j < 2 ^ 64)
theorem CMul.ok {i j : Int} (h : CMul i j) : IntMulOk i j := by
  rcases h with ⟨h1, h2⟩ | ⟨h1, h2⟩
  · exact .of_left (intBits_le_64 h1 h2)
  · exact .of_right (intBits_le_64 h1 h2)
theorem op_add : OpR X (binaryOp .Add) (rI0 fun i j => .int (i + j)) := opI0 fun _ _ _ _ _ _ _ q => add_int q
theorem op_sub : OpR X (binaryOp .Sub) (rI0 fun i j => .int (i - j)) := opI0 fun _ _ _ _ _ _ _ q => sub_int q
theorem op_mul : OpR X (binaryOp .Mult) (rI CMul fun i j => .int (i * j)) := opI fun _ _ _ _ _ _ _ hc q => mul_int q hc.ok
/-- // by a positive divisor -/
theorem op_fdiv : OpR X (binaryOp .FloorDiv) (rI CDiv fun i j => .int (i / j)) := opI fun i j _ _ _ _ _ hc q => by
  have h1 : (0 : Int) < j := hc.1
  have h2 : j < 1073741824 := hc.2
  exact floordiv_int (by omega) (by rw [Int.fdiv_eq_ediv_of_nonneg i (by omega)]; exact q) (.inl (PyProof.noPylong_small (by omega)))
/-- % by a positive divisor of any size -/
theorem op_mod : OpR X (binaryOp .Mod) (rI (fun _ j => 0 < j) fun i j => .int (i % j)) := opI fun i j _ _ _ _ _ hc q => by
  have h1 : (0 : Int) < j := hc
  exact mod_int' (by omega) (by rw [Int.fmod_eq_emod_of_nonneg i (by omega)]; exact q)
end
/-- the scalars that == tells apart as data does -/
def scal : V → V → Bool
  | .non, .non => true | .non, .int _ => true | .int _, .non => true | .non, .bl _ => true | .bl _, .non => true | .non, .str _ => true | .str _, .non => true
  | .int _, .int _ => true | .bl _, .bl _ => true | .str _, .str _ => true | .byt _, .byt _ => true
  | .int _, .str _ => true | .str _, .int _ => true | .bl _, .str _ => true | .str _, .bl _ => true
  | _, _ => false
def rEq : R2 := fun x y H Q => scal x y = true ∧ Q (.bl (decide (x = y))) H
def rNe : R2 := fun x y H Q => scal x y = true ∧ Q (.bl (!decide (x = y))) H
theorem dec_int {i j : Int} : decide (V.int i = V.int j) = (i == j) := by
  rw [Bool.eq_iff_iff]
  simp
theorem dec_bl {i j : Bool} : decide (V.bl i = V.bl j) = (i == j) := by
  rw [Bool.eq_iff_iff]
  simp
theorem dec_str {i j : Str} : decide (V.str i = V.str j) = (i == j) := by
  rw [Bool.eq_iff_iff]
  simp
theorem dec_byt {i j : Array UInt8} : decide (V.byt i = V.byt j) = (i.toList == j.toList) := by
  rw [Bool.eq_iff_iff]
  cases i
  cases j
  simp
section
variable {X : Cx} {a b c : Expr} {ta tb tc : TE} {pos : Pos}
theorem fin_bl {pins : List (Addr × Obj)} {σ : St} {H : Hp} {s : Shared} {Q : VK} {k k' : Bool} (I : Inv X pins σ H s) (q : Q (.bl k) H) (e : k = k') : EP X pins σ Q (.bool k') s := by
  subst e
  exact ⟨.bl k, H, I, rfl, q⟩
theorem op_eq : OpR X (compareOp .Eq) rEq := by
  intro pins s σ H x y v u Q I rx ry h
  obtain ⟨hs, q⟩ := h
  cases x with
  | non =>
    cases rx
    cases y with
    | non => cases ry; exact PySem.EqNone.eq_none_none (fin_bl I q (by simp))
    | bl j => cases ry; exact PySem.EqNone.eq_none_bool (fin_bl I q (by simp))
    | int j => obtain ⟨t', rfl⟩ := ry; exact PySem.EqNone.eq_none_int (fin_bl I q (by simp))
    | str j => obtain ⟨t', rfl⟩ := ry; exact PySem.EqNone.eq_none_str (fin_bl I q (by simp))
    | _ => exact absurd (show false = true from hs) Bool.false_ne_true
  | bl i =>
    cases rx
    cases y with
    | non => cases ry; exact PySem.EqNone.eq_bool_none (fin_bl I q (by simp))
    | bl j => cases ry; exact eq_bool (fin_bl I q dec_bl)
    | str j => obtain ⟨t', rfl⟩ := ry; exact PySem.EqMixed.eq_bool_str (fin_bl I q (by simp))
    | _ => exact absurd (show false = true from hs) Bool.false_ne_true
  | int i =>
    obtain ⟨t, rfl⟩ := rx
    cases y with
    | non => cases ry; exact PySem.EqNone.eq_int_none (fin_bl I q (by simp))
    | int j => obtain ⟨t', rfl⟩ := ry; exact eq_int (fin_bl I q dec_int)
    | str j => obtain ⟨t', rfl⟩ := ry; exact PySem.EqMixed.eq_int_str (fin_bl I q (by simp))
    | _ => exact absurd (show false = true from hs) Bool.false_ne_true
  | str i =>
    obtain ⟨t, rfl⟩ := rx
    cases y with
    | non => cases ry; exact PySem.EqNone.eq_str_none (fin_bl I q (by simp))
    | bl j => cases ry; exact PySem.EqMixed.eq_str_bool (fin_bl I q (by simp))
    | int j => obtain ⟨t', rfl⟩ := ry; exact PySem.EqMixed.eq_str_int (fin_bl I q (by simp))
    | str j => obtain ⟨t', rfl⟩ := ry; exact eq_str (fin_bl I q dec_str)
    | _ => exact absurd (show false = true from hs) Bool.false_ne_true
  | byt i =>
    obtain ⟨t, rfl⟩ := rx
    cases y with
    | byt j => obtain ⟨t', rfl⟩ := ry; exact PySem.W.eq_bytes (fin_bl I q dec_byt)
    | _ => exact absurd (show false = true from hs) Bool.false_ne_true
  | _ => cases y <;> exact absurd (show false = true from hs) Bool.false_ne_true
theorem op_ne : OpR X (compareOp .NotEq) rNe := by
  intro pins s σ H x y v u Q I rx ry h
  obtain ⟨hs, q⟩ := h
  cases x with
  | non =>
    cases rx
    cases y with
    | non => cases ry; exact PySem.EqNone.ne_none_none (fin_bl I q (by simp))
    | bl j => cases ry; exact PySem.EqNone.ne_none_bool (fin_bl I q (by simp))
    | int j => obtain ⟨t', rfl⟩ := ry; exact PySem.EqNone.ne_none_int (fin_bl I q (by simp))
    | str j => obtain ⟨t', rfl⟩ := ry; exact PySem.EqNone.ne_none_str (fin_bl I q (by simp))
    | _ => exact absurd (show false = true from hs) Bool.false_ne_true
  | bl i =>
    cases rx
    cases y with
    | non => cases ry; exact PySem.EqNone.ne_bool_none (fin_bl I q (by simp))
    | bl j => cases ry; exact ne_bool (fin_bl I q (congrArg not dec_bl))
    | str j => obtain ⟨t', rfl⟩ := ry; exact PySem.EqMixed.ne_bool_str (fin_bl I q (by simp))
    | _ => exact absurd (show false = true from hs) Bool.false_ne_true
  | int i =>
    obtain ⟨t, rfl⟩ := rx
    cases y with
    | non => cases ry; exact PySem.EqNone.ne_int_none (fin_bl I q (by simp))
    | int j => obtain ⟨t', rfl⟩ := ry; exact ne_int (fin_bl I q (congrArg not dec_int))
    | str j => obtain ⟨t', rfl⟩ := ry; exact PySem.EqMixed.ne_int_str (fin_bl I q (by simp))
    | _ => exact absurd (show false = true from hs) Bool.false_ne_true
  | str i =>
    obtain ⟨t, rfl⟩ := rx
    cases y with
    | non => cases ry; exact PySem.EqNone.ne_str_none (fin_bl I q (by simp))
    | bl j => cases ry; exact PySem.EqMixed.ne_str_bool (fin_bl I q (by simp))
    | int j => obtain ⟨t', rfl⟩ := ry; exact PySem.EqMixed.ne_str_int (fin_bl I q (by simp))
    | str j => obtain ⟨t', rfl⟩ := ry; exact ne_str (fin_bl I q (congrArg not dec_str))
    | _ => exact absurd (show false = true from hs) Bool.false_ne_true
  | byt i =>
    obtain ⟨t, rfl⟩ := rx
    cases y with
    | byt j => obtain ⟨t', rfl⟩ := ry; exact PySem.W.ne_bytes (fin_bl I q (congrArg not dec_byt))
    | _ => exact absurd (show false = true from hs) Bool.false_ne_true
  | _ => cases y <;> exact absurd (show false = true from hs) Bool.false_ne_true
theorem op_lt : OpR X (compareOp .Lt) (rI0 fun i j => .bl (decide (i < j))) := opB0 fun _ _ _ _ _ _ _ q => lt_int q
theorem op_gt : OpR X (compareOp .Gt) (rI0 fun i j => .bl (decide (j < i))) := opB0 fun _ _ _ _ _ _ _ q => gt_int q
theorem op_notN : OpR X (compareOp .IsNot) (fun x y H Q => y = .non ∧ Q (.bl (!decide (x = .non))) H) := by
  intro pins s σ H x y v u Q I rx ry h
  obtain ⟨rfl, q⟩ := h
  cases ry
  refine isnot_none_gen (fin_bl I q ?_)
  cases x <;> first
    | (cases rx; rfl)
    | (obtain ⟨t, rfl⟩ := rx; rfl)
theorem nomark (b : Expr) {op : CmpOp} (h : op ≠ .In := by decide) (h2 : op ≠ .NotIn := by decide) : behindInMarks op b = false := by
  have e1 : (op == CmpOp.In) = false := by cases op <;> first | rfl | exact absurd rfl h
  have e2 : (op == CmpOp.NotIn) = false := by cases op <;> first | rfl | exact absurd rfl h2
  cases b <;> simp [behindInMarks, e1, e2]
/-- a comparison as a value; hm: nomark b, or (for in, not in) by with_unfolding_all rfl -/
theorem pe_cmpR {op : CmpOp} {r : R2} (ho : OpR X (compareOp op) r) (ha : PE X a ta) (hb : PE X b tb) (hm : behindInMarks op b = false) : PE X (.Compare a [op] [b] pos) (tOp r ta tb) := by
  intro pins s σ H Q I h
  exact wpAny_Compare1 (binT ha hb I h fun v u s2 x y H2 I2 rx ry q => ho pins s2 σ H2 x y v u Q I2 rx ry q) hm
/-- a reading of a value as a test -/
inductive tTest_I (Q : (Bool → Hp → Prop)) (x : V) (H' : Hp) : Prop
  | mk : ∀ k, x = .bl k → Q k H' → tTest_I Q x H'
def tTest (t : TE) : TT := fun σ H Q => t σ H fun x H' => tTest_I Q x H'
theorem pt_cmpR {op : CmpOp} {r : R2} (ho : OpR X (compareOp op) r) (ha : PE X a ta) (hb : PE X b tb) (hm : behindInMarks op b = false) : PT X (.Compare a [op] [b] pos) (tTest (tOp r ta tb)) := by
  intro pins s σ H Q I h
  refine wpAny_isTrue_Compare1 (thn (ha pins s σ H _ I h) fun v s1 ⟨x, H1, I1, r1, q1⟩ => thn (hb pins s1 σ H1 _ I1 q1) fun u s2 ⟨y, H2, I2, r2, q2⟩ =>
    thn (ho pins s2 σ H2 x y v u _ I2 r1 r2 q2) fun c s3 ⟨z, H3, I3, r3, k, e, q3⟩ => ?_) hm
  subst e
  cases r3
  exact wpAny_truthy_bool ⟨H3, I3, q3⟩
/-- a value's truth by the abstract heap -/
def TruV (K : PySem.W.Frag) (x : V) (H : Hp) (k : Bool) : Prop :=
  match x with
  | .non => k = false
  | .bl b => k = b
  | .int i => k = (i != 0)
  | .str y => y.length ≤ sizeLine ∧ k = ((y.length : Int) != 0)
  | .byt y => y.size ≤ sizeLine ∧ k = ((y.size : Int) != 0)
  | .ref p => (∃ xs, SqL K H p xs ∧ k = !xs.isEmpty) ∨ (∃ xs, SqT K H p xs ∧ k = !xs.isEmpty) ∨ ∃ kvs, H p = some (.dK kvs) ∧ k = !kvs.isEmpty
  | _ => False
theorem isEmpty_kv {κ : Type} {kvs : List (κ × V)} {vs : List (κ × Value)} (r : KV kvs vs) : (!vs.isEmpty) = !kvs.isEmpty := by
  cases r <;> rfl
theorem isEmpty_of {xs : List V} {its : List Value} (r : Vals xs its) : (!its.toArray.isEmpty) = !xs.isEmpty := by
  cases r <;> simp
theorem line63 : (sizeLine : Nat) < 2 ^ 63 := by rw [sizeLine_eq]; decide
theorem tru_ok : TruR X (fun x H Q => ∃ k, TruV X.K x H k ∧ Q k H) := by
  intro pins s σ H x v Q I rx h
  obtain ⟨k, e, q⟩ := h
  have hl := line63
  have hs : sizeLine = 16777216 := sizeLine_eq
  cases x with
  | non =>
    cases rx
    have e' : k = false := e
    subst e'
    exact truthy_none ⟨H, I, q⟩
  | bl b =>
    cases rx
    have e' : k = b := e
    subst e'
    exact wpAny_truthy_bool ⟨H, I, q⟩
  | int i =>
    obtain ⟨t, rfl⟩ := rx
    have e' : k = (i != 0) := e
    subst e'
    exact PySem.P.truthy_int ⟨H, I, q⟩
  | str y =>
    obtain ⟨t, rfl⟩ := rx
    obtain ⟨hy, e'⟩ : y.length ≤ sizeLine ∧ k = ((y.length : Int) != 0) := e
    subst e'
    exact PySem.P.truthy_str (by omega) ⟨H, I.tok _, q⟩
  | byt y =>
    obtain ⟨t, rfl⟩ := rx
    obtain ⟨hy, e'⟩ : y.size ≤ sizeLine ∧ k = ((y.size : Int) != 0) := e
    subst e'
    exact PySem.W.truthy_bytes (by omega) ⟨H, I.tok _, q⟩
  | ref p =>
    cases rx
    have e' : (∃ xs, SqL X.K H p xs ∧ k = !xs.isEmpty) ∨ (∃ xs, SqT X.K H p xs ∧ k = !xs.isEmpty) ∨ ∃ kvs, H p = some (.dK kvs) ∧ k = !kvs.isEmpty := e
    rcases e' with ⟨xs, hx, e'⟩ | ⟨xs, hx, e'⟩ | ⟨kvs, hx, e'⟩
    · subst e'
      obtain ⟨its, r, pl, hz⟩ := I.list hx
      have hlen := r.length
      exact wpAny_truthy_list pl.isList (by simp only [List.size_toArray]; omega) ⟨H, I.tok _, by rw [isEmpty_of r]; exact q⟩
    · subst e'
      obtain ⟨its, r, pl, hz⟩ := I.tuple hx
      have hlen := r.length
      exact truthy_tuple pl (by simp only [List.size_toArray]; omega) ⟨H, I.tok _, by rw [isEmpty_of r]; exact q⟩
    · subst e'
      obtain ⟨hz, hS, vs, r, m⟩ : kvs.length ≤ sizeLine ∧ (p == sysModules) = false ∧ ∃ vs, KV kvs vs ∧ s.heap.DictOf (mixKind X.prog X.w) p vs := I.hok p _ hx
      have hlen : kvs.length = vs.length := Paired.length r
      exact wpAny_truthy_dict hS m (by omega) ⟨H, I.tok _, by rw [isEmpty_kv r]; exact q⟩
  | _ => exact (show False from e).elim
/-- any expression whose test is its value's truth (a name, a call, a subscript, a field ..: he by fun _ => rfl) -/
theorem pt_truth (ha : PE X a ta) (he : ∀ whole, isTrue a X.env whole = (do let v ← whole; standAt a.pos; holding [v] (truthy v))) :
    PT X a (fun σ H Q => ta σ H fun x H' => ∃ k, TruV X.K x H' k ∧ Q k H') := by
  intro pins s σ H Q I h
  exact isTrue_plain (thn (ha pins s σ H _ I h) fun v s1 ⟨x, H1, I1, r1, q1⟩ => tru_ok pins s1 σ H1 x v Q I1 r1 q1) (he _)
theorem op_add_str : OpR X (binaryOp .Add) (fun x y H Q => ∃ i j, x = .str i ∧ y = .str j ∧ i.length + j.length ≤ sizeLine ∧ Q (.str (i ++ j)) H) := by
  intro pins s σ H x y v u Q I rx ry h
  obtain ⟨i, j, rfl, rfl, hz, q⟩ := h
  obtain ⟨t, rfl⟩ := rx
  obtain ⟨t', rfl⟩ := ry
  exact add_str (fun t' tk => ⟨.str (i ++ j), H, I.tok _, ⟨_, rfl⟩, q⟩) hz
theorem vals1 {x : V} {us : List Value} (r : Vals [x] us) : ∃ u, us = [u] ∧ RelV x u := by
  cases r with
  | cons r1 r2 => cases r2; exact ⟨_, rfl, r1⟩
theorem vals2 {x y : V} {us : List Value} (r : Vals [x, y] us) : ∃ u w', us = [u, w'] ∧ RelV x u ∧ RelV y w' := by
  cases r with
  | cons r1 r2 =>
    cases r2 with
    | cons r3 r4 => cases r4; exact ⟨_, _, rfl, r1, r3⟩
theorem call_min2 (hc : X.calm = true) : CallR X (.builtin "min") (fun xs H Q => ∃ i j, xs = [.int i, .int j] ∧ Q (.int (if j < i then j else i)) H) := by
  intro pins s σ H xs us Q I r h
  obtain ⟨i, j, rfl, q⟩ := h
  obtain ⟨u, w', rfl, ⟨t, rfl⟩, ⟨t', rfl⟩⟩ := vals2 r
  refine min_two_ints (I.ok.hd hc) fun h' tk k => ⟨_, H, I.kept k, ?_, q⟩
  by_cases hj : j < i
  · rw [if_pos hj, if_pos hj]; exact ⟨_, rfl⟩
  · rw [if_neg hj, if_neg hj]; exact ⟨_, rfl⟩
theorem call_str_int : CallR X (.type "str") (fun xs H Q => ∃ i, xs = [.int i] ∧ i.natAbs.log2 < 1920 ∧ Q (.str (toString i)) H) := by
  intro pins s σ H xs us Q I r h
  obtain ⟨i, rfl, hz, q⟩ := h
  obtain ⟨u, rfl, t, rfl⟩ := vals1 r
  exact PySem.P.str_of_int hz ⟨.str _, H, I.tok _, ⟨_, rfl⟩, q⟩
end
end L2
namespace L2
open PySem PySem.Spec PyProof.Rows
structure ObjM (h : Heap) (x dx C : Addr) (mA : Str → Option Value) : Prop where
  obj : h.get? x = some (PySem.W.instObj C dx)
  ns : h.Ns1 dx mA
  ne : dx ≠ x
theorem lookIn_ns {h : Heap} {dx : Addr} {mA : Str → Option Value} (n : h.Ns1 dx mA) : ∃ od, h.get? dx = some od ∧ ∀ name, PySem.W.lookIn name od = some (mA name) := by
  obtain ⟨o, es, ep, ho, hd, hk, _, hm⟩ := n
  refine ⟨o, ho, fun name => ?_⟩
  have e := hm name
  unfold nsFind findBy at e
  rw [← Array.find?_toList] at e
  unfold PySem.W.lookIn
  rw [hd]
  dsimp only
  split
  · rename_i y q
    rw [q] at e
    exact congrArg some e
  · rename_i q
    rw [q] at e
    have a : es.toList.any (·.refKey) = false := by
      rw [List.any_eq_false]
      intro y hy
      obtain ⟨z, t, hkey⟩ := hk y (Array.mem_toList_iff.mp hy)
      simp [DictEntry.refKey, hkey]
    have a' : ¬ es.toList.any (·.refKey) = true := by rw [a]; exact Bool.false_ne_true
    rw [if_neg a']
    exact congrArg some e
theorem ObjM.look {h : Heap} {x dx C : Addr} {mA : Str → Option Value} (I : ObjM h x dx C mA) : ∃ od, PySem.W.InstAt h x (PySem.W.instObj C dx) C (some od) ∧ ∀ name, PySem.W.lookIn name od = some (mA name) :=
  let ⟨od, ho, hl⟩ := lookIn_ns I.ns
  ⟨od, ⟨I.obj, rfl, rfl, ho⟩, hl⟩
section
variable {prog : Program} {w : World} {A : Around} {E : Value → Shared → Prop} {s : Shared} {K : PySem.W.Frag} {x dx C f : Addr} {mA : Str → Option Value} {name : Str} {v : Value}
theorem get_map {expr : Bool} {Q : Value → Shared → Prop} (X : K.In s.heap) (I : ObjM s.heap x dx C mA) (hg : PySem.W.plainGet K C name = true) (hh : PySem.W.hasDictIn K C = true)
    (ha : PySem.W.findIn K (.ref C) name = some none) (hv : mA name = some v) (hv' : PySem.W.handedIn v = true) (h : Q v { s with toks := s.toks + 1 }) :
    wpAny (model prog w) A (getAttr (.ref x) name expr) Q E s := by
  obtain ⟨od, J, hl⟩ := I.look
  exact PySem.W.get_value X J (PySem.W.plainGet_of hg).1 (PySem.W.findObj_own hh ha rfl (by rw [hl, hv])) hv' h
theorem get_meth {pl : Sem Bool} {Q : Value × List Value → Shared → Prop} (X : K.In s.heap) (I : ObjM s.heap x dx C mA) (hg : PySem.W.plainGet K C name = true)
    (hf : PySem.W.findIn K (.ref C) name = some (some (.ref f))) (ht : PySem.W.isFn K (.ref f) = true) (hv : mA name = none) (h : Q (.ref f, [.ref x]) s) :
    wpAny (model prog w) A (getMethod (.ref x) name pl) Q E s := by
  obtain ⟨od, J, hl⟩ := I.look
  exact PySem.W.method_fn X J (PySem.W.plainGet_of hg).1 (PySem.W.plainGet_of hg).2 hf (beq_iff_eq.mp ht) (by show (PySem.W.lookIn name od).map (·.isSome) = some false; rw [hl, hv]; rfl) h
theorem set_map {ns : List Str} {Q : Unit → Shared → Prop} (X : K.In s.heap) (I : ObjM s.heap x dx C mA)
    (hs : PySem.W.findIn K (.ref C) "__setattr__" = some (some (.builtin "object.__setattr__"))) (hp : PySem.W.plainOver K C = true) (ht : PySem.W.takerIn K C name = some none) (hh : PySem.W.hasDictIn K C = true)
    (hw : PySem.Within mA ns) (hsz : ns.length ≤ sizeLine)
    (h : ∀ h', ObjM h' x dx C (fun y => if y = name then some v else mA y) → Heap.SameBut dx s.heap h' → Q () { s with heap := h', toks := s.toks + 2 }) :
    wpAny (model prog w) A (setAttr (.ref x) name v) Q E s := by
  obtain ⟨od, J, hl⟩ := I.look
  refine PySem.W.set_plain X J hs (PySem.W.osa_open (s := { s with toks := s.toks + 1 }) (r := none) X J hp ht fun b => ?_)
  obtain ⟨cd, hc, hd'⟩ := PySem.W.any_some hh
  have hx : s.heap.get? x = some ⟨.ref C, some dx, .plain, #[]⟩ := I.obj
  refine wpAny_bind (wpAny_pure (wpAny_bind (wpAny_bind (wpAny_loadPart hx (wpAny_bind (PySem.W.Looks.here (s := { s with toks := s.toks + 1 }) (PySem.W.looks_clsIn X hc) ?_))))))
  rw [hd']
  refine wpAny_pure (a := some dx) (wpAny_bind (wpAny_pure (wpAny_bind ?_)))
  refine wpAny_nsSet1 (s := { s with toks := s.toks + 1 }) I.ns fun h' hn2 hs2 => ?_
  obtain ⟨oD, esD, epD, hoD, hdD, hcD⟩ := hn2.count (PySem.Within.cons name v hw)
  refine wpAny_bind (wpAny_lookBehind hoD (by rw [hdD]; exact pastItsLine_dict (Nat.le_trans hcD (by rw [List.length_cons]; omega))) ?_)
  exact wpAny_pure (h _ ⟨(hs2.2 _ (Ne.symm I.ne)).trans I.obj, hn2, I.ne⟩ hs2)
/-- C(..): the dict at the heap's end, the instance behind it; then its __init__ -/
theorem make_map {R : Result → Shared → Prop} {vs : List Value} {kw : List (Str × Value)} (X : K.In s.heap) (hm : PySem.W.makesIn K C = true)
    (hi : PySem.W.findIn K (.ref C) "__init__" = some (some (.ref f))) (hf : PySem.W.typeIn K (.ref f) = some (.type "function"))
    (h : codeAny (model prog w) (A.under (.builtin "type.__call__" ⟨.ref C :: vs, kw⟩)) (.call (.ref f) ⟨.ref (s.heap.objs.size + 1) :: vs, kw⟩) (PySem.W.InitBack (s.heap.objs.size + 1) R)
      { s with heap := (s.heap.push PySem.W.emptyDict).push (PySem.W.instObj C s.heap.objs.size) }) :
    codeAny (model prog w) A (.call (.ref C) ⟨vs, kw⟩) R s := by
  obtain ⟨hh, g, d, t, os⟩ := s
  exact PySem.W.make_core (PySem.W.makes_of X hm) (PySem.W.looks_findIn X hi) (fun self => PySem.W.bind_fn X self hf) (.inl rfl) h
end
def putF (f : Str) (v : V) : List (Str × V) → List (Str × V)
  | [] => [(f, v)]
  | (g, x) :: r => if g = f then (g, v) :: r else (g, x) :: putF f v r
theorem lookup_putF (f g : Str) (v : V) : ∀ fs : List (Str × V), (putF f v fs).lookup g = if g = f then some v else fs.lookup g
  | [] => by
    show List.lookup g [(f, v)] = _
    by_cases h : g = f
    · have hb : (g == f) = true := beq_iff_eq.mpr h
      simp only [List.lookup, hb, if_pos h]
    · have hb : (g == f) = false := beq_eq_false_iff_ne.mpr h
      simp only [List.lookup, hb, if_neg h]
  | (k, x) :: r => by
    have ih := lookup_putF f g v r
    rw [show putF f v ((k, x) :: r) = (if k = f then (k, v) :: r else (k, x) :: putF f v r) from rfl]
    by_cases hk : k = f
    · rw [if_pos hk]
      by_cases h : g = k
      · have hb : (g == k) = true := beq_iff_eq.mpr h
        simp only [List.lookup, hb, if_pos (h.trans hk)]
      · have hb : (g == k) = false := beq_eq_false_iff_ne.mpr h
        simp only [List.lookup, hb, if_neg (fun e : g = f => h (e.trans hk.symm))]
    · rw [if_neg hk]
      by_cases h : g = k
      · have hb : (g == k) = true := beq_iff_eq.mpr h
        simp only [List.lookup, hb, if_neg (fun e : g = f => hk (h.symm.trans e))]
      · have hb : (g == k) = false := beq_eq_false_iff_ne.mpr h
        simp only [List.lookup, hb]
        exact ih
theorem keys_putF (f : Str) (v : V) : ∀ fs : List (Str × V), f ∈ (putF f v fs).map (·.1) ∧ ∀ g, g ∈ fs.map (·.1) → g ∈ (putF f v fs).map (·.1)
  | [] => ⟨by simp [putF], fun g h => by simp at h⟩
  | (k, x) :: r => by
    obtain ⟨i1, i2⟩ := keys_putF f v r
    rw [show putF f v ((k, x) :: r) = (if k = f then (k, v) :: r else (k, x) :: putF f v r) from rfl]
    by_cases hk : k = f
    · rw [if_pos hk]
      subst hk
      exact ⟨by simp, fun g h => by simpa using h⟩
    · rw [if_neg hk]
      refine ⟨?_, fun g h => ?_⟩
      · rw [List.map_cons]
        exact List.mem_cons_of_mem _ i1
      · rw [List.map_cons] at h ⊢
        rcases List.mem_cons.mp h with e | e
        · exact List.mem_cons.mpr (.inl e)
        · exact List.mem_cons_of_mem _ (i2 g e)
theorem length_putF (f : Str) (v : V) : ∀ fs : List (Str × V), (putF f v fs).length ≤ fs.length + 1
  | [] => by simp [putF]
  | (k, x) :: r => by
    have ih := length_putF f v r
    rw [show putF f v ((k, x) :: r) = (if k = f then (k, v) :: r else (k, x) :: putF f v r) from rfl]
    by_cases hk : k = f
    · rw [if_pos hk, List.length_cons, List.length_cons]; omega
    · rw [if_neg hk, List.length_cons, List.length_cons]; omega
theorem RelO.some_of {v : V} {o : Option Value} (r : RelO (some v) o) : ∃ u, o = some u ∧ RelV v u := by
  cases o with
  | none => exact (show False from r).elim
  | some u => exact ⟨u, rfl, r⟩
theorem RelO.none_of {o : Option Value} (r : RelO none o) : o = none := by
  cases o with
  | none => rfl
  | some u => exact (show False from r).elim
theorem handed_of {v : V} {u : Value} (r : RelV v u) : PySem.W.handedIn u = true := by
  cases v with
  | non => cases (show u = Value.none from r); rfl
  | bl b => cases (show u = Value.bool b from r); rfl
  | int i => obtain ⟨t, e⟩ := (show ∃ t, u = Value.int i t from r); cases e; rfl
  | str x => obtain ⟨t, e⟩ := (show ∃ t, u = Value.str x t from r); cases e; rfl
  | byt b => obtain ⟨t, e⟩ := (show ∃ t, u = Value.bytes b t from r); cases e; rfl
  | flt b => obtain ⟨t, e⟩ := (show ∃ t, u = Value.float b t from r); cases e; rfl
  | ref a => cases (show u = Value.ref a from r); rfl
  | ty n => cases (show u = Value.type n from r); rfl
section
variable {P : Program} {w : World} {H H' : Hp} {h h' : Heap} {a C dx : Addr} {fs fs' : List (Str × V)}
theorem ins_get (hok : HOk P w H h) (e : H a = some (.ins C dx fs)) : ∃ mA, ObjM h a dx C mA ∧ (∀ f, RelO (fs.lookup f) (mA f)) ∧ PySem.Within mA (fs.map (·.1)) ∧ fs.length ≤ 1000 ∧ H dx = some (.own a) := by
  obtain ⟨d, z, ne, ob, mA, n, r, q⟩ := (show ObjOk P w H h a (.ins C dx fs) from hok a _ e)
  exact ⟨mA, ⟨ob, n, ne⟩, r, q, z, d⟩
end
structure Cls (K : PySem.W.Frag) (C : Addr) : Prop where
  pg : PySem.W.plainGet K C Str.empty = true
  hd : PySem.W.hasDictIn K C = true
  po : PySem.W.plainOver K C = true
  sa : PySem.W.findIn K (.ref C) "__setattr__" = some (some (.builtin "object.__setattr__"))
theorem Cls.get {K : PySem.W.Frag} {C : Addr} (c : Cls K C) (f : Str) : PySem.W.plainGet K C f = true := c.pg
/-- no class of it has the name -/
def NoAttr (K : PySem.W.Frag) (C : Addr) (f : Str) : Prop := PySem.W.findIn K (.ref C) f = some none
theorem NoAttr.taker {K : PySem.W.Frag} {C : Addr} {f : Str} (n : NoAttr K C f) : PySem.W.takerIn K C f = some none := by
  unfold PySem.W.takerIn
  rw [show PySem.W.findIn K (.ref C) f = some none from n]
  rfl
/-- a method: a plain def of the class or of one above it -/
structure Meth (K : PySem.W.Frag) (C : Addr) (m : Str) (f : Addr) : Prop where
  at_ : PySem.W.findIn K (.ref C) m = some (some (.ref f))
  fn : PySem.W.isFn K (.ref f) = true
  kp : PySem.W.keepIn K (.ref f) = true
section
variable {X : Cx} {pins : List (Addr × Obj)} {σ : St} {H : Hp} {s : Shared} {a C dx : Addr} {fs : List (Str × V)} {f : Str} {v : V} {A : Around} {E : Value → Shared → Prop}
theorem getattr_ok {b : Bool} {Q : Value → Shared → Prop} (I : Inv X pins σ H s) (e : H a = some (.ins C dx fs)) (c : Cls X.K C) (n : NoAttr X.K C f) (l : fs.lookup f = some v)
    (h : ∀ u s', Inv X pins σ H s' → RelV v u → Q u s') : wpAny (model X.prog X.w) A (getAttr (.ref a) f b) Q E s := by
  obtain ⟨mA, O, r, _, _, _⟩ := ins_get I.hok e
  obtain ⟨u, hu, ru⟩ := RelO.some_of (v := v) (o := mA f) (by rw [← l]; exact r f)
  exact get_map I.kIn O (c.get f) c.hd n hu (handed_of ru) (h u _ (I.tok _) ru)
theorem getmeth_ok {m : Str} {g : Addr} {pl : Sem Bool} {Q : Value × List Value → Shared → Prop} (I : Inv X pins σ H s) (e : H a = some (.ins C dx fs)) (c : Cls X.K C) (k : Meth X.K C m g) (l : fs.lookup m = none)
    (h : Q (.ref g, [.ref a]) s) : wpAny (model X.prog X.w) A (getMethod (.ref a) m pl) Q E s := by
  obtain ⟨mA, O, r, _, _, _⟩ := ins_get I.hok e
  have hn : mA m = none := RelO.none_of (by rw [← l]; exact r m)
  exact get_meth I.kIn O (c.get m) k.at_ k.fn hn h
theorem setattr_ok {y : V} {u : Value} {Q : Unit → Shared → Prop} (I : Inv X pins σ H s) (e : H a = some (.ins C dx fs)) (c : Cls X.K C) (n : NoAttr X.K C f) (hl : fs.length < 1000) (ry : RelV y u)
    (h : ∀ s', Inv X pins σ (upd H a (.ins C dx (putF f y fs))) s' → Q () s') : wpAny (model X.prog X.w) A (setAttr (.ref a) f u) Q E s := by
  obtain ⟨mA, O, r, wi, _, ho⟩ := ins_get I.hok e
  have hz : (fs.map (·.1)).length ≤ sizeLine := by rw [List.length_map, sizeLine_eq]; omega
  refine set_map I.kIn O c.sa c.po n.taker c.hd wi hz fun h' O' sb => h _ ?_
  have hd : ∃ o, h'.get? dx = some o := let ⟨o, _, _, e', _⟩ := O'.ns; ⟨o, e'⟩
  refine I.write (x := a) (e := dx) (by rw [e]; exact True.intro) (.inr ho) (fun b q hb z => (sb.2 b hb).trans z) hd ?_
  refine ⟨by rw [upd_ne O.ne]; exact ho, ?_, O.ne, O'.obj, _, O'.ns, fun g => ?_, fun g hg => ?_⟩
  · have := length_putF f y fs; omega
  · show RelO ((putF f y fs).lookup g) (if g = f then some u else mA g)
    rw [lookup_putF]
    by_cases q : g = f
    · rw [if_pos q, if_pos q]; exact ry
    · rw [if_neg q, if_neg q]; exact r g
  · by_cases q : g = f
    · rw [q]; exact (keys_putF f y fs).1
    · refine (keys_putF f y fs).2 g (wi g fun z => hg ?_)
      show (if g = f then some u else mA g) = none
      rw [if_neg q]; exact z
/-- a new instance, tracked, without attributes -/
theorem Inv.made (I : Inv X pins σ H s) : Inv X pins σ (upd (upd H s.heap.objs.size (.own (s.heap.objs.size + 1))) (s.heap.objs.size + 1) (.ins C s.heap.objs.size []))
    { s with heap := (s.heap.push PySem.W.emptyDict).push (PySem.W.instObj C s.heap.objs.size) } := by
  have e1 : (s.heap.push PySem.W.emptyDict).get? s.heap.objs.size = some PySem.W.emptyDict := Heap.get?_push_size s.heap rfl
  have e2 : ((s.heap.push PySem.W.emptyDict).push (PySem.W.instObj C s.heap.objs.size)).get? (s.heap.objs.size + 1) = some (PySem.W.instObj C s.heap.objs.size) := by
    have := Heap.get?_push_size (s.heap.push PySem.W.emptyDict) (o := PySem.W.instObj C s.heap.objs.size) rfl
    rwa [Heap.size_push] at this
  have e3 : (s.heap.push PySem.W.emptyDict).Ns s.heap.objs.size (fun _ => none) := ⟨PySem.W.emptyDict, #[], _, e1, rfl, (fun e he => absurd he (by simp)), fun _ => rfl⟩
  have I1 := I.laid (a := s.heap.objs.size) (o := .own (s.heap.objs.size + 1)) (h' := s.heap.push PySem.W.emptyDict) (t' := s.toks) (fun b u q => Heap.get?_push_of_some _ q) (Nat.le_refl _) ⟨_, e1⟩
  refine I1.laid (a := s.heap.objs.size + 1) (o := .ins C s.heap.objs.size []) (t' := s.toks) (fun b u q => Heap.get?_push_of_some _ q) (Nat.le_of_eq (Heap.size_push _ _)) ?_
  have ne : s.heap.objs.size ≠ s.heap.objs.size + 1 := Nat.ne_of_lt (Nat.lt_succ_self _)
  refine ⟨by rw [upd_ne ne, upd_same], Nat.zero_le _, ne, e2, fun _ => none, (Heap.Ns1.of_empty e3).at fun o q => Heap.get?_push_of_some _ q, fun _ => True.intro, fun y hy => absurd rfl hy⟩
/-- e.f where nothing but the object is asked: through attributeBase (super) and the last hold -/
theorem attr_of {prog : Program} {w : World} {env : Env} {e : Expr} {f : Str} {pos : Pos} {s : Shared} {Q : Value → Shared → Prop} (hb : attributeBase e f env (eval e env) = eval e env)
    (h : wpAny (model prog w) A (eval e env) (fun o s₁ => wpAny (model prog w) A (getAttr o f true) Q E s₁) E s) : wpAny (model prog w) A (eval (.Attribute e f pos) env) Q E s :=
  Attribute_any_ h (by rw [arm_eval_Attribute, hb])
end
/-- e.f, an attribute of the instance -/
inductive tFld_I (K : PySem.W.Frag) (f : Str) (Q : VK) (x : V) (H1 : Hp) : Prop
  | mk : ∀ a C dx fs v, x = .ref a → H1 a = some (.ins C dx fs) → Cls K C → NoAttr K C f → fs.lookup f = some v → Q v H1 → tFld_I K f Q x H1
def tFld (K : PySem.W.Frag) (ta : TE) (f : Str) : TE := fun σ H Q => ta σ H fun x H1 => tFld_I K f Q x H1
/-- e.f = value -/
inductive sFld_I (K : PySem.W.Frag) (f : Str) (D : Ends) (σ : St) (y : V) (x : V) (H2 : Hp) : Prop
  | mk : ∀ a C dx fs, x = .ref a → H2 a = some (.ins C dx fs) → Cls K C → NoAttr K C f → fs.length < 1000 → D.nx σ (upd H2 a (.ins C dx (putF f y fs))) → sFld_I K f D σ y x H2
def sFld (K : PySem.W.Frag) (ta tv : TE) (f : Str) : TS := fun D σ H => tv σ H fun y H1 => ta σ H1 fun x H2 => sFld_I K f D σ y x H2
section
variable {X : Cx} {o e value : Expr} {f : Str} {pos pos' tpos : Pos} {ta tv : TE}
theorem pe_fld (he : PE X e ta) (hb : attributeBase e f X.env (eval e X.env) = eval e X.env) : PE X (.Attribute e f pos) (tFld X.K ta f) := by
  intro pins s σ H Q I h
  refine attr_of hb (thn (he pins s σ H _ I h) fun u s1 ⟨x, H1, I1, rx, a, C, dx, fs, v, ex, ea, c, n, l, q⟩ => ?_)
  subst ex
  obtain rfl : u = Value.ref a := rx
  exact getattr_ok I1 ea c n l fun u' s2 I2 ru => ⟨v, H1, I2, ru, q⟩
theorem ps_fld (ha : PE X o ta) (hv : PE X value tv) (hs : swapsWith value (some (.Attribute o f pos')) pos.line X.env = pure false) : PS X (.Assign [.Attribute o f pos'] value pos) (sFld X.K ta tv f) := by
  intro pins s σ H D I h
  refine plainObj_wpAny_Assign_Attribute (thn (hv pins s σ H _ I h) fun u s1 ⟨y, H1, I1, ry, q⟩ => thn (ha pins s1 σ H1 _ I1 q) fun ov s2 ⟨x, H2, I2, rx, a, C, dx, fs, ex, ea, c, n, l, q2⟩ => ?_) hs
  subst ex
  obtain rfl : ov = Value.ref a := rx
  exact setattr_ok I2 ea c n l ry fun s3 I3 => ⟨σ, _, I3, q2⟩
end
section
variable {X : Cx} {pins : List (Addr × Obj)} {σ : St} {H : Hp} {s : Shared} {A : Around} {E : Value → Shared → Prop} {Q : Value → Shared → Prop} {c : Value} {b : Bool}
/-- the type of a value, as the fragment's deciders take it; for an instance its class -/
inductive TyOf (K : PySem.W.Frag) (H : Hp) : V → Value → Prop where
  | non : TyOf K H .non (.type "NoneType")
  | bl (x : Bool) : TyOf K H (.bl x) (.type "bool")
  | int (i : Int) : TyOf K H (.int i) (.type "int")
  | str (x : Str) : TyOf K H (.str x) (.type "str")
  | flt (x : UInt64) : TyOf K H (.flt x) (.type "float")
  | lst {a : Addr} {xs : List V} (e : H a = some (.lst xs)) : TyOf K H (.ref a) (.type "list")
  | frz {a : Addr} {o : Obj} {xs : List V} (e : H a = some (.frz o (.lst xs))) : TyOf K H (.ref a) (.type "list")
  | tup {a : Addr} {xs : List V} (e : H a = some (.tup xs)) : TyOf K H (.ref a) (.type "tuple")
  | dK {a : Addr} {kvs : List (Key × V)} (e : H a = some (.dK kvs)) : TyOf K H (.ref a) (.type "dict")
  | dT {a : Addr} {kvs : List (List Key × V)} (e : H a = some (.dT kvs)) : TyOf K H (.ref a) (.type "dict")
  | ins {a C dx : Addr} {fs : List (Str × V)} (e : H a = some (.ins C dx fs)) (cl : Cls K C) (ha : PySem.W.findIn K (.ref C) "__class__" = some (some (.builtin "object.__class__")))
      (hn : PySem.W.specialIn K (.builtin "object.__class__") "__get__" = some (some (.builtin "getset_descriptor.__get__"))) (htk : PySem.W.takesIn K (.builtin "object.__class__") = some true)
      (hm : PySem.W.mroIn K C (.type "object") = some true) : TyOf K H (.ref a) (.ref C)
/-- isinstance(x, c) for one class c, a built-in or an own one: kitOne's answer -/
theorem isinst_ok {x : V} {u t : Value} (I : Inv X pins σ H s) (rx : RelV x u) (ty : TyOf X.K H x t) (e : PySem.W.kitOne X.K t c = some b) (h : ∀ tk, Q (.bool b) { s with toks := tk }) :
    wpAny (model X.prog X.w) A (call (.builtin "isinstance") [u, c]) Q E s := by
  cases ty with
  | non => cases (show u = Value.none from rx); exact PySem.W.kia_one PySem.W.kitx_none I.kIn True.intro e (fun z => nomatch z) h
  | bl y => cases (show u = Value.bool y from rx); exact PySem.W.kia_one PySem.W.kitx_bool I.kIn True.intro e (fun z => nomatch z) h
  | int i => obtain ⟨t, q⟩ := (show ∃ t, u = Value.int i t from rx); cases q; exact PySem.W.kia_one PySem.W.kitx_int I.kIn True.intro e (fun z => nomatch z) h
  | str y => obtain ⟨t, q⟩ := (show ∃ t, u = Value.str y t from rx); cases q; exact PySem.W.kia_one PySem.W.kitx_str I.kIn True.intro e (fun z => nomatch z) h
  | flt y => obtain ⟨t, q⟩ := (show ∃ t, u = Value.float y t from rx); cases q; exact PySem.W.kia_one PySem.W.kitx_float I.kIn True.intro e (fun z => nomatch z) h
  | @lst a xs ea =>
    cases (show u = Value.ref a from rx)
    obtain ⟨_, _, n, _, h1⟩ := (show ObjOk X.prog X.w H s.heap a (.lst xs) from I.hok a _ ea)
    exact PySem.W.kia_one PySem.W.kitx_list I.kIn ⟨_, h1, rfl⟩ e (fun z => nomatch z) h
  | @frz a ob xs ea =>
    cases (show u = Value.ref a from rx)
    obtain ⟨_, _, _, n, _, h1⟩ := (show ObjOk X.prog X.w H s.heap a (.frz ob (.lst xs)) from I.hok a _ ea)
    exact PySem.W.kia_one PySem.W.kitx_list I.kIn ⟨_, h1, rfl⟩ e (fun z => nomatch z) h
  | @tup a xs ea =>
    cases (show u = Value.ref a from rx)
    obtain ⟨_, _, _, p⟩ := (show ObjOk X.prog X.w H s.heap a (.tup xs) from I.hok a _ ea)
    obtain ⟨o, h1, h2, _⟩ := p
    exact PySem.W.kia_one PySem.W.kitx_tuple I.kIn ⟨o, h1, h2⟩ e (fun z => nomatch z) h
  | @dK a kvs ea =>
    cases (show u = Value.ref a from rx)
    obtain ⟨_, _, vs, _, p⟩ := (show ObjOk X.prog X.w H s.heap a (.dK kvs) from I.hok a _ ea)
    obtain ⟨o, es, ep, h1, h2, _⟩ := p
    exact PySem.W.kia_one PySem.W.kitx_dict I.kIn ⟨o, h1, h2.1⟩ e (fun z => nomatch z) h
  | @dT a kvs ea =>
    cases (show u = Value.ref a from rx)
    obtain ⟨_, _, xs, _, o, es, ep, h1, h2, _⟩ := (show ObjOk X.prog X.w H s.heap a (.dT kvs) from I.hok a _ ea)
    exact PySem.W.kia_one PySem.W.kitx_dict I.kIn ⟨o, h1, h2.1⟩ e (fun z => nomatch z) h
  | @ins a C dx fs ea cl ha hn htk hm =>
    cases (show u = Value.ref a from rx)
    obtain ⟨mA, O, _⟩ := ins_get I.hok ea
    obtain ⟨od, J, _⟩ := O.look
    exact PySem.W.kia_one (PySem.W.kitx_own (cl.get _) cl.hd ha hn htk hm) I.kIn J e (fun z => nomatch z) h
end
end L2
namespace L2
open PySem PySem.Spec PyProof.Rows
structure Room (k : Nat) (A : Around) : Prop where
  hd : A.handled = none
  dp : A.depth + 3 * k + 5 < recursionLimit
  un : A.units + 16 * k + 200 < cLine
  gd : A.guards = some []
theorem Room.mono {j k : Nat} {A : Around} (r : Room k A) (h : j ≤ k) : Room j A := ⟨r.hd, by have := r.dp; omega, by have := r.un; omega, r.gd⟩
theorem Room.deeper {k : Nat} {A : Around} (r : Room (k + 1) A) (env : Env) : Room k (A.deeper env) :=
  ⟨r.hd, by have := r.dp; show A.depth + 1 + 3 * k + 5 < _; omega, by have := r.un; show A.units + 3 + 16 * k + 200 < _; omega, r.gd⟩
theorem Room.in1 {k : Nat} {A : Around} (r : Room (k + 1) A) : Room k A.in1 :=
  ⟨r.hd, by have := r.dp; show A.depth + 3 * k + 5 < _; omega, by have := r.un; show A.units + 1 + 16 * k + 200 < _; omega, r.gd⟩
theorem make_depth {A : Around} {C : Addr} {us : List Value} {kw : List (Str × Value)} : (A.under (.builtin "type.__call__" ⟨.ref C :: us, kw⟩)).depth = A.depth + 1 := by
  first | rfl | simp [Around.under, Code.weight, Code.isCreation, Code.isGuard, Code.isCaller, Code.frames, Code.isFrame, guardIds]
theorem make_units {A : Around} {C : Addr} {us : List Value} {kw : List (Str × Value)} : (A.under (.builtin "type.__call__" ⟨.ref C :: us, kw⟩)).units = A.units + 1 := by
  first | rfl | simp [Around.under, Code.cUnits, Code.frames, Code.isFrame]
theorem make_guards {A : Around} {C : Addr} {us : List Value} {kw : List (Str × Value)} (h : A.guards = some []) : (A.under (.builtin "type.__call__" ⟨.ref C :: us, kw⟩)).guards = some [] := by
  first | exact h | simp [Around.under, Code.guards, Code.isGuard, pushGuards, guardIds, h]
theorem Room.make {k : Nat} {A : Around} (r : Room (k + 1) A) (C : Addr) (us : List Value) (kw : List (Str × Value)) : Room k (A.under (.builtin "type.__call__" ⟨.ref C :: us, kw⟩)) :=
  ⟨r.hd, by have := r.dp; rw [make_depth]; omega, by have := r.un; rw [make_units]; omega, make_guards r.gd⟩
theorem Room.depth {k : Nat} {A : Around} (r : Room k A) : A.depth < recursionLimit := by have := r.dp; omega
theorem Room.units {k : Nat} {A : Around} (r : Room k A) : A.units + 64 < cLine := by have := r.un; omega
def tNil : TA := fun _ H Q => Q [] H
def tCons (ta : TE) (tr : TA) : TA := fun σ H Q => ta σ H fun x H1 => tr σ H1 fun xs H2 => Q (x :: xs) H2
section
variable {X : Cx} {e : Expr} {es : List Expr} {te : TE} {t : TA} {pos : Pos}
theorem pa_nil : PA X [] tNil := fun _ _ _ _ H Q I h => Calls.spliced_nil ⟨[], H, I, .nil, h⟩
theorem pa_cons (ha : PE X e te) (hr : PA X es t) (hs : starEach (e :: es) X.env = (false, eval e X.env) :: starEach es X.env := by rfl) : PA X (e :: es) (tCons te t) := by
  intro pos pins s σ H Q I h
  rw [hs]
  show wpAny _ _ (spliced ((false, eval e X.env) :: backTo pos (starEach es X.env))) _ _ s
  refine Calls.spliced_cons (thn (ha pins s σ H _ I h) fun u s1 ⟨x, H1, I1, r1, q1⟩ => ?_)
  exact thn (hr pos pins s1 σ H1 _ I1 q1) fun us s2 ⟨xs, H2, I2, r2, q2⟩ => ⟨x :: xs, H2, I2, .cons r1 r2, q2⟩
/-- a tuple, a list of written items -/
def tTup (t : TA) : TE := fun σ H Q => t σ H fun xs H1 => xs.length ≤ sizeLine ∧ ∀ p, H1 p = none → Q (.ref p) (upd H1 p (.tup xs))
def tLst (t : TA) : TE := fun σ H Q => t σ H fun xs H1 => xs.length ≤ sizeLine ∧ ∀ p, H1 p = none → Q (.ref p) (upd H1 p (.lst xs))
theorem pe_tup {x1} (h : PA X es t) : PE X (.Tuple es x1 pos) (tTup t) := by
  intro pins s σ H Q I hq
  refine wpAny_Tuple_spliced (thn (h pos pins s σ H _ I hq) fun us s1 ⟨xs, H1, I1, r, z, q⟩ => ⟨by rw [← r.length]; exact z, ?_⟩)
  have hf : H1 s1.heap.objs.size = none := I1.hok.fresh (Nat.le_refl _)
  refine ⟨.ref s1.heap.objs.size, upd H1 s1.heap.objs.size (.tup xs), I1.laid (t' := s1.toks) (fun b u e => Heap.get?_push_of_some _ e) (Nat.le_refl _) ?_, rfl, q _ hf⟩
  exact ⟨z, us, r, ⟨_, Heap.get?_push_size _ rfl, rfl, _, rfl⟩⟩
theorem pe_lst (h : PA X es t) : PE X (.List es pos) (tLst t) := by
  intro pins s σ H Q I hq
  refine wpAny_List_spliced (thn (h pos pins s σ H _ I hq) fun us s1 ⟨xs, H1, I1, r, z, q⟩ => ⟨by rw [← r.length]; exact z, ?_⟩)
  have hf : H1 s1.heap.objs.size = none := I1.hok.fresh (Nat.le_refl _)
  refine ⟨.ref s1.heap.objs.size, upd H1 s1.heap.objs.size (.lst xs), I1.laid (t' := s1.toks) (fun b u e => Heap.get?_push_of_some _ e) (Nat.le_refl _) ?_, rfl, q _ hf⟩
  exact ⟨z, us, 0, r, Heap.get?_push_size _ rfl⟩
end
/-- a def's promise: the bound arguments in the parameters' order, the heap, the wanted end, the wanted exception -/
abbrev Sp := List V → Hp → VK → XK → Prop
/-- how an exception lies behind a call (file 08 gives it): the callers' frames, abstract heap and state ahead of the call, the wish, the exception, the state -/
abbrev CXT := List Env → Hp → Shared → XK → Value → Shared → Prop
/-- the state at a call -/
structure Env0 (P : Program) (w : World) (K : PySem.W.Frag) (mg : Str → Option Value) (base : Heap) (A : Around) (outer : List Env) (s : Shared) (H : Hp) : Prop where
  frames : A.frames = some outer
  mod : Mod K mg base
  bs : ∀ b o, base.get? b = some o → s.heap.get? b = some o ∧ H b = none
  bsz : base.objs.size ≤ s.heap.objs.size
  funs : s.heap.FunFrames base outer
  frf : ∀ b ∈ frs outer, H b = none
  hok : HOk P w H s.heap
  bare : AllBare s.gens
/-- a call's end -/
def CE (outer : List Env) (P : Program) (w : World) (H : Hp) (s : Shared) (Q : VK) (u : Value) (s' : Shared) : Prop :=
  ∃ v H', s'.os = s.os ∧ AllBare s'.gens ∧ Un (frs outer) [] H H' s.heap s'.heap ∧ HOk P w H' s'.heap ∧ RelV v u ∧ Q v H'
def CR (CX : CXT) (outer : List Env) (P : Program) (w : World) (H : Hp) (s : Shared) (Q : VK) (E : XK) (r : Result) (s' : Shared) : Prop :=
  match r with
  | .ok (.ret u) => CE outer P w H s Q u s'
  | .ok _ => False
  | .error e => CX outer H s E e s'
structure FnOk (P : Program) (w : World) (K : PySem.W.Frag) (mg : Str → Option Value) (base : Heap) (CX : CXT) (k : Nat) (f : Addr) (fd : FuncData) (ps : List Str) (sp : Sp) : Prop where
  len : ∀ vs H Q E, sp vs H Q E → vs.length = ps.length
  run : ∀ (A : Around) (outer : List Env) (s : Shared) (H : Hp) (args : Args) (us : List Value) (vs : List V) (Q : VK) (E : XK), Room k A → Env0 P w K mg base A outer s H → BindsTo s fd args (ps.zip us) → Vals vs us → sp vs H Q E →
    codeAny (model P w) A (.call (.ref f) args) (CR CX outer P w H s Q E) s
theorem FnOk.mono {P : Program} {w : World} {K : PySem.W.Frag} {mg : Str → Option Value} {base : Heap} {CX : CXT} {j k : Nat} {f : Addr} {fd : FuncData} {ps : List Str} {sp : Sp} (F : FnOk P w K mg base CX j f fd ps sp) (h : j ≤ k) :
    FnOk P w K mg base CX k f fd ps sp := ⟨F.len, fun A outer s H args us vs Q E hr => F.run A outer s H args us vs Q E (hr.mono h)⟩
/-- a weaker promise -/
theorem FnOk.imp {P : Program} {w : World} {K : PySem.W.Frag} {mg : Str → Option Value} {base : Heap} {CX : CXT} {k : Nat} {f : Addr} {fd : FuncData} {ps : List Str} {sp sp' : Sp} (F : FnOk P w K mg base CX k f fd ps sp)
    (h : ∀ vs H Q E, sp' vs H Q E → sp vs H Q E) : FnOk P w K mg base CX k f fd ps sp' :=
  ⟨fun vs H Q E q => F.len vs H Q E (h _ _ _ _ q), fun A outer s H args us vs Q E hr he hb hv hs => F.run A outer s H args us vs Q E hr he hb hv (h _ _ _ _ hs)⟩
theorem Env0.make {P : Program} {w : World} {K : PySem.W.Frag} {mg : Str → Option Value} {base : Heap} {A : Around} {outer : List Env} {s : Shared} {H : Hp} (e : Env0 P w K mg base A outer s H) (C : Addr) (us : List Value) (kw : List (Str × Value)) :
    Env0 P w K mg base (A.under (.builtin "type.__call__" ⟨.ref C :: us, kw⟩)) outer s H := ⟨by first | exact e.frames | (simpa [Around.under, Code.envs, Code.isFrame, pushEnvs] using e.frames), e.mod, e.bs, e.bsz, e.funs, e.frf, e.hok, e.bare⟩
theorem Env0.in1 {P : Program} {w : World} {K : PySem.W.Frag} {mg : Str → Option Value} {base : Heap} {A : Around} {outer : List Env} {s : Shared} {H : Hp} (e : Env0 P w K mg base A outer s H) :
    Env0 P w K mg base A.in1 outer s H := ⟨e.frames, e.mod, e.bs, e.bsz, e.funs, e.frf, e.hok, e.bare⟩
section
variable {X : Cx} {pins : List (Addr × Obj)} {σ : St} {H : Hp} {s s' : Shared}
/-- from a body: what a callee wants -/
theorem Inv.env0 (I : Inv X pins σ H s) : Env0 X.prog X.w X.K X.mg X.base X.A X.stack s H :=
  ⟨I.ok.frames, I.ok.mod, I.bs, Nat.le_trans I.ok.bsz I.sz, I.stack, I.stkFree, I.hok, I.bare⟩
/-- behind a call -/
theorem Inv.after {Q : VK} {u : Value} (I : Inv X pins σ H s) (h : CE X.stack X.prog X.w H s Q u s') : EP X pins σ Q u s' := by
  obtain ⟨v, H', os, bare, un, hok, r, q⟩ := h
  obtain ⟨hh, g, d, t, os'⟩ := s'
  obtain rfl : os' = s.os := os
  exact ⟨v, H', I.call (h' := hh) (g' := g) (d' := d) (t' := t) (ch := []) un hok bare (fun b z => absurd z (by simp)), r, q⟩
end
/-- f(..): the written arguments, then the defaults dvs; E: what is wanted of an exception -/
def tCall (sp : Sp) (dvs : List V) (E : XK) (t : TA) : TE := fun σ H Q => t σ H fun vs H1 => sp (vs ++ dvs) H1 Q E
/-- o.m(..) of an instance of the class at C -/
inductive tMeth_I (C : Addr) (m : Str) (sp : Sp) (dvs : List V) (E : XK) (t : TA) (σ : St) (Q : VK) (x : V) (H1 : Hp) : Prop
  | mk : ∀ a dx fs, x = .ref a → H1 a = some (.ins C dx fs) → fs.lookup m = none → (t σ H1 fun vs H2 => sp (x :: (vs ++ dvs)) H2 Q E) → tMeth_I C m sp dvs E t σ Q x H1
def tMeth (C : Addr) (m : Str) (sp : Sp) (dvs : List V) (E : XK) (ta : TE) (t : TA) : TE := fun σ H Q => ta σ H fun x H1 => tMeth_I C m sp dvs E t σ Q x H1
/-- C(..): a new instance and its dict, then __init__ -/
def tMake (C : Addr) (sp : Sp) (dvs : List V) (E : XK) (t : TA) : TE := fun σ H Q => t σ H fun vs H1 => ∀ x dx, H1 x = none → H1 dx = none → dx ≠ x →
  sp (.ref x :: (vs ++ dvs)) (upd (upd H1 dx (.own x)) x (.ins C dx [])) (fun v H2 => v = .non ∧ Q (.ref x) H2) E
/-- how the parameters are bound: us the positional arguments, kw the keywords' values by name, ds the defaults that fill up -/
def Binds (K : PySem.W.Frag) (fd : FuncData) (ps : List Str) (ds : List Value) : Prop :=
  ∀ (s : Shared) (us : List Value), K.In s.heap → (us ++ ds).length = ps.length → BindsTo s fd ⟨us, []⟩ (ps.zip (us ++ ds))
/-- every parameter is given -/
theorem Binds.all {K : PySem.W.Frag} {fd : FuncData} {ps : List Str} (h : ∀ us : List Value, us.length = ps.length → bindArgs fd ⟨us, []⟩ = pure (ps.zip us)) : Binds K fd ps [] := fun s us _ hl => by
  rw [List.append_nil] at hl ⊢
  exact .of_eq (h us hl)
/-- an exception of a callee reaches what this body wants of exceptions -/
def Passes (CX : CXT) (X : Cx) (E : XK) : Prop := ∀ (pins : List (Addr × Obj)) (σ : St) (H : Hp) (s : Shared) (e : Value) (s' : Shared), Inv X pins σ H s → CX X.stack H s E e s' → X.xe e s'
section
variable {X : Cx} {CX : CXT} {k : Nat} {f C : Addr} {fd : FuncData} {ps : List Str} {sp : Sp} {dvs : List V} {ds : List Value} {E : XK} {x m : Str} {p pos apos : Pos} {e o : Expr} {es : List Expr} {ta : TE} {t : TA}
/-- the callee runs -/
theorem run_fn {pins : List (Addr × Obj)} {σ : St} {H : Hp} {s : Shared} {Q : VK} {us : List Value} {vs : List V} (F : FnOk X.prog X.w X.K X.mg X.base CX k f fd ps sp) (hr : Room k X.A) (hb : Binds X.K fd ps ds) (hd : Vals dvs ds) (hx : Passes CX X E)
    (I : Inv X pins σ H s) (r : Vals vs us) (h : sp (vs ++ dvs) H Q E) : wpAny (model X.prog X.w) X.A (call (.ref f) us) (EP X pins σ Q) X.xe s := by
  have r2 : Vals (vs ++ dvs) (us ++ ds) := r.append hd
  have hl : (us ++ ds).length = ps.length := by rw [← r2.length]; exact F.len _ _ _ _ h
  refine wpAny_call (codeAny_mono (F.run X.A X.stack s H ⟨us, []⟩ (us ++ ds) (vs ++ dvs) Q E hr I.env0 (hb s us I.kIn hl) r2 h) fun r s' hq => ?_)
  cases r with
  | error e => exact hx pins σ H s e s' I hq
  | ok fl =>
    cases fl with
    | ret u => exact I.after hq
    | next => exact False.elim hq
    | brk => exact False.elim hq
    | cont => exact False.elim hq
theorem pe_call (F : FnOk X.prog X.w X.K X.mg X.base CX k f fd ps sp) (hr : Room k X.A) (hg : Gl X x) (hm : X.mg x = some (.ref f)) (hk : PySem.W.keepIn X.K (.ref f) = true) (hb : Binds X.K fd ps ds) (hd : Vals dvs ds) (hx : Passes CX X E)
    (ha : PA X (e :: es) t) (hdb : (x == ("__debug__" : Str)) = false := by decide) (he : starEach (e :: es) X.env = (false, eval e X.env) :: starEach es X.env := by rfl) (hpl : (backTo pos (starEach es X.env)).any (·.1) = false := by rfl) :
    PE X (.Call (.Name x p) (e :: es) [] pos) (tCall sp dvs E t) := by
  intro pins s σ H Q I h
  refine wpAny_Call_Name_kw (ld_glob I hg hm ?_ hdb)
  refine PySem.W.callWith_K (h₀ := X.base) I.ok.mod.kin hk (thn (ha pos pins s σ H _ I h) fun us s1 ⟨vs, H1, I1, r, q⟩ => ⟨I1.kIn, ?_⟩) he hpl
  exact run_fn F hr hb hd hx I1 r q
/-- o.m(e, ..) -/
theorem pe_meth {pl : Sem Bool} (he : PE X o ta) (c : Cls X.K C) (hm : Meth X.K C m f) (F : FnOk X.prog X.w X.K X.mg X.base CX k f fd ps sp) (hr : Room k X.A) (hb : Binds X.K fd ps ds) (hd : Vals dvs ds) (hx : Passes CX X E) (ha : PA X (e :: es) t)
    (hst : starEach (e :: es) X.env = (false, eval e X.env) :: starEach es X.env := by rfl) (hpl : (backTo pos (starEach es X.env)).any (·.1) = false := by rfl)
    (ht : eval (.Call (.Attribute o m apos) (e :: es) [] pos) X.env = (do
      let ov ← eval o X.env
      standAt apos.atName
      let (f, first) ← holding [ov] (getMethod ov m pl)
      callWith pos f first (backTo pos (starEach (e :: es) X.env)) (backToKw pos (keywordEach [] X.env))) := by rfl) :
    PE X (.Call (.Attribute o m apos) (e :: es) [] pos) (tMeth C m sp dvs E ta t) := by
  intro pins s σ H Q I h
  refine PySem.W.methodCall_KW (pl := pl) (thn (he pins s σ H _ I h) fun u s1 ⟨x, H1, I1, rx, a, dx, fs, ex, ea, l, q⟩ => ?_) ht
  subst ex
  obtain rfl : u = Value.ref a := rx
  refine getmeth_ok I1 ea c hm l ?_
  refine PySem.W.callWith_K (first := [.ref a]) (h₀ := X.base) I.ok.mod.kin hm.kp (thn (ha pos pins s1 σ H1 _ I1 q) fun us s2 ⟨vs, H2, I2, r, q2⟩ => ⟨I2.kIn, ?_⟩) hst hpl
  exact run_fn (us := .ref a :: us) (vs := .ref a :: vs) F hr hb hd hx I2 (.cons rfl r) q2
/-- o.m() -/
theorem pe_meth0 {pl : Sem Bool} (he : PE X o ta) (c : Cls X.K C) (hm : Meth X.K C m f) (F : FnOk X.prog X.w X.K X.mg X.base CX k f fd ps sp) (hr : Room k X.A) (hb : Binds X.K fd ps ds) (hd : Vals dvs ds) (hx : Passes CX X E)
    (ht : eval (.Call (.Attribute o m apos) [] [] pos) X.env = (do
      let ov ← eval o X.env
      standAt apos.atName
      let (f, first) ← holding [ov] (getMethod ov m pl)
      callWith pos f first (backTo pos (starEach [] X.env)) (backToKw pos (keywordEach [] X.env))) := by rfl) :
    PE X (.Call (.Attribute o m apos) [] [] pos) (tMeth C m sp dvs E ta tNil) := by
  intro pins s σ H Q I h
  refine PySem.W.methodCall_KW (pl := pl) (thn (he pins s σ H _ I h) fun u s1 ⟨x, H1, I1, rx, a, dx, fs, ex, ea, l, q⟩ => ?_) ht
  subst ex
  obtain rfl : u = Value.ref a := rx
  refine getmeth_ok I1 ea c hm l ?_
  exact PySem.W.callWith_K0 (first := [.ref a]) I1.kIn hm.kp (run_fn (us := [.ref a]) (vs := [.ref a]) F hr hb hd hx I1 (.cons rfl .nil) q)
/-- what a class must have to be made -/
structure Mk (K : PySem.W.Frag) (C f : Addr) : Prop where
  makes : PySem.W.makesIn K C = true
  init : PySem.W.findIn K (.ref C) "__init__" = some (some (.ref f))
  fn : PySem.W.isFn K (.ref f) = true
  kp : PySem.W.keepIn K (.ref C) = true
theorem run_make {pins : List (Addr × Obj)} {σ : St} {H : Hp} {s : Shared} {Q : VK} {us : List Value} {vs : List V} (M : Mk X.K C f) (F : FnOk X.prog X.w X.K X.mg X.base CX k f fd ps sp) (hr : Room (k + 1) X.A) (hb : Binds X.K fd ps ds) (hd : Vals dvs ds)
    (hx : Passes CX X E) (I : Inv X pins σ H s) (r : Vals vs us)
    (h : ∀ x dx, H x = none → H dx = none → dx ≠ x → sp (.ref x :: (vs ++ dvs)) (upd (upd H dx (.own x)) x (.ins C dx [])) (fun v H2 => v = .non ∧ Q (.ref x) H2) E) :
    wpAny (model X.prog X.w) X.A (call (.ref C) us) (EP X pins σ Q) X.xe s := by
  have hq := h (s.heap.objs.size + 1) s.heap.objs.size (I.hok.fresh (Nat.le_succ _)) (I.hok.fresh (Nat.le_refl _)) (Nat.ne_of_lt (Nat.lt_succ_self _))
  have I2 := Inv.made (C := C) I
  have r2 : Vals (V.ref (s.heap.objs.size + 1) :: (vs ++ dvs)) (Value.ref (s.heap.objs.size + 1) :: (us ++ ds)) := .cons rfl (r.append hd)
  have hl : (Value.ref (s.heap.objs.size + 1) :: us ++ ds).length = ps.length := by
    have e := r2.length
    rw [F.len _ _ _ _ hq] at e
    exact e.symm
  refine wpAny_call (make_map (f := f) I.kIn M.makes M.init (beq_iff_eq.mp M.fn) (codeAny_mono (F.run _ X.stack _ _ ⟨Value.ref (s.heap.objs.size + 1) :: us, []⟩ (Value.ref (s.heap.objs.size + 1) :: (us ++ ds)) _ _ E (hr.make C us [])
    (I2.env0.make C us []) (hb _ (Value.ref (s.heap.objs.size + 1) :: us) I2.kIn hl) r2 hq) fun r s' hq' => ?_))
  cases r with
  | error e => exact hx pins σ _ _ e s' I2 hq'
  | ok fl =>
    cases fl with
    | ret u =>
      obtain ⟨v, H', I3, rv, ev, q3⟩ := I2.after hq'
      subst ev
      exact ⟨rv, ⟨V.ref (s.heap.objs.size + 1), H', I3, rfl, q3⟩⟩
    | next => exact False.elim hq'
    | brk => exact False.elim hq'
    | cont => exact False.elim hq'
theorem pe_make0 (M : Mk X.K C f) (F : FnOk X.prog X.w X.K X.mg X.base CX k f fd ps sp) (hr : Room (k + 1) X.A) (hg : Gl X x) (hm : X.mg x = some (.ref C)) (hb : Binds X.K fd ps ds) (hd : Vals dvs ds) (hx : Passes CX X E)
    (hdb : (x == ("__debug__" : Str)) = false := by decide) : PE X (.Call (.Name x p) [] [] pos) (tMake C sp dvs E tNil) := by
  intro pins s σ H Q I h
  refine wpAny_Call_Name_kw (ld_glob I hg hm ?_ hdb)
  exact PySem.W.callWith_K0 I.kIn M.kp (run_make (us := []) M F hr hb hd hx I .nil h)
end
section
variable {X : Cx} {CX : CXT} {k : Nat} {f C : Addr} {fd : FuncData} {ps ks : List Str} {sp : Sp} {E : XK} {x m : Str} {p pos apos kpos : Pos} {e o : Expr} {es : List Expr} {kws : List Keyword} {te ta : TE} {t tk : TA} {nm : Option Str}
variable {g : List Value → List Value → List Value} {gV : List V → List V → List V}
end
/-- names: the parameters first -/
structure FnScope (N P : List Str) (sc : Scope) : Prop where
  kind : sc.kind = .function
  co : sc.isCoroutine = false
  gen : sc.isGenerator = false
  nd : N.Nodup
  pre : N.take P.length = P
  par : ∀ x ∈ P, sc.names.lookup x = some .local ∨ sc.names.lookup x = some .cell
  nofree : ∀ y ∈ sc.names, y.2 ≠ .free
theorem bindL_out {kindOf : Str → Option NameKind} {x : Str} : ∀ {binds : List (Str × Value)} {m : Str → Option Value}, (∀ v, (x, v) ∉ binds) → bindL kindOf binds m x = m x
  | [], _, _ => rfl
  | (n, v) :: r, m, h => by
    unfold bindL
    rw [bindL_out fun w hw => h w (List.mem_cons_of_mem _ hw)]
    split
    · have : x ≠ n := by rintro rfl; exact h v List.mem_cons_self
      simp [this]
    · rfl
theorem bindC_out {kindOf : Str → Option NameKind} {x : Str} : ∀ {binds : List (Str × Value)} {m : Str → Option Value}, (∀ v, (x, v) ∉ binds) → bindC kindOf binds m x = m x
  | [], _, _ => rfl
  | (n, v) :: r, m, h => by
    unfold bindC
    rw [bindC_out fun w hw => h w (List.mem_cons_of_mem _ hw)]
    split
    · rfl
    · have : x ≠ n := by rintro rfl; exact h v List.mem_cons_self
      simp [this]
theorem bindL_get {kindOf : Str → Option NameKind} {x : Str} {v : Value} : ∀ {P : List Str} {vs : List Value} {i : Nat} {m : Str → Option Value}, P.Nodup → P[i]? = some x → vs[i]? = some v → kindOf x = some .local →
    bindL kindOf (P.zip vs) m x = some v
  | [], _, _, _, _, h, _, _ => by simp at h
  | _ :: _, [], _, _, _, _, h, _ => by simp at h
  | p :: P, w :: vs, 0, m, nd, h1, h2, hk => by
    simp at h1 h2; subst h1; subst h2
    show bindL kindOf ((p, w) :: P.zip vs) m p = _
    unfold bindL
    rw [bindL_out fun v hv => (List.nodup_cons.mp nd).1 (List.of_mem_zip hv).1, if_pos hk]
    simp
  | p :: P, w :: vs, i + 1, m, nd, h1, h2, hk => by
    show bindL kindOf ((p, w) :: P.zip vs) m x = _
    unfold bindL
    exact bindL_get (i := i) (List.nodup_cons.mp nd).2 (by simpa using h1) (by simpa using h2) hk
theorem bindC_get {kindOf : Str → Option NameKind} {x : Str} {v : Value} : ∀ {P : List Str} {vs : List Value} {i : Nat} {m : Str → Option Value}, P.Nodup → P[i]? = some x → vs[i]? = some v → kindOf x ≠ some .local →
    bindC kindOf (P.zip vs) m x = some v
  | [], _, _, _, _, h, _, _ => by simp at h
  | _ :: _, [], _, _, _, _, h, _ => by simp at h
  | p :: P, w :: vs, 0, m, nd, h1, h2, hk => by
    simp at h1 h2; subst h1; subst h2
    show bindC kindOf ((p, w) :: P.zip vs) m p = _
    unfold bindC
    rw [bindC_out fun v hv => (List.nodup_cons.mp nd).1 (List.of_mem_zip hv).1, if_neg hk]
    simp
  | p :: P, w :: vs, i + 1, m, nd, h1, h2, hk => by
    show bindC kindOf ((p, w) :: P.zip vs) m x = _
    unfold bindC
    exact bindC_get (i := i) (List.nodup_cons.mp nd).2 (by simpa using h1) (by simpa using h2) hk
/-- the names' values at the entry -/
def start (N : List Str) (vs : List V) : St := vs.map some ++ List.replicate (N.length - vs.length) none
/-- the context of a def's body, at its entry; an exception leaves the frame, then lies as CX says -/
def cxOf (CX : CXT) (P : Program) (w : World) (K : PySem.W.Frag) (mg : Str → Option Value) (base : Heap) (N : List Str) (qual : Str) (scope : Scope) (f : Addr) (cd : Value) (A : Around) (outer : List Env) (s : Shared) (H : Hp) (E : XK) : Cx where
  prog := P
  w := w
  K := K
  mg := mg
  base := base
  A := A.deeper (envOfC qual scope s.heap.objs.size f cd)
  N := N
  s₀ := s
  H₀ := H
  env := envOfC qual scope s.heap.objs.size f cd
  outer := outer
  stack := envOfC qual scope s.heap.objs.size f cd :: outer
  ex := []
  calm := true
  fn := fun _ => true
  pn := []
  xe := fun e s' => wpAny (model P w) (A.deeper (envOfC qual scope s.heap.objs.size f cd)) (leaving (envOfC qual scope s.heap.objs.size f cd) e) (fun _ s'' => CX outer H s E e s'') (fun e' s'' => CX outer H s E e' s'') s'
theorem cell_has {sc : Scope} {n : Nat} {x : Str} (h : sc.names.lookup x = some .cell) : ∃ c, (cellsFrom n sc.names []).lookup x = some c := by
  have q := PySem.W.cellsFrom_some sc.names n [] (.inl h)
  exact Option.isSome_iff_exists.mp q
theorem inv_start {CX : CXT} {P : Program} {w : World} {K : PySem.W.Frag} {mg : Str → Option Value} {base : Heap} {N ps : List Str} {qual : Str} {scope : Scope} {f : Addr} {cd : Value} {A : Around} {outer : List Env} {s s1 : Shared} {H : Hp} {E : XK} {us : List Value} {vs : List V}
    (S : FnScope N ps scope) (hd : A.handled = none) (e0 : Env0 P w K mg base A outer s H) (hl : vs.length = ps.length) (r : Vals vs us)
    (x : InCallC s s.heap.objs.size (bindL (envOfC qual scope s.heap.objs.size f cd).kindOf (ps.zip us) fun _ => none) (cellsFrom (s.heap.objs.size + 1) scope.names []) (bindC (envOfC qual scope s.heap.objs.size f cd).kindOf (ps.zip us) fun _ => none) s1) :
    Inv (cxOf CX P w K mg base N qual scope f cd A outer s H E) [] (start N vs) H s1 := by
  have hpl : ps.length ≤ N.length := by have := congrArg List.length S.pre; rw [List.length_take] at this; omega
  obtain ⟨h1, tk, rfl, hk⟩ := x.done
  have noA : ∀ b : Addr, b ∉ (cxOf CX P w K mg base N qual scope f cd A outer s H E).ex := fun b z => absurd (show b ∈ ([] : List Addr) from z) (by simp)
  refine ⟨⟨e0.mod, S.kind, rfl, rfl, Nat.le_refl _, fun y z c h1 h2 => ?_, fun y hy => ?_, fun y c _ h => ?_, fun _ => hd, Around.frames_deeper e0.frames, .inr ⟨rfl, rfl⟩, fun b z => absurd z (noA b), e0.bs, e0.bsz, fun b _ _ => noA b, fun b z => absurd z (noA b), e0.funs, e0.frf⟩,
    rfl, e0.bare, Un.kept hk, ⟨_, x.toInCall.ns, fun i y v h1 h2 h3 => ?_⟩, fun y c h => ⟨_, x.cell y c h⟩, e0.hok.fresh (Nat.le_refl _), fun y c h => ?_, fun p hp => absurd (show p ∈ ([] : List (Addr × Obj)) from hp) (by simp), e0.hok.kept hk, ?_⟩
  · exact name_of_addr x.apart (PySem.mem_of_lookup h1) (PySem.mem_of_lookup h2)
  · have hy : scope.names.lookup y = some .cell ∨ scope.names.lookup y = some .free := hy
    rcases hy with hy | hy
    · exact cell_has hy
    · exact absurd rfl (S.nofree _ (PySem.mem_of_lookup hy))
  · exact Nat.le_of_lt (x.above y c (PySem.mem_of_lookup h))
  · have hi : i < vs.length := by
      unfold start at h2
      by_cases hi : i < vs.length
      · exact hi
      · rw [List.getElem?_append_right (by simpa using hi)] at h2
        rw [List.getElem?_replicate] at h2
        split at h2 <;> cases h2
    have ha : vs[i]? = some v := by
      unfold start at h2
      rw [List.getElem?_append_left (by simpa using hi), List.getElem?_map] at h2
      cases e : vs[i]? with
      | none => rw [e] at h2; cases h2
      | some a => rw [e] at h2; cases h2; rfl
    obtain ⟨u, hu, rv⟩ := r.get ha
    have hp : ps[i]? = some y := by
      rw [← S.pre, List.getElem?_take_of_lt (by omega)]; exact h1
    have ndP : ps.Nodup := by rw [← S.pre]; exact S.nd.sublist (List.take_sublist _ _)
    refine ⟨u, rv, ?_⟩
    rcases S.par y (List.mem_of_getElem? hp) with k | k
    · exact .inl ⟨k, bindL_get ndP hp hu k⟩
    · obtain ⟨c, e⟩ := cell_has (n := s.heap.objs.size + 1) k
      refine .inr ⟨.inl k, c, e, ?_⟩
      have q := x.cell y c e
      rw [bindC_get ndP hp hu (by show scope.names.lookup y ≠ _; rw [k]; decide)] at q
      exact q
  · exact e0.hok.fresh (Nat.le_of_lt (x.above y c (PySem.mem_of_lookup h)))
  · unfold start
    show _ = N.length
    rw [List.length_append, List.length_map, List.length_replicate]
    omega
/-- THE RULE: a def (or a method) of the text, by its body. The body's reading t is chosen for each entry; it is run at the parameters' values -/
theorem fn_of {CX : CXT} {P : Program} {w : World} {K : PySem.W.Frag} {mg : Str → Option Value} {base : Heap} {k : Nat} {f : Addr} {name qual : Str} {params : Arguments} {body : List Stmt} {scope : Scope} {dV kV doc pm cdv ct oc : Value} {an od : Option Addr}
    {osl : Array (Option Value)} {N ps : List Str} {sp : Sp} (lk : K.lookup f = some ⟨oc, od, .func (PySem.W.fnOf name qual params body scope dV kV doc pm an cdv ct), osl⟩) (hcd : PySem.W.codeIn K cdv qual = true) (S : FnScope N ps scope)
    (len : ∀ vs H Q E, sp vs H Q E → vs.length = ps.length)
    (hbody : ∀ (A : Around) (outer : List Env) (s : Shared) (H : Hp) (vs : List V) (Q : VK) (E : XK), Room k (A.deeper (envOfC qual scope s.heap.objs.size f cdv)) → sp vs H Q E →
      ∃ t, PSs (cxOf CX P w K mg base N qual scope f cdv A outer s H E) body t ∧ t { nx := fun _ H' => Q .non H', rt := Q } (start N vs) H) :
    FnOk P w K mg base CX (k + 1) f (PySem.W.fnOf name qual params body scope dV kV doc pm an cdv ct) ps sp := by
  refine ⟨len, fun A outer s H args us vs Q E hr e0 hb r hsp => ?_⟩
  have hl := len _ _ _ _ hsp
  have KX : K.In s.heap := e0.mod.kin.keeps fun b o e => (e0.bs b o e).1
  have lim : s.heap.NoLimit := e0.mod.nolimit.keeps fun b o e => (e0.bs b o e).1
  have hkind : ∀ y ∈ ps.zip us, scope.names.lookup y.1 = some .local ∨ (scope.names.lookup y.1 = some .cell ∧ ((cellsFrom (s.heap.objs.size + 1) scope.names []).lookup y.1).isSome = true) := fun ⟨n, v⟩ hy => by
    rcases S.par n (List.of_mem_zip hy).1 with q | q
    · exact .inl q
    · exact .inr ⟨q, PySem.W.cellsFrom_some _ _ _ (.inl q)⟩
  refine codeAny_call_function hr.depth (KX _ _ lk) rfl S.co S.gen rfl (PySem.W.codeRec_of KX hcd) (hb _ _ _ _ ?_)
  refine wpAny_newFunctionEnv_cells S.kind hkind fun env he s1 x => ?_
  subst he
  refine ⟨lim.keeps x.toInCall.keep, codeAny_func ?_⟩
  obtain ⟨t, ht, hq⟩ := hbody A outer s H vs Q E (hr.deeper _) hsp
  have I : Inv (cxOf CX P w K mg base N qual scope f cdv A outer s H E) [] (start N vs) H s1 := inv_start S hr.hd e0 hl r x
  refine wpAny_mono (ht [] s1 (start N vs) H _ I hq) (fun fl s' hs => ?_) fun e s' hs => hs
  have fin : ∀ {σ' : St} {H' : Hp} {v : V} {u : Value}, Inv (cxOf CX P w K mg base N qual scope f cdv A outer s H E) [] σ' H' s' → RelV v u → Q v H' → CE outer P w H s Q u s' :=
    fun {σ' H' v u} J rv q => ⟨v, H', J.os, J.bare, J.base, J.hok, rv, q⟩
  cases fl with
  | ret u =>
    obtain ⟨v, σ', H', J, rv, q⟩ := hs
    exact fin J rv q
  | next =>
    obtain ⟨σ', H', J, q⟩ := hs
    exact fin (v := V.non) (u := Value.none) J rfl q
  | brk =>
    obtain ⟨_, _, _, q⟩ := hs
    exact False.elim q
  | cont =>
    obtain ⟨_, _, _, q⟩ := hs
    exact False.elim q
end L2
namespace L2
open PySem PySem.Spec PyProof.Rows
section
variable {X : Cx} {x : Str} {p pos : Pos} {e : Expr} {es : List Expr} {t : TA} {id T : String} {r : List V → Hp → VK → Prop}
def tCB (r : List V → Hp → VK → Prop) (t : TA) : TE := fun σ H Q => t σ H fun vs H1 => r vs H1 Q
/-- f(e, ..), f a built-in function -/
theorem pe_callB (hc : CallR X (.builtin id) r) (hg : Gl X x) (hm : X.mg x = none) (hv : bootBuiltins x = some (.builtin id)) (ha : PA X (e :: es) t) (hn : x ≠ "__name__" := by decide) (hdb : (x == ("__debug__" : Str)) = false := by decide)
    (he : starEach (e :: es) X.env = (false, eval e X.env) :: starEach es X.env := by rfl) (hpl : (backTo pos (starEach es X.env)).any (·.1) = false := by rfl) : PE X (.Call (.Name x p) (e :: es) [] pos) (tCB r t) := by
  intro pins s σ H Q I h
  refine wpAny_Call_Name_kw (ld_blt I hg hm hv ?_ hn hdb)
  exact PyProof.Rows.callWith_builtin1 (thn (ha pos pins s σ H _ I h) fun us s1 ⟨vs, H1, I1, r1, q1⟩ => hc pins s1 σ H1 vs us Q I1 r1 q1) he hpl
/-- T(e, ..), T a built-in type -/
theorem pe_callTy (hc : CallR X (.type T) r) (hg : Gl X x) (hm : X.mg x = none) (hv : bootBuiltins x = some (.type T)) (ha : PA X (e :: es) t) (hn : x ≠ "__name__" := by decide) (hdb : (x == ("__debug__" : Str)) = false := by decide)
    (he : starEach (e :: es) X.env = (false, eval e X.env) :: starEach es X.env := by rfl) (hpl : (backTo pos (starEach es X.env)).any (·.1) = false := by rfl) : PE X (.Call (.Name x p) (e :: es) [] pos) (tCB r t) := by
  intro pins s σ H Q I h
  refine wpAny_Call_Name_kw (ld_blt I hg hm hv ?_ hn hdb)
  exact PyProof.Rows.callWith_type1 (thn (ha pos pins s σ H _ I h) fun us s1 ⟨vs, H1, I1, r1, q1⟩ => hc pins s1 σ H1 vs us Q I1 r1 q1) he hpl
end
end L2
namespace HT
open PySem PyProof.Rows
section
open PySem.SeqAt
open PySem.AutoSeq1 (wpAny_loadPart')
open PySem.MeetsSeq PySem.MeetsSeq2 PySem.MeetsSeq3
end
section
variable {prog : Program} {w : World} {A : Around} {E : Value → Shared → Prop} {s : Shared}
/-- a slice's bound as a place among n (d where it is left out) -/
def sIx (n d : Nat) : Option Int → Nat
  | none => d
  | some v => if v < 0 then (v + (n : Int)).toNat else min v.toNat n
end
end HT
namespace L2
open PySem PySem.Spec PyProof.Rows
abbrev TO := St → Hp → (Option Int → Hp → Prop) → Prop
/-- a slice's part (left out, or an int) -/
def PO (X : Cx) (e : Option Expr) (t : TO) : Prop :=
  ∀ (pins : List (Addr × Obj)) (s : Shared) (σ : St) (H : Hp) (Q : Option Int → Hp → Prop), Inv X pins σ H s → t σ H Q →
    wpAny (model X.prog X.w) X.A (evalPart e X.env) (fun u s' => ∃ o H', Inv X pins σ H' s' ∧ IsPart u o ∧ Q o H') X.xe s
def tNoPart : TO := fun _ H Q => Q none H
inductive tPart_I (Q : (Option Int → Hp → Prop)) (x : V) (H1 : Hp) : Prop
  | mk : ∀ i, x = .int i → Q (some i) H1 → tPart_I Q x H1
def tPart (t : TE) : TO := fun σ H Q => t σ H fun x H1 => tPart_I Q x H1
section
variable {X : Cx} {e : Expr} {te : TE} {lo hi : Option Expr} {tl th : TO} {pos p2 : Pos}
theorem po_none : PO X none tNoPart := by
  intro pins s σ H Q I h
  rw [evalPart_none]
  exact wpAny_pure ⟨none, H, I, .none, h⟩
theorem po_some (h : PE X e te) : PO X (some e) (tPart te) := by
  intro pins s σ H Q I hw
  rw [evalPart_some]
  refine thn (h pins s σ H _ I hw) fun u s1 ⟨x, H1, I1, r1, q1⟩ => ?_
  obtain ⟨i, rfl, q⟩ := q1
  obtain ⟨t, rfl⟩ := r1
  exact ⟨some i, H1, I1, .int i t, q⟩
/-- what a slice of a value is, by values: the slice object stands at sl -/
def SlR (X : Cx) (r : V → Option Int → Option Int → Hp → VK → Prop) : Prop :=
  ∀ (pins : List (Addr × Obj)) (s : Shared) (σ : St) (H : Hp) (x : V) (v vl vu : Value) (lo hi : Option Int) (sl : Addr) (Q : VK), Inv X pins σ H s → RelV x v → s.heap.IsSliceOf sl vl vu .none → IsPart vl lo → IsPart vu hi → r x lo hi H Q →
    ∃ T id, typeLookup (.type T) "__getitem__" = pure (some (.builtin id)) ∧ s.TypeIs v T ∧ wpAny (model X.prog X.w) X.A (getItem v (.ref sl)) (EP X pins σ Q) X.xe s
def tSl (r : V → Option Int → Option Int → Hp → VK → Prop) (te : TE) (tl th : TO) : TE := fun σ H Q => te σ H fun x H1 => tl σ H1 fun l H2 => th σ H2 fun u H3 => r x l u H3 Q
/-- a[lo:hi], any a -/
theorem pe_slice {r : V → Option Int → Option Int → Hp → VK → Prop} (hr : SlR X r) (he : PE X e te) (hl : PO X lo tl) (hu : PO X hi th) : PE X (.Subscript e (.Slice lo hi none p2) pos) (tSl r te tl th) := by
  intro pins s σ H Q I h
  refine Subscript_ (thn (he pins s σ H _ I h) fun v s1 ⟨x, H1, I1, r1, q1⟩ => ?_)
  refine wpAny_Slice (thn (hl pins s1 σ H1 _ I1 q1) fun vl s2 ⟨l, H2, I2, pl, q2⟩ => thn (hu pins s2 σ H2 _ I2 q2) fun vu s3 ⟨u, H3, I3, pu, q3⟩ => ?_)
  rw [evalPart_none]
  refine wpAny_pure ?_
  have I4 : Inv X pins σ H3 { s3 with heap := s3.heap.push { cls := .type "slice", data := .fields #[vl, vu, .none] } } := I3.kept (t' := s3.toks) fun b ob q => Heap.get?_push_of_some _ q
  obtain ⟨T, id, hT, ht, hg⟩ := hr pins { s3 with heap := s3.heap.push { cls := .type "slice", data := .fields #[vl, vu, .none] } } σ H3 x v vl vu l u s3.heap.objs.size Q I4 r1 (Heap.IsSliceOf.new ..) pl pu q3
  show wpAny (model X.prog X.w) X.A (subscriptTail e (.Slice lo hi none p2) v (.ref s3.heap.objs.size)) (EP X pins σ Q) X.xe { s3 with heap := s3.heap.push { cls := .type "slice", data := .fields #[vl, vu, .none] } }
  exact tail_any (ops := [.ref s3.heap.objs.size, v]) ht hT hg (by with_unfolding_all rfl)
/-- the items of xs[lo:hi] -/
def cutV (xs : List V) (lo hi : Option Int) : List V := (xs.drop (HT.sIx xs.length 0 lo)).take (HT.sIx xs.length xs.length hi - HT.sIx xs.length 0 lo)
theorem cutV_length (xs : List V) (lo hi : Option Int) : (cutV xs lo hi).length ≤ xs.length := by
  unfold cutV
  rw [List.length_take, List.length_drop]
  omega
end
end L2
namespace L2
open PySem PySem.Spec PyProof.Rows
/-- the place that an index of any sign means -/
def ixN (n : Nat) (i : Int) : Option Nat := if 0 ≤ i then (if i < n then some i.toNat else none) else if -(n : Int) ≤ i then some (i + n).toNat else none
def atI {α : Type} (xs : List α) (i : Int) : Option α := (ixN xs.length i).bind fun j => xs[j]?
theorem ixN_seq {n : Nat} {i : Int} {j : Nat} (h : ixN n i = some j) : seqIndex? i n = some j ∧ j < n ∧ -(n : Int) ≤ i ∧ i < n := by
  unfold ixN at h
  by_cases h0 : 0 ≤ i
  · rw [if_pos h0] at h
    by_cases h1 : i < n
    · rw [if_pos h1] at h
      have e : i.toNat = j := Option.some.inj h
      exact ⟨by rw [seqIndex_of h0 h1, e], by omega, by omega, h1⟩
    · rw [if_neg h1] at h; cases h
  · rw [if_neg h0] at h
    by_cases h1 : -(n : Int) ≤ i
    · rw [if_pos h1] at h
      have e : (i + n).toNat = j := Option.some.inj h
      exact ⟨by rw [seqIndex_neg (by omega) h1, e], by omega, h1, by omega⟩
    · rw [if_neg h1] at h; cases h
theorem atI_get {α : Type} {xs : List α} {i : Int} {v : α} (h : atI xs i = some v) : ∃ j, seqIndex? i xs.length = some j ∧ xs[j]? = some v ∧ j < xs.length ∧ -(xs.length : Int) ≤ i ∧ i < xs.length := by
  unfold atI at h
  cases e : ixN xs.length i with
  | none => rw [e] at h; cases h
  | some j =>
    rw [e] at h
    obtain ⟨h1, h2, h3, h4⟩ := ixN_seq e
    exact ⟨j, h1, h, h2, h3, h4⟩
theorem atI_nat {α : Type} {xs : List α} {j : Nat} {v : α} (h : xs[j]? = some v) : atI xs (j : Int) = some v := by
  have hj : j < xs.length := (List.getElem?_eq_some_iff.mp h).1
  have e : ixN xs.length (j : Int) = some j := by
    unfold ixN
    rw [if_pos (by omega), if_pos (by omega)]; simp
  unfold atI; rw [e]; exact h
/-- what stands as an index of a plain subscript -/
def PlainIx (b : Expr) : Prop := ∀ o i, subscripted b false o i = operate [o, i] (getItem o i)
/-- a subscript by values -/
def IxR (X : Cx) (r : R2) : Prop :=
  ∀ (value slice : Expr) (pins : List (Addr × Obj)) (s : Shared) (σ : St) (H : Hp) (x y : V) (v u : Value) (Q : VK), Inv X pins σ H s → RelV x v → RelV y u → r x y H Q →
    subscripted slice false v u = operate [v, u] (getItem v u) → wpAny (model X.prog X.w) X.A (subscriptTail value slice v u) (EP X pins σ Q) X.xe s
/-- a call of a builtin's method by values: the receiver, the arguments -/
def MtR (X : Cx) (id : String) (r : V → List V → Hp → VK → Prop) : Prop :=
  ∀ (pins : List (Addr × Obj)) (s : Shared) (σ : St) (H : Hp) (x : V) (xs : List V) (v : Value) (us : List Value) (Q : VK), Inv X pins σ H s → RelV x v → Vals xs us → r x xs H Q →
    wpAny (model X.prog X.w) X.A (call (.builtin id) (v :: us)) (EP X pins σ Q) X.xe s
section
variable {X : Cx} {a b : Expr} {ta tb : TE} {pos : Pos}
/-- a[b] -/
theorem pe_ix {r : R2} (hr : IxR X r) (ha : PE X a ta) (hb : PE X b tb) (hs : PlainIx b) : PE X (.Subscript a b pos) (tOp r ta tb) := by
  intro pins s σ H Q I h
  exact Subscript_ (binT ha hb I h fun v u s2 x y H2 I2 rx ry q => hr a b pins s2 σ H2 x y v u Q I2 rx ry q (hs _ _))
inductive rIxL_I (K : PySem.W.Frag) (x : V) (y : V) (H : Hp) (Q : VK) : Prop
  | mk : ∀ p xs i v, x = .ref p → y = .int i → SqL K H p xs → atI xs i = some v → Q v H → rIxL_I K x y H Q
def rIxL (K : PySem.W.Frag) : R2 := fun x y H Q => rIxL_I K x y H Q
inductive rIxT_I (K : PySem.W.Frag) (x : V) (y : V) (H : Hp) (Q : VK) : Prop
  | mk : ∀ p xs i v, x = .ref p → y = .int i → SqT K H p xs → atI xs i = some v → Q v H → rIxT_I K x y H Q
def rIxT (K : PySem.W.Frag) : R2 := fun x y H Q => rIxT_I K x y H Q
inductive rIxS_I (x : V) (y : V) (H : Hp) (Q : VK) : Prop
  | mk : ∀ z i c, x = .str z → y = .int i → z.length ≤ sizeLine → atI z.cps.toList i = some c → Q (.str ⟨#[c]⟩) H → rIxS_I x y H Q
def rIxS : R2 := fun x y H Q => rIxS_I x y H Q
theorem ix_list : IxR X (rIxL X.K) := by
  intro value slice pins s σ H x y v u Q I rx ry h hs
  obtain ⟨p, xs, i, z, rfl, rfl, hq, he, q⟩ := h
  cases rx
  obtain ⟨t, rfl⟩ := ry
  obtain ⟨its, r, pl, hz⟩ := I.list hq
  obtain ⟨j, h1, h2, h3, h4, h5⟩ := atI_get he
  obtain ⟨w, ew, rw'⟩ := r.get h2
  have hl := r.length
  have hn := line63
  have fin : EP X pins σ Q w s := ⟨z, H, I, rw', q⟩
  by_cases h0 : 0 ≤ i
  · have hj : i.toNat = j := by
      rw [seqIndex_of h0 h5] at h1
      exact Option.some.inj h1
    exact item_listR pl.isList h0 (by omega) (by rw [hj]; simpa using ew) fin hs
  · have hj : (i + (its.toArray.size : Int)).toNat = j := by
      rw [seqIndex_neg (by omega) h4] at h1
      rw [List.size_toArray, ← hl]
      exact Option.some.inj h1
    exact subscriptTail_builtinR (x := w) pl.isList.typeIs slot_list_getitem.lookup
      (wpAny_getItem_list_neg (Q := fun r s' => r = w ∧ EP X pins σ Q r s') pl.isList (by omega) (by rw [List.size_toArray] <;> omega) (by omega) (by rw [hj]; simpa using ew) ⟨rfl, fin⟩) hs
theorem ix_tup : IxR X (rIxT X.K) := by
  intro value slice pins s σ H x y v u Q I rx ry h hs
  obtain ⟨p, xs, i, z, rfl, rfl, hq, he, q⟩ := h
  cases rx
  obtain ⟨t, rfl⟩ := ry
  obtain ⟨its, r, pl, hz⟩ := I.tuple hq
  obtain ⟨j, h1, h2, h3, h4, h5⟩ := atI_get he
  obtain ⟨w, ew, rw'⟩ := r.get h2
  have hl := r.length
  have hn := line63
  have fin : EP X pins σ Q w s := ⟨z, H, I, rw', q⟩
  exact subscriptTail_builtinR (x := w) pl.typeIs slot_tuple_getitem.lookup
    (getItem_tuple (j := j) (Q := fun r s' => r = w ∧ EP X pins σ Q r s') pl (by omega) (by omega) (by rw [List.size_toArray, ← hl]; exact h1) (by simpa using ew) ⟨rfl, fin⟩) hs
theorem ix_str : IxR X rIxS := by
  intro value slice pins s σ H x y v u Q I rx ry h hs
  obtain ⟨z, i, c, rfl, rfl, hz, he, q⟩ := h
  obtain ⟨t, rfl⟩ := rx
  obtain ⟨t', rfl⟩ := ry
  obtain ⟨j, h1, h2, h3, h4, h5⟩ := atI_get he
  have hl : z.cps.toList.length = z.length := by simp [Str.length]
  rw [hl] at h1 h4 h5
  have hn := line63
  exact tail_any (typeIs_str s z t) slot_str_getitem.lookup (getItem_str (c := c) (by
    have e1 : decide (i < -(2 ^ 63 : Int)) = false := decide_eq_false (by omega)
    have e2 : decide (i ≥ 2 ^ 63) = false := decide_eq_false (by omega)
    rw [e1, e2, Bool.or_false]) (by rw [h1]; simpa using h2) ⟨.str ⟨#[c]⟩, H, I.tok _, ⟨_, rfl⟩, q⟩) hs
/-- the list's object behind a store -/
theorem mapSeq_set (its : List Value) (n j : Nat) (u : Value) : Obj.mapSeq (·.setIfInBounds j u) { cls := .type "list", data := .seq its.toArray n } = { cls := .type "list", data := .seq (its.set j u).toArray n } := by
  simp [Obj.mapSeq]
theorem Inv.lst {pins : List (Addr × Obj)} {σ : St} {H : Hp} {s : Shared} {p : Addr} {xs : List V} (I : Inv X pins σ H s) (h : H p = some (.lst xs)) :
    ∃ (its : List Value) (n : Nat), Vals xs its ∧ s.heap.get? p = some { cls := .type "list", data := .seq its.toArray n } ∧ xs.length ≤ sizeLine := by
  obtain ⟨z, its, n, r, e⟩ := I.hok p _ h
  exact ⟨its, n, r, e, z⟩
/-- the list at p is written by an update of its object -/
theorem Inv.lstUpd {pins : List (Addr × Obj)} {σ : St} {H : Hp} {s : Shared} {p : Addr} {xs ys : List V} {its its' : List Value} {n n' : Nat} {f : Obj → Obj} (I : Inv X pins σ H s) (h : H p = some (.lst xs))
    (ho : s.heap.get? p = some { cls := .type "list", data := .seq its.toArray n }) (hf : f { cls := .type "list", data := .seq its.toArray n } = { cls := .type "list", data := .seq its'.toArray n' }) (r : Vals ys its') (hz : ys.length ≤ sizeLine) (t : Nat) :
    Inv X pins σ (upd H p (.lst ys)) { s with heap := s.heap.update p f, toks := t } := by
  have e : (s.heap.update p f).get? p = some { cls := .type "list", data := .seq its'.toArray n' } := by
    rw [Heap.get?_update_self f ho (by rw [hf] <;> rfl), hf]
  refine I.write (x := p) (e := p) (by rw [h]; trivial) (.inl rfl) (fun b u hb q => (Heap.get?_update_other _ _ (Ne.symm hb)).trans q) ⟨_, e⟩ ?_
  exact ⟨hz, its', n', r, e⟩
inductive rSetL_I (o : V) (i : V) (v : V) (H : Hp) (Q : (Hp → Prop)) : Prop
  | mk : ∀ p xs k j, o = .ref p → i = .int k → H p = some (.lst xs) → ixN xs.length k = some j → Q (upd H p (.lst (xs.set j v))) → rSetL_I o i v H Q
def rSetL : V → V → V → Hp → (Hp → Prop) → Prop := fun o i v H Q => rSetL_I o i v H Q
theorem set_list : PSet X rSetL := by
  intro pins s σ H o i v ov iv u Q I ro ri rv h
  obtain ⟨p, xs, k, j, rfl, rfl, hp, hj, q⟩ := h
  cases ro
  obtain ⟨t, rfl⟩ := ri
  obtain ⟨its, n, r, ho, hz⟩ := I.lst hp
  obtain ⟨h1, h2, h3, h4⟩ := ixN_seq hj
  have hl := r.length
  have hn := line63
  have I' : Inv X pins σ (upd H p (.lst (xs.set j v))) { s with heap := s.heap.update p (Obj.mapSeq (·.setIfInBounds j u)) } :=
    I.lstUpd hp ho (mapSeq_set its n j u) (r.set rv j) (by rw [List.length_set]; exact hz) s.toks
  by_cases h0 : 0 ≤ k
  · have hk : k.toNat = j := by
      rw [seqIndex_of h0 h4] at h1
      exact Option.some.inj h1
    exact PySem.W.ki_setAt ho h0 (by omega) (by rw [List.size_toArray, ← hl]; exact h4) (by rw [hk]; exact ⟨_, I', q⟩)
  · have hk : (k + (its.toArray.size : Int)).toNat = j := by
      rw [seqIndex_neg (by omega) h3] at h1
      rw [List.size_toArray, ← hl]
      exact Option.some.inj h1
    exact PySem.W.ki_setBack ho (by omega) (by rw [List.size_toArray, ← hl]; exact h3) (by omega) (by rw [hk]; exact ⟨_, I', q⟩)
theorem slice_bounds (lo hi : Option Int) (n : Nat) : (sliceBounds lo hi none n).1 = ((HT.sIx n 0 lo : Nat) : Int) ∧ (sliceBounds lo hi none n).2.1 = ((HT.sIx n n hi : Nat) : Int) ∧ (sliceBounds lo hi none n).2.2 = 1 := by
  refine ⟨?_, ?_, rfl⟩
  · cases lo with
    | none => simp [sliceBounds, HT.sIx]
    | some i =>
      simp only [sliceBounds, HT.sIx, Option.getD_none, show (1 : Int) > 0 by decide, if_true]
      by_cases h : i < 0
      · simp only [h, if_true] <;> omega
      · simp only [h, if_false] <;> omega
  · cases hi with
    | none => simp [sliceBounds, HT.sIx]
    | some i =>
      simp only [sliceBounds, HT.sIx, Option.getD_none, show (1 : Int) > 0 by decide, if_true]
      by_cases h : i < 0
      · simp only [h, if_true] <;> omega
      · simp only [h, if_false] <;> omega
theorem slicePick_cut (its : List Value) (lo hi : Option Int) : slicePick its.toArray lo hi none = ((its.drop (HT.sIx its.length 0 lo)).take (HT.sIx its.length its.length hi - HT.sIx its.length 0 lo)).toArray := by
  obtain ⟨h1, h2, h3⟩ := slice_bounds lo hi its.toArray.size
  unfold slicePick
  rw [h1, h2, h3]
  simp only [sliceRange_one, pick_run, List.size_toArray] <;> rfl
/-- xs[lo:hi] of a list: a new list -/
inductive rSlL_I (K : PySem.W.Frag) (x : V) (lo : Option Int) (hi : Option Int) (H : Hp) (Q : VK) : Prop
  | mk : ∀ a xs, x = .ref a → SqL K H a xs → (∀ p, H p = none → Q (.ref p) (upd H p (.lst (cutV xs lo hi)))) → rSlL_I K x lo hi H Q
def rSlL (K : PySem.W.Frag) : V → Option Int → Option Int → Hp → VK → Prop := fun x lo hi H Q => rSlL_I K x lo hi H Q
theorem sl_list : SlR X (rSlL X.K) := by
  intro pins s σ H x v vl vu lo hi sl Q I rx hs pl pu h
  obtain ⟨a, xs, rfl, hx, q⟩ := h
  cases rx
  obtain ⟨its, r, ht, hz⟩ := I.list hx
  have hlen := r.length
  refine ⟨"list", _, slot_list_getitem.lookup, ht.isList.typeIs, ?_⟩
  refine wpAny_getItem_list_slice ht.isList hs pl pu .none (by simp) ?_ (by rw [List.size_toArray] <;> omega)
  rw [slicePick_cut, ← hlen]
  refine ⟨.ref s.heap.objs.size, _, I.laid (t' := s.toks) (o := .lst (cutV xs lo hi)) (fun b ob q => Heap.get?_push_of_some _ q) (Nat.le_refl _) ?_, rfl, q _ (I.hok.fresh (Nat.le_refl _))⟩
  exact ⟨Nat.le_trans (cutV_length xs lo hi) hz, _, 0, (r.drop (HT.sIx xs.length 0 lo)).take (HT.sIx xs.length xs.length hi - HT.sIx xs.length 0 lo), Heap.get?_push_size _ rfl⟩
theorem call_len_seq : CallR X (.builtin "len") (fun xs H Q => ∃ p ys, xs = [.ref p] ∧ (SqL X.K H p ys ∨ SqT X.K H p ys) ∧ Q (.int ys.length) H) := by
  intro pins s σ H xs us Q I r h
  obtain ⟨p, ys, rfl, hq, q⟩ := h
  obtain ⟨u, rfl, rx⟩ := vals1 r
  cases rx
  have hn := line63
  rcases hq with hq | hq
  · obtain ⟨its, r', pl, hz⟩ := I.list hq
    have hlen := r'.length
    exact Calls.call_len_list pl.isList (by simp only [List.size_toArray] <;> omega) ⟨.int ys.length, H, I.tok _, ⟨s.toks + 1, by rw [List.size_toArray, hlen]⟩, q⟩
  · obtain ⟨its, r', pl, hz⟩ := I.tuple hq
    have hlen := r'.length
    exact len_tuple pl (by simp only [List.size_toArray] <;> omega) ⟨.int ys.length, H, I.tok _, ⟨s.toks + 1, by rw [List.size_toArray, hlen]⟩, q⟩
theorem call_list_of : CallR X (.type "list") (fun xs H Q => ∃ p ys, xs = [.ref p] ∧ (SqL X.K H p ys ∨ SqT X.K H p ys) ∧ ∀ l, H l = none → Q (.ref l) (upd H l (.lst ys))) := by
  intro pins s σ H xs us Q I r h
  obtain ⟨p, ys, rfl, hq, q⟩ := h
  obtain ⟨u, rfl, rx⟩ := vals1 r
  cases rx
  have fin : ∀ (its : List Value), Vals ys its → ys.length ≤ sizeLine → ∀ (h' : Heap) (c' : Nat), (∀ b o', s.heap.get? b = some o' → h'.get? b = some o') →
      h'.get? s.heap.objs.size = some { cls := .type "list", dict := none, data := .seq its.toArray c', slots := #[] } → EP X pins σ Q (.ref s.heap.objs.size) { s with heap := h' } := fun its r' hz h' c' kp e =>
    ⟨.ref s.heap.objs.size, _, I.laid (t' := s.toks) kp (Nat.le_refl _) (show ObjOk X.prog X.w _ h' _ (.lst ys) from ⟨hz, its, c', r', e⟩), rfl, q _ (I.hok.fresh (Nat.le_refl _))⟩
  rcases hq with hq | hq
  · obtain ⟨its, r', pl, hz⟩ := I.list hq
    have hlen := r'.length
    obtain ⟨o, ho, hc, n, hd⟩ := pl.isList
    exact call_list_seq p (.inl rfl) ho hc hd (fun h' c' kp e => fin its r' hz h' c' kp e) (by simp only [List.size_toArray] <;> omega)
  · obtain ⟨its, r', pl, hz⟩ := I.tuple hq
    have hlen := r'.length
    obtain ⟨o, ho, hc, n, hd⟩ := pl
    exact call_list_seq p (.inr rfl) ho hc hd (fun h' c' kp e => fin its r' hz h' c' kp e) (by simp only [List.size_toArray] <;> omega)
theorem call_tuple_of : CallR X (.type "tuple") (fun xs H Q => ∃ p ys, xs = [.ref p] ∧ ((SqL X.K H p ys ∧ ∀ l, H l = none → Q (.ref l) (upd H l (.tup ys))) ∨ (SqT X.K H p ys ∧ Q (.ref p) H))) := by
  intro pins s σ H xs us Q I r h
  obtain ⟨p, ys, rfl, h⟩ := h
  obtain ⟨u, rfl, rx⟩ := vals1 r
  cases rx
  rcases h with ⟨hq, q⟩ | ⟨hq, q⟩
  · obtain ⟨its, r', pl, hz⟩ := I.list hq
    have hlen := r'.length
    refine call_tuple_list pl.isList (fun h' kp => ?_) (by simp only [List.size_toArray] <;> omega)
    have I1 : Inv X pins σ H { s with heap := h' } := I.kept (t' := s.toks) kp
    have I2 : Inv X pins σ (upd H h'.objs.size (.tup ys)) { s with heap := h'.push { cls := .type "tuple", data := .seq its.toArray } } :=
      I1.laid (t' := s.toks) (fun b o e => Heap.get?_push_of_some _ e) (Nat.le_refl _) (show ObjOk X.prog X.w _ _ _ (.tup ys) from ⟨hz, its, r', IsTup.new _ _⟩)
    exact ⟨.ref h'.objs.size, _, I2, rfl, q _ (I1.hok.fresh (Nat.le_refl _))⟩
  · obtain ⟨its, r', pl, hz⟩ := I.tuple hq
    exact call_tuple_same pl ⟨.ref p, H, I, rfl, q⟩
/-- the value is of that builtin type -/
def tyV (K : PySem.W.Frag) (T : String) (x : V) (H : Hp) : Prop := match x with
  | .str _ => T = "str"
  | .int _ => T = "int"
  | .ref p => (T = "list" ∧ ∃ xs, SqL K H p xs) ∨ (T = "tuple" ∧ ∃ o, K.lookup p = some o ∧ o.cls = .type "tuple" ∧ o.dict = none) ∨
      (T = "dict" ∧ ((∃ kvs, H p = some (.dK kvs)) ∨ ∃ kvs, H p = some (.dT kvs))) ∨ (T = "set" ∧ ∃ S n, H p = some (.set S n))
  | _ => False
theorem tyV_is {pins : List (Addr × Obj)} {σ : St} {H : Hp} {s : Shared} {T : String} {x : V} {v : Value} (I : Inv X pins σ H s) (r : RelV x v) (ty : tyV X.K T x H) :
    s.TypeIs v T ∧ ∀ a, v = .ref a → ∃ ob, s.heap.get? a = some ob ∧ ob.dict = none := by
  cases x with
  | str z =>
    obtain ⟨t, rfl⟩ := r
    cases (show T = "str" from ty)
    exact ⟨typeIs_str s z t, fun _ e => nomatch e⟩
  | int i =>
    obtain ⟨t, rfl⟩ := r
    cases (show T = "int" from ty)
    exact ⟨typeIs_int s i t, fun _ e => nomatch e⟩
  | ref p =>
    cases r
    rcases ty with ⟨rfl, xs, hq⟩ | ⟨rfl, o, hk, hc, hd⟩ | ⟨rfl, hk⟩ | ⟨rfl, S, n, hk⟩
    · obtain ⟨its, _, pl, _⟩ := I.list hq
      refine ⟨pl.isList.typeIs, fun a e => ?_⟩
      cases e
      obtain ⟨o, n, e, c, hd, _⟩ := pl
      exact ⟨o, e, hd⟩
    · refine ⟨⟨o, I.kIn p o hk, hc⟩, fun a e => ?_⟩
      cases e
      exact ⟨o, I.kIn _ o hk, hd⟩
    · have z : ∃ o, s.heap.get? p = some o ∧ o.ExactDict := by
        rcases hk with ⟨kvs, hk⟩ | ⟨kvs, hk⟩
        · obtain ⟨_, _, _, _, o, _, _, e, ex, _⟩ := I.hok p _ hk
          exact ⟨o, e, ex⟩
        · obtain ⟨_, _, _, _, o, _, _, e, ex, _⟩ := I.hok p _ hk
          exact ⟨o, e, ex⟩
      obtain ⟨o, e, ex⟩ := z
      refine ⟨⟨o, e, ex.1⟩, fun a e2 => ?_⟩
      cases e2
      exact ⟨o, e, ex.2.1⟩
    · obtain ⟨o, _, _, _, e, ex, _⟩ := I.hok p _ hk
      refine ⟨⟨o, e, ex.1⟩, fun a e2 => ?_⟩
      cases e2
      exact ⟨o, e, ex.2.1⟩
  | _ => exact False.elim ty
def tBM (K : PySem.W.Frag) (T : String) (r : V → List V → Hp → VK → Prop) (to : TE) (t : TA) : TE := fun σ H Q => to σ H fun x H1 => tyV K T x H1 ∧ t σ H1 fun xs H2 => r x xs H2 Q
variable {o e : Expr} {es : List Expr} {to : TE} {t : TA} {name : Str} {apos cpos : Pos} {T id : String} {r : V → List V → Hp → VK → Prop}
theorem pe_bm (pa : PlainAttrs T) (slot : Slot T name id) (hty : typeOf (.builtin id) = pure (.type "method_descriptor")) (hm : MtR X id r) (ho : PE X o to) (ha : PA X (e :: es) t)
    (hbase : attributeBase o name X.env (eval o X.env) = eval o X.env := by rfl)
    (hfew : ((backTo cpos (starEach (e :: es) X.env)).all (fun x => !x.1) && (backToKw cpos (keywordEach [] X.env)).all (fun x => x.1.isSome)
      && decide ((e :: es).length + ([] : List Keyword).length + (if ([] : List Keyword).isEmpty then 0 else 1) < 30)) = true := by rfl)
    (hline : (apos.endLine == cpos.line) = true := by rfl) (hs : starEach (e :: es) X.env = (false, eval e X.env) :: starEach es X.env := by rfl) (hplain : (backTo cpos (starEach es X.env)).any (·.1) = false := by rfl) :
    PE X (.Call (.Attribute o name apos) (e :: es) [] cpos) (tBM X.K T r to t) := by
  intro pins s σ H Q I h
  refine wpAny_Call_method_late hbase hfew hline rfl (thn (ho pins s σ H _ I h) fun v s1 ⟨x, H1, I1, r1, ty, q1⟩ => ?_)
  obtain ⟨h1, h2⟩ := tyV_is I1 r1 ty
  refine ⟨T, id, pa, slot, hty, h1, h2, ?_⟩
  have hA := ha cpos pins s1 σ H1 _ I1 q1
  rw [hs] at hA ⊢
  refine Calls.callWith_builtin (by show (false || (backTo cpos (starEach es X.env)).any (·.1)) = false; rw [hplain] <;> rfl) (Calls.evalArgs_plain ?_)
  exact thn hA fun us s2 ⟨vs, H2, I2, r2, q2⟩ => hm pins s2 σ H2 x vs v us Q I2 r1 r2 q2
/- xs.append(e), list.index on a module's tuple .. are MtR facts of 06m -/
end
end L2
namespace L2
open PySem PySem.Spec PyProof.Rows
def MtM (X : Cx) (id : String) (r : V → List V → Hp → VK → Prop) : Prop :=
  ∀ (pins : List (Addr × Obj)) (s : Shared) (σ : St) (H : Hp) (x : V) (xs : List V) (v : Value) (us : List Value) (Q : VK), Inv X pins σ H s → RelV x v → Vals xs us → r x xs H Q →
    wpAny (model X.prog X.w) X.A (call (.builtin id) (v :: us)) (EP X pins σ Q) X.xe s
theorem Vals.one : ∀ {x : V} {us : List Value}, Vals [x] us → ∃ u, us = [u] ∧ RelV x u
  | _, _, .cons r .nil => ⟨_, rfl, r⟩
theorem Vals.zero : ∀ {us : List Value}, Vals [] us → us = []
  | _, .nil => rfl
theorem Vals.eraseIdx : ∀ {xs : List V} {us : List Value} (i : Nat), Vals xs us → Vals (xs.eraseIdx i) (us.eraseIdx i)
  | _, _, _, .nil => .nil
  | _, _, 0, .cons _ t => t
  | _, _, i + 1, .cons r t => .cons r (Vals.eraseIdx i t)
section
variable {X : Cx} {pins : List (Addr × Obj)} {σ : St} {H : Hp} {s : Shared} {l b : Addr} {xs ys zs : List V}
theorem Inv.lset {its its' : List Value} {n : Nat} {f : Array Value → Array Value} {t' : Nat} (I : Inv X pins σ H s) (hH : H l = some (.lst xs))
    (e : s.heap.get? l = some { cls := .type "list", data := .seq its.toArray n }) (hf : f its.toArray = its'.toArray) (hv : Vals ys its') (hz : ys.length ≤ sizeLine) :
    Inv X pins σ (upd H l (.lst ys)) { s with heap := s.heap.update l (Obj.mapSeq f), toks := t' } := by
  have q := PySem.IsL.update e f
  rw [hf] at q
  refine I.write (x := l) (e := l) (by rw [hH]; exact trivial) (.inl rfl) (fun b' u hb hu => (Heap.get?_update_other s.heap (Obj.mapSeq f) (Ne.symm hb)).trans hu) ⟨_, q⟩ ?_
  exact ⟨hz, its', _, hv, q⟩
theorem Inv.lnew {its : List Value} {t' : Nat} (I : Inv X pins σ H s) (hv : Vals ys its) (hz : ys.length ≤ sizeLine) :
    Inv X pins σ (upd H s.heap.objs.size (.lst ys)) { s with heap := s.heap.push { cls := .type "list", data := .seq its.toArray }, toks := t' } :=
  I.laid (fun _ _ q => Heap.get?_push_of_some _ q) (Nat.le_refl _) ⟨hz, its, 0, hv, Heap.get?_push_size _ rfl⟩
theorem Inv.fresh (I : Inv X pins σ H s) : H s.heap.objs.size = none := I.hok.fresh (Nat.le_refl _)
theorem Inv.lstM (I : Inv X pins σ H s) (hH : H l = some (.lst xs)) : xs.length ≤ sizeLine ∧ ∃ (its : List Value) (n : Nat), Vals xs its ∧ xs.length = its.length ∧ s.heap.get? l = some { cls := .type "list", data := .seq its.toArray n } := by
  obtain ⟨z, its, n, r, e⟩ := I.hok l _ hH
  exact ⟨z, its, n, r, r.length, e⟩
end
section
variable {X : Cx}
inductive rAppend_I (x : V) (vs : List V) (H : Hp) (Q : VK) : Prop
  | mk : ∀ l xs y, x = .ref l → vs = [y] → H l = some (.lst xs) → xs.length < sizeLine → Q .non (upd H l (.lst (xs ++ [y]))) → rAppend_I x vs H Q
def rAppend : V → List V → Hp → VK → Prop := fun x vs H Q => rAppend_I x vs H Q
theorem mt_append : MtM X "list.append" rAppend := by
  intro pins s σ H x vs v us Q I rx rv h
  obtain ⟨l, xs, y, rfl, rfl, hH, hz, q⟩ := h
  cases rx
  obtain ⟨u, rfl, ru⟩ := rv.one
  obtain ⟨z, its, n, r, hl, e⟩ := I.lstM hH
  refine call_meets F.slot_list_append ⟨_, e, rfl⟩ F.entry_list_append (F.args_list_append_2 _ _) (PySem.list_append l its.toArray n u (by rw [List.size_toArray]; omega)) ⟨e, ?_⟩
  refine ⟨.non, _, I.lset (its' := its ++ [u]) hH e (by simp) (r.append (.cons ru .nil)) ?_, rfl, q⟩
  rw [List.length_append, List.length_singleton]
  omega
inductive rCat_I (x : V) (y : V) (H : Hp) (Q : VK) : Prop
  | mk : ∀ l b xs zs, x = .ref l → y = .ref b → H l = some (.lst xs) → H b = some (.lst zs) → xs.length + zs.length ≤ sizeLine → (∀ p, H p = none → Q (.ref p) (upd H p (.lst (xs ++ zs)))) → rCat_I x y H Q
def rCat : R2 := fun x y H Q => rCat_I x y H Q
theorem op_cat : OpR X (binaryOp .Add) rCat := by
  intro pins s σ H x y v u Q I rx ry h
  obtain ⟨l, b, xs, zs, rfl, rfl, hH, hB, hz, q⟩ := h
  cases rx
  cases ry
  obtain ⟨z, its, n, r, hl, e⟩ := I.lstM hH
  obtain ⟨z2, its2, n2, r2, hl2, e2⟩ := I.lstM hB
  refine PySem.P.add_list e e2 ?_ (by rw [List.size_toArray, List.size_toArray]; omega)
  have ea : its.toArray ++ its2.toArray = (its ++ its2).toArray := by simp
  rw [ea]
  exact ⟨.ref _, _, I.lnew (t' := s.toks) (r.append r2) (by rw [List.length_append]; omega), rfl, q _ I.fresh⟩
end
section
variable {prog : Program} {w : World} {A : Around} {E : Value → Shared → Prop} {s : Shared}
end
section
variable {X : Cx}
end
end L2
namespace L2
open PySem PySem.Spec PyProof.Rows
section
variable {κ : Type} [DecidableEq κ]
def valV (kvs : List (κ × V)) (k : κ) : Option V := (kvs.find? fun kv => decide (kv.1 = k)).map (·.2)
/-- in its place, or at the end -/
def putK (kvs : List (κ × V)) (k : κ) (v : V) : List (κ × V) :=
  if (kvs.any fun kv => decide (kv.1 = k)) = true then kvs.map (fun kv => if kv.1 = k then (kv.1, v) else kv) else kvs ++ [(k, v)]
def dropK (kvs : List (κ × V)) (k : κ) : List (κ × V) := kvs.filter fun kv => decide (kv.1 ≠ k)
theorem valV_pos {p : κ × V} {r : List (κ × V)} {k : κ} (e : p.1 = k) : valV (p :: r) k = some p.2 := by simp [valV, List.find?_cons, e]
theorem valV_neg {p : κ × V} {r : List (κ × V)} {k : κ} (e : ¬ p.1 = k) : valV (p :: r) k = valV r k := by simp [valV, List.find?_cons, e]
theorem valV_any (k : κ) : ∀ kvs : List (κ × V), (kvs.any fun kv => decide (kv.1 = k)) = (valV kvs k).isSome
  | [] => rfl
  | p :: r => by
    rw [List.any_cons]
    by_cases e : p.1 = k
    · simp only [valV_pos e, decide_eq_true e, Bool.true_or, Option.isSome_some]
    · rw [valV_neg e, decide_eq_false e, Bool.false_or]; exact valV_any k r
theorem length_putK (kvs : List (κ × V)) (k : κ) (v : V) : (putK kvs k v).length ≤ kvs.length + 1 := by
  unfold putK
  split
  · rw [List.length_map]; omega
  · rw [List.length_append, List.length_cons, List.length_nil]; omega
theorem putK_new {kvs : List (κ × V)} {k : κ} (v : V) (h : valV kvs k = none) : putK kvs k v = kvs ++ [(k, v)] := by
  unfold putK
  rw [valV_any, h]
  exact if_neg (by decide)
theorem RelO.isSome_eq {o : Option V} {u : Option Value} (r : RelO o u) : o.isSome = u.isSome := by
  cases o with
  | none => cases u with
    | none => rfl
    | some _ => exact (show False from r).elim
  | some _ => cases u with
    | none => exact (show False from r).elim
    | some _ => rfl
theorem RelO.getD {o : Option V} {u : Option Value} {d : V} {d' : Value} (r : RelO o u) (rd : RelV d d') : RelV (o.getD d) (u.getD d') := by
  cases o with
  | none => cases u with
    | none => exact rd
    | some _ => exact (show False from r).elim
  | some _ => cases u with
    | none => exact (show False from r).elim
    | some _ => exact r
/-- raw tables of the same keys -/
theorem KV.val {kvs : List (κ × V)} {vs : List (κ × Value)} (r : KV kvs vs) (k : κ) : RelO (valV kvs k) (valueAt vs k) := by
  unfold KV at r
  induction r with
  | nil => exact True.intro
  | @cons p q ps qs h t ih =>
    obtain ⟨h1, h2⟩ := h
    by_cases e : p.1 = k
    · have e' : q.1 = k := h1.symm.trans e
      have b : valueAt (q :: qs) k = some q.2 := by simp [valueAt, List.find?_cons, e']
      rw [valV_pos e, b]; exact h2
    · have e' : ¬ q.1 = k := fun z => e (h1.trans z)
      have b : valueAt (q :: qs) k = valueAt qs k := by simp [valueAt, List.find?_cons, e']
      rw [valV_neg e, b]; exact ih
theorem KV.any {kvs : List (κ × V)} {vs : List (κ × Value)} (r : KV kvs vs) (k : κ) : (kvs.any fun kv => decide (kv.1 = k)) = vs.any fun kv => decide (kv.1 = k) := by
  unfold KV at r
  induction r with
  | nil => rfl
  | cons h t ih => rw [List.any_cons, List.any_cons, ih, h.1]
theorem KV.repl {kvs : List (κ × V)} {vs : List (κ × Value)} (r : KV kvs vs) (k : κ) {y : V} {u : Value} (ry : RelV y u) :
    KV (kvs.map fun kv => if kv.1 = k then (kv.1, y) else kv) (vs.map fun kv => if kv.1 = k then (kv.1, u) else kv) := by
  unfold KV at r ⊢
  induction r with
  | nil => exact .nil
  | @cons p q ps qs h t ih =>
    rw [List.map_cons, List.map_cons]
    refine .cons ?_ ih
    obtain ⟨h1, h2⟩ := h
    by_cases e : p.1 = k
    · rw [if_pos e, if_pos (h1.symm.trans e)]; exact ⟨h1, ry⟩
    · rw [if_neg e, if_neg (fun z => e (h1.trans z))]; exact ⟨h1, h2⟩
theorem KV.put {kvs : List (κ × V)} {vs : List (κ × Value)} (r : KV kvs vs) (k : κ) {y : V} {u : Value} (ry : RelV y u) : KV (putK kvs k y) (stored vs k u) := by
  unfold putK stored
  rw [r.any k]
  by_cases e : (vs.any fun kv => decide (kv.1 = k)) = true
  · rw [if_pos e, if_pos e]; exact r.repl k ry
  · rw [if_neg e, if_neg e]; exact Paired.snoc r ⟨rfl, ry⟩
theorem KV.drop {kvs : List (κ × V)} {vs : List (κ × Value)} (r : KV kvs vs) (k : κ) : KV (dropK kvs k) (without vs k) := by
  unfold KV at r ⊢
  unfold dropK without
  induction r with
  | nil => exact .nil
  | @cons p q ps qs h t ih =>
    obtain ⟨h1, h2⟩ := h
    rw [List.filter_cons, List.filter_cons]
    by_cases e : p.1 = k
    · have a : ¬ decide (p.1 ≠ k) = true := by simp [e]
      have b : ¬ decide (q.1 ≠ k) = true := by simp [h1.symm.trans e]
      rw [if_neg a, if_neg b]; exact ih
    · have e' : ¬ q.1 = k := fun z => e (h1.trans z)
      have a : decide (p.1 ≠ k) = true := by simp [e]
      have b : decide (q.1 ≠ k) = true := by simp [e']
      rw [if_pos a, if_pos b]; exact .cons ⟨h1, h2⟩ ih
theorem KV.keys {kvs : List (κ × V)} {vs : List (κ × Value)} (r : KV kvs vs) : kvs.map (·.1) = vs.map (·.1) := by
  unfold KV at r
  induction r with
  | nil => rfl
  | cons h t ih => rw [List.map_cons, List.map_cons, ih, h.1]
theorem KV.length {kvs : List (κ × V)} {vs : List (κ × Value)} (r : KV kvs vs) : kvs.length = vs.length := Paired.length r
theorem dropK_le (kvs : List (κ × V)) (k : κ) : (dropK kvs k).length ≤ kvs.length := List.length_filter_le _ _
end
theorem kV_is {P : Program} {w : World} {k : Key} {u : Value} (r : RelV (kV k) u) : (mixKind P w).is k u = true := by
  cases k with
  | inl i => obtain ⟨t, e⟩ := (show ∃ t, u = Value.int i t from r); subst e; exact mixKind_int P w i t
  | inr x => obtain ⟨t, e⟩ := (show ∃ t, u = Value.str x t from r); subst e; exact mixKind_str P w x t
theorem items_are {P : Program} {w : World} : ∀ {ks : List Key} {us : List Value}, Vals (ks.map kV) us → ItemsAre (mixKind P w) ks us
  | [], _, r => by rw [List.map_nil] at r; cases r; exact .nil
  | k :: ks, _, r => by
    rw [List.map_cons] at r
    cases r with
    | cons h t => exact .cons (kV_is h) (items_are t)
/-- raw entries of a dict with tuple keys -/
abbrev KT (H : Hp) : List (List Key × V) → List (List Key × Addr × Value) → Prop := Paired fun p q => p.1 = q.1 ∧ H q.2.1 = some (.tup (p.1.map kV)) ∧ RelV p.2 q.2.2
theorem KT.val {H : Hp} {kvs : List (List Key × V)} {xs : List (List Key × Addr × Value)} (r : KT H kvs xs) (k : List Key) : RelO (valV kvs k) ((atKey xs k).map (·.2)) := by
  induction r with
  | nil => exact True.intro
  | @cons p q ps qs h t ih =>
    obtain ⟨h1, _, h2⟩ := h
    by_cases e : p.1 = k
    · have e' : q.1 = k := h1.symm.trans e
      have b : atKey (q :: qs) k = some q.2 := by simp [atKey, List.find?_cons, e']
      rw [valV_pos e, b]; exact h2
    · have e' : ¬ q.1 = k := fun z => e (h1.trans z)
      have b : atKey (q :: qs) k = atKey qs k := by simp [atKey, List.find?_cons, e']
      rw [valV_neg e, b]; exact ih
theorem KT.repl {H : Hp} {kvs : List (List Key × V)} {xs : List (List Key × Addr × Value)} (r : KT H kvs xs) (k : List Key) {y : V} {u : Value} (ry : RelV y u) :
    KT H (kvs.map fun kv => if kv.1 = k then (kv.1, y) else kv) (xs.map (putAt k u)) := by
  induction r with
  | nil => exact .nil
  | @cons p q ps qs h t ih =>
    rw [List.map_cons, List.map_cons]
    refine .cons ?_ ih
    obtain ⟨h1, h2, h3⟩ := h
    unfold putAt
    by_cases e : p.1 = k
    · rw [if_pos e, if_pos (h1.symm.trans e)]; exact ⟨h1, h2, ry⟩
    · rw [if_neg e, if_neg (fun z => e (h1.trans z))]; exact ⟨h1, h2, h3⟩
theorem KT.put {H : Hp} {kvs : List (List Key × V)} {xs : List (List Key × Addr × Value)} (r : KT H kvs xs) (k : List Key) {b : Addr} {y : V} {u : Value} (hb : H b = some (.tup (k.map kV))) (ry : RelV y u) :
    KT H (putK kvs k y) (storedH xs k b u) := by
  have e : (kvs.any fun kv => decide (kv.1 = k)) = (atKey xs k).isSome := by
    rw [valV_any, (r.val k).isSome_eq, Option.isSome_map]
  unfold putK storedH
  rw [e]
  by_cases q : (atKey xs k).isSome = true
  · rw [if_pos q, if_pos q]; exact r.repl k ry
  · rw [if_neg q, if_neg q]; exact Paired.snoc r ⟨rfl, hb, ry⟩
theorem KT.keeps {H H' : Hp} {kvs : List (List Key × V)} {xs : List (List Key × Addr × Value)} (r : KT H kvs xs) (ht : ∀ b ys, H b = some (.tup ys) → H' b = some (.tup ys)) : KT H' kvs xs :=
  Paired.mapP r fun _ _ z => ⟨z.1, ht _ _ z.2.1, z.2.2⟩
section
variable {P : Program} {w : World} {H : Hp} {h : Heap} {a : Addr}
theorem rd_of {u : HO} (ok : HOk P w H h) (e : Rd H a u) : ObjOk P w H h a u := e.ok ok
theorem dk_rd {kvs : List (Key × V)} (ok : HOk P w H h) (e : Rd H a (.dK kvs)) : kvs.length ≤ sizeLine ∧ (a == sysModules) = false ∧ ∃ vs, KV kvs vs ∧ h.DictOf (mixKind P w) a vs :=
  show ObjOk P w H h a (.dK kvs) from rd_of ok e
theorem dk_of {kvs : List (Key × V)} (ok : HOk P w H h) (e : H a = some (.dK kvs)) : kvs.length ≤ sizeLine ∧ (a == sysModules) = false ∧ ∃ vs, KV kvs vs ∧ h.DictOf (mixKind P w) a vs := dk_rd ok (.inl e)
/-- a tracked tuple of ints and texts is a key -/
theorem key_of {ks : List Key} (ok : HOk P w H h) (e : H a = some (.tup (ks.map kV))) : (tupleKind (mixKind P w)).is h ks a := by
  obtain ⟨_, its, r, o, h1, h2, n, h3⟩ := (show ObjOk P w H h a (.tup (ks.map kV)) from ok a _ e)
  exact ⟨o, its.toArray, n, h1, h2, h3, by simpa using items_are r⟩
theorem dt_rd {kvs : List (List Key × V)} (ok : HOk P w H h) (e : Rd H a (.dT kvs)) : kvs.length ≤ sizeLine ∧ (a == sysModules) = false ∧
    ∃ xs, KT H kvs xs ∧ h.DictOfH (tupleKind (mixKind P w)) a xs := by
  obtain ⟨z, y, xs, r, o, es, ep, h1, h2, h3, h4, h5⟩ := (show ObjOk P w H h a (.dT kvs) from rd_of ok e)
  refine ⟨z, y, xs, r, o, es, ep, h1, h2, h3, h4, fun x hx => ?_, h5⟩
  have all : ∀ {l : List (List Key × V)} {m : List (List Key × Addr × Value)}, KT H l m → ∀ x ∈ m, (tupleKind (mixKind P w)).is h x.1 x.2.1 := by
    intro l m q
    induction q with
    | nil => intro x hx; exact nomatch hx
    | @cons p q ps qs hq t ih =>
      intro x hx
      rcases List.mem_cons.mp hx with e | hx
      · subst e
        exact key_of ok (by rw [← hq.1]; exact hq.2.1)
      · exact ih x hx
  exact all r x hx
theorem dt_of {kvs : List (List Key × V)} (ok : HOk P w H h) (e : H a = some (.dT kvs)) : kvs.length ≤ sizeLine ∧ (a == sysModules) = false ∧
    ∃ xs, KT H kvs xs ∧ h.DictOfH (tupleKind (mixKind P w)) a xs := dt_rd ok (.inl e)
end
/-- what the dict at a holds at the key y -/
def DGet (H : Hp) (a : Addr) (y : V) (r : Option V) : Prop :=
  (∃ kvs k, Rd H a (.dK kvs) ∧ y = kV k ∧ r = valV kvs k) ∨ ∃ kvs k b, Rd H a (.dT kvs) ∧ y = .ref b ∧ H b = some (.tup (k.map kV)) ∧ r = valV kvs k
/-- the heap behind a[y] = v -/
def DPut (H : Hp) (a : Addr) (y v : V) (H' : Hp) : Prop :=
  (∃ kvs k, H a = some (.dK kvs) ∧ y = kV k ∧ kvs.length < sizeLine ∧ H' = upd H a (.dK (putK kvs k v))) ∨
  ∃ kvs k b, H a = some (.dT kvs) ∧ y = .ref b ∧ H b = some (.tup (k.map kV)) ∧ kvs.length < sizeLine ∧ H' = upd H a (.dT (putK kvs k v))
theorem DGet.k {H : Hp} {a : Addr} {kvs : List (Key × V)} {k : Key} (e : H a = some (.dK kvs)) : DGet H a (kV k) (valV kvs k) := .inl ⟨kvs, k, .inl e, rfl, rfl⟩
theorem DGet.t {H : Hp} {a b : Addr} {kvs : List (List Key × V)} {k : List Key} (e : H a = some (.dT kvs)) (eb : H b = some (.tup (k.map kV))) : DGet H a (.ref b) (valV kvs k) := .inr ⟨kvs, k, b, .inl e, rfl, eb, rfl⟩
theorem DPut.k {H : Hp} {a : Addr} {kvs : List (Key × V)} {k : Key} {v : V} (e : H a = some (.dK kvs)) (hl : kvs.length < sizeLine) : DPut H a (kV k) v (upd H a (.dK (putK kvs k v))) := .inl ⟨kvs, k, e, rfl, hl, rfl⟩
theorem DPut.t {H : Hp} {a b : Addr} {kvs : List (List Key × V)} {k : List Key} {v : V} (e : H a = some (.dT kvs)) (eb : H b = some (.tup (k.map kV))) (hl : kvs.length < sizeLine) :
    DPut H a (.ref b) v (upd H a (.dT (putK kvs k v))) := .inr ⟨kvs, k, b, e, rfl, eb, hl, rfl⟩
section
variable {X : Cx} {pins : List (Addr × Obj)} {σ : St} {H : Hp} {s : Shared} {a : Addr} {y v : V} {u r : Value} {o : Option V} {A : Around} {E : Value → Shared → Prop}
theorem Inv.big (I : Inv X pins σ H s) : sysModules < s.heap.objs.size := by
  have h : mainGlobals < s.heap.objs.size := (I.mod.glob.keeps I.bk).lt
  exact Nat.lt_trans (by decide) h
/-- d[y], there -/
theorem d_getItem {Q : Value → Shared → Prop} (hu : A.units + 1 < cLine) (I : Inv X pins σ H s) (g : DGet H a y (some v)) (ry : RelV y u) (h : ∀ w' s', Inv X pins σ H s' → RelV v w' → Q w' s') :
    wpAny (model X.prog X.w) A (getItem (.ref a) u) Q E s := by
  rcases g with ⟨kvs, k, e, ey, l⟩ | ⟨kvs, k, b, e, ey, eb, l⟩
  · subst ey
    obtain ⟨z, hd, vs, rel, dd⟩ := dk_rd I.hok e
    obtain ⟨w', hw, rw'⟩ := RelO.some_of (v := v) (o := valueAt vs k) (by rw [l]; exact rel.val k)
    exact wpAny_getItem_of (kV_is ry) dd.mapOf hw (h w' _ (I.tok _) rw')
  · subst ey
    cases (show u = Value.ref b from ry)
    obtain ⟨z, hd, xs, rel, dd⟩ := dt_rd I.hok e
    obtain ⟨w', hw, rw'⟩ := RelO.some_of (v := v) (o := (atKey xs k).map (·.2)) (by rw [l]; exact rel.val k)
    obtain ⟨p, hp, hp2⟩ := Option.map_eq_some_iff.mp hw
    refine wpAny_getItem_heap (tupleKind_room_in1 hu) (key_of I.hok eb) dd hp ?_
    rw [hp2]
    exact h w' _ (I.tok _) rw'
/-- y in d -/
theorem d_in {Q : Value → Shared → Prop} (hu : A.units + 1 < cLine) (I : Inv X pins σ H s) (g : DGet H a y o) (ry : RelV y u) (h : ∀ s', Inv X pins σ H s' → Q (.bool o.isSome) s') :
    wpAny (model X.prog X.w) A (compareOp .In u (.ref a)) Q E s := by
  rcases g with ⟨kvs, k, e, ey, l⟩ | ⟨kvs, k, b, e, ey, eb, l⟩
  · subst ey
    obtain ⟨z, hd, vs, rel, dd⟩ := dk_rd I.hok e
    refine wpAny_in_of (kV_is ry) hd dd.mapOf ?_
    rw [← (rel.val k).isSome_eq, ← l]
    exact h _ (I.tok _)
  · subst ey
    cases (show u = Value.ref b from ry)
    obtain ⟨z, hd, xs, rel, dd⟩ := dt_rd I.hok e
    refine wpAny_in_heap (tupleKind_room_in1 hu) (key_of I.hok eb) hd dd ?_
    have q := (rel.val k).isSome_eq
    rw [Option.isSome_map] at q
    rw [← q, ← l]
    exact h _ (I.tok _)
theorem d_notIn {Q : Value → Shared → Prop} (hu : A.units + 1 < cLine) (I : Inv X pins σ H s) (g : DGet H a y o) (ry : RelV y u) (h : ∀ s', Inv X pins σ H s' → Q (.bool (!o.isSome)) s') :
    wpAny (model X.prog X.w) A (compareOp .NotIn u (.ref a)) Q E s := by
  rcases g with ⟨kvs, k, e, ey, l⟩ | ⟨kvs, k, b, e, ey, eb, l⟩
  · subst ey
    obtain ⟨z, hd, vs, rel, dd⟩ := dk_rd I.hok e
    refine wpAny_notIn_of (kV_is ry) hd dd.mapOf ?_
    rw [← (rel.val k).isSome_eq, ← l]
    exact h _ (I.tok _)
  · subst ey
    cases (show u = Value.ref b from ry)
    obtain ⟨z, hd, xs, rel, dd⟩ := dt_rd I.hok e
    refine wpAny_notIn_heap (tupleKind_room_in1 hu) (key_of I.hok eb) hd dd ?_
    have q := (rel.val k).isSome_eq
    rw [Option.isSome_map] at q
    rw [← q, ← l]
    exact h _ (I.tok _)
/-- a dict's object is replaced -/
theorem d_write {h' : Heap} {t' : Nat} {ob : HO} (I : Inv X pins σ H s) (mu : Mut (H a)) (hs : Heap.SameBut a s.heap h') (he : ∃ q, h'.get? a = some q) (new : ObjOk X.prog X.w (upd H a ob) h' a ob) :
    Inv X pins σ (upd H a ob) { s with heap := h', toks := t' } :=
  I.write (x := a) (e := a) mu (.inl rfl) (fun b q hb z => (hs.2 b hb).trans z) he new
theorem dk_new {P : Program} {w : World} {H' : Hp} {h' : Heap} {kvs : List (Key × V)} {vs : List (Key × Value)} (z : kvs.length ≤ sizeLine) (hd : (a == sysModules) = false) (rel : KV kvs vs) (dd : h'.DictOf (mixKind P w) a vs) :
    ObjOk P w H' h' a (.dK kvs) := ⟨z, hd, vs, rel, dd⟩
/-- d[y] = v -/
theorem d_setItem {H' : Hp} {Q : Unit → Shared → Prop} (hu : A.units + 1 < cLine) (I : Inv X pins σ H s) (g : DPut H a y v H') (ry : RelV y u) (rv : RelV v r) (h : ∀ s', Inv X pins σ H' s' → Q () s') :
    wpAny (model X.prog X.w) A (setItem (.ref a) u r) Q E s := by
  rcases g with ⟨kvs, k, e, ey, l, eH⟩ | ⟨kvs, k, b, e, ey, eb, l, eH⟩
  · subst ey eH
    obtain ⟨z, hd, vs, rel, dd⟩ := dk_of I.hok e
    have hz : vs.length ≤ sizeLine := by rw [← rel.length]; exact z
    have hl : (putK kvs k v).length ≤ sizeLine := by have := length_putK kvs k v; omega
    refine wpAny_setItem_pairs (hsz := hz) (kV_is ry) dd fun h' dd' hs => h _ ?_
    have he : ∃ q, h'.get? a = some q := let ⟨q, _, _, hq, _⟩ := dd'; ⟨q, hq⟩
    exact d_write I (by rw [e]; exact True.intro) hs he (dk_new hl hd (rel.put k rv) dd')
  · subst ey eH
    cases (show u = Value.ref b from ry)
    obtain ⟨z, hd, xs, rel, dd⟩ := dt_of I.hok e
    have hz : xs.length ≤ sizeLine := by rw [← Paired.length rel]; exact z
    have hl : (putK kvs k v).length ≤ sizeLine := by have := length_putK kvs k v; omega
    refine wpAny_setItem_heap (hsz := hz) (tupleKind_room_in1 hu) (key_of I.hok eb) dd fun h' dd' hs => h _ ?_
    obtain ⟨q, es, ep, hq, h2, h3, h4, _, h5⟩ := dd'
    refine d_write I (by rw [e]; exact True.intro) hs ⟨q, hq⟩ ⟨hl, hd, _, (rel.put k eb rv).keeps fun c ys ec => ?_, q, es, ep, hq, h2, h3, h4, h5⟩
    rw [upd_ne (ne_of ec e (fun z => nomatch z))]
    exact ec
end
section
variable {X : Cx} {pins : List (Addr × Obj)} {σ : St} {H : Hp} {s : Shared} {a : Addr} {kvs : List (Key × V)} {k : Key} {u : Value} {A : Around} {E : Value → Shared → Prop}
/-- d.pop(k[, x]), there -/
theorem d_pop {v : V} {more : List Value} {Q : Value → Shared → Prop} (I : Inv X pins σ H s) (e : H a = some (.dK kvs)) (ry : RelV (kV k) u) (l : valV kvs k = some v) (hm : more = [] ∨ ∃ x, more = [x])
    (h : ∀ w' s', Inv X pins σ (upd H a (.dK (dropK kvs k))) s' → RelV v w' → Q w' s') : wpAny (model X.prog X.w) A (call (.builtin "dict.pop") (.ref a :: u :: more)) Q E s := by
  obtain ⟨z, hd, vs, rel, dd⟩ := dk_of I.hok e
  obtain ⟨w', hw, rw'⟩ := RelO.some_of (v := v) (o := valueAt vs k) (by rw [← l]; exact rel.val k)
  have hp : (keyPart u).isSome = true := by
    cases k with
    | inl i => obtain ⟨t, q⟩ := (show ∃ t, u = Value.int i t from ry); subst q; rfl
    | inr x => obtain ⟨t, q⟩ := (show ∃ t, u = Value.str x t from ry); subst q; rfl
  have ha : argsOk "dict.pop" ⟨.ref a :: u :: more, []⟩ := by
    rcases hm with q | ⟨x, q⟩
    · subst q; exact PySem.F.args_dict_pop_2 _ _
    · subst q; exact PySem.F.args_dict_pop_3 _ _ _
  refine call_meetsIn PySem.F.slot_dict_pop dd.typeIs PySem.F.entry_dict_pop ha (meets_dict_pop_there (mixKind X.prog X.w) a (kV_is ry) more hm hp)
    ⟨vs, w', dd, by rw [← rel.length]; exact z, hw, fun h' dd' hs => h w' _ ?_ rw'⟩
  have he : ∃ q, h'.get? a = some q := let ⟨q, _, _, hq, _⟩ := dd'; ⟨q, hq⟩
  exact d_write I (by rw [e]; exact True.intro) hs he (dk_new (Nat.le_trans (dropK_le kvs k) z) hd (rel.drop k) dd')
/-- d.pop(k, x), not there -/
theorem d_popD {r : Value} {Q : Value → Shared → Prop} (I : Inv X pins σ H s) (e : H a = some (.dK kvs)) (ry : RelV (kV k) u) (l : valV kvs k = none) (h : ∀ s', Inv X pins σ H s' → Q r s') :
    wpAny (model X.prog X.w) A (call (.builtin "dict.pop") [.ref a, u, r]) Q E s := by
  obtain ⟨z, hd, vs, rel, dd⟩ := dk_of I.hok e
  have hn : valueAt vs k = none := RelO.none_of (by rw [← l]; exact rel.val k)
  have hp : (keyPart u).isSome = true := by
    cases k with
    | inl i => obtain ⟨t, q⟩ := (show ∃ t, u = Value.int i t from ry); subst q; rfl
    | inr x => obtain ⟨t, q⟩ := (show ∃ t, u = Value.str x t from ry); subst q; rfl
  exact call_meetsIn PySem.F.slot_dict_pop dd.typeIs PySem.F.entry_dict_pop (PySem.F.args_dict_pop_3 _ _ _) (meets_dict_pop_default (mixKind X.prog X.w) a (kV_is ry) hd hp r) ⟨vs, dd, hn, h _ (I.tok _)⟩
/-- len(d) -/
theorem d_len {Q : Value → Shared → Prop} (I : Inv X pins σ H s) (e : Rd H a (.dK kvs)) (h : ∀ t s', Inv X pins σ H s' → Q (.int kvs.length t) s') : wpAny (model X.prog X.w) A (call (.builtin "len") [.ref a]) Q E s := by
  obtain ⟨z, hd, vs, rel, dd⟩ := dk_rd I.hok e
  refine call_len_dict hd dd (by rw [← rel.length]; rw [sizeLine_eq] at z; omega) ?_
  rw [← rel.length]
  exact h _ _ (I.tok _)
end
/-- the element of a subscription, not a slice -/
def NoSl (i : Expr) : Prop := ∀ ov iv, subscripted i false ov iv = operate [ov, iv] (getItem ov iv)
theorem subD_of {prog : Program} {w : World} {A : Around} {E : Value → Shared → Prop} {s : Shared} {env : Env} {value slice : Expr} {pos : Pos} {T id : String} {Q : Value → Shared → Prop}
    (hl : typeLookup (.type T) "__getitem__" = pure (some (.builtin id))) (hs : NoSl slice)
    (h : wpAny (model prog w) A (eval value env) (fun o s₁ => wpAny (model prog w) A (eval slice env) (fun i s₂ => s₂.TypeIs o T ∧ wpAny (model prog w) A (getItem o i) Q E s₂) E s₁) E s) :
    wpAny (model prog w) A (eval (.Subscript value slice pos) env) Q E s := by
  refine Subscript_ (wpAny_mono h (fun o s₁ h₁ => wpAny_mono h₁ (fun i s₂ h₂ => ?_) fun _ _ x => x) fun _ _ x => x)
  obtain ⟨hT, h₂⟩ := h₂
  unfold subscriptTail
  refine wpAny_bind ?_
  rw [getitemInPython_of_ne hT.not_modules]
  refine wpAny_bind (wpAny_specialOf hT hl ?_)
  have fin : wpAny (model prog w) A (subscripted slice false o i) (fun r s₃ => wpAny (model prog w) A (letTemporaryGo value o r >>= fun _ => pure r) Q E s₃) E s₂ := by
    rw [hs o i]
    exact wpAny_operating (wpAny_mono h₂ (fun r s₃ h₃ => wpAny_bind (wpAny_letTemporaryGo (wpAny_pure h₃))) fun _ _ x => x)
  first
    | exact wpAny_pure (wpAny_bind fin)
    | exact wpAny_bind (wpAny_pure (wpAny_bind fin))
    | exact wpAny_bind fin
theorem dict_typeIs {X : Cx} {pins : List (Addr × Obj)} {σ : St} {H : Hp} {s : Shared} {a : Addr} {y : V} {o : Option V} (I : Inv X pins σ H s) (g : DGet H a y o) : s.TypeIs (.ref a) "dict" := by
  rcases g with ⟨kvs, k, e, _, _⟩ | ⟨kvs, k, b, e, _, _, _⟩
  · obtain ⟨_, _, vs, _, dd⟩ := dk_rd I.hok e
    exact dd.typeIs
  · obtain ⟨_, _, xs, _, dd⟩ := dt_rd I.hok e
    exact dd.typeIs
/-- d[y] -/
inductive tDGet_I (Q : VK) (x : V) (y : V) (H2 : Hp) : Prop
  | mk : ∀ a v, x = .ref a → DGet H2 a y (some v) → Q v H2 → tDGet_I Q x y H2
def tDGet (td ty : TE) : TE := fun σ H Q => td σ H fun x H1 => ty σ H1 fun y H2 => tDGet_I Q x y H2
/-- y in d, y not in d -/
inductive tDIn_I (Q : VK) (y : V) (x : V) (H2 : Hp) : Prop
  | mk : ∀ a o, x = .ref a → DGet H2 a y o → Q (.bl o.isSome) H2 → tDIn_I Q y x H2
def tDIn (ty td : TE) : TE := fun σ H Q => ty σ H fun y H1 => td σ H1 fun x H2 => tDIn_I Q y x H2
inductive tDNotIn_I (Q : VK) (y : V) (x : V) (H2 : Hp) : Prop
  | mk : ∀ a o, x = .ref a → DGet H2 a y o → Q (.bl (!o.isSome)) H2 → tDNotIn_I Q y x H2
def tDNotIn (ty td : TE) : TE := fun σ H Q => ty σ H fun y H1 => td σ H1 fun x H2 => tDNotIn_I Q y x H2
/-- d[y] = v -/
inductive sDPut_I (D : Ends) (σ : St) (v : V) (x : V) (y : V) (H3 : Hp) : Prop
  | mk : ∀ a H4, x = .ref a → DPut H3 a y v H4 → D.nx σ H4 → sDPut_I D σ v x y H3
def sDPut (td ty tv : TE) : TS := fun D σ H => tv σ H fun v H1 => td σ H1 fun x H2 => ty σ H2 fun y H3 => sDPut_I D σ v x y H3
section
variable {X : Cx} {o i e value : Expr} {pos pos' tpos : Pos} {td ty tv : TE}
theorem pe_dget (hu : X.A.units + 1 < cLine) (ho : PE X o td) (hi : PE X i ty) (hs : NoSl i) : PE X (.Subscript o i pos) (tDGet td ty) := by
  intro pins s σ H Q I h
  refine subD_of PySem.F.slot_dict_getitem.lookup hs (thn (ho pins s σ H _ I h) fun u s1 ⟨x, H1, I1, rx, q1⟩ => thn (hi pins s1 σ H1 _ I1 q1) fun iv s2 ⟨y, H2, I2, ry, a, v, ex, g, q2⟩ => ?_)
  subst ex
  obtain rfl : u = Value.ref a := rx
  exact ⟨dict_typeIs I2 g, d_getItem hu I2 g ry fun w' s3 I3 rw' => ⟨v, H2, I3, rw', q2⟩⟩
theorem pc_din (hu : X.A.units + 1 < cLine) (hi : PE X i ty) (ho : PE X o td) : PC X .In i o (tDIn ty td) := by
  intro pins s σ H Q I h
  refine thn (hi pins s σ H _ I h) fun iv s1 ⟨y, H1, I1, ry, q1⟩ => thn (ho pins s1 σ H1 _ I1 q1) fun u s2 ⟨x, H2, I2, rx, a, ov, ex, g, q2⟩ => ?_
  subst ex
  obtain rfl : u = Value.ref a := rx
  exact d_in hu I2 g ry fun s3 I3 => ⟨.bl ov.isSome, H2, I3, rfl, q2⟩
theorem pc_dnotin (hu : X.A.units + 1 < cLine) (hi : PE X i ty) (ho : PE X o td) : PC X .NotIn i o (tDNotIn ty td) := by
  intro pins s σ H Q I h
  refine thn (hi pins s σ H _ I h) fun iv s1 ⟨y, H1, I1, ry, q1⟩ => thn (ho pins s1 σ H1 _ I1 q1) fun u s2 ⟨x, H2, I2, rx, a, ov, ex, g, q2⟩ => ?_
  subst ex
  obtain rfl : u = Value.ref a := rx
  exact d_notIn hu I2 g ry fun s3 I3 => ⟨.bl (!ov.isSome), H2, I3, rfl, q2⟩
theorem ps_dput (hu : X.A.units + 1 < cLine) (ho : PE X o td) (hi : PE X i ty) (hv : PE X value tv) (hs : swapsWith value (some (.Subscript o i pos')) pos.line X.env = pure false) :
    PS X (.Assign [.Subscript o i pos'] value pos) (sDPut td ty tv) := by
  intro pins s σ H D I h
  refine wpAny_Assign_Subscript (thn (hv pins s σ H _ I h) fun r s1 ⟨v, H1, I1, rv, q1⟩ => thn (ho pins s1 σ H1 _ I1 q1) fun u s2 ⟨x, H2, I2, rx, q2⟩ => thn (hi pins s2 σ H2 _ I2 q2) fun iv s3 ⟨y, H3, I3, ry, a, H4, ex, g, q3⟩ => ?_) hs
  subst ex
  obtain rfl : u = Value.ref a := rx
  exact d_setItem hu I3 g ry rv fun s4 I4 => ⟨σ, H4, I4, q3⟩
end
theorem dk_empty {P : Program} {w : World} {H : Hp} (h : Heap) (hb : sysModules < h.objs.size) : ObjOk P w H (h.push { cls := .type "dict", data := .dict #[] }) h.objs.size (.dK []) :=
  ⟨Nat.zero_le _, beq_eq_false_iff_ne.mpr (Ne.symm (Nat.ne_of_lt hb)), [], .nil, Heap.DictOf.new h⟩
/-- {}, to be a dict of the kind that is wanted -/
def tDNewK : TE := fun _ H Q => ∀ p, H p = none → Q (.ref p) (upd H p (.dK []))
section
variable {X : Cx} {pos : Pos}
theorem pe_dnewK : PE X (.Dict [] [] pos) tDNewK := fun pins s σ H Q I h =>
  wpAny_Dict_empty ⟨.ref s.heap.objs.size, _, I.laid (a := s.heap.objs.size) (o := .dK []) (t' := s.toks) (fun _ _ q => Heap.get?_push_of_some _ q) (Nat.le_refl _) (dk_empty s.heap I.big), rfl, h _ (I.hok.fresh (Nat.le_refl _))⟩
end
/-- a method call o.m(e) of a built-in, with one argument: what must be seen of the text -/
structure M1 (X : Cx) (o : Expr) (m : Str) (apos : Pos) (e : Expr) (cpos : Pos) : Prop where
  base : attributeBase o m X.env (eval o X.env) = eval o X.env
  few : ((backTo cpos (starEach [e] X.env)).all (fun x => !x.1) && (backToKw cpos (keywordEach [] X.env)).all (fun x => x.1.isSome)
    && decide (([e] : List Expr).length + ([] : List Keyword).length + (if ([] : List Keyword).isEmpty then 0 else 1) < 30)) = true
  line : (apos.endLine == cpos.line) = true
  trees : backTo cpos (starEach [e] X.env) = [(false, eval e X.env)]
structure M2 (X : Cx) (o : Expr) (m : Str) (apos : Pos) (e f : Expr) (cpos : Pos) : Prop where
  base : attributeBase o m X.env (eval o X.env) = eval o X.env
  few : ((backTo cpos (starEach [e, f] X.env)).all (fun x => !x.1) && (backToKw cpos (keywordEach [] X.env)).all (fun x => x.1.isSome)
    && decide (([e, f] : List Expr).length + ([] : List Keyword).length + (if ([] : List Keyword).isEmpty then 0 else 1) < 30)) = true
  line : (apos.endLine == cpos.line) = true
  trees : backTo cpos (starEach [e, f] X.env) = [(false, eval e X.env), (false, eval f X.env)]
/-- a is a dict, whatever its keys -/
def IsD (H : Hp) (a : Addr) : Prop := (∃ kvs, Rd H a (.dK kvs)) ∨ ∃ kvs, Rd H a (.dT kvs)
theorem isD_at {X : Cx} {pins : List (Addr × Obj)} {σ : St} {H : Hp} {s : Shared} {a : Addr} (I : Inv X pins σ H s) (d : IsD H a) :
    s.TypeIs (.ref a) "dict" ∧ (∀ b, Value.ref a = .ref b → ∃ ob, s.heap.get? b = some ob ∧ ob.dict = none) ∧ (a == sysModules) = false := by
  rcases d with ⟨kvs, e⟩ | ⟨kvs, e⟩
  · obtain ⟨_, hd, vs, _, dd⟩ := dk_rd I.hok e
    refine ⟨dd.typeIs, fun b q => ?_, hd⟩
    cases q
    obtain ⟨ob, _, _, h1, h2, _⟩ := dd
    exact ⟨ob, h1, h2.2.1⟩
  · obtain ⟨_, hd, xs, _, dd⟩ := dt_rd I.hok e
    refine ⟨dd.typeIs, fun b q => ?_, hd⟩
    cases q
    obtain ⟨ob, _, _, h1, h2, _⟩ := dd
    exact ⟨ob, h1, h2.2.1⟩
section
variable {X : Cx} {pins : List (Addr × Obj)} {σ : St} {H : Hp} {s : Shared} {a : Addr} {y d : V} {u r : Value} {o : Option V} {A : Around} {E : Value → Shared → Prop}
/-- d.get(y, x) -/
theorem d_get2 {Q : Value → Shared → Prop} (hu : A.units + 1 < cLine) (I : Inv X pins σ H s) (g : DGet H a y o) (ry : RelV y u) (rd : RelV d r) (h : ∀ w' s', Inv X pins σ H s' → RelV (o.getD d) w' → Q w' s') :
    wpAny (model X.prog X.w) A (call (.builtin "dict.get") [.ref a, u, r]) Q E s := by
  rcases g with ⟨kvs, k, e, ey, l⟩ | ⟨kvs, k, b, e, ey, eb, l⟩
  · subst ey
    obtain ⟨z, hd, vs, rel, dd⟩ := dk_rd I.hok e
    refine call_meetsIn PySem.F.slot_dict_get dd.typeIs PySem.F.entry_dict_get (PySem.F.args_dict_get_3 _ _ _) (meets_dict_get_default (mixKind X.prog X.w) a (kV_is ry) hd r) ⟨_, dd.mapOf, h _ _ (I.tok _) ?_⟩
    rw [l]
    exact (rel.val k).getD rd
  · subst ey
    cases (show u = Value.ref b from ry)
    obtain ⟨z, hd, xs, rel, dd⟩ := dt_rd I.hok e
    refine call_meetsIn PySem.F.slot_dict_get dd.typeIs PySem.F.entry_dict_get (PySem.F.args_dict_get_3 _ _ _) (meetsH_dict_get_default (tupleKind (mixKind X.prog X.w)) a b hd r) ⟨tupleKind_room_in1 hu, k, xs, key_of I.hok eb, dd, h _ _ (I.tok _) ?_⟩
    rw [l]
    exact (rel.val k).getD rd
end
inductive tDGet2J_I (Q : VK) (a : Addr) (y : V) (z : V) (H3 : Hp) : Prop
  | mk : ∀ o, DGet H3 a y o → Q (o.getD z) H3 → tDGet2J_I Q a y z H3
inductive tDGet2_I (ty : TE) (tx : TE) (σ : St) (Q : VK) (x : V) (H1 : Hp) : Prop
  | mk : ∀ a, x = .ref a → IsD H1 a → (ty σ H1 fun y H2 => tx σ H2 fun z H3 => tDGet2J_I Q a y z H3) → tDGet2_I ty tx σ Q x H1
def tDGet2 (td ty tx : TE) : TE := fun σ H Q => td σ H fun x H1 => tDGet2_I ty tx σ Q x H1
/-- d.pop(k): there; d.pop(k, x): there or not -/
inductive tDPop1J_I (Q : VK) (a : Addr) (y : V) (H2 : Hp) : Prop
  | mk : ∀ kvs k v, H2 a = some (.dK kvs) → y = kV k → valV kvs k = some v → Q v (upd H2 a (.dK (dropK kvs k))) → tDPop1J_I Q a y H2
inductive tDPop1_I (ty : TE) (σ : St) (Q : VK) (x : V) (H1 : Hp) : Prop
  | mk : ∀ a, x = .ref a → IsD H1 a → (ty σ H1 fun y H2 => tDPop1J_I Q a y H2) → tDPop1_I ty σ Q x H1
def tDPop1 (td ty : TE) : TE := fun σ H Q => td σ H fun x H1 => tDPop1_I ty σ Q x H1
inductive tDPop2J_I (Q : VK) (a : Addr) (y : V) (z : V) (H3 : Hp) : Prop
  | mk : ∀ kvs k, H3 a = some (.dK kvs) → y = kV k → ((∀ v, valV kvs k = some v → Q v (upd H3 a (.dK (dropK kvs k))))) → ((valV kvs k = none → Q z H3)) → tDPop2J_I Q a y z H3
inductive tDPop2_I (ty : TE) (tx : TE) (σ : St) (Q : VK) (x : V) (H1 : Hp) : Prop
  | mk : ∀ a, x = .ref a → IsD H1 a → (ty σ H1 fun y H2 => tx σ H2 fun z H3 => tDPop2J_I Q a y z H3) → tDPop2_I ty tx σ Q x H1
def tDPop2 (td ty tx : TE) : TE := fun σ H Q => td σ H fun x H1 => tDPop2_I ty tx σ Q x H1
section
variable {X : Cx} {o e f : Expr} {apos cpos : Pos} {td ty tx : TE}
theorem pe_dget2 (hu : X.A.units + 1 < cLine) (ho : PE X o td) (he : PE X e ty) (hf : PE X f tx) (m : M2 X o "get" apos e f cpos) : PE X (.Call (.Attribute o "get" apos) [e, f] [] cpos) (tDGet2 td ty tx) := by
  intro pins s σ H Q I h
  refine wpAny_Call_method m.base m.few m.line PySem.F.plainAttrs_dict PySem.F.slot_dict_get PySem.F.type_dict_get (thn (ho pins s σ H _ I h) fun u s1 ⟨x, H1, I1, rx, a, ex, d, q1⟩ => ?_)
  subst ex
  obtain rfl : u = Value.ref a := rx
  obtain ⟨t1, t2, _⟩ := isD_at I1 d
  refine ⟨t1, t2, ?_⟩
  rw [m.trees]
  refine Calls.callWith_builtin rfl (Calls.evalArgs_plain (Calls.spliced_cons (thn (he pins s1 σ H1 _ I1 q1) fun iv s2 ⟨y, H2, I2, ry, q2⟩ =>
    Calls.spliced_cons (thn (hf pins s2 σ H2 _ I2 q2) fun fv s3 ⟨z, H3, I3, rz, ov, g, q3⟩ => Calls.spliced_nil ?_))))
  exact d_get2 hu I3 g ry rz fun w' s4 I4 rw' => ⟨_, H3, I4, rw', q3⟩
theorem pe_dpop1 (ho : PE X o td) (he : PE X e ty) (m : M1 X o "pop" apos e cpos) : PE X (.Call (.Attribute o "pop" apos) [e] [] cpos) (tDPop1 td ty) := by
  intro pins s σ H Q I h
  refine wpAny_Call_method m.base m.few m.line PySem.F.plainAttrs_dict PySem.F.slot_dict_pop PySem.F.type_dict_pop (thn (ho pins s σ H _ I h) fun u s1 ⟨x, H1, I1, rx, a, ex, d, q1⟩ => ?_)
  subst ex
  obtain rfl : u = Value.ref a := rx
  obtain ⟨t1, t2, _⟩ := isD_at I1 d
  refine ⟨t1, t2, ?_⟩
  rw [m.trees]
  refine Calls.callWith_builtin rfl (Calls.evalArgs_plain (Calls.spliced_cons (thn (he pins s1 σ H1 _ I1 q1) fun iv s2 ⟨y, H2, I2, ry, kvs, k, v, ea, ey, l, q2⟩ => Calls.spliced_nil ?_)))
  subst ey
  exact d_pop I2 ea ry l (.inl rfl) fun w' s3 I3 rw' => ⟨v, _, I3, rw', q2⟩
theorem pe_dpop2 (ho : PE X o td) (he : PE X e ty) (hf : PE X f tx) (m : M2 X o "pop" apos e f cpos) : PE X (.Call (.Attribute o "pop" apos) [e, f] [] cpos) (tDPop2 td ty tx) := by
  intro pins s σ H Q I h
  refine wpAny_Call_method m.base m.few m.line PySem.F.plainAttrs_dict PySem.F.slot_dict_pop PySem.F.type_dict_pop (thn (ho pins s σ H _ I h) fun u s1 ⟨x, H1, I1, rx, a, ex, d, q1⟩ => ?_)
  subst ex
  obtain rfl : u = Value.ref a := rx
  obtain ⟨t1, t2, _⟩ := isD_at I1 d
  refine ⟨t1, t2, ?_⟩
  rw [m.trees]
  refine Calls.callWith_builtin rfl (Calls.evalArgs_plain (Calls.spliced_cons (thn (he pins s1 σ H1 _ I1 q1) fun iv s2 ⟨y, H2, I2, ry, q2⟩ =>
    Calls.spliced_cons (thn (hf pins s2 σ H2 _ I2 q2) fun fv s3 ⟨z, H3, I3, rz, kvs, k, ea, ey, q3, q4⟩ => Calls.spliced_nil ?_))))
  subst ey
  cases l : valV kvs k with
  | some v => exact d_pop I3 ea ry l (.inr ⟨fv, rfl⟩) fun w' s4 I4 rw' => ⟨v, _, I4, rw', q3 v l⟩
  | none => exact d_popD I3 ea ry l fun s4 I4 => ⟨z, H3, I4, rz, q4 l⟩
end
section
variable {X : Cx} {pins : List (Addr × Obj)} {σ : St} {H : Hp} {s : Shared} {a : Addr} {kvs : List (Key × V)} {A : Around} {E : Value → Shared → Prop}
end
section
variable {X : Cx} {pins : List (Addr × Obj)} {σ : St} {H : Hp} {s : Shared} {a : Addr} {y : V} {u : Value} {A : Around} {E : Value → Shared → Prop}
end
end L2
namespace Att
open PySem PySem.W PySem.Calls PyProof.Rows
theorem ints_of_wellAll {P : Params} {h : Heap} : ∀ (ns : List Int) (vs : List Value), WellAll P h vs (ns.map WData.int) → IntsAre vs ns := by
  intro ns
  induction ns with
  | nil =>
    intro vs w
    rw [List.map_nil] at w
    cases w
    exact .nil
  | cons n ns ih =>
    intro vs w
    rw [List.map_cons] at w
    cases w with
    | cons a b =>
      cases a
      exact .cons _ _ (ih _ b)
theorem script_of {l : OpenLaw} {n : Nat} (hn : l.most = some n) {P : Params} {h : Heap} {args : List WData} {vals : List Value}
    (hpre : l.row.toRowW.claim.pre args = true) (hwl : WellAll P h vals args) :
    ∃ a vs ns, vals = [Value.ref a] ∧ args = [WData.list (ns.map WData.int)] ∧ h.get? a = some { cls := .type "list", data := .seq vs.toArray } ∧ IntsAre vs ns ∧ ns.length ≤ n := by
  have hsh : WShape.hasAll [] args [.list .int] = true := (pre_splitW hpre).1
  have hc : l.pre.holds [] { args := args } = true := (pre_splitW hpre).2
  obtain ⟨d, r, rfl, h1, h2⟩ := hasAllW_cons hsh
  obtain rfl := hasAllW_nil h2
  obtain ⟨xs, rfl, h3⟩ := hasW_list h1
  obtain ⟨ns, rfl⟩ := items_int h3
  have hlen : ns.length ≤ n := by
    unfold OpenLaw.pre at hc
    have h4 : (WTm.not (.lt (.lit (.int (n : Int))) (.len (.arg 0)))).holds [] { args := [.list (ns.map .int)] } = true := by
      have h4 := (holds_andW hc).1
      rw [hn] at h4
      exact h4
    have h5 := condW_of h4 (w_not (w_lt w_lit (w_len_list (w_arg rfl))))
    rw [List.length_map] at h5
    refine Nat.le_of_not_lt fun q => ?_
    have q' : (n : Int) < ((ns.length : Nat) : Int) := by omega
    first
      | (rw [decide_eq_true q'] at h5; exact absurd h5 (by decide))
      | (simp at h5; omega)
  cases hwl with
  | cons w1 w2 =>
    cases w2
    cases w1 with
    | list ho hall => exact ⟨_, _, ns, rfl, rfl, ho, ints_of_wellAll ns _ hall, hlen⟩
theorem post_true (l : OpenLaw) (args : List WData) : l.row.toRowW.claim.post args (.bool true) args = true :=
  postW_of (r := l.row.toRowW) (X := (true == true))
    (show WShape.has [] (.bool true) .bool = true by first | rfl | decide | simp [WShape.has, WShape.arms, WShape.armsAll])
    (show (WTm.eq .res (.lit (.bool true))).value [] { args := args, res := some (.bool true), after := args } = some (.bool (true == true)) from w_eq_bool (w_res rfl) w_lit) rfl
/-- the same from a codeAny of the CALL (for a layer whose function contracts speak of calls) -/
theorem attach_call {l : OpenLaw} {n : Nat} {q : Program} {loose : List Str} {XP : (Str → Option Value) → Heap → Prop} {YP : World → Heap → Prop} {d : DefRec}
    (hn : l.most = some n) (hdf : d.params.defaults = [])
    (call : ∀ (w : World) (s₀ s₁ : Shared) (mg mb : Str → Option Value) (fa : Addr) (o : Obj) (pm cd doc : Value) (a : Addr) (vs : List Value) (ns : List Int),
      Ground q loose [] XP w s₀ mg mb s₁.heap → YP w s₁.heap →
      s₁.heap.get? fa = some o → o.data = .func (docDef d.name d.params d.body d.scope pm cd doc) → s₁.heap.CodeRec cd d.name → mg d.name = some (.ref fa) →
      s₁.heap.get? a = some { cls := .type "list", data := .seq vs.toArray } → IntsAre vs ns → ns.length ≤ n → s₁.gens = #[] →
      codeAny (model l.prog w) callerA (.call (.ref fa) ⟨[.ref a], []⟩) (fun r s' => r = .ok (.ret (.bool true)) ∧ OldK s₁.heap s'.heap ∧ s'.os = s₁.os ∧ AllBare s'.gens) s₁) :
    WalkO q loose XP YP l.row.toRowW d [] (fun f vs => PySem.call f vs) := by
  intro w s₀ s₁ mg mb G Y fa o pm cd doc dV kV ho hd hcd hD hmg hg args vals as hpre hlay hrd hwl hlo
  obtain rfl : dV = .none := Dflts.none hD hdf
  obtain rfl : kV = .none := Dflts.noKw hD
  obtain ⟨a, vs, ns, rfl, rfl, hobj, hints, hlen⟩ := script_of hn hpre hwl
  refine enter_call (codeAny_mono (call w s₀ s₁ mg mb fa o pm cd doc a vs ns G Y ho (fd_plain hd) hcd hmg hobj hints hlen hg) fun r s' hq => ?_)
  obtain ⟨rfl, h2, h3, h4⟩ := hq
  exact ⟨.inl ⟨.bool true, .bool true, [], rfl, fun _ => rfl, .bool true, post_true l _, fun _ => ⟨List.Pairwise.nil, fun _ hm => (nomatch hm)⟩⟩, h2, h3, h4⟩
section
variable {prog : Program} {w : World} {A : Around} {E : Value → Shared → Prop} {s : Shared} {K : Frag}
end
end Att
namespace L2
open PySem PySem.Spec PyProof.Rows
theorem vals_ints : ∀ {vs : List Value} {ns : List Int}, IntsAre vs ns → Vals (ns.map V.int) vs
  | _, _, .nil => .nil
  | _, _, .cons n t h => .cons ⟨t, rfl⟩ (vals_ints h)
/-- nothing is tracked but the script, known to the object (or it is an object of the module) -/
def Only (H : Hp) : Prop := ∀ b, H b = none ∨ ∃ o xs, H b = some (.frz o (.lst xs))
/-- THE HEAD: the law's promise, at the heap behind the top. F, the promise of the law's def, may use that base is part of the heap (so K.In base, base.Ns mainGlobals mg stand in Mod) -/
theorem law_call {P : Program} {w : World} {K : PySem.W.Frag} {mg mb : Str → Option Value} {CX : CXT} {k : Nat} {fa a : Addr} {fd : FuncData} {x : Str} {sp : Sp} {s₁ : Shared} {vs : List Value} {ns : List Int}
    (KX : K.In s₁.heap) (hns : s₁.heap.Ns mainGlobals mg) (hb : s₁.heap.Ns builtinsNs mb) (hbb : ∀ x : Str, x ≠ "__name__" → mb x = bootBuiltins x) (hlim : s₁.heap.NoLimit) (hg : s₁.gens = #[])
    (ha : s₁.heap.get? a = some { cls := .type "list", data := .seq vs.toArray }) (hi : IntsAre vs ns) (hl : ns.length ≤ sizeLine) (hr : Room k callerA)
    (F : ∀ base : Heap, K.In base → base.Ns mainGlobals mg → FnOk P w K mg base CX k fa fd [x] sp) (hbind : ∀ (s : Shared) (u : Value), BindsTo s fd ⟨[u], []⟩ [(x, u)])
    (hsp : ∀ H : Hp, Only H → SqL K H a (ns.map V.int) → sp [.ref a] H (fun v _ => v = .bl true) fun _ _ _ => False)
    (hCX : ∀ H e s', CX [] H s₁ (fun _ _ _ => False) e s' → False) :
    codeAny (model P w) callerA (.call (.ref fa) ⟨[.ref a], []⟩) (fun r s' => r = .ok (.ret (.bool true)) ∧ OldK s₁.heap s'.heap ∧ s'.os = s₁.os ∧ AllBare s'.gens) s₁ := by
  have rv := vals_ints hi
  have lenV := hi.length
  -- from an abstract heap in which nothing but the script may be tracked
  have core : ∀ H : Hp, Only H → SqL K H a (ns.map V.int) → HOk P w H s₁.heap → (∀ b, H b ≠ none → b = a) → (H a ≠ none → K.lookup a = none) →
      codeAny (model P w) callerA (.call (.ref fa) ⟨[.ref a], []⟩) (fun r s' => r = .ok (.ret (.bool true)) ∧ OldK s₁.heap s'.heap ∧ s'.os = s₁.os ∧ AllBare s'.gens) s₁ := by
    intro H hO hS hok hA hK
    have base_of : ∀ {b : Addr} {o : Obj}, s₁.heap.get? b = some o → H b = none → (hidT s₁.heap H).get? b = some o := fun e n => hidT_get e n
    have noA : ∀ {b : Addr} {o : Obj} {es : Array DictEntry} {ep : Nat}, s₁.heap.get? b = some o → o.data = .dict es ep → H b = none := fun {b o es ep} e d => by
      cases q : H b with
      | none => rfl
      | some u =>
        have e' : b = a := hA b (by rw [q]; simp)
        subst e'
        rw [ha] at e; cases e
        have d' : Data.seq vs.toArray _ = Data.dict es ep := d
        cases d'
    have nsK : ∀ {b : Addr} {m : Str → Option Value}, s₁.heap.Ns b m → (hidT s₁.heap H).Ns b m := fun {b m} ⟨o, es, ep, e, d, r⟩ => ⟨o, es, ep, base_of e (noA e d), d, r⟩
    have hKb : K.In (hidT s₁.heap H) := fun b o e => base_of (KX b o e) (by
      cases q : H b with
      | none => rfl
      | some u =>
        have e' : b = a := hA b (by rw [q]; simp)
        subst e'
        rw [hK (by rw [q]; simp)] at e; cases e)
    have hM : Mod K mg (hidT s₁.heap H) := ⟨hKb, nsK hns, ⟨mb, nsK hb, hbb⟩, let ⟨mc, h1, h2⟩ := hlim; ⟨mc, nsK h1, h2⟩⟩
    have e0 : Env0 P w K mg (hidT s₁.heap H) callerA [] s₁ H := ⟨rfl, hM, fun b o e => of_hidT e, Nat.le_of_eq (hidT_size _ _), trivial, fun b hb => absurd (show b ∈ ([] : List Addr) from hb) (by simp), hok, .of_eq hg⟩
    refine codeAny_mono ((F _ hKb (nsK hns)).run callerA [] s₁ H ⟨[.ref a], []⟩ [.ref a] [.ref a] _ _ hr e0 (hbind s₁ (.ref a)) (.cons rfl .nil) (hsp H hO hS)) fun r s' h => ?_
    cases r with
    | error e => exact (hCX H e s' h).elim
    | ok fl =>
      cases fl with
      | next => exact False.elim h
      | brk => exact False.elim h
      | cont => exact False.elim h
      | ret u =>
        obtain ⟨v, H', os, bare, un, hok', r', q⟩ := h
        have q' : v = .bl true := q
        subst q'
        obtain rfl : u = Value.bool true := r'
        refine ⟨rfl, OldK.of_keep fun b o e => ?_, os, bare⟩
        cases q : H b with
        | none => exact un.keep b o e q (by intro z; exact absurd (show b ∈ ([] : List Addr) from z) (by simp)) (by simp)
        | some u =>
          rcases hO b with z | ⟨ob, xs, z⟩
          · rw [q] at z; cases z
          · have z2 := un.frzs b ob _ z
            obtain ⟨e1, _⟩ := hok b _ z
            obtain ⟨e2, _⟩ := hok' b _ z2
            rw [e] at e1; cases e1
            exact e2
  cases hk : K.lookup a with
  | some o =>
    -- the script is one of the module's own objects
    have e := KX a o hk
    rw [ha] at e
    cases e
    refine core (fun _ => none) (fun _ => .inl rfl) (.inr ⟨_, vs.toArray, _, hk, rfl, rfl, rfl, by rw [List.size_toArray, lenV]; exact hl, by simpa using rv⟩) (fun b u z => by have z' : (none : Option HO) = some u := z; cases z') (fun b z => absurd rfl z) fun z => absurd rfl z
  | none =>
    refine core (fun b => if b = a then some (.frz { cls := .type "list", data := .seq vs.toArray } (.lst (ns.map V.int))) else none) (fun b => ?_) (.inl (.inr ⟨{ cls := .type "list", data := .seq vs.toArray }, if_pos rfl⟩)) (fun b u z => ?_) (fun b z => ?_) fun _ => hk
    · by_cases hb : b = a
      · exact .inr ⟨_, _, if_pos hb⟩
      · exact .inl (if_neg hb)
    · by_cases hb : b = a
      · have z' := (if_pos hb).symm.trans z
        cases z'
        subst hb
        exact ⟨ha, by rw [List.length_map]; exact hl, vs, _, rv, ha⟩
      · have z' := (if_neg hb).symm.trans z
        cases z'
    · by_cases hb : b = a
      · exact hb
      · exact absurd (if_neg hb) z
end L2
namespace L2
open PySem PySem.Spec PyProof.Rows
end L2
namespace L2
open PySem PySem.Spec PyProof.Rows
/-- the j-th statement of a class's body -/
def inClass (s : Stmt) (j : Nat) : Stmt := match s with
  | .ClassDef _ _ _ body _ _ _ _ _ _ _ => body.getD j (.Pass ⟨0, 0, 0, 0⟩)
  | _ => .Pass ⟨0, 0, 0, 0⟩
def defArgs (s : Stmt) : Arguments := match s with
  | .FunctionDef _ a _ _ _ _ _ _ _ _ => a
  | _ => { posonlyargs := [], args := [], vararg := none, kwonlyargs := [], kw_defaults := [], kwarg := none, defaults := [] }
def defBody (s : Stmt) : List Stmt := match s with
  | .FunctionDef _ _ b _ _ _ _ _ _ _ => b
  | _ => []
def defScope (s : Stmt) : Scope := match s with
  | .FunctionDef _ _ _ _ _ _ sc _ _ _ => sc
  | _ => { kind := .function, names := [], isGenerator := false, isCoroutine := false }
abbrev CX0 : CXT := fun _ _ _ _ _ _ => False
abbrev E0 : XK := fun _ _ _ => False
theorem pass0 {X : Cx} : Passes CX0 X E0 := fun _ _ _ _ _ _ _ h => h.elim
structure Fun (K : PySem.W.Frag) (x qual : Str) (st : Stmt) (f : Addr) (fd : FuncData) : Prop where
  ex : ∃ (oc : Value) (od : Option Addr) (kV doc pm : Value) (an : Option Addr) (cdv ct : Value) (osl : Array (Option Value)),
    fd = PySem.W.fnOf x qual (defArgs st) (defBody st) (defScope st) .none kV doc pm an cdv ct ∧ K.lookup f = some ⟨oc, od, .func fd, osl⟩ ∧ PySem.W.codeIn K cdv qual = true
  kp : PySem.W.keepIn K (.ref f) = true
section
variable {P : Program} {w : World} {K : PySem.W.Frag} {mg : Str → Option Value} {base : Heap}
/-- THE RULE for a def: its body as a term of rules, and the reading of that term -/
theorem Fun.ok {x qual : Str} {st : Stmt} {f : Addr} {fd : FuncData} {N ps : List Str} {k : Nat} {sp : Sp} (F : Fun K x qual st f fd) (S : FnScope N ps (defScope st)) (len : ∀ vs H Q E, sp vs H Q E → vs.length = ps.length)
    (hbody : ∀ (cdv : Value) (A : Around) (outer : List Env) (s : Shared) (H : Hp) (vs : List V) (Q : VK) (E : XK), Room k (A.deeper (envOfC qual (defScope st) s.heap.objs.size f cdv)) → sp vs H Q E →
      ∃ t, PSs (cxOf CX0 P w K mg base N qual (defScope st) f cdv A outer s H E).nox (defBody st) t ∧ t { nx := fun _ H' => Q .non H', rt := Q } (start N vs) H) : FnOk P w K mg base CX0 (k + 1) f fd ps sp := by
  obtain ⟨oc, od, kV, doc, pm, an, cdv, ct, osl, rfl, lk, hcd⟩ := F.ex
  refine fn_of lk hcd S len fun A outer s H vs Q E hr hsp => ?_
  obtain ⟨t, h, q⟩ := hbody cdv A outer s H vs Q E hr hsp
  exact ⟨t, h.nox, q⟩
/-- how its arguments bind (no defaults): h is «fun _ _ _ _ _ _ us hl => match us, hl with | [_, _], _ => rfl», one _ a parameter -/
theorem Fun.binds {x qual : Str} {st : Stmt} {f : Addr} {fd : FuncData} {ps : List Str} (F : Fun K x qual st f fd)
    (h : ∀ (kV doc pm : Value) (an : Option Addr) (cdv ct : Value) (us : List Value), us.length = ps.length → bindArgs (PySem.W.fnOf x qual (defArgs st) (defBody st) (defScope st) .none kV doc pm an cdv ct) ⟨us, []⟩ = pure (ps.zip us)) : Binds K fd ps [] := by
  obtain ⟨oc, od, kV, doc, pm, an, cdv, ct, osl, rfl, lk, hcd⟩ := F.ex
  exact .all (h kV doc pm an cdv ct)
theorem fun_mk {x qual : Str} {st : Stmt} {f : Addr} {oc : Value} {od an : Option Addr} {osl : Array (Option Value)} {kV doc pm cdv ct : Value} (l : K.lookup f = some ⟨oc, od, .func (PySem.W.fnOf x qual (defArgs st) (defBody st) (defScope st) .none kV doc pm an cdv ct), osl⟩)
    (c : PySem.W.codeIn K cdv qual = true) (k : PySem.W.keepIn K (.ref f) = true) : Fun K x qual st f (PySem.W.fnOf x qual (defArgs st) (defBody st) (defScope st) .none kV doc pm an cdv ct) := ⟨⟨oc, od, kV, doc, pm, an, cdv, ct, osl, rfl, l, c⟩, k⟩
end
theorem hu_of {A : Around} {k : Nat} (hr : Room k A) : A.units + 1 < cLine := Nat.lt_of_le_of_lt (Nat.add_le_add_left (by decide : 1 ≤ 64) _) hr.units
theorem small1000 {n : Nat} (h : n ≤ 1000) : n < sizeLine := Nat.lt_of_le_of_lt h (by decide)
section
variable {X : Cx}
theorem pv (i : Nat) {x : Str} {pos : Pos} (hN : X.N[i]? = some x := by rfl) (hv : Vis X.env.scope x := by first | exact Or.inl rfl | exact Or.inr (Or.inl rfl) | exact Or.inr (Or.inr rfl)) (hd : (x == ("__debug__" : Str)) = false := by decide)
    (hcd : (x == ("__classdict__" : Str)) = false := by decide) : PE X (.Name x pos) (tVar i) := pe_var hN hv hd hcd
end
theorem iteF {A B : Prop} (h : B) : if false = true then A else B := by
  rw [if_neg Bool.false_ne_true]
  exact h
theorem iteT {A B : Prop} (h : A) : if true = true then A else B := by
  rw [if_pos rfl]
  exact h
theorem ite2 {c A B : Prop} [Decidable c] (h1 : c → A) (h2 : ¬ c → B) : if c then A else B := by
  by_cases h : c
  · rw [if_pos h]
    exact h1 h
  · rw [if_neg h]
    exact h2 h
/-- all that was tracked is as it was -/
def Same (H H' : Hp) : Prop := ∀ b o, H b = some o → H' b = some o
theorem Same.refl (H : Hp) : Same H H := fun _ _ h => h
theorem Same.trans {H H1 H2 : Hp} (a : Same H H1) (b : Same H1 H2) : Same H H2 := fun c o h => b c o (a c o h)
theorem Same.free {H H' : Hp} (e : Same H H') {l : Addr} (h : H' l = Option.none) : H l = Option.none := by
  cases q : H l with
  | none => rfl
  | some o =>
    rw [e l o q] at h
    cases h
theorem Same.seq {K : PySem.W.Frag} {H H' : Hp} {a : Addr} {xs : List V} (e : Same H H') (h : SqL K H a xs) : SqL K H' a xs := by
  rcases h with (h | ⟨o, h⟩) | h
  · exact .inl (.inl (e _ _ h))
  · exact .inl (.inr ⟨o, e _ _ h⟩)
  · exact .inr h
end L2
namespace L2
open PySem PySem.Spec PyProof.Rows
section
variable {X : Cx}
/-- len of a dict -/
theorem call_lenD : CallR X (.builtin "len") (fun xs H Q => ∃ a kvs, xs = [V.ref a] ∧ H a = some (.dK kvs) ∧ Q (.int kvs.length) H) := by
  intro pins s σ H xs us Q I r h
  obtain ⟨a, kvs, rfl, ha, q⟩ := h
  obtain ⟨u, rfl, ru⟩ := vals1 r
  cases ru
  exact d_len I (.inl ha) fun t s' I' => ⟨.int kvs.length, H, I', ⟨t, rfl⟩, q⟩
end
section
variable {κ : Type} [DecidableEq κ]
theorem valV_not {kvs : List (κ × V)} {k : κ} (h : valV kvs k = none) : ¬ k ∈ kvs.map (·.1) := by
  intro m
  obtain ⟨p, hp, e⟩ := List.mem_map.mp m
  have q : (kvs.any fun kv => decide (kv.1 = k)) = true := List.any_eq_true.mpr ⟨p, hp, decide_eq_true e⟩
  rw [valV_any, h] at q
  exact absurd q (by simp)
theorem valV_in {kvs : List (κ × V)} {k : κ} {v : V} (h : valV kvs k = some v) : k ∈ kvs.map (·.1) := by
  have q : (kvs.any fun kv => decide (kv.1 = k)) = true := by
    rw [valV_any, h]
    all_goals rfl
  obtain ⟨p, hp, e⟩ := List.any_eq_true.mp q
  exact List.mem_map.mpr ⟨p, hp, of_decide_eq_true e⟩
theorem dropK_pos {p : κ × V} {r : List (κ × V)} {k : κ} (e : p.1 = k) : dropK (p :: r) k = dropK r k := by
  unfold dropK
  rw [List.filter_cons, if_neg (by simp [e])]
theorem dropK_neg {p : κ × V} {r : List (κ × V)} {k : κ} (e : ¬ p.1 = k) : dropK (p :: r) k = p :: dropK r k := by
  unfold dropK
  rw [List.filter_cons, if_pos (by simp [e])]
end
end L2
set_option Elab.async false
set_option linter.all false
set_option maxRecDepth 100000
set_option maxHeartbeats 4000000
namespace L2
open PySem PySem.Spec PyProof.Rows
/-- the cells that a comprehension takes from around it -/
def closOf (cells : List (Str × Addr)) : List (Str × NameKind) → List (Str × Addr) → List (Str × Addr)
  | [], cs => cs
  | (n, k) :: r, cs => closOf cells r (if k == .free then (match cells.lookup n with | some c => (n, c) :: cs | none => cs) else cs)
theorem closureFor_of {scope : Scope} {env : Env} (h : ∀ y ∈ scope.names, y.2 = .free → ∃ c, env.cells.lookup y.1 = some c) : closureFor scope env = pure (closOf env.cells scope.names []) := by
  unfold closureFor
  generalize ([] : List (Str × Addr)) = cs
  revert cs
  generalize scope.names = names at h
  induction names with
  | nil => intro cs; rfl
  | cons p r ih =>
    obtain ⟨n, k⟩ := p
    intro cs
    have ih' := ih fun y hy => h y (List.mem_cons_of_mem _ hy)
    by_cases hk : k = .free
    · subst hk
      obtain ⟨c, hc⟩ := h (n, .free) List.mem_cons_self rfl
      have e : cellOf env n = pure c := by unfold cellOf; rw [hc] <;> rfl
      dsimp only at hc ⊢
      rw [List.forIn_cons]
      simp only [beq_self_eq_true, if_true, closOf, hc]
      rw [e]
      exact ih' _
    · have hb : (k == NameKind.free) = false := by simpa using hk
      dsimp only
      rw [List.forIn_cons]
      simp only [hb, Bool.false_eq_true, if_false, closOf]
      exact ih' _
theorem closOf_sub {cells : List (Str × Addr)} : ∀ (names : List (Str × NameKind)) (cs : List (Str × Addr)) {y : Str} {c : Addr}, (closOf cells names cs).lookup y = some c → cells.lookup y = some c ∨ cs.lookup y = some c
  | [], cs, y, c, h => .inr h
  | (n, k) :: r, cs, y, c, h => by
    rcases closOf_sub r _ (show (closOf cells r _).lookup y = some c from h) with h1 | h1
    · exact .inl h1
    · split at h1
      · split at h1
        · rename_i c' hc'
          rw [List.lookup_cons] at h1
          split at h1
          · rename_i e
            cases h1
            exact .inl (by rw [eq_of_beq e]; exact hc')
          · exact .inr h1
        · exact .inr h1
      · exact .inr h1
theorem closOf_keep {cells : List (Str × Addr)} : ∀ (names : List (Str × NameKind)) (cs : List (Str × Addr)) {y : Str}, (∃ c, cs.lookup y = some c) → ∃ c, (closOf cells names cs).lookup y = some c
  | [], cs, y, h => h
  | (n, k) :: r, cs, y, h => by
    refine closOf_keep r _ ?_
    split
    · split
      · rw [List.lookup_cons]
        split
        · exact ⟨_, rfl⟩
        · exact h
      · exact h
    · exact h
theorem closOf_has {cells : List (Str × Addr)} : ∀ (names : List (Str × NameKind)) (cs : List (Str × Addr)) {y : Str}, (y, NameKind.free) ∈ names → (∃ c, cells.lookup y = some c) → ∃ c, (closOf cells names cs).lookup y = some c
  | (n, k) :: r, cs, y, hy, hc => by
    rcases List.mem_cons.mp hy with e | hy
    · cases e
      refine closOf_keep r _ ?_
      obtain ⟨c, hc⟩ := hc
      simp only [beq_self_eq_true, if_true, hc]
      exact ⟨c, by simp [List.lookup_cons]⟩
    · exact closOf_has r _ hy hc
def relF (env : Env) (p : Str × NameKind) : Str × NameKind := if (p.2 == NameKind.free && env.scope.kind == .function && env.kindOf p.1 == some .cell) = true then (p.1, NameKind.cell) else (p.1, p.2)
theorem relF_free {env : Env} : ∀ {names : List (Str × NameKind)} {x : Str}, names.lookup x = some .free → (names.map (relF env)).lookup x = some .cell ∨ (names.map (relF env)).lookup x = some .free
  | [], _, h => by simp at h
  | (n, k) :: r, x, h => by
    have ih := @relF_free env r x
    rw [List.map_cons]
    unfold relF
    cases hx : x == n with
    | true =>
      rw [List.lookup_cons, hx] at h
      cases h
      by_cases hc : (NameKind.free == NameKind.free && env.scope.kind == .function && env.kindOf n == some .cell) = true
      · left; rw [if_pos hc, List.lookup_cons, hx]
      · right; rw [if_neg hc, List.lookup_cons, hx]
    | false =>
      rw [List.lookup_cons, hx] at h
      by_cases hc : (k == NameKind.free && env.scope.kind == .function && env.kindOf n == some .cell) = true
      · rw [if_pos hc, List.lookup_cons, hx]; exact ih h
      · rw [if_neg hc, List.lookup_cons, hx]; exact ih h
theorem lookup_relabel_free {scope : Scope} {env : Env} {x : Str} (h : scope.names.lookup x = some .free) : (relabel scope env).names.lookup x = some .cell ∨ (relabel scope env).names.lookup x = some .free :=
  relF_free (env := env) h
theorem relabel_kind {scope : Scope} {env : Env} (nc : ∀ y ∈ scope.names, y.2 ≠ .cell) {y : Str} (h : (relabel scope env).names.lookup y = some .cell ∨ (relabel scope env).names.lookup y = some .free) : (y, NameKind.free) ∈ scope.names := by
  have key : ∀ k, (relabel scope env).names.lookup y = some k → k = .cell ∨ k = .free → (y, NameKind.free) ∈ scope.names := fun k e hk => by
    have m := PySem.mem_of_lookup e
    obtain ⟨⟨n, k'⟩, hm, q⟩ := List.mem_map.mp m
    dsimp only at q
    split at q
    · rename_i c
      have c1 : (k' == NameKind.free) = true := by
        simp only [Bool.and_eq_true] at c
        exact c.1.1
      have c2 : k' = .free := eq_of_beq c1
      cases q
      rw [c2] at hm
      exact hm
    · cases q
      rcases hk with z | z
      · exact absurd z (nc _ hm)
      · rw [z] at hm; exact hm
  rcases h with h | h
  · exact key _ h (.inl rfl)
  · exact key _ h (.inr rfl)
/-- what of a comprehension's scope is asked: sc the scope around it, N the names around it, x its own name, fr the slots and names that it takes from around -/
structure CompScope (sc scope : Scope) (N : List Str) (x : Str) (fr : List (Nat × Str)) : Prop where
  kind : scope.kind = .function
  loc : scope.names.lookup x = some .local
  names : ∀ y ∈ scope.names, y.2 = .local → scope.names.lookup y.1 = some .local
  nocell : ∀ y ∈ scope.names, y.2 ≠ .cell
  free : ∀ y ∈ scope.names, y.2 = .free → sc.names.lookup y.1 = some .cell ∨ sc.names.lookup y.1 = some .free
  frk : ∀ p ∈ fr, N[p.1]? = some p.2 ∧ scope.names.lookup p.2 = some .free
  nd : (x :: fr.map (·.2)).Nodup
/-- the context of a comprehension's block -/
def cxComp (X : Cx) (scope : Scope) (C : Addr) (N : List Str) (s : Shared) (H : Hp) (fp : List Addr) : Cx where
  prog := X.prog
  w := X.w
  K := X.K
  mg := X.mg
  base := X.base
  A := X.A
  N := N
  s₀ := s
  H₀ := H
  env := compEnvC scope (closOf X.env.cells scope.names []) C X.env
  outer := X.stack
  stack := X.stack
  ex := fp
  fn := fun _ => false
  calm := X.calm
  pn := []
  xe := fun _ _ => False
def frV (σ : St) (fr : List (Nat × Str)) : St := fr.map fun p => (σ[p.1]?).join
/-- the tests of a comprehension -/
def PTs (X : Cx) (ifs : List Expr) (t : TT) : Prop :=
  ∀ (pins : List (Addr × Obj)) (s : Shared) (σ : St) (H : Hp) (Q : Bool → Hp → Prop), Inv X pins σ H s → t σ H Q →
    wpAny (model X.prog X.w) X.A (forIn ifs true fun c r => if r = true then do let ok ← isTrue c X.env (eval c X.env); pure (ForInStep.yield ok) else pure (ForInStep.yield r)) (TP X pins σ Q) X.xe s
def tTrue : TT := fun _ H Q => Q true H
theorem tTrue_go {σ : St} {H : Hp} {Q : Bool → Hp → Prop} (h : Q true H) : tTrue σ H Q := h
theorem pts_nil {X : Cx} : PTs X [] tTrue := fun _ _ _ H _ I h => wpAny_tests_nil ⟨H, I, h⟩
theorem pts_one {X : Cx} {c : Expr} {t : TT} (hc : PT X c t) : PTs X [c] t := fun pins s σ H Q I h => wpAny_tests_one (hc pins s σ H Q I h)
/-- [elt for x in iter if ..]: the list D grows by the turn; W its invariant with a measure -/
def compGoal (J : It) (fr : List (Nat × Str)) (tt : TT) (te : TE) (σ : St) (H1 : Hp) (Q : VK) : Prop := ∀ D, H1 D = none →
  ∃ W : Nat → Nat → List V → Hp → Prop, (∃ m, W 0 m [] (upd H1 D (.lst []))) ∧ ∀ i m ys H2, W i m ys H2 → H2 D = some (.lst ys) ∧
    ((J.stop i H2 ∧ Q (.ref D) H2) ∨ (J.go i H2 ∧ ∀ v H3, J.yld i H2 v H3 → tt (some v :: frV σ fr) H3 fun b H4 =>
      if b = true then te (some v :: frV σ fr) H4 fun y H5 => H5 D = some (.lst ys) ∧ ys.length < sizeLine ∧ ∃ m', m' < m ∧ W (i + 1) m' (ys ++ [y]) (upd H5 D (.lst (ys ++ [y])))
      else ∃ m', m' < m ∧ W (i + 1) m' ys H4))
def tComp (wi : TI) (fr : List (Nat × Str)) (tt : TT) (te : TE) : TE := fun σ H Q => wi σ H fun J H1 => compGoal J fr tt te σ H1 Q
/-- what is known of the block's own namespace from outside -/
structure FreshC (X : Cx) (pins : List (Addr × Obj)) (H : Hp) (C : Addr) : Prop where
  hn : H C = none
  hL : C ≠ X.env.locals
  h1 : C ∈ X.ex ∨ X.s₀.heap.objs.size ≤ C
  h2 : ∀ x c, X.env.cells.lookup x = some c → c ≠ C
  h3 : ∀ p ∈ X.pn ++ pins, p.1 ≠ C
theorem comp_run {X : Cx} {x : Str} {px : Pos} {iter elt : Expr} {ifs : List Expr} {scope sc : Scope} {pos pos' : Pos} {N : List Str} {fr : List (Nat × Str)} {wi : TI} {tt : TT} {te : TE}
    {pins : List (Addr × Obj)} {s : Shared} {σ : St} {H : Hp} {Q : VK} {Q' : Value → Shared → Prop} {use : Option (Value → Sem Unit)}
    (S : CompScope sc scope N x fr) (hsc : X.env.scope = sc) (hN : X.N = N) (hc : X.calm = true) (hi : PI X (.Name x px) iter wi)
    (ht : ∀ (C : Addr) (s : Shared) (H : Hp) (fp : List Addr), PTs (cxComp X scope C (x :: fr.map (·.2)) s H fp) ifs tt)
    (he : ∀ (C : Addr) (s : Shared) (H : Hp) (fp : List Addr), PE (cxComp X scope C (x :: fr.map (·.2)) s H fp) elt te)
    (hs : ∀ z, foldedSetIterable iter X.env z = pure z) (I : Inv X pins σ H s) (h : tComp wi fr tt te σ H Q)
    (hfin : ∀ (D C : Addr) (H' : Hp) (s' : Shared) (m : Str → Option Value), Inv X pins σ H' s' → s'.heap.Ns C m → FreshC X pins H' C → Q (.ref D) H' → compPost (model X.prog X.w) X.A X.xe use Q' (.ref D) C (.ok .next) s') :
    wpAny (model X.prog X.w) X.A (comprehension (.ListComp elt [⟨.Name x px, iter, ifs, 0⟩] scope pos) scope X.env pos' (newList []) false (eval iter X.env) use) Q' X.xe s := by
  have kin : ∀ y, scope.names.lookup y = some .free → X.env.kindOf y = some .cell ∨ X.env.kindOf y = some .free := fun y hy => by
    show X.env.scope.names.lookup y = _ ∨ X.env.scope.names.lookup y = _
    rw [hsc]
    exact S.free (y, .free) (PySem.mem_of_lookup hy) rfl
  have kin' : ∀ y ∈ scope.names, y.2 = .free → X.env.kindOf y.1 = some .cell ∨ X.env.kindOf y.1 = some .free := fun y hy hf => by
    show X.env.scope.names.lookup y.1 = _ ∨ X.env.scope.names.lookup y.1 = _
    rw [hsc]
    exact S.free y hy hf
  have hkc : ∀ y ∈ scope.names, y.2 = .free → ∃ c, X.env.cells.lookup y.1 = some c := fun y hy hf => I.ok.has y.1 (kin' y hy hf)
  refine wpAny_comprehension_free (use := use) rfl hs (closureFor_of hkc) S.kind S.names ?_
  refine thn (hi pins s σ H _ I h) fun xv s1 h1 => thn h1 fun itv s2 h2 => ?_
  obtain ⟨it, fp, tn, J, H2, rfl, I2, T, st2, f2, q2⟩ := h2
  refine wpAny_newObj_type (wpAny_newFunctionEnv S.nocell (by intro y hy; simp at hy) (fun h₁ hns₁ hsb₁ => ?_) S.kind)
  dsimp only at hns₁ hsb₁ ⊢
  have I3 : Inv X pins σ (upd H2 s2.heap.objs.size (.lst [])) { s2 with heap := s2.heap.push { cls := .type "list", data := .seq ([] : List Value).toArray } } :=
    I2.lnew (its := []) (t' := s2.toks) .nil (Nat.zero_le _)
  unfold compGoal at q2
  obtain ⟨W, ⟨m0, w0⟩, turn⟩ := q2 s2.heap.objs.size (I2.hok.fresh (Nat.le_refl _))
  generalize hG : s2.heap.push { cls := .type "list", dict := none, data := .seq ([] : List Value).toArray } = G at hns₁ hsb₁ I3 ⊢
  generalize hD : s2.heap.objs.size = D at I3 turn w0 ⊢
  generalize hH3 : upd H2 D (.lst []) = H3 at I3 w0
  have neG : ∀ b o, G.get? b = some o → b ≠ G.objs.size := fun b o e => Nat.ne_of_lt (Heap.lt_size e)
  have old : ∀ b o, G.get? b = some o → h₁.get? b = some o := fun b o e => (hsb₁.2 b (neG b o e)).trans (Heap.get?_push_of_some _ e)
  have up2 : ∀ b o, s2.heap.get? b = some o → G.get? b = some o := fun b o e => by rw [← hG]; exact Heap.get?_push_of_some _ e
  have fpG : ∀ b ∈ fp, b < G.objs.size := fun b hb => by
    obtain ⟨o, e, _⟩ := T.obj _ _ st2 b hb
    exact Heap.lt_size (up2 b o e)
  have sub : ∀ {y : Str} {c : Addr}, (closOf X.env.cells scope.names []).lookup y = some c → X.env.cells.lookup y = some c := fun {y c} e => by
    rcases closOf_sub _ _ e with z | z
    · exact z
    · simp at z
  have stat0 : ∀ b ∈ fp, (b ∈ X.ex ∨ X.s₀.heap.objs.size ≤ b) ∧ b ≠ X.env.locals ∧ (∀ x c, X.env.cells.lookup x = some c → c ≠ b) ∧ ∀ p ∈ X.pn ++ pins, p.1 ≠ b := fun b hb =>
    ⟨(f2 b hb).2.2.2.1, (f2 b hb).2.1, (f2 b hb).2.2.2.2.1, (f2 b hb).2.2.2.2.2⟩
  have hCL : G.objs.size ≠ X.env.locals := Nat.ne_of_gt I3.lt
  have hC1 : X.s₀.heap.objs.size ≤ G.objs.size := I3.sz
  have hC2 : ∀ x c, X.env.cells.lookup x = some c → c ≠ G.objs.size := fun x c e => by
    obtain ⟨v, o, ho, _⟩ := I3.cell x c e
    exact neG c o ho
  have hC3 : ∀ p ∈ X.pn ++ pins, p.1 ≠ G.objs.size := fun p hp => neG p.1 p.2 (I3.pin p hp).1
  have okB : (cxComp X scope G.objs.size (x :: fr.map (·.2)) { s2 with heap := G } H3 fp).Ok := by
    refine ⟨I2.ok.mod, S.kind, I2.ok.glob, I2.ok.blt, Nat.le_refl _, fun y z c e1 e2 => I2.ok.inj y z c (sub e1) (sub e2), fun y hy => ?_, fun y c z => Bool.noConfusion z, I2.ok.hd, I2.ok.frames, .inl rfl, fun b hb => ⟨Nat.ne_of_lt (fpG b hb), fun y c e => (stat0 b hb).2.2.1 y c (sub e)⟩,
      fun b o e => I3.bs b o e, Nat.le_trans I2.ok.bsz I3.sz, fun b o e hb => ?_, fun b hb hf => ?_, I3.stack, I3.stkFree⟩
    · have m := relabel_kind S.nocell hy
      exact closOf_has _ _ m (hkc _ m rfl)
    · rcases (stat0 b hb).1 with z | z
      · exact I2.ok.noex b o e z
      · exact absurd (Nat.lt_of_lt_of_le (Heap.lt_size e) (Nat.le_trans I2.ok.bsz z)) (Nat.lt_irrefl _)
    · rcases List.mem_cons.mp (I2.stkSub b hf) with z | z
      · exact (stat0 b hb).2.1 z
      · exact (f2 b hb).2.2.1 z
  have I4 : ∀ tk : Nat, Inv (cxComp X scope G.objs.size (x :: fr.map (·.2)) { s2 with heap := G } H3 fp) [] (none :: frV σ fr) H3 { s2 with heap := h₁, toks := tk } := fun tk => by
    refine ⟨okB, rfl, I2.bare, Un.kept old, ⟨_, hns₁, fun i y v e1 e2 _ => ?_⟩, fun y c e => ?_, I3.hok.fresh (Nat.le_refl _), fun y c e => I3.freeC y c (sub e), fun p hp => absurd (show p ∈ ([] : List (Addr × Obj)) from hp) (by simp), I3.hok.kept old, ?_⟩
    · cases i with
      | zero => simp at e2
      | succ i =>
        have e1' : (fr.map (·.2))[i]? = some y := e1
        have e2' : (fr.map fun p => (σ[p.1]?).join)[i]? = some (some v) := e2
        rw [List.getElem?_map] at e1' e2'
        cases hp : fr[i]? with
        | none => rw [hp] at e1'; cases e1'
        | some p =>
          rw [hp] at e1' e2'
          have ey : p.2 = y := Option.some.inj e1'
          have ev : (σ[p.1]?).join = some v := Option.some.inj e2'
          have ev' : σ[p.1]? = some (some v) := by
            cases q : σ[p.1]? with
            | none => rw [q] at ev; cases ev
            | some o => rw [q] at ev; simp only [Option.join] at ev; exact congrArg some ev
          have hf := S.frk p (List.mem_of_getElem? hp)
          rw [ey] at hf
          have hk := kin y hf.2
          obtain ⟨m, _, hl⟩ := I2.loc
          obtain ⟨u, ru, l⟩ := hl p.1 y v (by rw [hN]; exact hf.1) ev' (.inr hk)
          refine ⟨u, ru, .inr ⟨lookup_relabel_free hf.2, ?_⟩⟩
          rcases l with ⟨k, _⟩ | ⟨_, c, e, z⟩
          · rcases hk with hk | hk
            · rw [hk] at k; cases k
            · rw [hk] at k; cases k
          · obtain ⟨c', ec⟩ := closOf_has (cells := X.env.cells) scope.names [] (PySem.mem_of_lookup hf.2) ⟨c, e⟩
            have := sub ec
            rw [e] at this
            cases this
            obtain ⟨o, ho, hd⟩ := z
            exact ⟨c, ec, o, old c o (up2 c o ho), hd⟩
    · obtain ⟨v, o, ho, hd⟩ := I2.cell y c (sub e)
      exact ⟨v, o, old c o (up2 c o ho), hd⟩
    · show (none :: frV σ fr).length = (x :: fr.map (·.2)).length
      simp [frV]
  have locX : (cxComp X scope G.objs.size (x :: fr.map (·.2)) { s2 with heap := G } H3 fp).env.scope.names.lookup x = some .local := lookup_relabel_local S.loc
  generalize hX : cxComp X scope G.objs.size (x :: fr.map (·.2)) { s2 with heap := G } H3 fp = Y at I4 locX
  have eP : Y.prog = X.prog := by rw [← hX]; rfl
  have eW : Y.w = X.w := by rw [← hX]; rfl
  have eK : Y.K = X.K := by rw [← hX]; rfl
  have eA : Y.A = X.A := by rw [← hX]; rfl
  have eC : Y.calm = true := by rw [← hX]; exact hc
  have eE : Y.env = compEnvC scope (closOf X.env.cells scope.names []) G.objs.size X.env := by rw [← hX]; rfl
  have eN : Y.N = x :: fr.map (·.2) := by rw [← hX]; rfl
  have eX : Y.xe = fun _ _ => False := by rw [← hX]; rfl
  have eB : ∀ {σ' : St} {H' : Hp} {s' : Shared} {pins' : List (Addr × Obj)}, Inv Y pins' σ' H' s' → s'.os = s2.os ∧ Un (frs X.stack) fp H3 H' G s'.heap := fun {σ' H' s' pins'} J => by
    subst hX
    exact ⟨J.os, J.base⟩
  have hT := ht G.objs.size { s2 with heap := G } H3 fp
  have hE := he G.objs.size { s2 with heap := G } H3 fp
  rw [hX] at hT hE
  have fpY : ∀ {H' : Hp}, (∀ b ∈ fp, H' b = none) → ∀ b ∈ fp, FpOk Y [] H' b := fun {H'} hn b hb => by
    subst hX
    refine ⟨hn b hb, Nat.ne_of_lt (fpG b hb), okB.exfs b hb, .inl hb, fun y c e => (okB.exf b hb).2 y c e, fun p hp => absurd (show p ∈ ([] : List (Addr × Obj)) from hp) (by simp)⟩
  have loop : ∀ s3 : Shared, (∃ tk, s3 = { s2 with heap := h₁, toks := tk }) →
      codeAny (model X.prog X.w) X.A (.compLoop (.ListComp elt [⟨.Name x px, iter, ifs, 0⟩] scope pos) 0 (.ref it) (.ref D) Y.env)
        (compPost (model X.prog X.w) X.A X.xe use Q' (.ref D) G.objs.size) s3 := by
    rintro s3 ⟨tk, rfl⟩
    refine codeAny_compLoop_tests (fun n s' => ∃ i ys o H', Inv Y [] (o :: frV σ fr) H' s' ∧ tn i s'.heap ∧ (∀ b ∈ fp, H' b = none) ∧ W i n ys H') ?_ m0
      ⟨0, [], none, H3, I4 tk, T.keep _ _ _ st2 fun b hb o e => old b o (up2 b o e), fun b hb => ?_, w0⟩
    · rintro n s' ⟨i, ys, o, H', J', st', fr', w'⟩
      obtain ⟨hD', hgo⟩ := turn i n ys H' w'
      rcases hgo with ⟨stop, qn⟩ | ⟨go, step⟩
      · have Q1 := T.done Y eP eW eK eC i [] s' (o :: frV σ fr) H' (notedBy (model X.prog X.w) X.A Y.env fun e s'' => compPost (model X.prog X.w) X.A X.xe use Q' (.ref D) G.objs.size (.error e) s'') J' (fpY fr') st' stop
        rw [eA] at Q1
        refine thn Q1 fun r s4 ⟨hr, J4⟩ => ?_
        subst hr
        obtain ⟨m, hn, _⟩ := J4.loc
        rw [eE] at hn
        obtain ⟨os4, u4⟩ := eB J4
        have free4 : H' G.objs.size = none := by have := J4.free; rw [eE] at this; exact this
        have hok4 : HOk X.prog X.w H' s4.heap := by have := J4.hok; rw [eP, eW] at this; exact this
        exact hfin D G.objs.size H' s4 m (I3.call' (ch := fp) (s' := s4) os4 u4 hok4 J4.bare stat0) hn ⟨free4, hCL, .inr hC1, hC2, hC3⟩ qn
      · have Q1 := T.item Y eP eW eK eC i [] s' (o :: frV σ fr) H' (notedBy (model X.prog X.w) X.A Y.env fun e s'' => compPost (model X.prog X.w) X.A X.xe use Q' (.ref D) G.objs.size (.error e) s'') J' (fpY fr') st' go
        rw [eA] at Q1
        refine thn Q1 fun r s4 ⟨u, hr, h4⟩ => ?_
        subst hr
        show wpAny _ _ (letOwnedTupleGo (.Name x px) (.ref it) u >>= fun _ => assign (.Name x px) Y.env u) _ _ s4
        refine wpAny_bind (thn h4 fun _ s5 ⟨v, H5, J5, r5, y5, st5, fr5⟩ => ?_)
        have J5' := J5.pinned (fpY fr5) (T.obj _ _ st5)
        have G5 := pg_name (X := Y) (i := 0) (x := x) (pos := px) (by rw [eN]; exact S.nd) (by rw [eN]; rfl) (.inl locX) (.inr locX) ([] ++ pinsAt fp s5.heap) s5 (o :: frV σ fr) H5 v u (fun σ6 H6 => σ6 = some v :: frV σ fr ∧ H6 = H5) J5' r5 ⟨rfl, rfl⟩
        rw [eP, eW, eA, eX] at G5
        refine wpAny_mono G5 (fun _ s6 ⟨σ6, H6, J6, e6, e6'⟩ => ?_) fun _ _ z => z.elim
        subst e6 e6'
        have T6 := hT _ s6 _ _ _ J6 (step v _ y5)
        rw [eP, eW, eA, eX] at T6
        have again : ∀ {s7 : Shared} {H7 : Hp} {zs : List V}, Inv Y ([] ++ pinsAt fp s5.heap) (some v :: frV σ fr) H7 s7 → (∃ m', m' < n ∧ W (i + 1) m' zs H7) → ∃ m, m < n ∧ ∃ i ys o H', Inv Y [] (o :: frV σ fr) H' s7 ∧ tn i s7.heap ∧ (∀ b ∈ fp, H' b = none) ∧ W i m ys H' := fun {s7 H7 zs} J7 ⟨m', hm, w7⟩ => by
          refine ⟨m', hm, i + 1, zs, some v, H7, J7.unpinned, T.keep _ _ _ st5 fun b hb o e => (J7.pin (b, o) (List.mem_append_right _ (List.mem_append_right _ (mem_pinsAt hb e)))).1, fun b hb => ?_, w7⟩
          obtain ⟨o, e, d⟩ := T.obj _ _ st5 b hb
          exact (J7.pin (b, o) (List.mem_append_right _ (List.mem_append_right _ (mem_pinsAt hb e)))).2.1
        refine wpAny_mono T6 (fun ok s7 ⟨H7, J7, q7⟩ => ?_) fun _ _ z => z.elim
        cases ok with
        | false => exact again J7 q7
        | true =>
          have E7 := hE _ s7 _ _ _ J7 q7
          rw [eP, eW, eA, eX] at E7
          show wpAny _ _ (eval elt Y.env) _ _ s7
          refine wpAny_mono E7 (fun u8 s8 ⟨y8, H8, J8, r8, hD8, hz8, w8⟩ => ?_) fun _ _ z => z.elim
          have A8 := mt_append (X := Y) _ s8 _ H8 (.ref D) [y8] (.ref D) [u8] (fun z H9 => H9 = upd H8 D (.lst (ys ++ [y8]))) J8 rfl (.cons r8 .nil) ⟨D, ys, y8, rfl, rfl, hD8, hz8, rfl⟩
          rw [eP, eW, eA, eX] at A8
          refine wpAny_mono A8 (fun _ s9 ⟨z9, H9, J9, _, e9⟩ => ?_) fun _ _ z => z.elim
          subst e9
          exact again J9 w8
    · rw [← hH3]
      have hbD : b ≠ D := by
        rw [← hD]
        obtain ⟨o, e, _⟩ := T.obj _ _ st2 b hb
        exact Nat.ne_of_lt (Heap.lt_size e)
      rw [upd_ne hbD]
      exact (f2 b hb).1
  rw [eE] at loop
  exact codeAny_compStart_list (loop _ ⟨_, rfl⟩) (T.self _ 0 _ _ _ (T.keep _ _ _ st2 fun b hb o e => old b o (up2 b o e)) (loop _ ⟨_, rfl⟩))
theorem pe_comp {X : Cx} {x : Str} {px : Pos} {iter elt : Expr} {ifs : List Expr} {scope sc : Scope} {pos : Pos} {N : List Str} {fr : List (Nat × Str)} {wi : TI} {tt : TT} {te : TE}
    (S : CompScope sc scope N x fr) (hsc : X.env.scope = sc) (hN : X.N = N) (hc : X.calm = true) (hi : PI X (.Name x px) iter wi)
    (ht : ∀ (C : Addr) (s : Shared) (H : Hp) (fp : List Addr), PTs (cxComp X scope C (x :: fr.map (·.2)) s H fp) ifs tt)
    (he : ∀ (C : Addr) (s : Shared) (H : Hp) (fp : List Addr), PE (cxComp X scope C (x :: fr.map (·.2)) s H fp) elt te)
    (hs : ∀ z, foldedSetIterable iter X.env z = pure z := by intro _; rfl) :
    PE X (.ListComp elt [⟨.Name x px, iter, ifs, 0⟩] scope pos) (tComp wi fr tt te) := by
  intro pins s σ H Q I h
  rw [eval_ListComp]
  refine comp_run (use := none) S hsc hN hc hi ht he hs I h fun D C H' s' m J hn fc q => ?_
  exact ⟨m, hn, fun h' hs' => ⟨.ref D, H', J.turned (t' := s'.toks) (fun b o hb e => (hs'.2 b hb).trans e) fc.hn fc.hL fc.h1 fc.h2 fc.h3, rfl, q⟩⟩
/-- name = [.. for ..], the name a plain local -/
theorem ps_setComp {X : Cx} {x y : Str} {px py spos : Pos} {i : Nat} {iter elt : Expr} {ifs : List Expr} {scope sc : Scope} {pos : Pos} {N : List Str} {fr : List (Nat × Str)} {wi : TI} {tt : TT} {te : TE}
    (S : CompScope sc scope N x fr) (hsc : X.env.scope = sc) (hN : X.N = N) (hc : X.calm = true) (hnd : X.N.Nodup) (hiy : X.N[i]? = some y) (hy : X.env.scope.names.lookup y = some .local) (hi : PI X (.Name x px) iter wi)
    (ht : ∀ (C : Addr) (s : Shared) (H : Hp) (fp : List Addr), PTs (cxComp X scope C (x :: fr.map (·.2)) s H fp) ifs tt)
    (he : ∀ (C : Addr) (s : Shared) (H : Hp) (fp : List Addr), PE (cxComp X scope C (x :: fr.map (·.2)) s H fp) elt te)
    (hs : ∀ z, foldedSetIterable iter X.env z = pure z := by intro _; rfl)
    (hsw : swapsWith (.ListComp elt [⟨.Name x px, iter, ifs, 0⟩] scope pos) (some (.Name y py)) spos.line X.env = pure true := by rfl) :
    PS X (.Assign [.Name y py] (.ListComp elt [⟨.Name x px, iter, ifs, 0⟩] scope pos) spos) (tAsg (tComp wi fr tt te) (gName i)) := by
  intro pins s σ H D0 I h
  rw [exec_Assign_Name_used _ _ _ _ hsw]
  refine wpAny_bind (wpAny_standAt (wpAny_bind ?_))
  show wpAny _ X.A (do let _ ← comprehension (.ListComp elt [⟨.Name x px, iter, ifs, 0⟩] scope pos) scope X.env _ (newList []) false (eval iter X.env) (some (assign (.Name y py) X.env))) _ _ s
  refine wpAny_bind (thn (comp_run (use := some (assign (.Name y py) X.env)) (Q' := fun _ s' => SP X pins D0 .next s') S hsc hN hc hi ht he hs I h fun D C H' s' m J hn fc q => ?_) fun _ s' hq => wpAny_pure (wpAny_pure hq))
  show wpAny _ _ (assign (.Name y py) X.env (.ref D)) _ _ s'
  refine wpAny_assign_Name (store_ok2 J hnd hiy (.inl hy) (v := .ref D) rfl (fun s5 J5 hs5 => ?_) (.inr hy))
  obtain ⟨a, sb, ha⟩ := hs5
  have hCa : C ≠ a := by
    rcases ha with z | z
    · rw [z]; exact fc.hL
    · exact Ne.symm (fc.h2 _ _ z)
  refine ⟨m, hn.sameBut sb hCa, fun h' hs' => ⟨_, H', J5.turned (t' := s5.toks) (fun b o hb e => (hs'.2 b hb).trans e) fc.hn fc.hL fc.h1 fc.h2 fc.h3, q⟩⟩
def clsV : V → Option Value
  | .ty n => some (.type n)
  | .ref a => some (.ref a)
  | _ => none
theorem call_isinst {X : Cx} : CallR X (.builtin "isinstance") (fun xs H Q => ∃ x c cv t b, xs = [x, c] ∧ clsV c = some cv ∧ TyOf X.K H x t ∧ PySem.W.kitOne X.K t cv = some b ∧ Q (.bl b) H) := by
  intro pins s σ H xs us Q I r h
  obtain ⟨x, c, cv, t, b, rfl, hcv, ty, hk, q⟩ := h
  obtain ⟨u, u', rfl, rx, rc⟩ := vals2 r
  have e : u' = cv := by
    cases c with
    | ty n => cases hcv; exact rc
    | ref a => cases hcv; exact rc
    | _ => cases hcv
  subst e
  exact isinst_ok I rx ty hk fun tk => ⟨.bl b, H, I.tok tk, rfl, q⟩
theorem strsAre_of {xs : List Str} : ∀ {us : List Value}, Vals (xs.map V.str) us → StrsAre us xs := by
  induction xs with
  | nil => intro us r; rw [List.map_nil] at r; cases r; exact .nil
  | cons y ys ih =>
    intro us r
    rw [List.map_cons] at r
    cases r with
    | cons r1 r2 =>
      obtain ⟨t, e⟩ := r1
      subst e
      exact .cons y t (ih r2)
inductive rJoin_I (K : PySem.W.Frag) (x : V) (xs : List V) (H : Hp) (Q : VK) : Prop
  | mk : ∀ (sep : Str) (p : Addr) (ys : List Str), x = .str sep → xs = [.ref p] → SqL K H p (ys.map V.str) → (ys.map (·.length)).sum + ys.length * sep.length ≤ 16777216 → Q (.str (Txt.join sep ys)) H → rJoin_I K x xs H Q
def rJoin (K : PySem.W.Frag) : V → List V → Hp → VK → Prop := fun x xs H Q => rJoin_I K x xs H Q
theorem mt_join {X : Cx} : MtR X "str.join" (rJoin X.K) := by
  intro pins s σ H x xs v us Q I rx rv h
  obtain ⟨sep, p, ys, rfl, rfl, hq, hz, q⟩ := h
  obtain ⟨t, rfl⟩ := rx
  obtain ⟨u, rfl, ru⟩ := vals1 rv
  cases ru
  obtain ⟨its, r, pl, _⟩ := I.list hq
  exact join_list pl.isList (by have := strsAre_of r; simpa using this) hz fun t' k => ⟨.str (Txt.join sep ys), H, I.tok k, ⟨t', rfl⟩, q⟩
mutual
inductive RD (K : PySem.W.Frag) (H : Hp) : V → PyData → Prop
  | non : RD K H .non .none
  | bl (b : Bool) : RD K H (.bl b) (.bool b)
  | int (i : Int) : RD K H (.int i) (.int i)
  | str (x : Str) : RD K H (.str x) (.str x)
  | lst {a : Addr} {xs : List V} {ds : List PyData} : SqL K H a xs → RDs K H xs ds → RD K H (.ref a) (.list ds)
  | tup {a : Addr} {xs : List V} {ds : List PyData} : SqT K H a xs → RDs K H xs ds → RD K H (.ref a) (.tuple ds)
inductive RDs (K : PySem.W.Frag) (H : Hp) : List V → List PyData → Prop
  | nil : RDs K H [] []
  | cons {x : V} {xs : List V} {d : PyData} {ds : List PyData} : RD K H x d → RDs K H xs ds → RDs K H (x :: xs) (d :: ds)
end
mutual
theorem RD.reads {X : Cx} {pins : List (Addr × Obj)} {σ : St} {H : Hp} {s : Shared} (I : Inv X pins σ H s) : ∀ {x : V} {d : PyData} {u : Value}, RD X.K H x d → RelV x u → ∃ as, Reads s.heap u d as
  | _, _, _, .non, r => by cases (show _ = Value.none from r); exact ⟨_, .none⟩
  | _, _, _, .bl b, r => by cases (show _ = Value.bool b from r); exact ⟨_, .bool b⟩
  | _, _, _, .int i, r => by obtain ⟨t, e⟩ := r; subst e; exact ⟨_, .int i t⟩
  | _, _, _, .str x, r => by obtain ⟨t, e⟩ := r; subst e; exact ⟨_, .str x t⟩
  | _, _, _, .lst (a := a) hq hs, r => by
    cases (show _ = Value.ref a from r)
    obtain ⟨its, rv, pl, _⟩ := I.list hq
    obtain ⟨as, ra⟩ := RDs.reads I hs rv
    obtain ⟨o, e, c, n, d⟩ := pl.isList
    exact ⟨_, .list e c d (by simpa using ra)⟩
  | _, _, _, .tup (a := a) hq hs, r => by
    cases (show _ = Value.ref a from r)
    obtain ⟨its, rv, pl, _⟩ := I.tuple hq
    obtain ⟨as, ra⟩ := RDs.reads I hs rv
    obtain ⟨o, e, c, n, d⟩ := pl
    exact ⟨_, .tuple e c d (by simpa using ra)⟩
theorem RDs.reads {X : Cx} {pins : List (Addr × Obj)} {σ : St} {H : Hp} {s : Shared} (I : Inv X pins σ H s) : ∀ {xs : List V} {ds : List PyData} {us : List Value}, RDs X.K H xs ds → Vals xs us → ∃ as, ReadsAll s.heap us ds as
  | _, _, _, .nil, r => by cases r; exact ⟨_, .nil⟩
  | _, _, _, .cons h1 h2, r => by
    cases r with
    | cons r1 r2 =>
      obtain ⟨as, a1⟩ := RD.reads I h1 r1
      obtain ⟨bs, a2⟩ := RDs.reads I h2 r2
      exact ⟨_, .cons a1 a2⟩
end
inductive rEqD_I (K : PySem.W.Frag) (x : V) (y : V) (H : Hp) (Q : VK) : Prop
  | mk : ∀ d e, RD K H x d → RD K H y e → SeqAt.shaped d = true → SeqAt.shaped e = true → Q (.bl (PyData.eqv d e)) H → rEqD_I K x y H Q
def rEqD (K : PySem.W.Frag) : R2 := fun x y H Q => rEqD_I K x y H Q
inductive rNeD_I (K : PySem.W.Frag) (x : V) (y : V) (H : Hp) (Q : VK) : Prop
  | mk : ∀ d e, RD K H x d → RD K H y e → SeqAt.shaped d = true → SeqAt.shaped e = true → Q (.bl (!PyData.eqv d e)) H → rNeD_I K x y H Q
def rNeD (K : PySem.W.Frag) : R2 := fun x y H Q => rNeD_I K x y H Q
theorem op_eqD {X : Cx} (hu : X.A.units + 64 < cLine) : OpR X (compareOp .Eq) (rEqD X.K) := by
  intro pins s σ H x y v u Q I rx ry h
  obtain ⟨d, e, hd, he, sd, se, q⟩ := h
  obtain ⟨as, ra⟩ := hd.reads I rx
  obtain ⟨bs, rb⟩ := he.reads I ry
  exact eq_dataH ra rb sd se hu ⟨.bl _, H, I, rfl, q⟩
theorem op_neD {X : Cx} (hu : X.A.units + 64 < cLine) : OpR X (compareOp .NotEq) (rNeD X.K) := by
  intro pins s σ H x y v u Q I rx ry h
  obtain ⟨d, e, hd, he, sd, se, q⟩ := h
  obtain ⟨as, ra⟩ := hd.reads I rx
  obtain ⟨bs, rb⟩ := he.reads I ry
  exact ne_dataH ra rb sd se hu ⟨.bl _, H, I, rfl, q⟩
theorem us_s {n : Nat} {P : List Value → Prop} (h : ∀ a us, us.length = n → P (a :: us)) : ∀ us : List Value, us.length = n + 1 → P us := fun us e => by
  cases us with
  | nil => exact absurd e (Nat.succ_ne_zero n).symm
  | cons a us => exact h a us (Nat.succ.inj e)
theorem us_0 {P : List Value → Prop} (h : P []) : ∀ us : List Value, us.length = 0 → P us := fun us e => by rw [List.eq_nil_of_length_eq_zero e]; exact h
theorem us_1 {P : List Value → Prop} (h : ∀ a, P [a]) : ∀ us : List Value, us.length = 1 → P us := us_s fun a => us_0 (P := fun us => P (a :: us)) (h a)
theorem us_2 {P : List Value → Prop} (h : ∀ a b, P [a, b]) : ∀ us : List Value, us.length = 2 → P us := us_s fun a => us_1 (P := fun us => P (a :: us)) (fun b => h a b)
theorem us_3 {P : List Value → Prop} (h : ∀ a b c, P [a, b, c]) : ∀ us : List Value, us.length = 3 → P us := us_s fun a => us_2 (P := fun us => P (a :: us)) (fun b c => h a b c)
theorem us_4 {P : List Value → Prop} (h : ∀ a b c d, P [a, b, c, d]) : ∀ us : List Value, us.length = 4 → P us := us_s fun a => us_3 (P := fun us => P (a :: us)) (fun b c d => h a b c d)
theorem us_5 {P : List Value → Prop} (h : ∀ a b c d e, P [a, b, c, d, e]) : ∀ us : List Value, us.length = 5 → P us := us_s fun a => us_4 (P := fun us => P (a :: us)) (fun b c d e => h a b c d e)
end L2
set_option Elab.async false
set_option linter.all false
set_option maxRecDepth 100000
set_option maxHeartbeats 4000000
namespace L2
open PySem PySem.Spec PyProof.Rows
theorem atI_some {α : Type} {xs : List α} {i : Int} (h0 : 0 ≤ i) (h1 : i < (xs.length : Int)) : ∃ v, atI xs i = some v ∧ v ∈ xs ∧ xs[i.toNat]? = some v := by
  have hn : i.toNat < xs.length := by omega
  refine ⟨xs[i.toNat], ?_, List.getElem_mem hn, List.getElem?_eq_getElem hn⟩
  have e : ((i.toNat : Nat) : Int) = i := by omega
  have q := atI_nat (xs := xs) (j := i.toNat) (List.getElem?_eq_getElem hn)
  rw [e] at q
  exact q
theorem atI_mod {α : Type} {xs : List α} (i : Int) (h : 0 < xs.length) : ∃ v, atI xs (i % (xs.length : Int)) = some v ∧ v ∈ xs ∧ xs[(i % (xs.length : Int)).toNat]? = some v :=
  atI_some (Int.emod_nonneg _ (by omega)) (Int.emod_lt_of_pos _ (by omega))
theorem mem_map_int {ns : List Int} {v : V} (h : v ∈ ns.map V.int) : ∃ z, v = .int z ∧ z ∈ ns := by
  obtain ⟨z, hz, e⟩ := List.mem_map.mp h
  exact ⟨z, e.symm, hz⟩
theorem Same.upd_new {H : Hp} {p : Addr} {o : HO} (h : H p = none) : Same H (upd H p o) := fun b u e => by rw [upd_ne (ne_of_none e h)]; exact e
theorem Same.upd_of {H H' : Hp} {p : Addr} {o : HO} (s : Same H H') (h : H p = none) : Same H (upd H' p o) := fun b u e => by rw [upd_ne (ne_of_none e h)]; exact s b u e
theorem Same.tup {K : PySem.W.Frag} {H H' : Hp} {a : Addr} {xs : List V} (e : Same H H') (h : SqT K H a xs) : SqT K H' a xs := by
  rcases h with (h | ⟨o, h⟩) | h
  · exact .inl (.inl (e _ _ h))
  · exact .inl (.inr ⟨o, e _ _ h⟩)
  · exact .inr h
/-- a global that holds a plain value -/
theorem pe_gl {X : Cx} {x : Str} {v : V} {pos : Pos} (hg : Gl X x) (h : ∃ u, X.mg x = some u ∧ RelV v u) (hd : (x == ("__debug__" : Str)) = false := by decide) : PE X (.Name x pos) (tC v) := by
  obtain ⟨u, hm, r⟩ := h
  exact pe_glob hg hm r hd
section
variable {X : Cx} {o e : Expr} {es : List Expr} {to : TE} {t : TA} {name : Str} {apos cpos : Pos} {T id : String} {r : V → List V → Hp → VK → Prop}
end
def plainE : Expr → Bool
  | .Starred .. => false
  | _ => true
theorem starEach_plain {e : Expr} {es : List Expr} {env : Env} (h : plainE e = true) : starEach (e :: es) env = (false, eval e env) :: starEach es env := by
  cases e <;> first | rfl | (cases h)
/-- an item of a written list, tuple or argument list (no star) -/
theorem pac {X : Cx} {e : Expr} {es : List Expr} {te : TE} {t : TA} (ha : PE X e te) (hr : PA X es t) (h : plainE e = true := by rfl) : PA X (e :: es) (tCons te t) := pa_cons ha hr (starEach_plain h)
/-- an item list, not to be looked into by the elaborator (its unfolding is paid for item by item, twice each) -/
structure PAs (X : Cx) (es : List Expr) (t : TA) : Prop where
  h : PA X es t
theorem pas_nil {X : Cx} : PAs X [] tNil := ⟨pa_nil⟩
theorem pas_cons {X : Cx} {e : Expr} {es : List Expr} {te : TE} {t : TA} (ha : PE X e te) (hr : PAs X es t) (h : plainE e = true := by rfl) : PAs X (e :: es) (tCons te t) := ⟨pac ha hr.h h⟩
theorem pe_lstS {X : Cx} {es : List Expr} {t : TA} {pos : Pos} (h : PAs X es t) : PE X (.List es pos) (tLst t) := pe_lst h.h
theorem pe_tupS {X : Cx} {es : List Expr} {t : TA} {x1 : Nat} {pos : Pos} (h : PAs X es t) : PE X (.Tuple es x1 pos) (tTup t) := pe_tup h.h
/-- a comprehension over a range -/
theorem comp_range {lo : Int} {n : Nat} {fr : List (Nat × Str)} {te : TE} {σ : St} {H1 : Hp} {Q : VK} (f : Nat → V) (hz : n ≤ sizeLine)
    (hte : ∀ (i : Nat) (H3 : Hp) (Q' : VK), i < n → Same H1 H3 → Q' (f i) H3 → te (some (.int (lo + i)) :: frV σ fr) H3 Q')
    (hQ : ∀ D, H1 D = none → Q (.ref D) (upd H1 D (.lst ((List.range n).map f)))) :
    compGoal (Itr lo n) fr tTrue te σ H1 Q := by
  unfold compGoal
  intro D hD
  refine ⟨fun i m ys H2 => m = n - i ∧ i ≤ n ∧ ys = (List.range i).map f ∧ H2 = upd H1 D (.lst ys), ⟨n, by simp, Nat.zero_le _, by simp, rfl⟩, ?_⟩
  rintro i m ys H2 ⟨rfl, hi, rfl, rfl⟩
  refine ⟨upd_same, ?_⟩
  by_cases hlt : i < n
  · refine .inr ⟨hlt, ?_⟩
    rintro v H3 ⟨rfl, rfl⟩
    refine tTrue_go (iteT ?_)
    refine hte i _ _ hlt (Same.upd_new hD) ⟨upd_same, ?_, n - (i + 1), by omega, rfl, hlt, ?_, upd_upd⟩
    · rw [List.length_map, List.length_range]
      omega
    · rw [List.range_succ, List.map_append, List.map_singleton]
  · have e : i = n := by omega
    subst e
    exact .inl ⟨Nat.le_refl _, hQ D hD⟩
theorem sum_ones {α : Type} (g : α → Nat) : ∀ (l : List α), (∀ x ∈ l, g x = 1) → (l.map g).sum = l.length
  | [], _ => rfl
  | a :: r, h => by
    rw [List.map_cons, List.sum_cons, h a List.mem_cons_self, sum_ones g r fun x hx => h x (List.mem_cons_of_mem _ hx), List.length_cons]
    omega
theorem cat_len (x y : Str) : (x ++ y).length = x.length + y.length := by
  show (x.cps ++ y.cps).size = _
  rw [Array.size_append]; rfl
end L2
set_option Elab.async false
set_option linter.all false
set_option maxRecDepth 100000
set_option maxHeartbeats 4000000
namespace L2
open PySem PySem.Spec PyProof.Rows
/-- only plain signs -/
def Asc (x : Str) : Prop := ∀ c ∈ x.cps.toList, c < 128
theorem Asc.ok {x : Str} (h : Asc x) : PyData.strOk x = true := by
  unfold PyData.strOk
  rw [Array.all_eq_true']
  intro c hc
  have := h c (Array.mem_toList_iff.mpr hc)
  exact decide_eq_true (by omega)
theorem Asc.one {x : Str} {c : Nat} (h : Asc x) (hc : c ∈ x.cps.toList) : Asc ⟨#[c]⟩ := fun d hd => by
  have : d = c := by simpa using hd
  rw [this]; exact h c hc
theorem vals_of_get : ∀ {xs : List V} {us : List Value}, xs.length = us.length → (∀ (j : Nat) (x : V) (u : Value), xs[j]? = some x → us[j]? = some u → RelV x u) → Vals xs us
  | [], [], _, _ => .nil
  | [], _ :: _, h, _ => by cases h
  | _ :: _, [], h, _ => by cases h
  | x :: xs, u :: us, hl, hg => .cons (hg 0 x u rfl rfl) (vals_of_get (by simpa using hl) fun j y w h1 h2 => hg (j + 1) y w (by simpa using h1) (by simpa using h2))
theorem KV.at {κ : Type} : ∀ {kvs : List (κ × V)} {vs : List (κ × Value)} {j : Nat} {p : κ × V} {q : κ × Value}, KV kvs vs → kvs[j]? = some p → vs[j]? = some q → p.1 = q.1
  | _, _, _, _, _, .nil, h, _ => by simp at h
  | _, _, 0, _, _, .cons r _, h1, h2 => by
    simp only [List.getElem?_cons_zero, Option.some.injEq] at h1 h2
    subst h1 h2
    exact r.1
  | _, _, j + 1, _, _, .cons _ t, h1, h2 => KV.at (j := j) (show KV _ _ from t) (by simpa using h1) (by simpa using h2)
/-- a comprehension over a range: P of what has come so far, whatever the heap has got beside -/
theorem comp_rangeG {lo : Int} {n : Nat} {fr : List (Nat × Str)} {te : TE} {σ : St} {H1 : Hp} {Q : VK} (Pv : Nat → List V → Prop) (hz : n ≤ sizeLine) (h0 : Pv 0 []) (hlen : ∀ i ys, Pv i ys → ys.length = i)
    (hte : ∀ (i : Nat) (ys : List V) (H3 : Hp) (Q' : VK), i < n → Pv i ys → Same H1 H3 → (∀ y H5, Pv (i + 1) (ys ++ [y]) → Same H3 H5 → Q' y H5) → te (some (.int (lo + i)) :: frV σ fr) H3 Q')
    (hQ : ∀ D ys H2, H1 D = none → Pv n ys → Same H1 H2 → H2 D = some (.lst ys) → Q (.ref D) H2) :
    compGoal (Itr lo n) fr tTrue te σ H1 Q := by
  unfold compGoal
  intro D hD
  refine ⟨fun i m ys H2 => m = n - i ∧ i ≤ n ∧ Pv i ys ∧ Same H1 H2 ∧ H2 D = some (.lst ys), ⟨n, by simp, Nat.zero_le _, h0, Same.upd_new hD, upd_same⟩, ?_⟩
  rintro i m ys H2 ⟨rfl, hi, p, s2, d2⟩
  refine ⟨d2, ?_⟩
  by_cases hlt : i < n
  · refine .inr ⟨hlt, ?_⟩
    rintro v H3 ⟨rfl, rfl⟩
    refine tTrue_go (iteT ?_)
    refine hte i ys _ _ hlt p s2 fun y H5 p' s5 => ⟨s5 _ _ d2, ?_, n - (i + 1), by omega, rfl, hlt, p', (s2.trans s5).upd_of hD, upd_same⟩
    rw [hlen i ys p]; omega
  · have e : i = n := by omega
    subst e
    exact .inl ⟨Nat.le_refl _, hQ D ys H2 hD p s2 d2⟩
/-- a comprehension over a list that stays -/
theorem comp_listG {K : PySem.W.Frag} {a : Addr} {xs : List V} {fr : List (Nat × Str)} {te : TE} {σ : St} {H1 : Hp} {Q : VK} (Pv : Nat → List V → Prop) (hz : xs.length ≤ sizeLine) (hS : SqL K H1 a xs) (h0 : Pv 0 []) (hlen : ∀ i ys, Pv i ys → ys.length = i)
    (hte : ∀ (i : Nat) (x : V) (ys : List V) (H3 : Hp) (Q' : VK), xs[i]? = some x → Pv i ys → Same H1 H3 → (∀ y H5, Pv (i + 1) (ys ++ [y]) → Same H3 H5 → Q' y H5) → te (some x :: frV σ fr) H3 Q')
    (hQ : ∀ D ys H2, H1 D = none → Pv xs.length ys → Same H1 H2 → H2 D = some (.lst ys) → Q (.ref D) H2) :
    compGoal (Itl K a) fr tTrue te σ H1 Q := by
  unfold compGoal
  intro D hD
  refine ⟨fun i m ys H2 => m = xs.length - i ∧ i ≤ xs.length ∧ Pv i ys ∧ Same H1 H2 ∧ H2 D = some (.lst ys), ⟨xs.length, by simp, Nat.zero_le _, h0, Same.upd_new hD, upd_same⟩, ?_⟩
  rintro i m ys H2 ⟨rfl, hi, p, s2, d2⟩
  refine ⟨d2, ?_⟩
  have hS2 := s2.seq hS
  by_cases hlt : i < xs.length
  · refine .inr ⟨⟨xs, xs[i], hS2, List.getElem?_eq_getElem hlt⟩, ?_⟩
    rintro v H3 ⟨rfl, hv⟩
    refine tTrue_go (iteT ?_)
    refine hte i v ys _ _ (hv xs hS2) p s2 fun y H5 p' s5 => ⟨s5 _ _ d2, ?_, xs.length - (i + 1), by omega, rfl, hlt, p', (s2.trans s5).upd_of hD, upd_same⟩
    rw [hlen i ys p]; omega
  · have e : i = xs.length := by omega
    subst e
    exact .inl ⟨⟨xs, hS2, Nat.le_refl _⟩, hQ D ys H2 hD p s2 d2⟩
end L2
set_option Elab.async false
set_option linter.all false
set_option maxRecDepth 100000
set_option maxHeartbeats 4000000
namespace L2
open PySem PySem.Spec PyProof.Rows
theorem rds_strs {K : PySem.W.Frag} {H : Hp} : ∀ xs : List Str, RDs K H (xs.map V.str) (xs.map PyData.str)
  | [] => .nil
  | x :: r => .cons (.str x) (rds_strs r)
theorem rd_strs {K : PySem.W.Frag} {H : Hp} {a : Addr} {xs : List Str} (h : SqL K H a (xs.map V.str)) : RD K H (.ref a) (.list (xs.map PyData.str)) := .lst h (rds_strs xs)
theorem lay_strs : ∀ {xs : List Str}, (∀ x ∈ xs, Asc x) → PyData.canLayAll0 (xs.map PyData.str) = true ∧ PyData.depthAll (xs.map PyData.str) = 0
  | [], _ => ⟨rfl, rfl⟩
  | x :: r, h => by
    have q := lay_strs (xs := r) fun y hy => h y (List.mem_cons_of_mem _ hy)
    have e := (h x List.mem_cons_self).ok
    simp only [List.map_cons, PyData.canLayAll0, PyData.canLay0, PyData.depthAll, PyData.depth, q.1, q.2, e]
    exact ⟨rfl, rfl⟩
theorem keys_putK {kvs : List (Key × V)} {k : Key} {v : V} : (k ∈ kvs.map (·.1) → (putK kvs k v).map (·.1) = kvs.map (·.1)) ∧ (¬ k ∈ kvs.map (·.1) → (putK kvs k v).map (·.1) = kvs.map (·.1) ++ [k]) := by
  cases e : valV kvs k with
  | none =>
    refine ⟨fun h => absurd h (valV_not e), fun _ => ?_⟩
    rw [putK_new v e, List.map_append]; rfl
  | some u =>
    refine ⟨fun _ => ?_, fun h => absurd (valV_in e) h⟩
    unfold putK
    have q : (kvs.any fun kv => decide (kv.1 = k)) = true := by rw [valV_any, e]; rfl
    rw [if_pos q, List.map_map]
    refine List.map_congr_left fun p _ => ?_
    show (if p.1 = k then (p.1, v) else p).1 = p.1
    split <;> rfl
/-- a cut from the front -/
theorem cut_front {α : Type} (f : α → V) (xs : List α) (v : Int) (h : 0 ≤ v) : cutV (xs.map f) none (some v) = (xs.take v.toNat).map f := by
  have hv : ¬ v < 0 := by omega
  simp only [cutV, HT.sIx, if_neg hv, List.drop_zero, List.length_map, Nat.sub_zero, ← List.map_take]
  congr 1
  by_cases h2 : v.toNat ≤ xs.length
  · rw [Nat.min_eq_left h2]
  · rw [Nat.min_eq_right (by omega), List.take_of_length_le (Nat.le_refl _), List.take_of_length_le (by omega)]
end L2
namespace L2
open PySem PySem.Spec PyProof.Rows
abbrev aZ : Str := "abcdefghijklmnopqrstuvwxyz0123456789"
theorem aZ_len : aZ.cps.toList.length = 36 := by decide +kernel
theorem aZ_asc : Asc aZ := by
  have h : (aZ.cps.toList.all fun c => decide (c < 128)) = true := by decide +kernel
  intro c hc
  exact of_decide_eq_true (List.all_eq_true.mp h c hc)
theorem aZ_small : aZ.length ≤ sizeLine := by
  have : aZ.length = 36 := by decide +kernel
  rw [this]; decide
/-- 1 to 20 signs, each a small letter or a figure -/
structure WordS (x : Str) : Prop where
  lo : 1 ≤ x.length
  hi : x.length ≤ 20
  in_ : ∀ c ∈ x.cps.toList, c ∈ aZ.cps.toList
theorem WordS.asc {x : Str} (h : WordS x) : Asc x := fun c hc => aZ_asc c (h.in_ c hc)
theorem join0 (ys : List Str) : (Txt.join "" ys).cps.toList = (ys.map (·.cps.toList)).flatten := by
  have key : ∀ (r : List Str) (acc : Array Nat), (r.foldl (fun acc p => acc ++ ("" : Str).cps ++ p.cps) acc).toList = acc.toList ++ (r.map (·.cps.toList)).flatten := by
    intro r
    induction r with
    | nil => intro acc; simp
    | cons y r ih =>
      intro acc
      rw [List.foldl_cons, ih, List.map_cons, List.flatten_cons]
      have e : ("" : Str).cps = #[] := by decide +kernel
      rw [e]
      simp
  cases ys with
  | nil => rfl
  | cons y r => exact (key r y.cps).trans (by rw [List.map_cons, List.flatten_cons])
theorem len_list (x : Str) : x.length = x.cps.toList.length := by simp [Str.length]
theorem join0_len {ys : List Str} (h : ∀ y ∈ ys, y.length = 1) : (Txt.join "" ys).length = ys.length := by
  rw [len_list, join0, List.length_flatten, List.map_map]
  exact sum_ones _ _ fun y hy => by
    have := h y hy
    rw [len_list] at this
    exact this
theorem cat_list (x y : Str) : (x ++ y).cps.toList = x.cps.toList ++ y.cps.toList := by show (x.cps ++ y.cps).toList = _; simp
theorem empty_len : ("" : Str).length = 0 := by decide +kernel
/-- one sign out of a text -/
def Sign1 (z y : Str) : Prop := ∃ c, c ∈ z.cps.toList ∧ y = ⟨#[c]⟩
theorem Sign1.len {z y : Str} (h : Sign1 z y) : y.length = 1 := by obtain ⟨c, _, rfl⟩ := h; rfl
theorem join_signs {z : Str} {ys : List Str} (h : ∀ y ∈ ys, Sign1 z y) : (Txt.join "" ys).length = ys.length ∧ ∀ c ∈ (Txt.join "" ys).cps.toList, c ∈ z.cps.toList := by
  refine ⟨join0_len fun y hy => (h y hy).len, fun c hc => ?_⟩
  rw [join0] at hc
  obtain ⟨l, hl, hcl⟩ := List.mem_flatten.mp hc
  obtain ⟨y, hy, rfl⟩ := List.mem_map.mp hl
  obtain ⟨d, hd, rfl⟩ := h y hy
  have : c = d := by simpa using hcl
  rw [this]; exact hd
theorem join_sum {ys : List Str} (h : ∀ y ∈ ys, y.length = 1) (hl : ys.length ≤ 100000) : (ys.map (·.length)).sum + ys.length * ("" : Str).length ≤ 16777216 := by
  rw [sum_ones _ _ h, empty_len]; omega
theorem pick_sign {z : Str} {i : Int} (h0 : 0 ≤ i) (h1 : i < (z.cps.toList.length : Int)) : ∃ c, atI z.cps.toList i = some c ∧ c ∈ z.cps.toList := by
  obtain ⟨c, a, b, _⟩ := atI_some h0 h1
  exact ⟨c, a, b⟩
theorem num_small : ∀ n : Nat, n < 100 → (Str.ofString (toString (n : Int))).length ≤ 2 ∧ 1 ≤ (Str.ofString (toString (n : Int))).length ∧ ((Str.ofString (toString (n : Int))).cps.toList.all fun c => decide (c ∈ aZ.cps.toList)) = true := by decide +kernel
end L2
set_option Elab.async false
set_option linter.all false
set_option maxRecDepth 100000
set_option maxHeartbeats 4000000
namespace L2
open PySem PySem.Spec PyProof.Rows
end L2
set_option Elab.async false
set_option linter.all false
set_option maxRecDepth 100000
set_option maxHeartbeats 4000000
namespace L2
open PySem PySem.Spec PyProof.Rows
def ownWords : List Str := ["and", "or", "not", "then", "if", "thread", "to", "any", "day", "stop", "place", "answers", "before", "after", "word", "title", "from", "in", "marked", "mark", "unmark"]
theorem own_len : ownWords.length = 21 := rfl
end L2
set_option Elab.async false
set_option linter.all false
set_option maxRecDepth 100000
set_option maxHeartbeats 4000000
namespace L2
open PySem PySem.Spec PyProof.Rows
structure FunD (K : PySem.W.Frag) (x qual : Str) (st : Stmt) (f : Addr) (fd : FuncData) : Prop where
  ex : ∃ (oc : Value) (od : Option Addr) (dV kV doc pm : Value) (an : Option Addr) (cdv ct : Value) (osl : Array (Option Value)),
    fd = PySem.W.fnOf x qual (defArgs st) (defBody st) (defScope st) dV kV doc pm an cdv ct ∧ K.lookup f = some ⟨oc, od, .func fd, osl⟩ ∧ PySem.W.codeIn K cdv qual = true
  kp : PySem.W.keepIn K (.ref f) = true
theorem FunD.ok {P : Program} {w : World} {K : PySem.W.Frag} {mg : Str → Option Value} {base : Heap} {x qual : Str} {st : Stmt} {f : Addr} {fd : FuncData} {N ps : List Str} {k : Nat} {sp : Sp} (F : FunD K x qual st f fd) (S : FnScope N ps (defScope st))
    (len : ∀ vs H Q E, sp vs H Q E → vs.length = ps.length)
    (hbody : ∀ (cdv : Value) (A : Around) (outer : List Env) (s : Shared) (H : Hp) (vs : List V) (Q : VK) (E : XK), Room k (A.deeper (envOfC qual (defScope st) s.heap.objs.size f cdv)) → sp vs H Q E →
      ∃ t, PSs (cxOf CX0 P w K mg base N qual (defScope st) f cdv A outer s H E).nox (defBody st) t ∧ t { nx := fun _ H' => Q .non H', rt := Q } (start N vs) H) : FnOk P w K mg base CX0 (k + 1) f fd ps sp := by
  obtain ⟨oc, od, dV, kV, doc, pm, an, cdv, ct, osl, rfl, lk, hcd⟩ := F.ex
  refine fn_of lk hcd S len fun A outer s H vs Q E hr hsp => ?_
  obtain ⟨t, h, q⟩ := hbody cdv A outer s H vs Q E hr hsp
  exact ⟨t, h.nox, q⟩
theorem fun_mkD {K : PySem.W.Frag} {x qual : Str} {st : Stmt} {f : Addr} {oc dV : Value} {od an : Option Addr} {osl : Array (Option Value)} {kV doc pm cdv ct : Value} (l : K.lookup f = some ⟨oc, od, .func (PySem.W.fnOf x qual (defArgs st) (defBody st) (defScope st) dV kV doc pm an cdv ct), osl⟩)
    (c : PySem.W.codeIn K cdv qual = true) (k : PySem.W.keepIn K (.ref f) = true) : FunD K x qual st f (PySem.W.fnOf x qual (defArgs st) (defBody st) (defScope st) dV kV doc pm an cdv ct) := ⟨⟨oc, od, dV, kV, doc, pm, an, cdv, ct, osl, rfl, l, c⟩, k⟩
def Prt (x : Str) : Prop := ∀ c ∈ x.cps.toList, 32 ≤ c ∧ c < 127
theorem Prt.asc {x : Str} (h : Prt x) : Asc x := fun c hc => Nat.lt_trans (h c hc).2 (by decide)
theorem Prt.one {x : Str} {c : Nat} (h : Prt x) (hc : c ∈ x.cps.toList) : Prt ⟨#[c]⟩ := fun d hd => by
  have : d = c := by simpa using hd
  rw [this]; exact h c hc
end L2
set_option Elab.async false
set_option linter.all false
set_option maxRecDepth 100000
set_option maxHeartbeats 4000000
namespace L2
open PySem PySem.Spec PyProof.Rows
theorem str_ext {x y : Str} (h : x.cps.toList = y.cps.toList) : x = y := by
  cases x; cases y
  have := Array.toList_inj.mp h
  simp only at this
  rw [this]
/-- a row of drawn numbers: what stands at a place -/
theorem row_pick {rs : List Int} {m : Int} (hb : ∀ r ∈ rs, 0 ≤ r ∧ r < m) (i : Int) (h0 : 0 ≤ i) (h1 : i < (rs.length : Int)) : ∃ z, atI (rs.map V.int) i = some (V.int z) ∧ 0 ≤ z ∧ z < m := by
  obtain ⟨v, hv, hvm, _⟩ := atI_some (xs := rs.map V.int) h0 (by rw [List.length_map]; exact h1)
  obtain ⟨z, hz, rfl⟩ := List.mem_map.mp hvm
  exact ⟨z, hv, hb z hz⟩
end L2
set_option Elab.async false
set_option linter.all false
set_option maxRecDepth 100000
set_option maxHeartbeats 4000000
namespace L2
open PySem PySem.Spec PyProof.Rows
theorem ps_try {X : Cx} {body : List Stmt} {h₀ : ExceptHandler} {hs : List ExceptHandler} {pos : Pos} {t : TS} (hx : ∀ e s, X.xe e s → False) (h : PSs X body t) : PS X (.Try body (h₀ :: hs) [] [] pos) t := by
  intro pins s σ H D I q
  refine wpAny_Try_except (wpAny_mono (h pins s σ H D I q) (fun f s₁ h₁ => ?_) fun e s₁ h₁ => (hx e s₁ h₁).elim)
  cases f with
  | next => rw [arm_execs_nil]; exact wpAny_pure h₁
  | _ => exact h₁
end L2
set_option Elab.async false
set_option linter.all false
set_option maxRecDepth 100000
set_option maxHeartbeats 4000000
namespace L2
open PySem PySem.Spec PyProof.Rows
end L2
set_option Elab.async false
set_option linter.all false
set_option maxRecDepth 100000
set_option maxHeartbeats 4000000
namespace L2
open PySem PySem.Spec PyProof.Rows
end L2
set_option Elab.async false
set_option linter.all false
set_option maxRecDepth 100000
set_option maxHeartbeats 4000000
namespace L2
open PySem PySem.Spec PyProof.Rows
def leS (a b : Str) : Bool := !ltCps b.cps.toList a.cps.toList
def insS (x : Str) : List Str → List Str
  | [] => [x]
  | y :: r => if leS x y = true then x :: y :: r else y :: insS x r
def sortS : List Str → List Str
  | [] => []
  | x :: r => insS x (sortS r)
theorem leS_iff (a b : Str) : leS a b = true ↔ ¬ b.cps.toList < a.cps.toList := by
  unfold leS
  rw [ltCps_eq]
  simp
theorem leS_total (a b : Str) : leS a b = true ∨ leS b a = true := by
  rw [leS_iff, leS_iff]
  by_cases h : b.cps.toList < a.cps.toList
  · exact .inr (List.lt_asymm h)
  · exact .inl h
theorem leS_trans {a b c : Str} (h1 : leS a b = true) (h2 : leS b c = true) : leS a c = true := by
  rw [leS_iff] at *
  intro h
  rcases strKind.negTrans c.cps.toList b.cps.toList a.cps.toList (by simpa using h) with z | z
  · exact h2 (by simpa using z)
  · exact h1 (by simpa using z)
theorem leS_antisymm {a b : Str} (h1 : leS a b = true) (h2 : leS b a = true) : a = b := by
  rw [leS_iff] at *
  exact str_ext (List.le_antisymm (List.not_lt.mp h1) (List.not_lt.mp h2))
abbrev Sor (l : List Str) : Prop := l.Pairwise fun a b => leS a b = true
theorem rising_sor : ∀ (p : Str) (l : List Str), risingS p l = true → Sor (p :: l)
  | p, [], _ => List.pairwise_singleton _ _
  | p, x :: r, h => by
    have h : (leS p x && risingS x r) = true := h
    rw [Bool.and_eq_true] at h
    have ih := rising_sor x r h.2
    refine List.pairwise_cons.mpr ⟨fun y hy => ?_, ih⟩
    rcases List.mem_cons.mp hy with rfl | hy
    · exact h.1
    · exact leS_trans h.1 ((List.pairwise_cons.mp ih).1 y hy)
theorem sor_of : ∀ {l : List Str}, sortedS l = true → Sor l
  | [], _ => List.Pairwise.nil
  | x :: r, h => rising_sor x r h
theorem ins_perm (x : Str) : ∀ l : List Str, (insS x l).Perm (x :: l)
  | [] => .refl _
  | y :: r => by
    unfold insS
    split
    · exact .refl _
    · exact ((ins_perm x r).cons y).trans (.swap x y r)
theorem sortS_perm : ∀ l : List Str, (sortS l).Perm l
  | [] => .refl _
  | x :: r => (ins_perm x (sortS r)).trans ((sortS_perm r).cons x)
theorem ins_sor (x : Str) : ∀ {l : List Str}, Sor l → Sor (insS x l)
  | [], _ => List.pairwise_singleton _ _
  | y :: r, h => by
    unfold insS
    obtain ⟨h1, h2⟩ := List.pairwise_cons.mp h
    split
    · rename_i hx
      refine List.pairwise_cons.mpr ⟨fun z hz => ?_, h⟩
      rcases List.mem_cons.mp hz with rfl | hz
      · exact hx
      · exact leS_trans hx (h1 z hz)
    · rename_i hx
      refine List.pairwise_cons.mpr ⟨fun z hz => ?_, ins_sor x h2⟩
      rcases List.mem_cons.mp ((ins_perm x r).mem_iff.mp hz) with rfl | hz
      · exact (leS_total y z).resolve_right hx
      · exact h1 z hz
theorem sortS_sor : ∀ l : List Str, Sor (sortS l)
  | [] => .nil
  | x :: r => ins_sor x (sortS_sor r)
theorem sor_unique : ∀ {a b : List Str}, a.Perm b → Sor a → Sor b → a = b
  | [], b, p, _, _ => (List.nil_perm.mp p).symm
  | x :: r, [], p, _, _ => absurd p.symm.nil_eq (by simp)
  | x :: r, y :: t, p, ha, hb => by
    have e : x = y := by
      have h1 : x ∈ y :: t := p.mem_iff.mp List.mem_cons_self
      have h2 : y ∈ x :: r := p.mem_iff.mpr List.mem_cons_self
      rcases List.mem_cons.mp h1 with e | h1
      · exact e
      · rcases List.mem_cons.mp h2 with e | h2
        · exact e.symm
        · exact leS_antisymm ((List.pairwise_cons.mp ha).1 y h2) ((List.pairwise_cons.mp hb).1 x h1)
    subst e
    rw [sor_unique (List.perm_cons _ |>.mp p) (List.pairwise_cons.mp ha).2 (List.pairwise_cons.mp hb).2]
theorem sortS_eq {a b : List Str} (p : a.Perm b) (h : Sor a) : a = sortS b := sor_unique (p.trans (sortS_perm b).symm) h (sortS_sor b)
theorem sortS_congr {a b : List Str} (p : a.Perm b) : sortS a = sortS b := sortS_eq ((sortS_perm a).trans p) (sortS_sor a)
theorem sortS_len (l : List Str) : (sortS l).length = l.length := (sortS_perm l).length_eq
theorem sortS_mem {l : List Str} {x : Str} : x ∈ sortS l ↔ x ∈ l := (sortS_perm l).mem_iff
theorem vals_strsAre : ∀ {us : List Value} {ss : List Str}, StrsAre us ss → Vals (ss.map V.str) us
  | _, _, .nil => .nil
  | _, _, .cons x t h => .cons ⟨t, rfl⟩ (vals_strsAre h)
/-- what an iterable yields, collected: the heap has grown -/
theorem collect_src {prog : Program} {w : World} {A : Around} {E : Value → Shared → Prop} {s : Shared} {T : String} {r d : Addr} {n : Nat} {P : Nat → Value → Prop} {OK : Heap → Prop} {R : List Value → Shared → Prop}
    (src : PySem.W.KdlSrc prog w T r d n P OK) (calm : A.handled = none) (ok : OK s.heap) (few : n ≤ sizeLine)
    (fin : ∀ (g : Heap) (k : Nat) (got : Array Value), (∀ b o, s.heap.get? b = some o → g.get? b = some o) → s.heap.objs.size < g.objs.size → ItemsOf P got n → R got.toList { s with heap := g, toks := k }) :
    wpAny (model prog w) A (collect (.ref r)) R E s := by
  obtain ⟨lr, ld⟩ := src.there _ ok
  let new : Obj := { cls := .type "list", data := .seq ([] : List Value).toArray }
  have there : (s.heap.push new).get? s.heap.objs.size = some new := Heap.get?_push_size _ rfl
  have still := src.keep _ _ ok (fun b _ o e => Heap.get?_push_of_some (h := s.heap) new e)
  have walked := PySem.W.kdl_extend (A := A) (s := { s with heap := s.heap.push new })
    (R := fun q t => ∃ (g : Heap) (k : Nat) (got : Array Value) (c : Nat), q = Except.ok (Flow.ret (.ref s.heap.objs.size)) ∧ t = { s with heap := g, toks := k } ∧ (∀ b o, s.heap.get? b = some o → g.get? b = some o) ∧
      g.get? s.heap.objs.size = some { cls := .type "list", dict := none, data := .seq got c, slots := #[] } ∧ ItemsOf P got n)
    src calm still s.heap.objs.size (Nat.ne_of_gt lr) (Nat.ne_of_gt ld) (.ref s.heap.objs.size) 0 there
    (fun g k got c keep at' all => ⟨g, k, got, c, rfl, rfl, fun b o e => keep b o (Nat.ne_of_lt (Heap.lt_size e)) (Heap.get?_push_of_some _ e), at', all⟩) few
  have done : ∀ (g : Heap) (k : Nat) (got : Array Value) (c : Nat), (∀ b o, s.heap.get? b = some o → g.get? b = some o) → g.get? s.heap.objs.size = some { cls := .type "list", dict := none, data := .seq got c, slots := #[] } → ItemsOf P got n →
      wpAny (model prog w) A (do match (← load s.heap.objs.size).data with
        | .seq xs _ => pure xs.toList
        | _ => unsupported "internal:collect") R E { s with heap := g, toks := k } := fun g k got c keep at' all =>
    wpAny_bind (wpAny_load at' (wpAny_pure (fin g k got keep (Heap.lt_size at') all)))
  unfold collect
  apply wpAny_bind
  apply wpAny_runValue
  apply codeAny_builtin entry_proto_collect'
  rw [Around.under_plainId F.plain_proto_collect _]
  show wpAny _ A.in1 (newList [] >>= fun z => again (.builtin "list.__iadd__" ⟨[z, .ref r], []⟩)) _ _ s
  apply wpAny_bind
  refine wpAny_newObj_type ?_
  apply wpAny_pure
  refine ⟨plainId_quiet F.plain_list_iadd _, ?_⟩
  apply codeAny_builtin entry_list_iadd'
  rw [Around.under_plainId F.plain_list_iadd _]
  refine wpAny_mono walked (fun f t q => ?_) (fun e t q => ?_)
  · cases f with
    | done f =>
      obtain ⟨g, k, got, c, e, rfl, keep, at', all⟩ := q
      cases e
      exact done g k got c keep at' all
    | again c1 =>
      refine ⟨q.1, codeAny_mono q.2 fun z t2 y => ?_⟩
      obtain ⟨g, k, got, c, rfl, rfl, keep, at', all⟩ := y
      exact done g k got c keep at' all
  · obtain ⟨_, _, _, _, e', _⟩ := q
    cases e'
theorem call_sorted_dict {X : Cx} (hc : X.calm = true) : CallR X (.builtin "sorted") (fun xs H Q => ∃ p kvs ss, xs = [.ref p] ∧ H p = some (.dK kvs) ∧ kvs.map (fun kv => kV kv.1) = ss.map V.str ∧ ss.length < 64 ∧ ∀ l, H l = none → Q (.ref l) (upd H l (.lst ((sortS ss).map V.str)))) := by
  intro pins s σ H xs us Q I r h
  obtain ⟨p, kvs, ss, rfl, hp, hks, hl, q⟩ := h
  obtain ⟨u, rfl, rx⟩ := vals1 r
  cases rx
  obtain ⟨hz, hlo, vs, rv, o, es, ep, h1, h2, h3, h4, h5, h6⟩ := dk_of I.hok hp
  have da : s.heap.DictAt (mixKind X.prog X.w) p vs ep := ⟨o, es, h1, h2, h3, h4, h5, h6⟩
  have hlen : kvs.length = vs.length := KV.length rv
  have hh : X.A.in1.handled = none := I.ok.hd hc
  refine Calls.call_function_entry kind_sorted plain_sorted entry_sorted (args_sorted1 _) ?_
  unfold Builtin.«sorted»
  refine wpAny_bind (m := checkCount "sorted" 1 1 _) (wpAny_pure ?_)
  refine wpAny_bind (collect_src (A := X.A.in1) (PySem.W.kdl_dict hlo) hh da (by rw [← hlen]; exact hz) fun h' tk acc hk hgr hacc => ?_)
  have hv : Vals (kvs.map fun kv => kV kv.1) acc.toList := by
    refine vals_of_get (by rw [List.length_map, hlen]; exact hacc.1.symm.trans (by simp)) fun j x u e1 e2 => ?_
    rw [List.getElem?_map] at e1
    cases hj : kvs[j]? with
    | none => rw [hj] at e1; cases e1
    | some kv =>
      rw [hj] at e1
      cases e1
      obtain ⟨k, y, e3, e4⟩ := hacc.2 j u (by rw [← Array.getElem?_toList]; exact e2)
      have ek : kv.1 = k := KV.at rv hj e3
      show RelV (kV kv.1) u
      rw [ek]
      rcases keyIs_shape (show keyIs k u = true from e4) with ⟨i, t, rfl, rfl⟩ | ⟨z, t, rfl, rfl⟩
      · exact ⟨t, rfl⟩
      · exact ⟨t, rfl⟩
  rw [hks] at hv
  have hst := strsAre_of hv
  have hal : acc.toList.length = ss.length := by have := hv.length; rw [List.length_map] at this; exact this.symm
  refine wpAny_bind (wpAny_newList ?_ (by rw [hal]; exact Nat.le_of_lt (small1000 (by omega))))
  have hoL : (h'.push (seqObj "list" acc.toList.toArray 0)).get? h'.objs.size = some (seqObj "list" acc.toList.toArray 0) := Heap.get?_push_size _ rfl
  refine wpAny_bind (wpAny_holding (wpAny_call_entry slot_list_sort ⟨_, hoL, rfl⟩ entry_list_sort (list_sort_treeK strKind_oneLt hoL hst.keysOf (fun v₁ v₂ rest e => keyKind_strs (by rw [← e]; exact hst)) (by omega) fun st' a1 a2 => ⟨_, rfl, ?_⟩) (args_list_sort _)))
  refine wpAny_pure ⟨_, rfl, ?_⟩
  obtain ⟨ss', b1, b2, b3⟩ := sorted_out_str hst a1 a2
  obtain ⟨e, he⟩ := sortedHeap_at (out := (arrOf st').map (·.2)) hoL
  have es' : ss' = sortS ss := sortS_eq b2 (sor_of b3)
  subst es'
  have hsz : s.heap.objs.size ≤ h'.objs.size := Nat.le_of_lt hgr
  refine ⟨.ref h'.objs.size, _, I.laid (t' := tk) (fun b u hb => ?_) hsz (show ObjOk X.prog X.w _ _ _ (.lst ((sortS ss).map V.str)) from ⟨?_, ((arrOf st').map (·.2)).toList, e, vals_strsAre b1, ?_⟩), rfl, q _ (I.hok.fresh hsz)⟩
  · have hb' := hk b u hb
    have hlt := Heap.lt_size hb'
    rw [sortedHeap_old (Nat.ne_of_lt hlt) (by rw [size_push']; exact Nat.lt_succ_of_lt hlt)]
    exact Heap.get?_push_of_some _ hb'
  · rw [List.length_map, sortS_len]; exact Nat.le_of_lt (small1000 (by omega))
  · rw [Array.toArray_toList]; exact he
end L2
set_option Elab.async false
set_option linter.all false
set_option maxRecDepth 100000
set_option maxHeartbeats 4000000
namespace L2
open PySem PySem.Spec PyProof.Rows
theorem RDs.len {K : PySem.W.Frag} {H : Hp} : ∀ {xs : List V} {ds : List PyData}, RDs K H xs ds → xs.length = ds.length
  | _, _, .nil => rfl
  | _, _, .cons _ r => by rw [List.length_cons, List.length_cons, RDs.len r]
theorem RDs.at {K : PySem.W.Frag} {H : Hp} : ∀ {xs : List V} {ds : List PyData} {m : Nat} {x : V}, RDs K H xs ds → xs[m]? = some x → ∃ d, ds[m]? = some d ∧ RD K H x d
  | _, _, _, _, .nil, e => by simp at e
  | _, _, 0, _, .cons h _, e => by simp at e; subst e; exact ⟨_, rfl, h⟩
  | _, _, m + 1, x, .cons _ r, e => by
    obtain ⟨d, e1, e2⟩ := RDs.at (m := m) (x := x) r (by simpa using e)
    exact ⟨d, by simpa using e1, e2⟩
theorem Vals.erase : ∀ {xs : List V} {us : List Value} (j : Nat), Vals xs us → Vals (xs.eraseIdx j) (us.eraseIdx j)
  | _, _, _, .nil => .nil
  | _, _, 0, .cons _ r => r
  | _, _, j + 1, .cons h r => .cons h (Vals.erase j r)
end L2
set_option Elab.async false
set_option linter.all false
set_option maxRecDepth 100000
set_option maxHeartbeats 4000000
namespace L2
open PySem PySem.Spec PyProof.Rows
end L2
set_option Elab.async false
set_option linter.all false
set_option maxRecDepth 100000
set_option maxHeartbeats 4000000
namespace L2
open PySem PySem.Spec PyProof.Rows
abbrev Rows := List (Str × Str)
def up (rows : Rows) (n : Str) : Option Str := (rows.find? fun r => decide (r.1 = n)).map (·.2)
def reps (rows : Rows) (t : Str) : List Str := (rows.filter fun r => decide (r.2 = t)).map (·.1)
def rowsK (rows : Rows) : List (Key × V) := rows.map fun r => (Sum.inr r.1, V.str r.2)
def keysT (ns : List Str) : List (Key × V) := ns.map fun n => (Sum.inr n, V.bl true)
def without (rows : Rows) (n : Str) : Rows := rows.filter fun r => decide (r.1 ≠ n)
theorem val_rows (n : Str) : ∀ rows : Rows, valV (rowsK rows) (Sum.inr n) = (up rows n).map V.str
  | [] => rfl
  | r :: rows => by
    show valV ((Sum.inr r.1, V.str r.2) :: rowsK rows) (Sum.inr n) = _
    by_cases h : r.1 = n
    · rw [valV_pos (by rw [h])]
      simp [up, List.find?_cons, h]
    · rw [valV_neg (fun e => h (Sum.inr.inj e)), val_rows n rows]
      simp [up, List.find?_cons, h]
theorem up_mem {rows : Rows} {n a : Str} (h : up rows n = some a) : (n, a) ∈ rows := by
  unfold up at h
  cases e : rows.find? fun r => decide (r.1 = n) with
  | none => rw [e] at h; cases h
  | some r =>
    rw [e] at h
    have h1 := List.find?_some e
    have h2 := List.mem_of_find?_eq_some e
    have e1 : r.1 = n := of_decide_eq_true h1
    have e2 : r.2 = a := Option.some.inj h
    rw [← e1, ← e2]; exact h2
theorem up_none {rows : Rows} {n : Str} : up rows n = none ↔ ¬ n ∈ rows.map (·.1) := by
  unfold up
  rw [Option.map_eq_none_iff, List.find?_eq_none]
  constructor
  · intro h z
    obtain ⟨r, hr, e⟩ := List.mem_map.mp z
    exact h r hr (decide_eq_true e)
  · intro h r hr z
    exact h (List.mem_map.mpr ⟨r, hr, of_decide_eq_true z⟩)
theorem up_some {rows : Rows} {n : Str} (h : n ∈ rows.map (·.1)) : ∃ a, up rows n = some a := by
  cases e : up rows n with
  | none => exact absurd h (up_none.mp e)
  | some a => exact ⟨a, rfl⟩
theorem drop_rows (n : Str) : ∀ rows : Rows, dropK (rowsK rows) (Sum.inr n) = rowsK (without rows n)
  | [] => rfl
  | r :: rows => by
    show dropK ((Sum.inr r.1, V.str r.2) :: rowsK rows) (Sum.inr n) = _
    by_cases h : r.1 = n
    · rw [dropK_pos (by rw [h]), drop_rows n rows]
      simp [without, List.filter_cons, h]
    · rw [dropK_neg (fun e => h (Sum.inr.inj e)), drop_rows n rows]
      simp [without, List.filter_cons, h, rowsK]
theorem drop_keys (n : Str) : ∀ ns : List Str, dropK (keysT ns) (Sum.inr n) = keysT (ns.filter fun m => decide (m ≠ n))
  | [] => rfl
  | m :: ns => by
    show dropK ((Sum.inr m, V.bl true) :: keysT ns) (Sum.inr n) = _
    by_cases h : m = n
    · rw [dropK_pos (by rw [h]), drop_keys n ns]
      simp [List.filter_cons, h]
    · rw [dropK_neg (fun e => h (Sum.inr.inj e)), drop_keys n ns]
      simp [List.filter_cons, h, keysT]
theorem val_keys (n : Str) : ∀ ns : List Str, valV (keysT ns) (Sum.inr n) = if n ∈ ns then some (V.bl true) else none
  | [] => rfl
  | m :: ns => by
    show valV ((Sum.inr m, V.bl true) :: keysT ns) (Sum.inr n) = _
    by_cases h : m = n
    · rw [valV_pos (by rw [h]), if_pos (by rw [h]; exact List.mem_cons_self)]
    · rw [valV_neg (fun e => h (Sum.inr.inj e)), val_keys n ns]
      by_cases h2 : n ∈ ns
      · rw [if_pos h2, if_pos (List.mem_cons_of_mem _ h2)]
      · rw [if_neg h2, if_neg (fun z => (List.mem_cons.mp z).elim (fun e => h e.symm) h2)]
theorem put_rows {rows : Rows} {n a : Str} (h : up rows n = none) : putK (rowsK rows) (Sum.inr n) (.str a) = rowsK (rows ++ [(n, a)]) := by
  rw [putK_new _ (by rw [val_rows, h]; rfl)]
  simp [rowsK]
theorem put_keys {ns : List Str} {n : Str} (h : ¬ n ∈ ns) : putK (keysT ns) (Sum.inr n) (.bl true) = keysT (ns ++ [n]) := by
  rw [putK_new _ (by rw [val_keys, if_neg h])]
  simp [keysT]
theorem reps_snoc (rows : Rows) (n a t : Str) : reps (rows ++ [(n, a)]) t = reps rows t ++ if a = t then [n] else [] := by
  unfold reps
  rw [List.filter_append, List.map_append]
  by_cases h : a = t <;> simp [List.filter_cons, h]
theorem reps_sub {rows : Rows} {t n : Str} (h : n ∈ reps rows t) : n ∈ rows.map (·.1) := by
  obtain ⟨r, hr, e⟩ := List.mem_map.mp h
  exact List.mem_map.mpr ⟨r, (List.mem_filter.mp hr).1, e⟩
theorem reps_without (rows : Rows) (n t : Str) : reps (without rows n) t = (reps rows t).filter fun m => decide (m ≠ n) := by
  unfold reps without
  rw [List.filter_map, List.filter_filter, List.filter_filter]
  congr 1
  refine List.filter_congr fun r _ => ?_
  show (decide (r.2 = t) && decide (r.1 ≠ n)) = (decide (r.1 ≠ n) && decide (r.2 = t))
  rw [Bool.and_comm]
theorem reps_len (rows : Rows) (t : Str) : (reps rows t).length ≤ rows.length := by
  unfold reps
  rw [List.length_map]
  exact List.length_filter_le _ _
theorem one_answer {rows : Rows} {n a b : Str} (nd : (rows.map (·.1)).Nodup) (h1 : (n, a) ∈ rows) (h2 : (n, b) ∈ rows) : a = b := by
  induction rows with
  | nil => cases h1
  | cons r rows ih =>
    rw [List.map_cons, List.nodup_cons] at nd
    rcases List.mem_cons.mp h1 with e1 | h1
    · rcases List.mem_cons.mp h2 with e2 | h2
      · rw [← e2] at e1; exact (Prod.mk.inj e1).2
      · exact absurd (List.mem_map.mpr ⟨_, h2, by rw [← e1]⟩) nd.1
    · rcases List.mem_cons.mp h2 with e2 | h2
      · exact absurd (List.mem_map.mpr ⟨_, h1, by rw [← e2]⟩) nd.1
      · exact ih nd.2 h1 h2
theorem not_reps {rows : Rows} {n a t : Str} (nd : (rows.map (·.1)).Nodup) (h : up rows n = some a) (ht : t ≠ a) : ¬ n ∈ reps rows t := fun z => by
  obtain ⟨r, hr, e⟩ := List.mem_map.mp z
  obtain ⟨h1, h2⟩ := List.mem_filter.mp hr
  have e2 : r.2 = t := of_decide_eq_true h2
  have : (n, t) ∈ rows := by rw [← e, ← e2]; exact h1
  exact ht (one_answer nd this (up_mem h))
theorem filter_not {l : List Str} {n : Str} (h : ¬ n ∈ l) : (l.filter fun m => decide (m ≠ n)) = l := List.filter_eq_self.mpr fun m hm => decide_eq_true fun e => h (e ▸ hm)
theorem in_reps {rows : Rows} {n a : Str} (h : up rows n = some a) : n ∈ reps rows a := List.mem_map.mpr ⟨(n, a), List.mem_filter.mpr ⟨up_mem h, decide_eq_true rfl⟩, rfl⟩
theorem without_nd {rows : Rows} {n : Str} (nd : (rows.map (·.1)).Nodup) : ((without rows n).map (·.1)).Nodup := by
  unfold without
  exact List.Nodup.sublist (List.Sublist.map _ List.filter_sublist) nd
theorem snoc_nd {rows : Rows} {n a : Str} (nd : (rows.map (·.1)).Nodup) (h : up rows n = none) : ((rows ++ [(n, a)]).map (·.1)).Nodup := by
  rw [List.map_append]
  refine List.nodup_append.mpr ⟨nd, by simp, fun x hx y hy e => ?_⟩
  have : y = n := by simpa using hy
  rw [e, this] at hx
  exact up_none.mp h hx
def chain (rows : Rows) : Nat → List Str → List Str
  | 0, met => met
  | k + 1, met => match up rows (met.getLastD "") with
    | some a => if a ∈ rows.map (·.1) ∧ ¬ a ∈ met then chain rows k (met ++ [a]) else met
    | none => met
def depthOf (rows : Rows) (n : Str) : Int := ((chain rows rows.length [n]).length : Int) - 1
theorem chain_go {rows : Rows} {met : List Str} {a : Str} {k : Nat} (h : up rows (met.getLastD "") = some a) (h1 : a ∈ rows.map (·.1)) (h2 : ¬ a ∈ met) : chain rows (k + 1) met = chain rows k (met ++ [a]) := by
  conv => lhs; unfold chain
  rw [h]
  simp only [if_pos (And.intro h1 h2)]
theorem chain_end {rows : Rows} {met : List Str} {a : Str} {k : Nat} (h : up rows (met.getLastD "") = some a) (h1 : ¬ (a ∈ rows.map (·.1) ∧ ¬ a ∈ met)) : chain rows (k + 1) met = met := by
  unfold chain
  rw [h]
  exact if_neg h1
theorem nodup_le : ∀ {ms l : List Str}, ms.Nodup → (∀ m ∈ ms, m ∈ l) → ms.length ≤ l.length
  | [], _, _, _ => Nat.zero_le _
  | m :: ms, l, nd, h => by
    obtain ⟨h1, h2⟩ := List.nodup_cons.mp nd
    have hm := h m List.mem_cons_self
    have e := List.length_erase_of_mem hm
    have hp := List.length_pos_of_mem hm
    have := nodup_le (l := l.erase m) h2 fun x hx => (List.mem_erase_of_ne (a := x) (b := m) (fun z => h1 (by rw [← z]; exact hx))).mpr (h x (List.mem_cons_of_mem _ hx))
    rw [List.length_cons]
    omega
/-- on the way: met is the way so far, a what its last one answers -/
structure OnWay (rows : Rows) (n : Str) (met : List Str) (a : Str) : Prop where
  nd : met.Nodup
  sub : ∀ m ∈ met, m ∈ rows.map (·.1)
  last : up rows (met.getLastD "") = some a
  ne : met ≠ []
  way : chain rows (rows.length + 1 - met.length) met = chain rows rows.length [n]
theorem OnWay.len {rows : Rows} {n : Str} {met : List Str} {a : Str} (w : OnWay rows n met a) : 1 ≤ met.length ∧ met.length ≤ rows.length := by
  have h1 := nodup_le w.nd w.sub
  rw [List.length_map] at h1
  exact ⟨List.length_pos_iff.mpr w.ne, h1⟩
theorem OnWay.start {rows : Rows} {n a : Str} (h : up rows n = some a) : OnWay rows n [n] a :=
  ⟨by simp, fun m hm => by rw [List.mem_singleton.mp hm]; exact List.mem_map.mpr ⟨_, up_mem h, rfl⟩, h, by simp, rfl⟩
theorem OnWay.step {rows : Rows} {n : Str} {met : List Str} {a b : Str} (w : OnWay rows n met a) (h1 : up rows a = some b) (h2 : ¬ a ∈ met) : OnWay rows n (met ++ [a]) b := by
  have hl := w.len
  have ha : a ∈ rows.map (·.1) := List.mem_map.mpr ⟨_, up_mem h1, rfl⟩
  have e := chain_go (k := rows.length - met.length) w.last ha h2
  refine ⟨List.nodup_append.mpr ⟨w.nd, by simp, fun x hx y hy z => ?_⟩, fun m hm => ?_, ?_, by simp, ?_⟩
  · have : y = a := by simpa using hy
    rw [z, this] at hx; exact h2 hx
  · rcases List.mem_append.mp hm with z | z
    · exact w.sub m z
    · rw [List.mem_singleton.mp z]; exact ha
  · rw [List.getLastD_concat]; exact h1
  · rw [← w.way, List.length_append, List.length_singleton, show rows.length + 1 - (met.length + 1) = rows.length - met.length by omega, ← e, show rows.length - met.length + 1 = rows.length + 1 - met.length by omega]
theorem OnWay.stop {rows : Rows} {n : Str} {met : List Str} {a : Str} (w : OnWay rows n met a) (h : ¬ (a ∈ rows.map (·.1) ∧ ¬ a ∈ met)) : (met.length : Int) - 1 = depthOf rows n := by
  have hl := w.len
  have e := chain_end (k := rows.length - met.length) w.last h
  unfold depthOf
  rw [← w.way, show rows.length + 1 - met.length = rows.length - met.length + 1 by omega, e]
/-- all but dicts stays -/
def Kp1 (H H' : Hp) : Prop := ∀ c o, H c = some o → (∀ kvs, o ≠ .dK kvs) → H' c = some o
/-- all but lists stays -/
def Kp2 (H H' : Hp) : Prop := ∀ c o, H c = some o → (∀ xs, o ≠ .lst xs) → H' c = some o
theorem Same.kp2 {H H' : Hp} (s : Same H H') : Kp2 H H' := fun c o e _ => s c o e
theorem Kp1.trans {H H1 H2 : Hp} (a : Kp1 H H1) (b : Kp1 H1 H2) : Kp1 H H2 := fun c o e n => b c o (a c o e n) n
theorem Kp2.trans {H H1 H2 : Hp} (a : Kp2 H H1) (b : Kp2 H1 H2) : Kp2 H H2 := fun c o e n => b c o (a c o e n) n
theorem Kp1.refl (H : Hp) : Kp1 H H := fun _ _ e _ => e
theorem Kp2.refl (H : Hp) : Kp2 H H := fun _ _ e _ => e
theorem Kp1.upd {H : Hp} {p : Addr} {kvs kvs' : List (Key × V)} (h : H p = some (.dK kvs)) : Kp1 H (upd H p (.dK kvs')) := fun c o e n => by
  by_cases z : c = p
  · rw [z, h] at e; cases e; exact absurd rfl (n kvs)
  · rw [upd_ne z]; exact e
theorem Kp2.upd {H : Hp} {p : Addr} {xs xs' : List V} (h : H p = some (.lst xs)) : Kp2 H (upd H p (.lst xs')) := fun c o e n => by
  by_cases z : c = p
  · rw [z, h] at e; cases e; exact absurd rfl (n xs)
  · rw [upd_ne z]; exact e
end L2
set_option Elab.async false
set_option linter.all false
set_option maxRecDepth 100000
set_option maxHeartbeats 4000000
namespace L2
open PySem PySem.Spec PyProof.Rows
def RowsAt (H : Hp) (r : Addr) (prs : List (Addr × Str × Str)) : Prop := H r = some (.lst (prs.map fun q => V.ref q.1)) ∧ ∀ q ∈ prs, H q.1 = some (.tup [.str q.2.1, .str q.2.2])
theorem RowsAt.same {H H' : Hp} {r : Addr} {prs : List (Addr × Str × Str)} (h : RowsAt H r prs) (s : Same H H') : RowsAt H' r prs := ⟨s _ _ h.1, fun q hq => s _ _ (h.2 q hq)⟩
end L2
set_option Elab.async false
set_option linter.all false
set_option maxRecDepth 100000
set_option maxHeartbeats 4000000
namespace L2
open PySem PySem.Spec PyProof.Rows
abbrev PRow := Addr × Str × Str
def shownS (xs : List Str) : Str := (PyData.list (xs.map PyData.str)).shown
/-- the lists that were told and what repr said of them -/
abbrev HRow := Addr × Addr × List Str
structure HeldAt (r h : Addr) (H : Hp) (hd : List HRow) : Prop where
  l_ : H h = some (.lst (hd.map fun q => V.ref q.1))
  hr : h ≠ r
  t_ : ∀ q ∈ hd, H q.1 = some (.tup [.ref q.2.1, .str (shownS q.2.2)])
  x_ : ∀ q ∈ hd, H q.2.1 = some (.lst (q.2.2.map V.str)) ∧ q.2.1 ≠ h ∧ q.2.1 ≠ r
  b_ : ∀ q ∈ hd, q.2.2.length ≤ 40 ∧ ∀ x ∈ q.2.2, Asc x ∧ x.length ≤ 1000
theorem HeldAt.same {r h : Addr} {H H' : Hp} {hd : List HRow} (a : HeldAt r h H hd) (s : Same H H') : HeldAt r h H' hd := ⟨s _ _ a.l_, a.hr, fun q hq => s _ _ (a.t_ q hq), fun q hq => ⟨s _ _ (a.x_ q hq).1, (a.x_ q hq).2⟩, a.b_⟩
/-- all but the list at h stays -/
def KpH (h : Addr) (H H' : Hp) : Prop := ∀ c o, c ≠ h → H c = some o → H' c = some o
theorem KpH.trans {h : Addr} {H H1 H2 : Hp} (a : KpH h H H1) (b : KpH h H1 H2) : KpH h H H2 := fun c o n e => b c o n (a c o n e)
theorem KpH.kp2 {h : Addr} {H H' : Hp} {xs : List V} (k : KpH h H H') (e : H h = some (.lst xs)) : Kp2 H H' := fun c o e1 n => k c o (fun z => by rw [z, e] at e1; cases e1; exact n _ rfl) e1
end L2
set_option Elab.async false
set_option linter.all false
set_option maxRecDepth 100000
set_option maxHeartbeats 4000000
namespace L2
open PySem PySem.Spec PyProof.Rows
section
variable {X : Cx} {pins : List (Addr × Obj)} {σ : St} {H : Hp} {s : Shared} {a : Addr} {oa : Obj} {kvs : List (Key × V)}
theorem Inv.freeze (I : Inv X pins σ H s) (e : H a = some (.dK kvs)) : ∃ oa, Inv X pins σ (upd H a (.frz oa (.dK kvs))) s := by
  obtain ⟨z, y, vs, r, ob, es, ep, eo, c⟩ := (show ObjOk X.prog X.w H s.heap a (.dK kvs) from I.hok a _ e)
  exact ⟨ob, I.write (x := a) (e := a) (o := .frz ob (.dK kvs)) (t' := s.toks) (h' := s.heap) (by rw [e]; exact True.intro) (.inl rfl) (fun _ _ _ q => q) ⟨ob, eo⟩ ⟨eo, z, y, vs, r, ob, es, ep, eo, c⟩⟩
theorem Inv.thaw (I : Inv X pins σ H s) (nf : ∀ o u, X.H₀ a ≠ some (.frz o u)) (e : H a = some (.frz oa (.dK kvs))) : Inv X pins σ (upd H a (.dK kvs)) s := by
  have ne0 : ∀ b, H b = none → b ≠ a := fun b n z => by rw [z, e] at n; cases n
  have ne1 : ∀ b o, H b = some o → o ≠ .frz oa (.dK kvs) → b ≠ a := fun b o q n z => by rw [z, e] at q; cases q; exact n rfl
  obtain ⟨_, okd⟩ := (show ObjOk X.prog X.w H s.heap a (.frz oa (.dK kvs)) from I.hok a _ e)
  refine ⟨I.ok, I.os, I.bare, ⟨I.base.keep, I.base.slot, fun b o q n hx => ?_, I.base.there, fun b xs q => ?_, fun b o u q => ?_, fun b ps q => ?_⟩, I.loc, I.cell, ?_, fun x c q => ?_, fun p hp => ?_, fun b u q => ?_, I.len⟩
  · have := I.base.free b o q n hx
    rw [upd_ne (ne0 b this)]; exact this
  · have := I.base.tups b xs q
    rw [upd_ne (ne1 b _ this (fun z => by cases z))]; exact this
  · have hb : b ≠ a := fun z => nf o u (by rw [← z]; exact q)
    rw [upd_ne hb]; exact I.base.frzs b o u q
  · obtain ⟨m, h⟩ := I.base.tbls b ps q
    exact ⟨m, by rw [upd_ne (ne1 b _ h (fun z => by cases z))]; exact h⟩
  · rw [upd_ne (ne0 _ I.free)]; exact I.free
  · rw [upd_ne (ne0 _ (I.freeC x c q))]; exact I.freeC x c q
  · obtain ⟨h1, h2, h3⟩ := I.pin p hp
    exact ⟨h1, by rw [upd_ne (ne0 _ h2)]; exact h2, h3⟩
  · by_cases hb : b = a
    · subst hb
      rw [upd_same] at q
      cases q
      exact ObjOk.stay (show ObjOk X.prog X.w H s.heap b (.dK kvs) from okd) (fun _ _ _ z => z) (fun c z => by rw [upd_ne (ne1 c _ z (fun y => by cases y))]; exact z) fun c xs z => by rw [upd_ne (ne1 c _ z (fun y => by cases y))]; exact z
    · rw [upd_ne hb] at q
      exact (I.hok b u q).stay (fun _ _ _ z => z) (fun c z => by rw [upd_ne (ne1 c _ z (fun y => by cases y))]; exact z) fun c xs z => by rw [upd_ne (ne1 c _ z (fun y => by cases y))]; exact z
end
def thawD (a : Addr) (oa : Obj) (kvs : List (Key × V)) (D : Ends) : Ends :=
  { nx := fun σ H => H a = some (.frz oa (.dK kvs)) ∧ D.nx σ (upd H a (.dK kvs)), rt := fun v H => H a = some (.frz oa (.dK kvs)) ∧ D.rt v (upd H a (.dK kvs)),
    bk := fun σ H => H a = some (.frz oa (.dK kvs)) ∧ D.bk σ (upd H a (.dK kvs)), ct := fun σ H => H a = some (.frz oa (.dK kvs)) ∧ D.ct σ (upd H a (.dK kvs)) }
inductive tFast_I (ts : TS) (D : Ends) (σ : St) (H : Hp) : Prop
  | mk : ∀ a kvs, H a = some (.dK kvs) → (∀ oa, ts (thawD a oa kvs D) σ (upd H a (.frz oa (.dK kvs)))) → tFast_I ts D σ H
def tFast (ts : TS) : TS := fun D σ H => tFast_I ts D σ H
/-- a statement while a dict that is there is held fast -/
theorem ps_fast {X : Cx} {st : Stmt} {ts : TS} (hb : PS X st ts) : PS X st (tFast ts) := by
  rintro pins s σ H D I ⟨a, kvs, e, h⟩
  obtain ⟨oa, J⟩ := I.freeze e
  have nf : ∀ o u, X.H₀ a ≠ some (.frz o u) := fun o u z => by have := I.base.frzs a o u z; rw [e] at this; cases this
  refine thn (hb pins s σ _ _ J (h oa)) fun f s' q => ?_
  cases f with
  | next => obtain ⟨σ7, H7, I7, n7⟩ := q; exact ⟨σ7, _, I7.thaw nf n7.1, n7.2⟩
  | cont => obtain ⟨σ7, H7, I7, n7⟩ := q; exact ⟨σ7, _, I7.thaw nf n7.1, n7.2⟩
  | brk => obtain ⟨σ7, H7, I7, n7⟩ := q; exact ⟨σ7, _, I7.thaw nf n7.1, n7.2⟩
  | ret v => obtain ⟨x7, σ7, H7, I7, r7, n7⟩ := q; exact ⟨x7, σ7, _, I7.thaw nf n7.1, r7, n7.2⟩
/-- the keys of a dict that is held fast, one by one -/
def Itd (a : Addr) (oa : Obj) (kvs : List (Key × V)) : It := ⟨fun i H => H a = some (.frz oa (.dK kvs)) ∧ i < kvs.length, fun i H x H' => H' = H ∧ ∃ kv, kvs[i]? = some kv ∧ x = kV kv.1, fun i H => H a = some (.frz oa (.dK kvs)) ∧ kvs.length ≤ i⟩
theorem fast_of {P : Program} {w : World} {H : Hp} {h : Heap} {a : Addr} {oa : Obj} {kvs : List (Key × V)} (ok : HOk P w H h) (e : H a = some (.frz oa (.dK kvs))) :
    (a == sysModules) = false ∧ ∃ vs es ep, KV kvs vs ∧ oa.data = .dict es ep ∧ h.DictAt (mixKind P w) a vs ep := by
  obtain ⟨e1, z, y, vs, r, ob, es, ep, eo, c1, c2, c3⟩ := (show ObjOk P w H h a (.frz oa (.dK kvs)) from ok a _ e)
  rw [e1] at eo
  cases eo
  exact ⟨y, vs, es, ep, r, c2, oa, es, e1, c1, c2, c3⟩
theorem rel_key {P : Program} {w : World} {k : Key} {u : Value} (e : (mixKind P w).is k u = true) : RelV (kV k) u := by
  rcases keyIs_shape (show keyIs k u = true from e) with ⟨i, t, rfl, rfl⟩ | ⟨z, t, rfl, rfl⟩
  · exact ⟨t, rfl⟩
  · exact ⟨t, rfl⟩
theorem turn_dict {P : Program} {w : World} {K : PySem.W.Frag} {tg : Expr} (a it : Addr) (oa : Obj) (kvs : List (Key × V)) (es : Array DictEntry) (ep : Nat) (hd : oa.data = .dict es ep) : Turn P w K tg (Itd a oa kvs) [it] it (fun i h => h.IsKeyIter it a i kvs.length ep) where
  mem := by simp
  obj := fun i h st b hb => by
    have e : b = it := by simpa using hb
    subst e
    obtain ⟨o, e, c, d⟩ := st
    exact ⟨o, e, fun v z => by rw [d] at z; cases z⟩
  keep := fun i h h' st k => by
    obtain ⟨o, e, c⟩ := st
    exact ⟨o, k it (by simp) o e, c⟩
  item := by
    intro X hP hw hK hc i pins s σ H E I hf st hg
    subst hP hw hK
    obtain ⟨hH, hlt⟩ := hg
    obtain ⟨_, vs, es', ep', rv, hd', hm⟩ := fast_of I.hok hH
    rw [hd] at hd'
    cases hd'
    have hl := KV.length rv
    have st0 : s.heap.IsKeyIter it a i vs.length ep := by rw [← hl]; exact st
    obtain ⟨f0, f1, f2, f3, f4, f5⟩ := hf it (by simp)
    refine wpAny_pyNext_dict_item (k := (vs[i]'(by omega)).1) (v := (vs[i]'(by omega)).2) st0 hm (List.getElem?_eq_getElem (by omega)) fun key h' hk st' sb => ?_
    have I1 : Inv X pins σ H { s with heap := h' } := I.turned (t' := s.toks) (fun b o hb e => (sb.2 b hb).trans e) f0 f1 f3 f4 f5
    have ek : kvs[i].1 = (vs[i]'(by omega)).1 := KV.at rv (List.getElem?_eq_getElem hlt) (List.getElem?_eq_getElem (by omega))
    rw [← hl] at st'
    obtain ⟨o, e, c, d⟩ := id st'
    exact ⟨key, rfl, go_of (s := { s with heap := h' }) e c d (by decide) ⟨kV kvs[i].1, H, I1, by rw [ek]; exact rel_key hk, ⟨rfl, kvs[i], List.getElem?_eq_getElem hlt, rfl⟩, st', fun b hb => (hf b hb).1⟩⟩
  done := by
    intro X hP hw hK hc i pins s σ H E I hf st hg
    subst hP hw hK
    obtain ⟨hH, hge⟩ := hg
    obtain ⟨_, vs, es', ep', rv, hd', hm⟩ := fast_of I.hok hH
    rw [hd] at hd'
    cases hd'
    have hl := KV.length rv
    have st0 : s.heap.IsKeyIter it a i vs.length ep := by rw [← hl]; exact st
    obtain ⟨f0, f1, f2, f3, f4, f5⟩ := hf it (by simp)
    exact wpAny_pyNext_dict_end (I.ok.hd hc) st0 hm (List.getElem?_eq_none (by omega)) fun h' eb => ⟨rfl, I.turned (t' := s.toks) (fun b o hb e => eb b o hb e) f0 f1 f3 f4 f5⟩
  self := fun _ _ _ _ _ st h => wpAny_pyIter_keyiter st h
/-- [f(k) for k in d if p(k)], p and f changing nothing -/
theorem comp_dictFM {a : Addr} {oa : Obj} {kvs : List (Key × V)} {α : Type} {xs : List α} {fr : List (Nat × Str)} {tt : TT} {te : TE} {σ : St} {H1 : Hp} {Q : VK} (g : α → V) (pr : α → Bool) (f : α → V) (hz : xs.length ≤ sizeLine) (hS : H1 a = some (.frz oa (.dK kvs))) (hk : kvs.map (fun kv => kV kv.1) = xs.map g)
    (htt : ∀ (x : α) (H3 : Hp) (Q' : Bool → Hp → Prop), x ∈ xs → Same H1 H3 → Q' (pr x) H3 → tt (some (g x) :: frV σ fr) H3 Q')
    (hte : ∀ (x : α) (H3 : Hp) (Q' : VK), x ∈ xs → Same H1 H3 → pr x = true → Q' (f x) H3 → te (some (g x) :: frV σ fr) H3 Q')
    (hQ : ∀ D, H1 D = none → Q (.ref D) (upd H1 D (.lst ((xs.filter pr).map f)))) :
    compGoal (Itd a oa kvs) fr tt te σ H1 Q := by
  have hl : kvs.length = xs.length := by have := congrArg List.length hk; simpa using this
  unfold compGoal
  intro D hD
  refine ⟨fun i m ys H2 => m = xs.length - i ∧ i ≤ xs.length ∧ ys = ((xs.take i).filter pr).map f ∧ H2 = upd H1 D (.lst ys), ⟨xs.length, by simp, Nat.zero_le _, by simp, rfl⟩, ?_⟩
  rintro i m ys H2 ⟨rfl, hi, rfl, rfl⟩
  refine ⟨upd_same, ?_⟩
  have s1 : Same H1 (upd H1 D (.lst (((xs.take i).filter pr).map f))) := Same.upd_new hD
  have hS2 := s1 _ _ hS
  by_cases hlt : i < xs.length
  · have hx0 : (xs.map g)[i]? = some (g xs[i]) := by rw [List.getElem?_map, List.getElem?_eq_getElem hlt]; rfl
    refine .inr ⟨⟨hS2, by omega⟩, ?_⟩
    rintro v H3 ⟨rfl, kv, hkv, rfl⟩
    have hx : (xs.map g)[i]? = some (kV kv.1) := by rw [← hk, List.getElem?_map, hkv]; rfl
    rw [hx0] at hx
    have hx := Option.some.inj hx
    rw [← hx]
    have hm : xs[i] ∈ xs := List.getElem_mem hlt
    have et : xs.take (i + 1) = xs.take i ++ [xs[i]] := by rw [List.take_add_one, List.getElem?_eq_getElem hlt]; rfl
    refine htt xs[i] _ _ hm s1 ?_
    cases hp : pr xs[i]
    · refine iteF ⟨xs.length - (i + 1), by omega, rfl, hlt, ?_, rfl⟩
      rw [et, List.filter_append, List.filter_cons, hp]
      simp
    · refine iteT (hte xs[i] _ _ hm s1 hp ⟨upd_same, ?_, xs.length - (i + 1), by omega, rfl, hlt, ?_, upd_upd⟩)
      · have := List.length_filter_le pr (xs.take i)
        rw [List.length_take] at this
        rw [List.length_map]
        omega
      · rw [et, List.filter_append, List.filter_cons, hp, List.map_append]
        simp
  · have e : i = xs.length := by omega
    subst e
    refine .inl ⟨⟨hS2, by omega⟩, ?_⟩
    have := hQ D hD
    rw [List.take_length]
    exact this
end L2
set_option Elab.async false
set_option linter.all false
set_option maxRecDepth 100000
set_option maxHeartbeats 4000000
namespace L2
open PySem PySem.Spec PyProof.Rows
def upL (rows : Rows) (n : Str) : List Str := match up rows n with
  | some a => if a = "" then [] else [a]
  | none => []
def nbr (rows : Rows) (n : Str) : List Str := reps rows n ++ upL rows n
inductive Rch (rows : Rows) (n : Str) : Str → Prop
  | refl : Rch rows n n
  | step {m k : Str} : Rch rows n m → k ∈ nbr rows m → Rch rows n k
theorem mem_upL {rows : Rows} {n k : Str} : k ∈ upL rows n ↔ up rows n = some k ∧ k ≠ "" := by
  unfold upL
  cases up rows n with
  | none => simp
  | some a =>
    by_cases h : a = ""
    · subst h
      simp
      intro e; exact e.symm
    · simp [h]
      constructor
      · rintro rfl; exact ⟨rfl, h⟩
      · rintro ⟨e, _⟩; exact e.symm
theorem mem_reps {rows : Rows} {t n : Str} (nd : (rows.map (·.1)).Nodup) : n ∈ reps rows t ↔ up rows n = some t := by
  constructor
  · intro h
    obtain ⟨r, hr, e⟩ := List.mem_map.mp h
    obtain ⟨h1, h2⟩ := List.mem_filter.mp hr
    have e2 : r.2 = t := of_decide_eq_true h2
    obtain ⟨a, ea⟩ := up_some (List.mem_map.mpr ⟨r, h1, e⟩)
    have : (n, t) ∈ rows := by rw [← e, ← e2]; exact h1
    rw [ea, one_answer nd (up_mem ea) this]
  · exact in_reps
/-- names are no empty texts -/
def NoE (rows : Rows) : Prop := ∀ n : Str, n ∈ rows.map (·.1) → n ≠ ""
theorem nbr_sym {rows : Rows} (nd : (rows.map (·.1)).Nodup) {m k : Str} (hm : m ≠ "") (h : k ∈ nbr rows m) : m ∈ nbr rows k := by
  rcases List.mem_append.mp h with h | h
  · exact List.mem_append_right _ (mem_upL.mpr ⟨(mem_reps nd).mp h, hm⟩)
  · exact List.mem_append_left _ ((mem_reps nd).mpr (mem_upL.mp h).1)
theorem nbr_ne {rows : Rows} (ne : NoE rows) {m k : Str} (h : k ∈ nbr rows m) : k ≠ "" := by
  rcases List.mem_append.mp h with h | h
  · exact ne k (reps_sub h)
  · exact (mem_upL.mp h).2
theorem Rch.ne {rows : Rows} (ne : NoE rows) {n k : Str} (hn : n ≠ "") (h : Rch rows n k) : k ≠ "" := by
  cases h with
  | refl => exact hn
  | step _ h => exact nbr_ne ne h
theorem Rch.trans {rows : Rows} {a b c : Str} (h1 : Rch rows a b) (h2 : Rch rows b c) : Rch rows a c := by
  induction h2 with
  | refl => exact h1
  | step _ h ih => exact .step ih h
theorem Rch.symm {rows : Rows} (nd : (rows.map (·.1)).Nodup) (ne : NoE rows) {a b : Str} (ha : a ≠ "") (h : Rch rows a b) : Rch rows b a := by
  induction h with
  | refl => exact .refl
  | step h1 h2 ih => exact (Rch.step .refl (nbr_sym nd (h1.ne ne ha) h2)).trans ih
open Classical in
noncomputable def thrOf (rows : Rows) (n : Str) : List Str := sortS ((rows.map (·.1)).filter fun m => decide (Rch rows n m))
theorem thr_of {rows : Rows} (nd : (rows.map (·.1)).Nodup) {n : Str} {l : List Str} (hl : l.Nodup) (h : ∀ m, m ∈ l ↔ m ∈ rows.map (·.1) ∧ Rch rows n m) : sortS l = thrOf rows n := by
  unfold thrOf
  refine sortS_congr ((List.perm_ext_iff_of_nodup hl (nd.filter _)).mpr fun m => ?_)
  rw [h, List.mem_filter]
  simp
structure DFS (rows : Rows) (n : Str) (rc wt : List Str) : Prop where
  nd : rc.Nodup
  start : n ∈ rc
  sound : ∀ m ∈ rc, Rch rows n m
  sub : ∀ m ∈ wt, m ∈ rc
  clo : ∀ m ∈ rc, m ∉ wt → ∀ k ∈ nbr rows m, k ∈ rc
def univ (rows : Rows) : List Str := rows.map (·.1) ++ rows.map (·.2)
theorem rch_univ {rows : Rows} {n m : Str} (hn : n ∈ rows.map (·.1)) (h : Rch rows n m) : m ∈ univ rows := by
  cases h with
  | refl => exact List.mem_append_left _ hn
  | step _ h =>
    rcases List.mem_append.mp h with h | h
    · exact List.mem_append_left _ (reps_sub h)
    · exact List.mem_append_right _ (List.mem_map.mpr ⟨_, up_mem (mem_upL.mp h).1, rfl⟩)
theorem DFS.len {rows : Rows} {n : Str} {rc wt : List Str} (d : DFS rows n rc wt) (hn : n ∈ rows.map (·.1)) : rc.length ≤ 2 * rows.length := by
  have := nodup_le d.nd fun m hm => rch_univ hn (d.sound m hm)
  unfold univ at this
  rw [List.length_append, List.length_map, List.length_map] at this
  omega
theorem DFS.init {rows : Rows} {n : Str} : DFS rows n [n] [n] :=
  ⟨by simp, by simp, fun m hm => by rw [List.mem_singleton.mp hm]; exact .refl, fun m hm => hm, fun m hm h => absurd hm h⟩
theorem DFS.done {rows : Rows} (nd : (rows.map (·.1)).Nodup) {n : Str} {rc : List Str} (d : DFS rows n rc []) : sortS (rc.filter fun m => decide (m ∈ rows.map (·.1))) = thrOf rows n := by
  have all : ∀ m, Rch rows n m → m ∈ rc := fun m h => by
    induction h with
    | refl => exact d.start
    | step _ h ih => exact d.clo _ ih (by simp) _ h
  refine thr_of nd (d.nd.filter _) fun m => ?_
  rw [List.mem_filter]
  constructor
  · rintro ⟨h1, h2⟩
    exact ⟨of_decide_eq_true h2, d.sound m h1⟩
  · rintro ⟨h1, h2⟩
    exact ⟨all m h2, decide_eq_true h1⟩
/-- within a turn: here was taken off, its neighbours ns (the first i of them) have been looked at -/
structure DFSin (rows : Rows) (n here : Str) (seen : List Str) (rc wt : List Str) : Prop where
  nd : rc.Nodup
  start : n ∈ rc
  hr : here ∈ rc
  sound : ∀ m ∈ rc, Rch rows n m
  sub : ∀ m ∈ wt, m ∈ rc
  clo : ∀ m ∈ rc, m ∉ wt → m ≠ here → ∀ k ∈ nbr rows m, k ∈ rc
  got : ∀ k ∈ seen, k ∈ rc
theorem DFS.pop {rows : Rows} {n here : Str} {rc wt : List Str} (d : DFS rows n rc (wt ++ [here])) : DFSin rows n here [] rc wt :=
  ⟨d.nd, d.start, d.sub here (by simp), d.sound, fun m hm => d.sub m (List.mem_append_left _ hm), fun m hm h1 h2 => d.clo m hm fun z => (List.mem_append.mp z).elim h1 fun y => h2 (List.mem_singleton.mp y), fun k hk => by cases hk⟩
theorem DFSin.old {rows : Rows} {n here k : Str} {seen rc wt : List Str} (d : DFSin rows n here seen rc wt) (hk : k ∈ rc) : DFSin rows n here (seen ++ [k]) rc wt :=
  ⟨d.nd, d.start, d.hr, d.sound, d.sub, d.clo, fun m hm => (List.mem_append.mp hm).elim (d.got m) fun y => by rw [List.mem_singleton.mp y]; exact hk⟩
theorem DFSin.new {rows : Rows} {n here k : Str} {seen rc wt : List Str} (d : DFSin rows n here seen rc wt) (hk : ¬ k ∈ rc) (hn : k ∈ nbr rows here) : DFSin rows n here (seen ++ [k]) (rc ++ [k]) (wt ++ [k]) := by
  refine ⟨List.nodup_append.mpr ⟨d.nd, by simp, fun x hx y hy e => hk ?_⟩, List.mem_append_left _ d.start, List.mem_append_left _ d.hr, fun m hm => ?_, fun m hm => ?_, fun m hm h1 h2 => ?_, fun m hm => ?_⟩
  · rw [List.mem_singleton.mp hy] at e; rw [← e]; exact hx
  · rcases List.mem_append.mp hm with z | z
    · exact d.sound m z
    · rw [List.mem_singleton.mp z]; exact .step (d.sound here d.hr) hn
  · rcases List.mem_append.mp hm with z | z
    · exact List.mem_append_left _ (d.sub m z)
    · exact List.mem_append_right _ z
  · rcases List.mem_append.mp hm with z | z
    · intro k' hk'
      exact List.mem_append_left _ (d.clo m z (fun y => h1 (List.mem_append_left _ y)) h2 k' hk')
    · exact absurd (List.mem_append_right _ z) h1
  · rcases List.mem_append.mp hm with z | z
    · exact List.mem_append_left _ (d.got m z)
    · exact List.mem_append_right _ z
theorem DFSin.out {rows : Rows} {n here : Str} {rc wt : List Str} (d : DFSin rows n here (nbr rows here) rc wt) : DFS rows n rc wt :=
  ⟨d.nd, d.start, d.sound, d.sub, fun m hm h1 => by
    by_cases e : m = here
    · subst e; exact d.got
    · exact d.clo m hm h1 e⟩
def hang (one other : Str × Str) : Bool := decide (one.2 = other.1) || (decide (other.2 = one.1) || (decide (one.2 ≠ "") && decide (one.2 = other.2)))
theorem hang_rch {rows : Rows} (nd : (rows.map (·.1)).Nodup) (ne : NoE rows) {one other : Str × Str} (h1 : one ∈ rows) (h2 : other ∈ rows) (h : hang one other = true) : Rch rows other.1 one.1 := by
  have u : ∀ r ∈ rows, up rows r.1 = some r.2 := fun r hr => by
    obtain ⟨a, ea⟩ := up_some (List.mem_map.mpr ⟨r, hr, rfl⟩)
    rw [ea, one_answer nd (up_mem ea) hr]
  have n1 := ne one.1 (List.mem_map.mpr ⟨one, h1, rfl⟩)
  unfold hang at h
  rw [Bool.or_eq_true, Bool.or_eq_true, Bool.and_eq_true] at h
  rcases h with h | h | ⟨h, h'⟩
  · have e := of_decide_eq_true h
    exact .step .refl (List.mem_append_left _ ((mem_reps nd).mpr (by rw [u one h1, e])))
  · have e := of_decide_eq_true h
    exact .step .refl (List.mem_append_right _ (mem_upL.mpr ⟨by rw [u other h2, e], n1⟩))
  · have e0 := of_decide_eq_true h
    have e := of_decide_eq_true h'
    refine .step (m := one.2) (.step .refl (List.mem_append_right _ (mem_upL.mpr ⟨by rw [u other h2, e], e0⟩))) (List.mem_append_left _ ((mem_reps nd).mpr (u one h1)))
theorem hang_all {rows : Rows} (nd : (rows.map (·.1)).Nodup) (ne : NoE rows) {n : Str} {S : Rows} (sub : ∀ r ∈ S, r ∈ rows) (hn : n ∈ S.map (·.1)) (clo : ∀ r ∈ S, ∀ q ∈ rows, hang q r = true → q ∈ S) {m : Str} (hm : m ∈ rows.map (·.1)) (h : Rch rows n m) : m ∈ S.map (·.1) := by
  have n0 : n ≠ "" := by
    obtain ⟨r, hr, e⟩ := List.mem_map.mp hn
    exact ne n (List.mem_map.mpr ⟨r, sub r hr, e⟩)
  have good : ∀ k, Rch rows n k → (k ∈ rows.map (·.1) → k ∈ S.map (·.1)) ∧ (k ∉ rows.map (·.1) → ∃ r ∈ S, r.2 = k) := fun k hk => by
    induction hk with
    | refl => exact ⟨fun _ => hn, fun z => by
        obtain ⟨r, hr, e⟩ := List.mem_map.mp hn
        exact absurd (List.mem_map.mpr ⟨r, sub r hr, e⟩) z⟩
    | @step m k h1 h2 ih =>
      have m0 := h1.ne ne n0
      rcases List.mem_append.mp h2 with h2 | h2
      · -- k answers m
        have hk := reps_sub h2
        refine ⟨fun _ => ?_, fun z => absurd hk z⟩
        have hkm : (k, m) ∈ rows := up_mem ((mem_reps nd).mp h2)
        by_cases hmn : m ∈ rows.map (·.1)
        · obtain ⟨r, hr, e⟩ := List.mem_map.mp (ih.1 hmn)
          exact List.mem_map.mpr ⟨(k, m), clo r hr _ hkm (by unfold hang; simp [e]), rfl⟩
        · obtain ⟨r, hr, e⟩ := ih.2 hmn
          exact List.mem_map.mpr ⟨(k, m), clo r hr _ hkm (by unfold hang; simp [e, m0]), rfl⟩
      · obtain ⟨e1, e2⟩ := mem_upL.mp h2
        have hmm := up_mem e1
        have hmn : m ∈ rows.map (·.1) := List.mem_map.mpr ⟨_, hmm, rfl⟩
        obtain ⟨r, hr, e⟩ := List.mem_map.mp (ih.1 hmn)
        have er : r.2 = k := one_answer nd (by rw [← e]; exact sub r hr) hmm
        refine ⟨fun hk => ?_, fun _ => ⟨r, hr, er⟩⟩
        obtain ⟨q, hq, eq⟩ := List.mem_map.mp hk
        exact List.mem_map.mpr ⟨q, clo r hr q hq (by unfold hang; simp [er, eq]), eq⟩
  exact (good m h).1 hm
end L2
set_option Elab.async false
set_option linter.all false
set_option maxRecDepth 100000
set_option maxHeartbeats 4000000
namespace L2
open PySem PySem.Spec PyProof.Rows
theorem pe_fldK {X : Cx} (K : PySem.W.Frag) {e : Expr} {f : Str} {pos : Pos} {ta : TE} (he : PE X e ta) (hb : attributeBase e f X.env (eval e X.env) = eval e X.env) (hK : X.K = K := by rfl) : PE X (.Attribute e f pos) (tFld K ta f) := hK ▸ pe_fld he hb
theorem inj_nd {α β : Type} {f : α → β} : ∀ {l : List α}, (l.map f).Nodup → ∀ {a b : α}, a ∈ l → b ∈ l → f a = f b → a = b
  | [], _, _, _, ha, _, _ => by cases ha
  | x :: l, nd, a, b, ha, hb, e => by
    rw [List.map_cons, List.nodup_cons] at nd
    rcases List.mem_cons.mp ha with h1 | h1 <;> rcases List.mem_cons.mp hb with h2 | h2
    · rw [h1, h2]
    · exact absurd (List.mem_map.mpr ⟨b, h2, by rw [← e, h1]⟩) nd.1
    · exact absurd (List.mem_map.mpr ⟨a, h1, by rw [e, h2]⟩) nd.1
    · exact inj_nd nd.2 h1 h2 e
theorem filter_map_nd {α β : Type} {f : α → β} {p : α → Bool} {l : List α} (nd : (l.map f).Nodup) : ((l.filter p).map f).Nodup := nd.sublist ((List.filter_sublist).map f)
structure LW (prs : List PRow) (n : Str) (S : List PRow) (at' : Nat) : Prop where
  sub : ∀ r ∈ S, r ∈ prs
  nd : (S.map (·.2.1)).Nodup
  snd : ∀ r ∈ S, Rch (prs.map (·.2)) n r.2.1
  me : n ∈ S.map (·.2.1)
  clo : ∀ j, j < at' → ∀ r, S[j]? = some r → ∀ q ∈ prs, hang q.2 r.2 = true → q ∈ S
def lwNew (prs S : List PRow) (r : PRow) : List PRow := prs.filter fun q => !(S.any fun s => decide (s.2 = q.2)) && hang q.2 r.2
section
variable {prs S : List PRow} {n : Str} {k : Nat}
theorem LW.start (nd : (prs.map (·.2.1)).Nodup) (hn : n ∈ prs.map (·.2.1)) : LW prs n (prs.filter fun q => decide (q.2.1 = n)) 0 := by
  refine ⟨fun r hr => (List.mem_filter.mp hr).1, filter_map_nd nd, fun r hr => ?_, ?_, fun j hj => absurd hj (Nat.not_lt_zero _)⟩
  · rw [of_decide_eq_true (List.mem_filter.mp hr).2]; exact .refl
  · obtain ⟨r, hr, e⟩ := List.mem_map.mp hn
    exact List.mem_map.mpr ⟨r, List.mem_filter.mpr ⟨hr, decide_eq_true e⟩, e⟩
theorem LW.len (w : LW prs n S k) : S.length ≤ prs.length := by
  have := nodup_le w.nd (l := prs.map (·.2.1)) fun m hm => by
    obtain ⟨r, hr, e⟩ := List.mem_map.mp hm
    exact List.mem_map.mpr ⟨r, w.sub r hr, e⟩
  rw [List.length_map, List.length_map] at this
  exact this
theorem LW.step (nd : (prs.map (·.2.1)).Nodup) (ne : NoE (prs.map (·.2))) {r : PRow} (w : LW prs n S k) (hr : S[k]? = some r) : LW prs n (S ++ lwNew prs S r) (k + 1) := by
  have nd' : ((prs.map (·.2)).map (·.1)).Nodup := by rw [List.map_map]; exact nd
  have hrS : r ∈ S := List.mem_of_getElem? hr
  have hk : k < S.length := (List.getElem?_eq_some_iff.mp hr).1
  have hnew : ∀ q, q ∈ lwNew prs S r ↔ q ∈ prs ∧ ¬ q ∈ S ∧ hang q.2 r.2 = true := fun q => by
    unfold lwNew
    rw [List.mem_filter, Bool.and_eq_true, Bool.not_eq_true']
    constructor
    · rintro ⟨h1, h2, h3⟩
      refine ⟨h1, fun z => ?_, h3⟩
      have : (S.any fun s => decide (s.2 = q.2)) = true := List.any_eq_true.mpr ⟨q, z, decide_eq_true rfl⟩
      rw [h2] at this
      cases this
    · rintro ⟨h1, h2, h3⟩
      refine ⟨h1, ?_, h3⟩
      cases e : S.any fun s => decide (s.2 = q.2) with
      | false => rfl
      | true =>
        obtain ⟨s, hs, es⟩ := List.any_eq_true.mp e
        have := inj_nd nd (w.sub s hs) h1 (congrArg (·.1) (of_decide_eq_true es))
        rw [this] at hs
        exact absurd hs h2
  refine ⟨fun q hq => ?_, ?_, fun q hq => ?_, ?_, fun j hj q' hq' q hq hh => ?_⟩
  · rcases List.mem_append.mp hq with z | z
    · exact w.sub q z
    · exact ((hnew q).mp z).1
  · rw [List.map_append, List.nodup_append]
    refine ⟨w.nd, filter_map_nd nd, fun a ha b hb e => ?_⟩
    obtain ⟨s, hs, rfl⟩ := List.mem_map.mp ha
    obtain ⟨q, hq, rfl⟩ := List.mem_map.mp hb
    obtain ⟨h1, h2, _⟩ := (hnew q).mp hq
    have := inj_nd nd (w.sub s hs) h1 e
    rw [this] at hs
    exact h2 hs
  · rcases List.mem_append.mp hq with z | z
    · exact w.snd q z
    · obtain ⟨h1, _, h3⟩ := (hnew q).mp z
      exact (w.snd r hrS).trans (hang_rch nd' ne (List.mem_map.mpr ⟨q, h1, rfl⟩) (List.mem_map.mpr ⟨r, w.sub r hrS, rfl⟩) h3)
  · rw [List.map_append]
    exact List.mem_append_left _ w.me
  · have hjl : j < S.length := by omega
    rw [List.getElem?_append_left hjl] at hq'
    by_cases ej : j = k
    · rw [ej, hr] at hq'
      cases hq'
      by_cases z : q ∈ S
      · exact List.mem_append_left _ z
      · exact List.mem_append_right _ ((hnew q).mpr ⟨hq, z, hh⟩)
    · exact List.mem_append_left _ (w.clo j (by omega) q' hq' q hq hh)
theorem LW.done (nd : (prs.map (·.2.1)).Nodup) (ne : NoE (prs.map (·.2))) (w : LW prs n S k) (hk : S.length ≤ k) : sortS (S.map (·.2.1)) = thrOf (prs.map (·.2)) n := by
  have nd' : ((prs.map (·.2)).map (·.1)).Nodup := by rw [List.map_map]; exact nd
  refine thr_of nd' w.nd fun m => ⟨fun hm => ?_, fun ⟨h1, h2⟩ => ?_⟩
  · obtain ⟨r, hr, rfl⟩ := List.mem_map.mp hm
    exact ⟨List.mem_map.mpr ⟨r.2, List.mem_map.mpr ⟨r, w.sub r hr, rfl⟩, rfl⟩, w.snd r hr⟩
  · have := hang_all nd' ne (S := S.map (·.2)) (fun r hr => by
      obtain ⟨q, hq, rfl⟩ := List.mem_map.mp hr
      exact List.mem_map.mpr ⟨q, w.sub q hq, rfl⟩) (by rw [List.map_map]; exact w.me) (fun r hr q hq hh => by
      obtain ⟨r', hr', rfl⟩ := List.mem_map.mp hr
      obtain ⟨q', hq', rfl⟩ := List.mem_map.mp hq
      obtain ⟨j, hj, e⟩ := List.getElem_of_mem hr'
      exact List.mem_map.mpr ⟨q', w.clo j (by omega) r' (by rw [List.getElem?_eq_getElem hj, e]) q' hq' hh, rfl⟩) h1 h2
    rw [List.map_map] at this
    exact this
end
theorem put_keys_old {ns : List Str} {n : Str} (h : n ∈ ns) : putK (keysT ns) (Sum.inr n) (.bl true) = keysT ns := by
  unfold putK
  have hc : ((keysT ns).any fun kv => decide (kv.1 = (Sum.inr n : Key))) = true := List.any_eq_true.mpr ⟨(Sum.inr n, .bl true), List.mem_map.mpr ⟨n, h, rfl⟩, decide_eq_true rfl⟩
  rw [if_pos hc]
  unfold keysT
  rw [List.map_map]
  apply List.map_congr_left
  intro m _
  show (if (Sum.inr m : Key) = Sum.inr n then (Sum.inr m, V.bl true) else (Sum.inr m, V.bl true)) = _
  split <;> rfl
/-- names that were met, one more -/
def addN (ns : List Str) (n : Str) : List Str := if n ∈ ns then ns else ns ++ [n]
theorem put_add (ns : List Str) (n : Str) : putK (keysT ns) (Sum.inr n) (.bl true) = keysT (addN ns n) := by
  unfold addN
  split
  · exact put_keys_old ‹_›
  · exact put_keys ‹_›
theorem mem_add {ns : List Str} {n m : Str} : m ∈ addN ns n ↔ m ∈ ns ∨ m = n := by
  unfold addN
  split
  · exact ⟨.inl, fun h => h.elim id fun e => e ▸ ‹_›⟩
  · rw [List.mem_append, List.mem_singleton]
theorem add_nd {ns : List Str} {n : Str} (h : ns.Nodup) : (addN ns n).Nodup := by
  unfold addN
  split
  · exact h
  · rename_i hn
    rw [List.nodup_append]
    exact ⟨h, List.pairwise_singleton _ _, fun a ha b hb e => hn (by rw [List.mem_singleton.mp hb] at e; rw [← e]; exact ha)⟩
inductive TD where
  | flat (xs : List Str)
  | deep (ls : List (Addr × List Str)) (zz : Bool)
def tdD : TD → PyData
  | .flat xs => .list (xs.map PyData.str)
  | .deep ls zz => .list ((ls.map fun p => PyData.list (p.2.map PyData.str)) ++ if zz then [PyData.str "zz"] else [])
def tdIn : TD → List Addr
  | .flat _ => []
  | .deep ls _ => ls.map (·.1)
def TDOk (H : Hp) (l : Addr) : TD → Prop
  | .flat xs => H l = some (.lst (xs.map V.str))
  | .deep ls zz => H l = some (.lst ((ls.map fun p => V.ref p.1) ++ if zz then [V.str "zz"] else [])) ∧ ∀ p ∈ ls, H p.1 = some (.lst (p.2.map V.str))
def TDB : TD → Prop
  | .flat xs => xs.length ≤ 41 ∧ ∀ x ∈ xs, Asc x ∧ x.length ≤ 20
  | .deep ls _ => ls.length ≤ 40 ∧ ∀ p ∈ ls, p.2.length ≤ 40 ∧ ∀ x ∈ p.2, Asc x ∧ x.length ≤ 20
theorem TDOk.mono {H H' : Hp} {l : Addr} {td : TD} (h : TDOk H l td) (k1 : ∀ o, H l = some o → H' l = some o) (k2 : ∀ b ∈ tdIn td, ∀ o, H b = some o → H' b = some o) : TDOk H' l td := by
  cases td with
  | flat xs => exact k1 _ h
  | deep ls zz => exact ⟨k1 _ h.1, fun p hp => k2 p.1 (List.mem_map.mpr ⟨p, hp, rfl⟩) _ (h.2 p hp)⟩
abbrev GRow := Addr × Addr × TD
structure HeldG (r h : Addr) (H : Hp) (hd : List GRow) : Prop where
  l_ : H h = some (.lst (hd.map fun q => V.ref q.1))
  hr : h ≠ r
  t_ : ∀ q ∈ hd, H q.1 = some (.tup [.ref q.2.1, .str (tdD q.2.2).shown])
  x_ : ∀ q ∈ hd, TDOk H q.2.1 q.2.2 ∧ q.2.1 ≠ h ∧ q.2.1 ≠ r ∧ ∀ b ∈ tdIn q.2.2, b ≠ h ∧ b ≠ r
  b_ : ∀ q ∈ hd, TDB q.2.2
  sep : hd.Pairwise fun q q' => q'.2.1 ≠ q.2.1 ∧ ¬ q'.2.1 ∈ tdIn q.2.2
theorem HeldG.same {r h : Addr} {H H' : Hp} {hd : List GRow} (a : HeldG r h H hd) (s : Same H H') : HeldG r h H' hd :=
  ⟨s _ _ a.l_, a.hr, fun q hq => s _ _ (a.t_ q hq), fun q hq => ⟨(a.x_ q hq).1.mono (fun o => s _ o) (fun b _ o => s b o), (a.x_ q hq).2⟩, a.b_, a.sep⟩
theorem HeldG.free {r h : Addr} {H : Hp} {hd : List GRow} (a : HeldG r h H hd) {l : Addr} (hl : H l = none) : ∀ q ∈ hd, l ≠ q.2.1 ∧ ¬ l ∈ tdIn q.2.2 := fun q hq => by
  have hx := (a.x_ q hq).1
  obtain ⟨u, l1, td⟩ := q
  cases td with
  | flat xs => exact ⟨(ne_of_none hx hl).symm, fun z => nomatch z⟩
  | deep ls zz =>
    refine ⟨(ne_of_none hx.1 hl).symm, fun z => ?_⟩
    obtain ⟨p, hp, e⟩ := List.mem_map.mp z
    have := hx.2 p hp
    rw [e, hl] at this
    cases this
end L2
set_option Elab.async false
set_option linter.all false
namespace L2
open PySem PySem.Spec
section
variable {X : Cx} {pins : List (Addr × Obj)} {σ : St} {H : Hp} {s : Shared} {a : Addr} {kvs : List (Key × V)} {k : Key} {z : V} {u r : Value} {A : Around} {E : Value → Shared → Prop}
end
section
variable {X : Cx} {o e f : Expr} {apos cpos : Pos} {td ty tx : TE}
end
/-- all but what stands at x is kept -/
def SX (x : Addr) (H H' : Hp) : Prop := ∀ c o, c ≠ x → H c = some o → H' c = some o
theorem SX.of {x : Addr} {H H' : Hp} (h : Same H H') : SX x H H' := fun c o _ e => h c o e
theorem SX.trans {x : Addr} {H H1 H2 : Hp} (h : SX x H H1) (g : SX x H1 H2) : SX x H H2 := fun c o n e => g c o n (h c o n e)
theorem SX.free {x l : Addr} {H H1 : Hp} {o : HO} (h : SX x H H1) (e : H1 x = some o) (n : H1 l = none) : H l = none := by
  cases q : H l with
  | none => rfl
  | some u =>
    by_cases z : l = x
    · rw [z, e] at n; cases n
    · rw [h l u z q] at n; cases n
def nIns : HO → Bool
  | .ins _ _ _ => false
  | _ => true
/-- all but instances is kept -/
def SN (H H' : Hp) : Prop := ∀ c o, nIns o = true → H c = some o → H' c = some o
theorem Same.sn {H H' : Hp} (h : Same H H') : SN H H' := fun c o _ e => h c o e
theorem SN.trans {H H1 H2 : Hp} (h : SN H H1) (g : SN H1 H2) : SN H H2 := fun c o n e => g c o n (h c o n e)
theorem SX.sn {x C dx : Addr} {fs : List (Str × V)} {H H' : Hp} (h : SX x H H') (ex : H x = some (.ins C dx fs)) : SN H H' := fun c o n e => h c o (ne_of e ex fun z => by rw [z] at n; cases n) e
end L2
set_option Elab.async false
set_option linter.all false
set_option maxRecDepth 100000
set_option maxHeartbeats 4000000
namespace L2
open PySem PySem.Spec PyProof.Rows
def keyT : Value → Str
  | .str x _ => x
  | _ => ""
def SetT (prog : Program) (w : World) (led : Bool) (a : Addr) (ks : List Str) (h : Heap) : Prop := ∃ o es ep t, h.get? a = some o ∧ o.ExactSet ∧ o.data = .set es ep t ∧ ElemsOf (strKind prog w) es.toList ∧ es.size < scanBound ∧ t.fits es.size = true ∧ t.led = led ∧
  (t.plain = true → es.size = 0) ∧ (es.toList.map fun e => keyT e.2).Perm ks
theorem SetT.at {prog : Program} {w : World} {led : Bool} {a : Addr} {ks : List Str} {h h' : Heap} (x : SetT prog w led a ks h) (k : ∀ o, h.get? a = some o → h'.get? a = some o) : SetT prog w led a ks h' :=
  let ⟨o, es, ep, t, e, r⟩ := x; ⟨o, es, ep, t, k o e, r⟩
theorem elem_str {prog : Program} {w : World} {l : List (Int × Value)} (h : ElemsOf (strKind prog w) l) {e : Int × Value} (he : e ∈ l) : ∃ t, e.2 = .str (keyT e.2) t := by
  obtain ⟨⟨k, hk, _⟩, _⟩ := h e he
  obtain ⟨t, q⟩ := Value.isStrOf_shape (show Value.isStrOf k e.2 = true from hk)
  exact ⟨t, by rw [q]; rfl⟩
theorem is_key {k : Str} {v : Value} {t : Tok} (h : v = .str (keyT v) t) : Value.isStrOf k v = decide (k = keyT v) := by
  rw [h]
  show Value.isStrOf k (.str (keyT v) t) = decide (k = keyT v)
  by_cases e : k = keyT v
  · rw [← e, decide_eq_true rfl]; simp [Value.isStrOf]
  · rw [decide_eq_false e]; simp [Value.isStrOf]; exact fun z => e z.symm
theorem layNew_led (t : SetTable) (es : Array (Int × Value)) (h : Int) (x : Value) : (layNew t es h x).2.1.led = t.led := by
  unfold layNew
  split
  · show (SetTable.orStandIn _ _).led = _
    unfold SetTable.orStandIn
    split <;> rfl
  · rfl
theorem relayAll_led (t : SetTable) (es : Array (Int × Value)) (wanted : Nat) : (relayAll t es wanted).2.1.led = t.led ∧ ((relayAll t es wanted).2.1.plain = true → t.plain = true) := by
  unfold relayAll
  split
  · rename_i t' order he
    have e : t'.led = t.led ∧ t'.plain = t.plain := by
      unfold SetTable.relaid SetTable.laid at he
      cases hc : SetTable.layClean (SetTable.sizeAbove wanted - 1) (es.map (·.1)) with
      | none => rw [hc] at he; cases he
      | some ow => rw [hc] at he; cases he; exact ⟨rfl, rfl⟩
    dsimp only
    split
    · exact ⟨e.1, fun z => by rw [← e.2]; exact z⟩
    · exact ⟨rfl, fun z => by cases z⟩
  · exact ⟨rfl, fun z => by cases z⟩
section
variable {prog : Program} {w : World} {A : Around} {E : Value → Shared → Prop} {s : Shared}
/-- what is stored -/
theorem setT_store {h : Heap} {a : Addr} {o : Obj} {es : Array (Int × Value)} {ep : Nat} {t : SetTable} {led : Bool} {ks : List Str} (ho : h.get? a = some o) (hex : o.ExactSet) (hd : o.data = .set es ep t) {es' : Array (Int × Value)} {t' : SetTable}
    (hel : ElemsOf (strKind prog w) es'.toList) (hb : es'.size < scanBound) (hf : t'.fits es'.size = true) (hl : t'.led = led) (hp : t'.plain = true → es'.size = 0) (hk : (es'.toList.map fun e => keyT e.2).Perm ks) :
    (h.update a (Obj.putSet es' t')).get? a = some { o with data := .set es' (ep + 1) t' } ∧ SetT prog w led a ks (h.update a (Obj.putSet es' t')) := by
  have hg : (h.update a (Obj.putSet es' t')).get? a = some { o with data := .set es' (ep + 1) t' } := by
    have e1 := putSet_of es' t' hd
    have e2 := Heap.get?_update_self (Obj.putSet es' t') ho (by rw [e1]; rfl)
    rw [e1] at e2
    exact e2
  exact ⟨hg, _, es', ep + 1, t', hg, hex, rfl, hel, hb, hf, hl, hp, hk⟩
theorem tail_T {g : Bool → Sem Unit} (hg : ∀ (b : Bool) (z : Shared) (R : Unit → Shared → Prop), R () z → wpAny (model prog w) A (g b) R E z) {a : Addr} {o : Obj} {es : Array (Int × Value)} {ep : Nat} {t : SetTable} {led : Bool} {ks : List Str}
    (ho : s.heap.get? a = some o) (hex : o.ExactSet) (hd : o.data = .set es ep t) {es1 : Array (Int × Value)} {t2 : SetTable} (hel : ElemsOf (strKind prog w) es1.toList) (hb : es1.size < scanBound) (hf : t2.fits es1.size = true) (hl : t2.led = led) (hp : t2.plain = false)
    (hk : (es1.toList.map fun e => keyT e.2).Perm ks) {was : Bool} {R : Option Bool → Shared → Prop} (h : ∀ h', Heap.SameBut a s.heap h' → SetT prog w led a ks h' → R (some true) { s with heap := h' }) :
    wpAny (model prog w) A (do
        storeSet a es1 t2
        if (!was && t2.tooFull) = true then do
            g (relayAll t2 es1 (SetTable.grown es1.size)).2.2
            storeSet a (relayAll t2 es1 (SetTable.grown es1.size)).1 (relayAll t2 es1 (SetTable.grown es1.size)).2.1
            pure (some true)
          else pure (some true)) R E s := by
  refine wpAny_bind (wpAny_storeSet_of ho hd ?_ (fits_of_scanBound hb))
  obtain ⟨g1, S1⟩ := setT_store (prog := prog) (w := w) ho hex hd hel hb hf hl (fun z => by rw [hp] at z; cases z) hk
  have b1 := Heap.SameBut.update s.heap a (Obj.putSet es1 t2)
  split
  · have pm := relayAll_perm t2 es1 (SetTable.grown es1.size)
    have ft := relayAll_fits t2 es1 (SetTable.grown es1.size)
    have ld := relayAll_led t2 es1 (SetTable.grown es1.size)
    generalize relayAll t2 es1 (SetTable.grown es1.size) = Z at pm ft ld ⊢
    obtain ⟨es2, t3, gv⟩ := Z
    dsimp only at pm ft ld ⊢
    have z2 : es2.size = es1.size := by rw [← Array.length_toList, pm.length_eq, Array.length_toList]
    refine wpAny_bind (hg _ _ _ (wpAny_bind (wpAny_storeSet_of g1 rfl ?_ (fits_of_scanBound (by rw [z2]; exact hb)))))
    obtain ⟨_, S2⟩ := setT_store (prog := prog) (w := w) (led := led) (ks := ks) g1 hex rfl (hel.perm pm) (by rw [z2]; exact hb) ft (ld.1.trans hl) (fun z => by have := ld.2 z; rw [hp] at this; cases this) ((pm.map _).trans hk)
    exact wpAny_pure (h _ (b1.trans (Heap.SameBut.update _ a _)) S2)
  · exact wpAny_pure (h _ b1 S1)
theorem setAdd_T {a : Addr} {ks : List Str} {k : Str} {u : Tok} {led : Bool} {Q : Bool → Shared → Prop} (hS : SetT prog w led a ks s.heap) (hroom : ks.length + 1 < scanBound)
    (h : ∀ (b : Bool) (h' : Heap), Heap.SameBut a s.heap h' → SetT prog w led a (addN ks k) h' → Q b { s with heap := h' }) : wpAny (model prog w) A (setAddHashed a (.str k u) (hashStr w k)) Q E s := by
  obtain ⟨o, es, ep, t, ho, hex, hd, hel, hb, hf, hled, hpl, hpm⟩ := hS
  have hkey : (strKind prog w).is k (.str k u) = true := by show Value.isStrOf k (.str k u) = true; simp [Value.isStrOf]
  have hsc : (Value.str k u).scannable = true := rfl
  have hlen : es.size = ks.length := by rw [← hpm.length_eq, List.length_map, Array.length_toList]
  unfold setAddHashed setAddHashedIn
  refine wpAny_holding (wpAny_bind (wpAny_setState_of ho hd hf ?_))
  dsimp only
  rw [byScan_of hsc hb hel]
  simp only [↓reduceIte]
  unfold setAddByScan
  refine wpAny_bind (wpAny_bind (wpAny_rule (wpAny_bind (wpAny_setScan_of (knd := strKind prog w) hkey ho hd hf hel ?_))))
  cases hr : List.findIdx? (fun e => (strKind prog w).is k e.2) es.toList with
  | some j =>
    dsimp only
    obtain ⟨hj, hpj, _⟩ := List.findIdx?_eq_some_iff_getElem.mp hr
    have hm := List.getElem_mem hj
    obtain ⟨tj, ej⟩ := elem_str hel hm
    have hin : k ∈ ks := hpm.mem_iff.mp (List.mem_map.mpr ⟨_, hm, by
      have e1 : Value.isStrOf k es.toList[j].2 = true := hpj
      rw [is_key ej] at e1
      exact (of_decide_eq_true e1).symm⟩)
    refine wpAny_pure (wpAny_pure ?_)
    have e : s = { s with heap := s.heap } := by cases s; rfl
    rw [e]
    exact h false s.heap (Heap.SameBut.refl a s.heap) ⟨o, es, ep, t, ho, hex, hd, hel, hb, hf, hled, hpl, by unfold addN; rw [if_pos hin]; exact hpm⟩
  | none =>
    dsimp only
    have hnin : ¬ k ∈ ks := fun z => by
      obtain ⟨e, he, hk⟩ := List.mem_map.mp (hpm.mem_iff.mpr z)
      obtain ⟨te, ee⟩ := elem_str hel he
      have h1 := List.findIdx?_eq_none_iff.mp hr e he
      have h2 : Value.isStrOf k e.2 = false := h1
      rw [is_key ee, hk, decide_eq_true rfl] at h2
      cases h2
    have hperm := layNew_perm t es (hashStr w k) (.str k u)
    have hfits := layNew_fits t es (hashStr w k) (.str k u)
    have hld := layNew_led t es (hashStr w k) (.str k u)
    have hnk : (addN ks k) = ks ++ [k] := by unfold addN; rw [if_neg hnin]
    generalize layNew t es (hashStr w k) (.str k u) = Z at hperm hfits hld ⊢
    obtain ⟨es1, t1, was, gave⟩ := Z
    dsimp only at hperm hfits hld ⊢
    rw [Array.toList_push] at hperm
    have hel1 : ElemsOf (strKind prog w) es1.toList := (hel.push (k := k) hkey hsc).perm hperm
    have z1 : es1.size = es.size + 1 := by rw [← Array.length_toList, hperm.length_eq, List.length_append, Array.length_toList]; rfl
    have hb1 : es1.size < scanBound := by rw [z1, hlen]; exact hroom
    have hk1 : (es1.toList.map fun e => keyT e.2).Perm (addN ks k) := by
      rw [hnk]
      refine (hperm.map _).trans ?_
      rw [List.map_append]
      exact hpm.append_right _
    have gw : ∀ (b : Bool) (z : Shared) (R : Unit → Shared → Prop), R () z → wpAny (model prog w) A (match b with | true => rule "set.scan.the-table-gave-way" | false => pure ()) R E z := fun b z R q => by cases b <;> first | exact wpAny_pure q | exact wpAny_rule q
    refine wpAny_bind (gw _ _ _ ?_)
    split
    · refine wpAny_bind ?_
      rw [hashByValue_scannable 8 hsc]
      refine wpAny_pure ?_
      refine tail_T (led := led) (ks := addN ks k) ?_ ho hex hd hel1 hb1 ?_ ?_ ?_ hk1 ?_
      · intro b z R q; cases b <;> first | exact wpAny_pure q | exact wpAny_rule q
      · exact SetTable.fits_plain_off hfits
      · exact hld.trans hled
      · rfl
      · intro h' hsb hS'; dsimp only; exact wpAny_pure (h true h' hsb hS')
    · rename_i hnp
      refine wpAny_bind (wpAny_pure ?_)
      simp only [↓reduceIte]
      refine tail_T (led := led) (ks := addN ks k) ?_ ho hex hd hel1 hb1 hfits ?_ ?_ hk1 ?_
      · intro b z R q; cases b <;> first | exact wpAny_pure q | exact wpAny_rule q
      · exact hld.trans hled
      · exact Bool.eq_false_iff.mpr hnp
      · intro h' hsb hS'; dsimp only; exact wpAny_pure (h true h' hsb hS')
/-- the texts met, each once -/
def metT (val : Nat → Str) (i : Nat) : List Str := ((List.range i).map val).foldl addN []
theorem metT_succ (val : Nat → Str) (i : Nat) : metT val (i + 1) = addN (metT val i) (val i) := by
  unfold metT
  rw [List.range_succ, List.map_append, List.foldl_append]
  rfl
theorem metT_len (val : Nat → Str) : ∀ i, (metT val i).length ≤ i
  | 0 => Nat.le_refl _
  | i + 1 => by
    rw [metT_succ]
    have ih := metT_len val i
    unfold addN
    split
    · omega
    · rw [List.length_append, List.length_singleton]; omega
theorem set_loop_T {led : Bool} {R : Result → Shared → Prop} {I : Addr} {fp wr : List Addr} {G : Array GenState → Array GenState → Prop} {n : Nat} {P : Nat → Value → Prop} {St : Nat → Shared → Prop} (W : WalksS prog w A.in1 I fp wr G n P St) (S : Addr) (nf : S ∉ fp)
    (val : Nat → Str) (hval : ∀ i v, P i v → ∃ t, v = .str (val i) t) (hb : n + 1 < scanBound) : ∀ (k i : Nat) (s : Shared), n - i = k → i ≤ n → St i s → SetT prog w led S (metT val i) s.heap →
      (∀ s', Moved (S :: wr) G s s' → SetT prog w led S (metT val n) s'.heap → R (.ok (.ret .none)) s') → codeAny (model prog w) A (.builtin "set.update.loop" ⟨[.ref S, .ref I], []⟩) R s := by
  have nw : S ∉ wr := fun h => nf (W.sub _ h)
  have sub : ∀ b ∈ wr, b ∈ S :: wr := fun b hb => List.mem_cons_of_mem _ hb
  intro k
  induction k with
  | zero =>
    intro i s hk hi hst hS hR
    obtain rfl : i = n := by omega
    refine codeAny_builtin F.entry_set_update_loop ?_
    rw [Around.under_plainId F.plain_set_update_loop _]
    refine wpAny_bind (m := pyNext (.ref I)) (W.done s _ _ hst fun s' mv => ?_)
    exact wpAny_pure (hR s' (mv.mono sub) (hS.at fun o e => mv.heap S o nw e))
  | succ k ih =>
    intro i s hk hi hst hS hR
    have lt : i < n := by omega
    refine codeAny_builtin F.entry_set_update_loop ?_
    rw [Around.under_plainId F.plain_set_update_loop _]
    refine wpAny_bind (m := pyNext (.ref I)) (W.item i s _ _ lt hst fun v s' hP hst' mv => ?_)
    obtain ⟨t, rfl⟩ := hval i v hP
    have hS' := hS.at (h' := s'.heap) fun o e => mv.heap S o nw e
    refine wpAny_bind (m := holding [Value.str (val i) t] (setAdd S (.str (val i) t))) (wpAny_holding ?_)
    unfold setAdd
    refine wpAny_holding (wpAny_bind ((strKind prog w).pyHash (k := val i) (show Value.isStrOf (val i) (.str (val i) t) = true by simp [Value.isStrOf]) ?_))
    have room : (metT val i).length + 1 < scanBound := by have := metT_len val i; omega
    refine setAdd_T (s := { s' with toks := s'.toks + 1 }) (led := led) hS' room fun b h' sb hS2 => ?_
    rw [← metT_succ] at hS2
    refine wpAny_pure ⟨plainId_quiet F.plain_set_update_loop _, ih (i + 1) _ (by omega) lt (W.frame _ s' _ _ hst' (Nat.le_succ _) fun b hb o e => ?_) hS2 fun s'' mv' hS'' => ?_⟩
    · rw [sb.2 b (fun h : b = S => nf (by rw [← h]; exact hb))]; exact e
    · refine hR s'' (Moved.trans W.gtrans ((mv.mono sub).then_heap (Nat.le_succ _) fun b o hb e => ?_) mv') hS''
      rw [sb.2 b (fun h : b = S => hb (by rw [h]; exact List.mem_cons_self))]; exact e
def setNew (w : World) : Obj := { cls := .type "set", dict := none, data := .set #[] 0 (.fresh 0 0 (!w.params.followText "set-order")) }
theorem new_set_T (v : Value) {R : Value → Shared → Prop} (h : R (.ref s.heap.objs.size) { s with heap := s.heap.push (setNew w) }) : codeAny (model prog w) A (.call (.builtin "set.__new__") ⟨[.type "set", v], []⟩) (wants R E) s := by
  refine codeAny_of_tree ?_
  refine wpAny_bind (m := checkBuiltinCall "set.__new__" ⟨[.type "set", v], []⟩) (wpAny_of_eq (F.newCall_set_1 v) (wpAny_pure ⟨plainId_quiet F.plain_set_new _, codeAny_builtin F.entry_set_new ?_⟩))
  rw [Around.under_plainId F.plain_set_new _]
  unfold Builtin.«set.__new__» Builtin.Frozenset.newClass
  have sub := sub_set_self
  obtain ⟨hp, g, d, tk, os⟩ := s
  dsimp only
  wp_walk
  refine wpAny_askSetting (wpAny_pure ?_)
  dsimp only
  simp only [newObj]
  exact wpAny_bind (wpAny_alloc (wpAny_pure (wpAny_pure h)))
theorem strs_at : ∀ {vs : List Value} {ss : List Str}, StrsAre vs ss → ∀ (i : Nat) (v : Value), vs[i]? = some v → ∃ t, v = .str (ss.getD i "") t
  | _, _, .nil, i, v, h => by simp at h
  | _, _, .cons x t r, 0, v, h => by simp at h; exact ⟨t, by rw [← h]; rfl⟩
  | _, _, .cons x t r, i + 1, v, h => by
    rw [List.getElem?_cons_succ] at h
    obtain ⟨t', e⟩ := strs_at r i v h
    exact ⟨t', by rw [e]; rfl⟩
theorem strs_len : ∀ {vs : List Value} {ss : List Str}, StrsAre vs ss → vs.length = ss.length
  | _, _, .nil => rfl
  | _, _, .cons x t r => by rw [List.length_cons, List.length_cons, strs_len r]
theorem range_getD (ss : List Str) : (List.range ss.length).map (fun i => ss.getD i "") = ss := by
  apply List.ext_getElem
  · rw [List.length_map, List.length_range]
  · intro i h1 h2
    rw [List.getElem_map, List.getElem_range, List.getD_eq_getElem?_getD, List.getElem?_eq_getElem h2]
    rfl
theorem new_T : SetT prog w (!w.params.followText "set-order") s.heap.objs.size [] (s.heap.push (setNew w)) :=
  ⟨_, #[], 0, _, Heap.get?_push_size _ rfl, ⟨rfl, rfl, rfl⟩, rfl, (fun e he => by simp at he), by decide, by rfl, rfl, (fun _ => rfl), by simp⟩
end
end L2
set_option Elab.async false
set_option linter.all false
set_option maxRecDepth 100000
set_option maxHeartbeats 4000000
namespace L2
open PySem PySem.Spec PyProof.Rows
section
variable {prog : Program} {w : World} {A : Around} {E : Value → Shared → Prop} {s : Shared}
set_option maxHeartbeats 3200000 in
theorem call_set_T {l : Addr} {items : Array Value} {ss : List Str} {Q : Value → Shared → Prop} (hh : A.handled = none) (hl : s.heap.IsList l items) (hi : StrsAre items.toList ss) (hb : items.size + 1 < scanBound)
    (h : ∀ (h' : Heap) (tk : Nat), SetT prog w (!w.params.followText "set-order") s.heap.objs.size (ss.foldl addN []) h' → (∀ b o, b < s.heap.objs.size → s.heap.get? b = some o → h'.get? b = some o) → Q (.ref s.heap.objs.size) { s with heap := h', toks := tk }) :
    wpAny (model prog w) A (call (.type "set") [.ref l]) Q E s := by
  obtain ⟨c, tl, m1⟩ := F.called_set.mro
  have m2 := F.called_set.made
  have m3 := F.called_set.sub
  have m4 := F.called_set.notType
  have m5 := F.called_set.canCreate
  have m6 := F.typeCall_set_1 (.ref l)
  refine wpAny_call (codeAny_of_tree ?_)
  show wpAny _ _ (callAny (.type "set") _) _ _ _
  refine wpAny_pure ⟨Code.quiet_builtin _ (by decide +kernel), codeAny_builtin F.entry_type_call ?_⟩
  rw [Around.under_plain (weight_type_call_type "set" [.ref l] []) rfl]
  repeat (any_goals (first | assumption | wp_step))
  refine codeAny_mono (new_set_T (.ref l) (E := E) (R := fun z z1 => z = .ref s.heap.objs.size ∧ z1 = { s with heap := s.heap.push (setNew w) }) ⟨rfl, rfl⟩) fun r s₁ hr => ?_
  cases r with
  | error e => exact hr
  | ok fl =>
    cases fl with
    | ret z =>
      obtain ⟨rfl, rfl⟩ := hr
      have z1 : (s.heap.push (setNew w)).get? s.heap.objs.size = some (setNew w) := Heap.get?_push_size _ rfl
      have z2 : Shared.TypeIs { s with heap := s.heap.push (setNew w) } (.ref s.heap.objs.size) "set" := ⟨_, z1, rfl⟩
      have z3 := F.called_set.init.lookup
      have z4 := F.called_set.init.bind (.ref s.heap.objs.size)
      repeat (any_goals (first | assumption | wp_step))
      refine codeAny_mono (codeAny_call_builtin (R := wants (fun r s₂ => r = .none ∧ ∃ h' tk, s₂ = { s with heap := h', toks := tk } ∧ SetT prog w (!w.params.followText "set-order") s.heap.objs.size (ss.foldl addN []) h' ∧
          (∀ b o, b < s.heap.objs.size → s.heap.get? b = some o → h'.get? b = some o)) E) F.called_set.init.plain F.entry_set_init (check_set_init_1 z2 ?_)) fun r₂ s₂ hr₂ => ?_
      · obtain ⟨ol, e1, e2, nl, e3⟩ := hl
        obtain ⟨ocls, odict, odata, oslots⟩ := ol
        simp only at e2 e3
        subst e2; subst e3
        have y1 : (s.heap.push (setNew w)).get? l = some { cls := .type "list", dict := odict, data := .seq items nl, slots := oslots } := Heap.get?_push_of_some _ e1
        have y2 := F.sub_list_set
        have y3 := F.sub_list_frozenset
        have y4 : (Value.type "list" == Value.type "dict") = false := by decide
        have y5 : (s.heap.push (setNew w)).IsList l items := ⟨_, y1, rfl, nl, rfl⟩
        unfold Builtin.«set.__init__» noKeywords Builtin.Frozenset.updateFrom
        generalize hPI : pyIter = PI
        unfold setNew at z1 z2 y1 y5 ⊢
        wp_walk
        subst hPI
        refine wpAny_pyIter_list y5 ?_
        refine wpAny_bind (wpAny_runValue ?_)
        have lt : l < s.heap.objs.size := Heap.lt_size e1
        have q3 : A.in1.in1.in1.handled = none := by simp [hh]
        have ne : l ≠ (s.heap.push { cls := .type "set", dict := none, data := .set #[] 0 (.fresh 0 0 (!w.params.followText "set-order")) }).objs.size := by
          rw [Heap.size_push]; exact Nat.ne_of_lt (Nat.lt_succ_of_lt lt)
        have nf : s.heap.objs.size ∉ [(s.heap.push { cls := .type "set", dict := none, data := .set #[] 0 (.fresh 0 0 (!w.params.followText "set-order")) }).objs.size, l] := by
          rw [Heap.size_push]
          intro z
          rcases List.mem_cons.mp z with z | z
          · omega
          · rw [List.mem_singleton.mp z] at lt
            exact Nat.lt_irrefl _ lt
        have vl : ∀ (i : Nat) (v : Value), items[i]? = some v → ∃ t, v = .str ((fun i => ss.getD i "") i) t := fun i v e => strs_at hi i v (by rw [Array.getElem?_toList]; exact e)
        have es : metT (fun i => ss.getD i "") items.size = ss.foldl addN [] := by
          unfold metT
          rw [← Array.length_toList, strs_len hi, range_getD]
        refine set_loop_T (led := !w.params.followText "set-order") ((Walks.list q3 _ l ne items).toS) s.heap.objs.size nf (fun i => ss.getD i "") vl hb (items.size - 0) 0 _ (by omega) (Nat.zero_le _) ⟨⟨_, Heap.get?_push_size _ rfl, rfl, rfl⟩, y5.push _⟩ ?S0 ?R0
        case S0 => exact (new_T (prog := prog) (w := w) (s := s)).at fun o e => Heap.get?_push_of_some _ e
        case R0 =>
          intro s' hm hS'
          obtain ⟨h', g', d', tk', os'⟩ := s'
          have eg : g' = s.gens := hm.gens
          have ed : d' = s.drawn := hm.drawn
          have eo : os' = s.os := hm.os
          subst eg; subst ed; subst eo
          rw [es] at hS'
          refine wpAny_pure (wpAny_pure ⟨rfl, h', tk', rfl, hS', fun b o hb e => ?_⟩)
          refine hm.heap b o (fun z => ?_) (Heap.get?_push_of_some _ (Heap.get?_push_of_some _ e))
          rcases List.mem_cons.mp z with z | z
          · exact absurd z (Nat.ne_of_lt hb)
          · have z := List.mem_singleton.mp z
            rw [Heap.size_push] at z
            exact absurd z (Nat.ne_of_lt (Nat.lt_succ_of_lt hb))
      · cases r₂ with
        | error e => exact hr₂
        | ok fl₂ =>
          cases fl₂ with
          | ret r =>
            obtain ⟨rfl, h', tk, rfl, a1, a2⟩ := hr₂
            repeat (any_goals (first | assumption | wp_step))
            exact h _ _ a1 a2
          | _ => exact hr₂.elim
    | _ => exact hr.elim
end
end L2
set_option Elab.async false
set_option linter.all false
set_option maxRecDepth 100000
set_option maxHeartbeats 4000000
namespace L2
open PySem PySem.Spec PyProof.Rows
theorem erase_perm {α : Type} : ∀ (l : List α) (i : Nat) (h : i < l.length), (l[i] :: l.eraseIdx i).Perm l
  | x :: l, 0, _ => .refl _
  | x :: l, i + 1, h => by
    show (l[i]'(Nat.lt_of_succ_lt_succ h) :: x :: l.eraseIdx i).Perm (x :: l)
    exact (List.Perm.swap x _ _).trans ((erase_perm l i (Nat.lt_of_succ_lt_succ h)).cons x)
theorem pick_go {α : Type} (next : Nat → Nat) : ∀ (fuel k : Nat) (left : List α) (out : Array α), left.length = fuel → (pickOrder.go next fuel k left out).toList.Perm (out.toList ++ left)
  | 0, k, left, out, h => by
    obtain rfl : left = [] := List.length_eq_zero_iff.mp h
    rw [List.append_nil]
    exact .refl _
  | n + 1, k, left, out, h => by
    have hi : next k % left.length < left.length := Nat.mod_lt _ (by omega)
    unfold pickOrder.go
    rw [List.getElem?_eq_getElem hi]
    dsimp only
    refine (pick_go next n (k + 1) _ _ (by rw [List.length_eraseIdx_of_lt hi, h]; rfl)).trans ?_
    rw [Array.toList_push, List.append_assoc]
    exact (erase_perm left _ hi).append_left _
theorem pick_perm {α : Type} (next : Nat → Nat) (xs : Array α) : (pickOrder next xs).toList.Perm xs.toList := by
  have := pick_go next xs.size 0 xs.toList #[] (by simp)
  exact this
theorem slot_sit_next : Slot "set_iterator" "__next__" "set_iterator.__next__" := .of (owner := "set_iterator") (n := "__next__") (by rw [typeLookup_type, builtinLookup_eq_fast]; kernel_rfl) (by decide +kernel) (by decide +kernel) (by decide +kernel) (by first | exact .inl (by decide +kernel) | exact .inr (by decide +kernel)) (by rw [isSubtype_type]; kernel_rfl)
theorem entry_sit_next : entryFor table "set_iterator.__next__" = some Builtin.«set_iterator.__next__» := entryFor_of_tree (by kernel_rfl)
theorem args_sit_next (a : Value) : argsOk "set_iterator.__next__" ⟨[a], []⟩ := by unfold argsOk; kernel_rfl
theorem entry_set_iter : entryFor table "set.__iter__" = some Builtin.«frozenset.__iter__» := entryFor_alias (id' := "frozenset.__iter__") (by kernel_rfl) rfl (by decide +kernel) (by kernel_rfl)
theorem slot_sit_iter : Slot "set_iterator" "__iter__" "set_iterator.__iter__" := .of (owner := "set_iterator") (n := "__iter__") (by rw [typeLookup_type, builtinLookup_eq_fast]; kernel_rfl) (by decide +kernel) (by decide +kernel) (by decide +kernel) (by first | exact .inl (by decide +kernel) | exact .inr (by decide +kernel)) (by rw [isSubtype_type]; kernel_rfl)
theorem wpAny_choose {M : Model} {A : Around} {E : Value → Shared → Prop} {s : Shared} {src : Source} {n : Nat} {Q : Nat → Shared → Prop} (hn : n ≠ 0) (h : ∀ i d', i < n → Q i { s with drawn := d' }) : wpAny M A (choose src n) Q E s :=
  fun _ _ _ => ⟨hn, h _ _ (Nat.mod_lt _ (Nat.pos_of_ne_zero hn))⟩
theorem wpAny_drawOrder {M : Model} {A : Around} {E : Value → Shared → Prop} {α : Type} : ∀ (n : Nat) (xs : List α) (s : Shared) (Q : List α → Shared → Prop), xs.length = n → (∀ ys d', ys.Perm xs → Q ys { s with drawn := d' }) → wpAny M A (drawOrder n xs) Q E s
  | 0, xs, s, Q, hl, h => by
    obtain rfl : xs = [] := List.length_eq_zero_iff.mp hl
    have e : s = { s with drawn := s.drawn } := by cases s; rfl
    unfold drawOrder
    refine wpAny_pure ?_
    rw [e]
    exact h [] _ (.refl _)
  | n + 1, [], s, Q, hl, h => by cases hl
  | n + 1, x :: xs, s, Q, hl, h => by
    unfold drawOrder
    refine wpAny_bind (wpAny_choose (by simp) fun i d' hi => ?_)
    have e : (x :: xs)[i]? = some (x :: xs)[i] := List.getElem?_eq_getElem hi
    rw [e]
    dsimp only
    refine wpAny_bind (wpAny_drawOrder n ((x :: xs).eraseIdx i) _ _ (by rw [List.length_eraseIdx_of_lt hi, hl]; rfl) fun ys d'' hp => wpAny_pure ?_)
    exact h _ d'' ((hp.cons _).trans (erase_perm _ i hi))
/-- the iterator -/
def SitAt (h : Heap) (it a : Addr) (first : Value) (i n ep : Nat) : Prop := ∃ o, h.get? it = some o ∧ o.cls = .type "set_iterator" ∧ o.data = .fields #[first, .int i 0, .ref a, .int n 0, .int ep 0]
def SAt (h : Heap) (a : Addr) (es : Array (Int × Value)) (ep : Nat) (t : SetTable) : Prop := ∃ o, h.get? a = some o ∧ o.cls = .type "set" ∧ o.data = .set es ep t
section
variable {prog : Program} {w : World} {A : Around} {E : Value → Shared → Prop} {s : Shared} {a it : Addr} {es : Array (Int × Value)} {ep : Nat} {t : SetTable}
theorem SitAt.typeIs {first : Value} {i n : Nat} (h : SitAt s.heap it a first i n ep) : s.TypeIs (.ref it) "set_iterator" := let ⟨o, e, c, _⟩ := h; ⟨o, e, c⟩
/-- iter(set): by the text's order, or of one element at most -/
theorem iter_set_plain {Q : Value → Shared → Prop} (hS : SAt s.heap a es ep t) (hf : t.fits es.size = true) (hnd : (!w.params.followText "set-order" && (!t.plain && decide (es.size > 1))) = false)
    (h : Q (.ref s.heap.objs.size) { s with heap := s.heap.push { cls := .type "set_iterator", data := .fields #[.int 0 0, .int 0 0, .ref a, .int es.size 0, .int ep 0] } }) :
    wpAny (model prog w) A (pyIter (.ref a)) Q E s := by
  obtain ⟨o, ho, hc, hd⟩ := hS
  have hT : s.TypeIs (.ref a) "set" := ⟨o, ho, hc⟩
  refine wpAny_pyIter_slot hT PySem.F.slot_set_iter (wpAny_call_entry PySem.F.slot_set_iter hT entry_set_iter ?_ (PySem.F.args_set_iter_1 _))
  unfold Builtin.«frozenset.__iter__» Builtin.Frozenset.slot0 slotArgs
  simp only [List.isEmpty_nil, Bool.not_true, Bool.false_eq_true, ↓reduceIte, bind_assoc, List.length_nil, bne_self_eq_false]
  unfold Builtin.Frozenset.addrOf Builtin.Frozenset.sizeOf
  refine wpAny_bind (wpAny_pure ?_)
  try dsimp only
  refine wpAny_bind (wpAny_pure ?_)
  refine wpAny_bind (wpAny_bind (wpAny_setEntries_of ho hd hf (wpAny_pure ?_)))
  unfold setDrawn setsByText
  refine wpAny_bind (wpAny_bind (wpAny_setState_of ho hd hf ?_))
  refine wpAny_bind (wpAny_bind (wpAny_askSetting (wpAny_pure ?_)))
  refine wpAny_pure ?_
  refine wpAny_ite_split (fun z => ?_) (fun _ => ?_)
  · have z' : (!w.params.followText "set-order" && (!t.plain && decide (es.size > 1))) = true := z
    rw [hnd] at z'
    cases z'
  refine wpAny_bind (wpAny_pure ?_)
  refine wpAny_bind (wpAny_setEpoch_of ho hd hf ?_)
  unfold newFields
  refine wpAny_bind (wpAny_newObj_type (wpAny_pure ⟨_, rfl, "set_iterator", _, ⟨_, Heap.get?_push_size _ rfl, rfl⟩, slot_sit_next.lookup, ?_⟩))
  exact h
def placesT (ps : List Nat) : Obj := { cls := .type "tuple", data := .seq (ps.map fun (i : Nat) => rawInt i).toArray }
/-- iter(set): an order drawn -/
theorem iter_set_drawn {Q : Value → Shared → Prop} (hS : SAt s.heap a es ep t) (hf : t.fits es.size = true) (hnd : (!w.params.followText "set-order" && (!t.plain && decide (es.size > 1))) = true) (hz : es.size ≤ sizeLine)
    (h : ∀ ps d', ps.Perm (List.range es.size) → Q (.ref (s.heap.push (placesT ps)).objs.size) { s with heap := (s.heap.push (placesT ps)).push { cls := .type "set_iterator", data := .fields #[.ref s.heap.objs.size, .int 0 0, .ref a, .int es.size 0, .int ep 0] }, drawn := d' }) :
    wpAny (model prog w) A (pyIter (.ref a)) Q E s := by
  obtain ⟨o, ho, hc, hd⟩ := hS
  have hT : s.TypeIs (.ref a) "set" := ⟨o, ho, hc⟩
  refine wpAny_pyIter_slot hT PySem.F.slot_set_iter (wpAny_call_entry PySem.F.slot_set_iter hT entry_set_iter ?_ (PySem.F.args_set_iter_1 _))
  unfold Builtin.«frozenset.__iter__» Builtin.Frozenset.slot0 slotArgs
  simp only [List.isEmpty_nil, Bool.not_true, Bool.false_eq_true, ↓reduceIte, bind_assoc, List.length_nil, bne_self_eq_false]
  unfold Builtin.Frozenset.addrOf Builtin.Frozenset.sizeOf
  refine wpAny_bind (wpAny_pure ?_)
  try dsimp only
  refine wpAny_bind (wpAny_pure ?_)
  refine wpAny_bind (wpAny_bind (wpAny_setEntries_of ho hd hf (wpAny_pure ?_)))
  unfold setDrawn setsByText
  refine wpAny_bind (wpAny_bind (wpAny_setState_of ho hd hf ?_))
  refine wpAny_bind (wpAny_bind (wpAny_askSetting (wpAny_pure ?_)))
  refine wpAny_pure ?_
  refine wpAny_ite_split (fun _ => ?_) (fun z => absurd (show (!w.params.followText "set-order" && (!t.plain && decide (es.size > 1))) = true from hnd) z)
  refine wpAny_bind (wpAny_drawOrder _ _ _ _ List.length_range fun ps d' hp => ?_)
  have hl : (ps.map fun i : Nat => rawInt i).length ≤ sizeLine := by rw [List.length_map, hp.length_eq, List.length_range]; exact hz
  refine wpAny_bind (wpAny_newTuple ?_ hl)
  refine wpAny_bind (wpAny_setEpoch_of (s := { s with heap := s.heap.push (placesT ps), drawn := d' }) (Heap.get?_push_of_some _ ho) hd hf ?_)
  unfold newFields
  refine wpAny_bind (wpAny_newObj_type (wpAny_pure ⟨_, rfl, "set_iterator", _, ⟨_, Heap.get?_push_size _ rfl, rfl⟩, slot_sit_next.lookup, ?_⟩))
  exact h ps d' hp
/-- next: by the text's order, or of one element at most -/
theorem next_set_plain {Q : Option Value → Shared → Prop} {i slot : Nat} (hI : SitAt s.heap it a (.int slot 0) i es.size ep) (hS : SAt s.heap a es ep t) (hf : t.fits es.size = true) (hne : a ≠ it) (x : Value) (nx : Nat)
    (hN : ∀ (A' : Around) (E' : Value → Shared → Prop) (R : Option (Value × Nat) → Shared → Prop), R (some (x, nx)) s → wpAny (model prog w) A' (setNext a slot i ep) R E' s)
    (h : ∀ h', SitAt h' it a (.int nx 0) (i + 1) es.size ep → Heap.SameBut it s.heap h' → Q (some x) { s with heap := h' }) : wpAny (model prog w) A (pyNext (.ref it)) Q E s := by
  obtain ⟨oi, hoi, hci, hdi⟩ := id hI
  obtain ⟨o, ho, hc, hd⟩ := hS
  unfold pyNext
  refine wpAny_bind (wpAny_attempt (wpAny_callSpecial?_slot (name := Str.ofString "__next__") hI.typeIs slot_sit_next (wpAny_call_entry slot_sit_next hI.typeIs entry_sit_next ?_ (args_sit_next _))))
  unfold Builtin.«set_iterator.__next__» slotArgs
  simp only [List.isEmpty_nil, Bool.not_true, Bool.false_eq_true, ↓reduceIte, bind_assoc, List.length_nil, bne_self_eq_false]
  refine wpAny_bind (wpAny_pure ?_)
  refine wpAny_bind (wpAny_fieldsOf hoi hdi ?_)
  dsimp only
  refine wpAny_bind (wpAny_setEntries_of ho hd hf ?_)
  rw [if_neg (by simp)]
  simp only [Int.toNat_natCast]
  refine wpAny_bind (hN _ _ _ ?_)
  dsimp only
  refine wpAny_bind (wpAny_setField hoi hdi (by simp) ?_)
  have g1 := Heap.get?_update_self (Obj.mapFields (·.setIfInBounds 0 (rawInt (nx : Int)))) hoi (Obj.isFreed_of_fields (Obj.data_mapFields hdi _))
  have d1 := Obj.data_mapFields hdi (·.setIfInBounds 0 (rawInt (nx : Int)))
  refine wpAny_bind (wpAny_setField (s := { s with heap := s.heap.update it (Obj.mapFields (·.setIfInBounds 0 (rawInt (nx : Int)))) }) g1 d1 (by simp) ?_)
  have g2 := Heap.get?_update_self (Obj.mapFields (·.setIfInBounds 1 (rawInt ((i : Int) + 1)))) g1 (Obj.isFreed_of_fields (Obj.data_mapFields d1 _))
  have d2 := Obj.data_mapFields d1 (·.setIfInBounds 1 (rawInt ((i : Int) + 1)))
  refine wpAny_pure ⟨_, rfl, wpAny_pure (h _ ⟨_, g2, (Obj.cls_mapFields ..).trans ((Obj.cls_mapFields ..).trans hci), ?_⟩ ?_)⟩
  · rw [d2]; simp [rawInt]
  · exact (Heap.SameBut.update ..).trans (Heap.SameBut.update ..)
theorem next_set_stop {Q : Option Value → Shared → Prop} {i slot : Nat} (hh : A.handled = none) (hI : SitAt s.heap it a (.int slot 0) i es.size ep) (hS : SAt s.heap a es ep t) (hf : t.fits es.size = true)
    (hN : ∀ (A' : Around) (E' : Value → Shared → Prop) (R : Option (Value × Nat) → Shared → Prop), R none s → wpAny (model prog w) A' (setNext a slot i ep) R E' s)
    (h : ∀ h', Heap.ExtBut it s.heap h' → Q none { s with heap := h' }) : wpAny (model prog w) A (pyNext (.ref it)) Q E s := by
  obtain ⟨oi, hoi, hci, hdi⟩ := id hI
  obtain ⟨o, ho, hc, hd⟩ := hS
  unfold pyNext
  refine wpAny_bind (wpAny_attempt (wpAny_callSpecial?_slot (name := Str.ofString "__next__") hI.typeIs slot_sit_next (wpAny_call_entry slot_sit_next hI.typeIs entry_sit_next ?_ (args_sit_next _))))
  unfold Builtin.«set_iterator.__next__» slotArgs
  simp only [List.isEmpty_nil, Bool.not_true, Bool.false_eq_true, ↓reduceIte, bind_assoc, List.length_nil, bne_self_eq_false]
  refine wpAny_bind (wpAny_pure ?_)
  refine wpAny_bind (wpAny_fieldsOf hoi hdi ?_)
  dsimp only
  refine wpAny_bind (wpAny_setEntries_of ho hd hf ?_)
  rw [if_neg (by simp)]
  simp only [Int.toNat_natCast]
  refine wpAny_bind (hN _ _ _ ?_)
  dsimp only
  refine wpAny_bind (wpAny_setField hoi hdi (by simp) ?_)
  refine wpAny_bind ?_
  simp only [newExc, newTuple]
  refine wpAny_bind (wpAny_newObj_type ?_ (by size_fits))
  refine wpAny_bind (m := firstArgMember _ _) (wpAny_of_eq (a := Value.none) (by first | rfl | (simp only [firstArgMember]; rfl)) ?_)
  refine wpAny_newObj_type ?_ (by size_fits)
  simp only [raiseNew]
  refine wpAny_bind (wpAny_handled ?_)
  rw [show A.in1.handled = none from hh]
  refine wpAny_bind (wpAny_pure (wpAny_throw ?_))
  refine wpAny_bind (wpAny_isInstance (T := "StopIteration") (b := true) ⟨_, Heap.get?_push_size _ rfl, rfl⟩ isSubtype_stop ?_)
  exact wpAny_pure (h _ (((Heap.SameBut.update ..).extBut.push _).push _))
/-- next: an order drawn -/
theorem next_set_drawn {Q : Option Value → Shared → Prop} {T : Addr} {ps : List Nat} {i p : Nat} (hI : SitAt s.heap it a (.ref T) i es.size ep) (hT : s.heap.get? T = some (placesT ps)) (hS : SAt s.heap a es ep t) (hf : t.fits es.size = true) (hp : ps[i]? = some p) {e : Int × Value} (he : es[p]? = some e)
    (h : ∀ h', SitAt h' it a (.ref T) (i + 1) es.size ep → Heap.SameBut it s.heap h' → Q (some e.2) { s with heap := h' }) : wpAny (model prog w) A (pyNext (.ref it)) Q E s := by
  obtain ⟨oi, hoi, hci, hdi⟩ := id hI
  obtain ⟨o, ho, hc, hd⟩ := hS
  unfold pyNext
  refine wpAny_bind (wpAny_attempt (wpAny_callSpecial?_slot (name := Str.ofString "__next__") hI.typeIs slot_sit_next (wpAny_call_entry slot_sit_next hI.typeIs entry_sit_next ?_ (args_sit_next _))))
  unfold Builtin.«set_iterator.__next__» slotArgs
  simp only [List.isEmpty_nil, Bool.not_true, Bool.false_eq_true, ↓reduceIte, bind_assoc, List.length_nil, bne_self_eq_false]
  refine wpAny_bind (wpAny_pure ?_)
  refine wpAny_bind (wpAny_fieldsOf hoi hdi ?_)
  dsimp only
  refine wpAny_bind (wpAny_setEntries_of ho hd hf ?_)
  rw [if_neg (by simp)]
  simp only [Int.toNat_natCast]
  refine wpAny_bind (wpAny_seqItems hT rfl ?_)
  dsimp only
  have e1 : ((ps.map fun (i : Nat) => rawInt i).toArray)[i]? = some (rawInt p) := by rw [List.getElem?_toArray, List.getElem?_map, hp]; rfl
  rw [e1]
  dsimp only [rawInt]
  unfold setNextDrawn
  simp only [Int.toNat_natCast, bind_assoc]
  refine wpAny_bind (wpAny_setState_of ho hd hf ?_)
  rw [if_neg (by simp)]
  rw [he]
  dsimp only
  simp only [pure_bind]
  refine wpAny_bind (wpAny_setField hoi hdi (by simp) ?_)
  have g1 := Heap.get?_update_self (Obj.mapFields (·.setIfInBounds 1 (rawInt ((i : Int) + 1)))) hoi (Obj.isFreed_of_fields (Obj.data_mapFields hdi _))
  have d1 := Obj.data_mapFields hdi (·.setIfInBounds 1 (rawInt ((i : Int) + 1)))
  refine wpAny_pure ⟨_, rfl, wpAny_pure (h _ ⟨_, g1, (Obj.cls_mapFields ..).trans hci, ?_⟩ (Heap.SameBut.update ..))⟩
  rw [d1]; simp [rawInt]
theorem next_set_drawn_stop {Q : Option Value → Shared → Prop} {T : Addr} {ps : List Nat} {i : Nat} (hh : A.handled = none) (hI : SitAt s.heap it a (.ref T) i es.size ep) (hT : s.heap.get? T = some (placesT ps)) (hS : SAt s.heap a es ep t) (hf : t.fits es.size = true) (hp : ps[i]? = none)
    (h : ∀ h', Heap.ExtBut it s.heap h' → Q none { s with heap := h' }) : wpAny (model prog w) A (pyNext (.ref it)) Q E s := by
  obtain ⟨oi, hoi, hci, hdi⟩ := id hI
  obtain ⟨o, ho, hc, hd⟩ := hS
  unfold pyNext
  refine wpAny_bind (wpAny_attempt (wpAny_callSpecial?_slot (name := Str.ofString "__next__") hI.typeIs slot_sit_next (wpAny_call_entry slot_sit_next hI.typeIs entry_sit_next ?_ (args_sit_next _))))
  unfold Builtin.«set_iterator.__next__» slotArgs
  simp only [List.isEmpty_nil, Bool.not_true, Bool.false_eq_true, ↓reduceIte, bind_assoc, List.length_nil, bne_self_eq_false]
  refine wpAny_bind (wpAny_pure ?_)
  refine wpAny_bind (wpAny_fieldsOf hoi hdi ?_)
  dsimp only
  refine wpAny_bind (wpAny_setEntries_of ho hd hf ?_)
  rw [if_neg (by simp)]
  simp only [Int.toNat_natCast]
  refine wpAny_bind (wpAny_seqItems hT rfl ?_)
  dsimp only
  have e1 : ((ps.map fun (i : Nat) => rawInt i).toArray)[i]? = none := by rw [List.getElem?_toArray, List.getElem?_map, hp]; rfl
  rw [e1]
  dsimp only
  refine wpAny_bind (wpAny_setField hoi hdi (by simp) ?_)
  have g1 := Heap.get?_update_self (Obj.mapFields (·.setIfInBounds 0 (rawInt 0))) hoi (Obj.isFreed_of_fields (Obj.data_mapFields hdi _))
  have d1 := Obj.data_mapFields hdi (·.setIfInBounds 0 (rawInt 0))
  refine wpAny_bind (wpAny_setField (s := { s with heap := s.heap.update it (Obj.mapFields (·.setIfInBounds 0 (rawInt 0))) }) g1 d1 (by simp) ?_)
  refine wpAny_bind ?_
  simp only [newExc, newTuple]
  refine wpAny_bind (wpAny_newObj_type ?_ (by size_fits))
  refine wpAny_bind (m := firstArgMember _ _) (wpAny_of_eq (a := Value.none) (by first | rfl | (simp only [firstArgMember]; rfl)) ?_)
  refine wpAny_newObj_type ?_ (by size_fits)
  simp only [raiseNew]
  refine wpAny_bind (wpAny_handled ?_)
  rw [show A.in1.handled = none from hh]
  refine wpAny_bind (wpAny_pure (wpAny_throw ?_))
  refine wpAny_bind (wpAny_isInstance (T := "StopIteration") (b := true) ⟨_, Heap.get?_push_size _ rfl, rfl⟩ isSubtype_stop ?_)
  exact wpAny_pure (h _ ((((Heap.SameBut.update ..).trans (Heap.SameBut.update ..)).extBut.push _).push _))
end
end L2
set_option Elab.async false
set_option linter.all false
set_option maxRecDepth 100000
set_option maxHeartbeats 4000000
namespace L2
open PySem PySem.Spec PyProof.Rows
section
variable {prog : Program} {w : World} {A : Around} {E : Value → Shared → Prop} {s : Shared} {a it : Addr} {es : Array (Int × Value)} {ep : Nat} {t : SetTable}
/-- in the text's order -/
theorem setNext_text {i slot : Nat} {R : Option (Value × Nat) → Shared → Prop} (hS : SAt s.heap a es ep t) (hf : t.fits es.size = true) (hb : w.params.followText "set-order" = true)
    (h : R (((pickOrder (w.params.setOrder a ep) es)[i]?).map fun e => (e.2, slot)) s) : wpAny (model prog w) A (setNext a slot i ep) R E s := by
  obtain ⟨o, ho, hc, hd⟩ := hS
  unfold setNext setsByText
  refine wpAny_bind (wpAny_setState_of ho hd hf ?_)
  refine wpAny_bind (wpAny_bind (wpAny_askSetting (wpAny_pure ?_)))
  refine wpAny_ite_split (fun _ => ?_) (fun z => absurd (show w.params.followText "set-order" = true from hb) z)
  rw [if_neg (by simp)]
  refine wpAny_bind ?_
  unfold setWalk setsByText
  refine wpAny_bind (wpAny_setState_of ho hd hf ?_)
  refine wpAny_bind (wpAny_bind (wpAny_askSetting (wpAny_pure ?_)))
  refine wpAny_ite_split (fun _ => ?_) (fun z => absurd (show w.params.followText "set-order" = true from hb) z)
  refine wpAny_bind (wpAny_askSetting ?_)
  exact wpAny_pure (wpAny_pure h)
/-- of one element at most -/
theorem setNext_few {i slot : Nat} {R : Option (Value × Nat) → Shared → Prop} (hS : SAt s.heap a es ep t) (hf : t.fits es.size = true) (hb : w.params.followText "set-order" = false) (hl : t.led = true) (hz : es.size ≤ 1)
    (h : R (match es[SetTable.below t.place slot]?, t.place[SetTable.below t.place slot]? with | some (_, x), some j => some (x, j + 1) | _, _ => none) s) : wpAny (model prog w) A (setNext a slot i ep) R E s := by
  obtain ⟨o, ho, hc, hd⟩ := hS
  unfold setNext setsByText
  refine wpAny_bind (wpAny_setState_of ho hd hf ?_)
  refine wpAny_bind (wpAny_bind (wpAny_askSetting (wpAny_pure ?_)))
  refine wpAny_ite_split (fun z => absurd (show w.params.followText "set-order" = true from z) (by rw [hb]; exact Bool.false_ne_true)) (fun _ => ?_)
  refine wpAny_ite_split (fun z => ?_) (fun _ => ?_)
  · have z' : (!t.plain && decide (es.size > 1)) = true := z
    rw [Bool.and_eq_true] at z'
    have := of_decide_eq_true z'.2
    omega
  refine wpAny_bind ?_
  show wpAny _ _ (if (!t.led && !es.isEmpty) = true then _ else pure ()) _ _ s
  rw [if_neg (by rw [hl]; simp)]
  exact wpAny_pure (wpAny_pure h)
theorem SAt.at {h h' : Heap} (x : SAt h a es ep t) (k : ∀ o, h.get? a = some o → h'.get? a = some o) : SAt h' a es ep t := let ⟨o, e, r⟩ := x; ⟨o, k o e, r⟩
theorem SitAt.at {h h' : Heap} {first : Value} {i n : Nat} (x : SitAt h it a first i n ep) (k : ∀ o, h.get? it = some o → h'.get? it = some o) : SitAt h' it a first i n ep := let ⟨o, e, r⟩ := x; ⟨o, k o e, r⟩
theorem entry_sit_iter : entryFor table "set_iterator.__iter__" = some Builtin.«dict_keyiterator.__iter__» := entryFor_alias (id' := "dict_keyiterator.__iter__") (by kernel_rfl) rfl (by decide +kernel) (by kernel_rfl)
theorem args_sit_iter (a : Value) : argsOk "set_iterator.__iter__" ⟨[a], []⟩ := by unfold argsOk; kernel_rfl
theorem sit_self {first : Value} {i n : Nat} {Q : Value → Shared → Prop} (hI : SitAt s.heap it a first i n ep) (h : Q (.ref it) s) : wpAny (model prog w) A (pyIter (.ref it)) Q E s := by
  refine wpAny_pyIter_slot hI.typeIs slot_sit_iter (wpAny_call_entry slot_sit_iter hI.typeIs entry_sit_iter ?_ (args_sit_iter _))
  show wpAny _ _ (ret (.ref it)) _ _ s
  exact wpAny_pure ⟨_, rfl, "set_iterator", _, hI.typeIs, slot_sit_next.lookup, h⟩
theorem walks_text (hb : w.params.followText "set-order" = true) (hf : t.fits es.size = true) (hh : A.handled = none) (hne : a ≠ it) :
    Walks prog w A it [it, a] [it] es.size (fun i v => ((pickOrder (w.params.setOrder a ep) es).toList.map (·.2))[i]? = some v) (fun i h => SitAt h it a (.int 0 0) i es.size ep ∧ SAt h a es ep t) where
  sub := fun b hb => by simp at hb; simp [hb]
  frame := fun _ _ _ st hk => ⟨st.1.at fun o e => hk it (by simp) o e, st.2.at fun o e => hk a (by simp) o e⟩
  item := fun i s Q E hi st hQ => by
    have hl : (pickOrder (w.params.setOrder a ep) es).size = es.size := by have := (pick_perm (w.params.setOrder a ep) es).length_eq; simpa using this
    have e1 : (pickOrder (w.params.setOrder a ep) es)[i]? = some ((pickOrder (w.params.setOrder a ep) es)[i]'(by omega)) := Array.getElem?_eq_getElem (by omega)
    refine next_set_plain (slot := 0) (nx := 0) st.1 st.2 hf hne _ (fun A' E' R r => setNext_text st.2 hf hb (by rw [e1]; exact r)) fun h' hI' sb => ?_
    refine hQ _ h' s.toks ?_ ⟨hI', st.2.at fun o e => (sb.2 a hne).trans e⟩ fun b o hb e => (sb.2 b (fun z => hb (by simp [z]))).trans e
    rw [List.getElem?_map, Array.getElem?_toList, e1]
    rfl
  done := fun s Q E st hQ => by
    have hl : (pickOrder (w.params.setOrder a ep) es).size = es.size := by have := (pick_perm (w.params.setOrder a ep) es).length_eq; simpa using this
    refine next_set_stop (slot := 0) hh st.1 st.2 hf (fun A' E' R r => setNext_text st.2 hf hb (by rw [Array.getElem?_eq_none (by omega)]; exact r)) fun h' eb => hQ h' s.toks fun b o hb e => eb b o (fun z => hb (by simp [z])) e
  self := fun _ _ _ _ st hQ => sit_self st.1 hQ
theorem below_one_0 (j : Nat) : SetTable.below #[j] 0 = 0 := by
  unfold SetTable.below
  simp [SetTable.below.go]
theorem below_one_1 (j : Nat) : SetTable.below #[j] (j + 1) = 1 := by
  unfold SetTable.below
  simp [SetTable.below.go]
theorem few_one (es : Array (Int × Value)) (pl : Array Nat) (h1 : es.size = 1) (h2 : pl.size = es.size) : ∃ e j, es = #[e] ∧ pl = #[j] := by
  obtain ⟨l⟩ := es
  obtain ⟨m⟩ := pl
  simp only [List.size_toArray] at h1 h2
  obtain ⟨e, rfl⟩ := List.length_eq_one_iff.mp h1
  obtain ⟨j, rfl⟩ := List.length_eq_one_iff.mp (h2.trans h1)
  exact ⟨e, j, rfl, rfl⟩
theorem walks_few (hb : w.params.followText "set-order" = false) (hf : t.fits es.size = true) (hl : t.led = true) (hz : es.size ≤ 1) (hh : A.handled = none) (hne : a ≠ it) :
    Walks prog w A it [it, a] [it] es.size (fun i v => (es.toList.map (·.2))[i]? = some v) (fun i h => SitAt h it a (.int ((if i = 0 then 0 else t.place.getD 0 0 + 1 : Nat) : Int) 0) i es.size ep ∧ SAt h a es ep t) where
  sub := fun b hb => by simp at hb; simp [hb]
  frame := fun _ _ _ st hk => ⟨st.1.at fun o e => hk it (by simp) o e, st.2.at fun o e => hk a (by simp) o e⟩
  item := fun i s Q E hi st hQ => by
    have h1 : es.size = 1 := by omega
    have h0 : i = 0 := by omega
    subst h0
    have hp : t.place.size = es.size := by unfold SetTable.fits at hf; rw [Bool.and_eq_true] at hf; exact eq_of_beq hf.1
    obtain ⟨e, j, e1, e2⟩ := few_one es t.place h1 hp
    refine next_set_plain (slot := 0) (nx := j + 1) st.1 st.2 hf hne e.2 (fun A' E' R r => setNext_few st.2 hf hb hl hz (by rw [e2, below_one_0, e1]; exact r)) fun h' hI' sb => ?_
    refine hQ _ h' s.toks (by rw [e1]; rfl) ⟨?_, st.2.at fun o e => (sb.2 a hne).trans e⟩ fun b o hb e => (sb.2 b (fun z => hb (by simp [z]))).trans e
    have e3 : (if 0 + 1 = 0 then 0 else t.place.getD 0 0 + 1 : Nat) = j + 1 := by rw [e2]; rfl
    rw [e3]
    exact hI'
  done := fun s Q E st hQ => by
    by_cases h1 : es.size = 1
    · have hp : t.place.size = es.size := by unfold SetTable.fits at hf; rw [Bool.and_eq_true] at hf; exact eq_of_beq hf.1
      obtain ⟨e, j, e1, e2⟩ := few_one es t.place h1 hp
      have e3 : (if es.size = 0 then 0 else t.place.getD 0 0 + 1 : Nat) = j + 1 := by rw [h1, e2]; rfl
      have st1 := st.1
      rw [e3] at st1
      refine next_set_stop (slot := j + 1) hh st1 st.2 hf (fun A' E' R r => setNext_few st.2 hf hb hl hz (by rw [e2, below_one_1, e1]; exact r)) fun h' eb => hQ h' s.toks fun b o hb e => eb b o (fun z => hb (by simp [z])) e
    · refine next_set_stop hh st.1 st.2 hf (fun A' E' R r => setNext_few st.2 hf hb hl hz (by rw [Array.getElem?_eq_none (by omega)]; exact r)) fun h' eb => hQ h' s.toks fun b o hb e => eb b o (fun z => hb (by simp [z])) e
  self := fun _ _ _ _ st hQ => sit_self st.1 hQ
theorem walks_drawn {T : Addr} {ps : List Nat} (hps : ps.Perm (List.range es.size)) (hf : t.fits es.size = true) (hh : A.handled = none) (hne : a ≠ it) (hTi : T ≠ it) :
    Walks prog w A it [it, a, T] [it] es.size (fun i v => ((ps.map fun p => es.toList.getD p (0, .none)).map (·.2))[i]? = some v) (fun i h => SitAt h it a (.ref T) i es.size ep ∧ SAt h a es ep t ∧ h.get? T = some (placesT ps)) where
  sub := fun b hb => by simp at hb; simp [hb]
  frame := fun _ _ _ st hk => ⟨st.1.at fun o e => hk it (by simp) o e, st.2.1.at fun o e => hk a (by simp) o e, hk T (by simp) _ st.2.2⟩
  item := fun i s Q E hi st hQ => by
    have hl : ps.length = es.size := by rw [hps.length_eq, List.length_range]
    have e0 : ps[i]? = some (ps[i]'(by omega)) := List.getElem?_eq_getElem (by omega)
    have hlt : ps[i]'(by omega) < es.size := List.mem_range.mp (hps.mem_iff.mp (List.getElem_mem (by omega)))
    have e1 : es[ps[i]'(by omega)]? = some (es.toList.getD (ps[i]'(by omega)) (0, .none)) := by
      rw [List.getD_eq_getElem?_getD, Array.getElem?_toList, Array.getElem?_eq_getElem hlt]; rfl
    refine next_set_drawn st.1 st.2.2 st.2.1 hf e0 e1 fun h' hI' sb => ?_
    refine hQ _ h' s.toks ?_ ⟨hI', st.2.1.at fun o e => (sb.2 a hne).trans e, (sb.2 T hTi).trans st.2.2⟩ fun b o hb e => (sb.2 b (fun z => hb (by simp [z]))).trans e
    rw [List.getElem?_map, List.getElem?_map, e0]
    rfl
  done := fun s Q E st hQ => by
    have hl : ps.length = es.size := by rw [hps.length_eq, List.length_range]
    refine next_set_drawn_stop hh st.1 st.2.2 st.2.1 hf (List.getElem?_eq_none (by omega)) fun h' eb => hQ h' s.toks fun b o hb e => eb b o (fun z => hb (by simp [z])) e
  self := fun _ _ _ _ st hQ => sit_self st.1 hQ
theorem strs_elems : ∀ {l : List (Int × Value)}, ElemsOf (strKind prog w) l → StrsAre (l.map (·.2)) (l.map fun e => keyT e.2)
  | [], _ => .nil
  | e :: l, h => by
    obtain ⟨t, q⟩ := elem_str h (List.mem_cons_self ..)
    have ih := strs_elems (l := l) fun e he => h e (List.mem_cons_of_mem _ he)
    show StrsAre (e.2 :: l.map (·.2)) (keyT e.2 :: l.map fun e => keyT e.2)
    rw [q]
    exact .cons _ _ ih
theorem range_getE {α : Type} (l : List α) (d : α) : (List.range l.length).map (fun i => l.getD i d) = l := by
  apply List.ext_getElem
  · rw [List.length_map, List.length_range]
  · intro i h1 h2
    rw [List.getElem_map, List.getElem_range, List.getD_eq_getElem?_getD, List.getElem?_eq_getElem h2]
    rfl
theorem push_lt (h : Heap) (o : Obj) : h.objs.size < (h.push o).objs.size := by rw [Heap.size_push]; exact Nat.lt_succ_self _
/-- iter(set): what comes, in some order -/
theorem iter_setT {ks : List Str} {Q : Value → Shared → Prop} (hS : SetT prog w (!w.params.followText "set-order") a ks s.heap)
    (h : ∀ (I : Addr) (h' : Heap) (d' : Drawn) (fp : List Addr) (vs : List Value) (ss : List Str) (St : Nat → Heap → Prop), (∀ b o, s.heap.get? b = some o → h'.get? b = some o) → s.heap.objs.size ≤ I → I < h'.objs.size → (∀ b ∈ fp, b = a ∨ s.heap.objs.size ≤ b) →
      StrsAre vs ss → ss.Perm ks → (∀ A' : Around, A'.handled = none → Walks prog w A' I fp [I] vs.length (fun i v => vs[i]? = some v) St) → St 0 h' → Q (.ref I) { s with heap := h', drawn := d' }) :
    wpAny (model prog w) A (pyIter (.ref a)) Q E s := by
  obtain ⟨o, es, ep, t, ho, hex, hd, hel, hb, hf, hled, hpl, hpm⟩ := hS
  have hS : SAt s.heap a es ep t := ⟨o, ho, hex.1, hd⟩
  have lt : a < s.heap.objs.size := Heap.lt_size ho
  have ne : a ≠ s.heap.objs.size := Nat.ne_of_lt lt
  have fpk : ∀ b ∈ [s.heap.objs.size, a], b = a ∨ s.heap.objs.size ≤ b := fun b hb => by
    rcases List.mem_cons.mp hb with e | hb
    · exact .inr (by omega)
    · exact .inl (List.mem_singleton.mp hb)
  by_cases hbt : w.params.followText "set-order" = true
  · have pp := pick_perm (w.params.setOrder a ep) es
    have hl : ((pickOrder (w.params.setOrder a ep) es).toList.map (·.2)).length = es.size := by rw [List.length_map, pp.length_eq, Array.length_toList]
    refine iter_set_plain hS hf (by rw [hbt]; rfl) ?_
    refine h s.heap.objs.size _ s.drawn [s.heap.objs.size, a] ((pickOrder (w.params.setOrder a ep) es).toList.map (·.2)) ((pickOrder (w.params.setOrder a ep) es).toList.map fun e => keyT e.2) (fun i h => SitAt h s.heap.objs.size a (.int 0 0) i es.size ep ∧ SAt h a es ep t) (fun b o e => Heap.get?_push_of_some _ e) (Nat.le_refl _) (push_lt _ _) fpk
      (strs_elems (hel.perm pp)) ((pp.map _).trans hpm) (fun A' hA' => by rw [hl]; exact walks_text hbt hf hA' ne) ⟨⟨_, Heap.get?_push_size _ rfl, rfl, rfl⟩, hS.at fun o e => Heap.get?_push_of_some _ e⟩
  · have hbf : w.params.followText "set-order" = false := Bool.eq_false_iff.mpr hbt
    by_cases hz : es.size ≤ 1
    · have hl : (es.toList.map (·.2)).length = es.size := by rw [List.length_map, Array.length_toList]
      refine iter_set_plain hS hf (by rw [decide_eq_false (show ¬ es.size > 1 by omega), Bool.and_false, Bool.and_false]) ?_
      refine h s.heap.objs.size _ s.drawn [s.heap.objs.size, a] (es.toList.map (·.2)) (es.toList.map fun e => keyT e.2) (fun i h => SitAt h s.heap.objs.size a (.int ((if i = 0 then 0 else t.place.getD 0 0 + 1 : Nat) : Int) 0) i es.size ep ∧ SAt h a es ep t) (fun b o e => Heap.get?_push_of_some _ e) (Nat.le_refl _) (push_lt _ _) fpk
        (strs_elems hel) hpm (fun A' hA' => by rw [hl]; exact walks_few hbf hf (by rw [hled, hbf]; rfl) hz hA' ne) ⟨⟨_, Heap.get?_push_size _ rfl, rfl, rfl⟩, hS.at fun o e => Heap.get?_push_of_some _ e⟩
    · have hp : t.plain = false := by
        cases e : t.plain with
        | false => rfl
        | true => have := hpl e; omega
      refine iter_set_drawn hS hf (by rw [hbf, hp, decide_eq_true (show es.size > 1 by omega)]; rfl) (Nat.le_of_lt (Nat.lt_of_lt_of_le hb (by decide))) fun ps d' hps => ?_
      have pp : (ps.map fun p => es.toList.getD p (0, Value.none)).Perm es.toList := by
        have e1 := hps.map (fun p => es.toList.getD p (0, Value.none))
        have e2 := range_getE es.toList (0, Value.none)
        rw [Array.length_toList] at e2
        rw [e2] at e1
        exact e1
      have hl : ((ps.map fun p => es.toList.getD p (0, Value.none)).map (·.2)).length = es.size := by rw [List.length_map, pp.length_eq, Array.length_toList]
      have sz : (s.heap.push (placesT ps)).objs.size = s.heap.objs.size + 1 := Heap.size_push ..
      have neI : a ≠ (s.heap.push (placesT ps)).objs.size := by rw [sz]; exact Nat.ne_of_lt (Nat.lt_succ_of_lt lt)
      have neT : s.heap.objs.size ≠ (s.heap.push (placesT ps)).objs.size := by rw [sz]; omega
      refine h (s.heap.push (placesT ps)).objs.size _ d' [(s.heap.push (placesT ps)).objs.size, a, s.heap.objs.size] ((ps.map fun p => es.toList.getD p (0, Value.none)).map (·.2)) ((ps.map fun p => es.toList.getD p (0, Value.none)).map fun e => keyT e.2) (fun i h => SitAt h (s.heap.push (placesT ps)).objs.size a (.ref s.heap.objs.size) i es.size ep ∧ SAt h a es ep t ∧ h.get? s.heap.objs.size = some (placesT ps))
        (fun b o e => Heap.get?_push_of_some _ (Heap.get?_push_of_some _ e)) (by rw [sz]; omega) (push_lt _ _) (fun b hb => ?_)
        (strs_elems (hel.perm pp)) ((pp.map _).trans hpm) (fun A' hA' => by rw [hl]; exact walks_drawn hps hf hA' neI neT) ⟨⟨_, Heap.get?_push_size _ rfl, rfl, rfl⟩, hS.at fun o e => Heap.get?_push_of_some _ (Heap.get?_push_of_some _ e), Heap.get?_push_of_some _ (Heap.get?_push_size _ rfl)⟩
      rcases List.mem_cons.mp hb with e | hb
      · exact .inr (by rw [e, sz]; omega)
      · rcases List.mem_cons.mp hb with e | hb
        · exact .inl e
        · exact .inr (by rw [List.mem_singleton.mp hb]; exact Nat.le_refl _)
end
end L2
set_option Elab.async false
set_option linter.all false
set_option maxRecDepth 100000
set_option maxHeartbeats 4000000
namespace L2
open PySem PySem.Spec PyProof.Rows
section
variable {prog : Program} {w : World} {A : Around} {E : Value → Shared → Prop} {s : Shared}
theorem hint_set {r : Addr} {Q : Bool → Shared → Prop} (hT : s.TypeIs (.ref r) "set") (h : Q false s) : wpAny (model prog w) A (Builtin.List.listLengthHint (.ref r)) Q E s := by
  unfold Builtin.List.listLengthHint
  refine wpAny_bind (wpAny_specialOf hT PySem.F.slot_set_len.lookup ?_)
  generalize hid : ("set.__len__" : String) = id0
  wp_delta
  rw [show splitId id0 = some ("set", "__len__") from by subst hid; decide +kernel]
  subst hid
  refine wpAny_bind (wpAny_isInstance (T := "set") (b := true) hT (by rw [isSubtype_type]; kernel_rfl) ?_)
  refine wpAny_ite_split (fun hab => absurd hab (by decide)) (fun _ => ?_)
  refine wpAny_ite_split (fun _ => ?_) (fun hab => absurd (by decide +kernel) hab)
  refine wpAny_bind (wpAny_typeOf hT ?_)
  exact wpAny_pure h
theorem SetT.typeIs {led : Bool} {a : Addr} {ks : List Str} (x : SetT prog w led a ks s.heap) : s.TypeIs (.ref a) "set" := let ⟨o, _, _, _, e, hex, _⟩ := x; ⟨o, e, hex.1⟩
theorem SetT.lt {led : Bool} {a : Addr} {ks : List Str} {h : Heap} (x : SetT prog w led a ks h) : a < h.objs.size := let ⟨o, _, _, _, e, _⟩ := x; Heap.lt_size e
theorem items_eq {acc : Array Value} {vs : List Value} (h : ItemsOf (fun i v => vs[i]? = some v) acc vs.length) : acc.toList = vs := by
  have hl : acc.size = vs.length := h.1
  apply List.ext_getElem?
  intro i
  by_cases hi : i < acc.size
  · rw [Array.getElem?_toList, Array.getElem?_eq_getElem hi]
    exact (h.2 i _ (Array.getElem?_eq_getElem hi)).symm
  · rw [List.getElem?_eq_none (by rw [Array.length_toList]; omega), List.getElem?_eq_none (by omega)]
theorem extend_set {R : Result → Shared → Prop} {r : Addr} {ks : List Str} (hh : A.handled = none) (hok : SetT prog w (!w.params.followText "set-order") r ks s.heap) (S : Addr) (hSr : S ≠ r) (res : Value) (c₀ : Nat) (hS : s.heap.get? S = some { cls := .type "list", data := .seq #[] c₀ }) (few : ks.length ≤ sizeLine)
    (hR : ∀ h' tk d' acc' c' ss, (∀ b o, b ≠ S → s.heap.get? b = some o → h'.get? b = some o) → h'.get? S = some { cls := .type "list", dict := none, data := .seq acc' c', slots := #[] } → StrsAre acc'.toList ss → ss.Perm ks → R (.ok (.ret res)) { s with heap := h', toks := tk, drawn := d' }) :
    wpAny (model prog w) A.in1 (Builtin.List.listExtendWith (.ref S) (.ref r) res)
      (fun fin s' => match fin with | .done f => R (.ok f) s' | .again c' => c'.quiet = true ∧ codeAny (model prog w) A c' R s') (fun e s' => R (.error e) s') s := by
  have ltS := Heap.lt_size hS
  unfold Builtin.List.listExtendWith
  refine wpAny_bind (wpAny_typeOf (T := "set") hok.typeIs ?_)
  have h1 : Builtin.List.listSameRef (.ref S) (.ref r) = false := by simp [Builtin.List.listSameRef, hSr]
  simp only [h1, show (Value.type "set" == Value.type "list") = false by decide, show (Value.type "set" == Value.type "tuple") = false by decide, Bool.or_false, Bool.false_eq_true, if_false]
  refine wpAny_bind (iter_setT hok fun I h1 d' fp vs ss St keep geI ltI hfp hst hpm W st => ?_)
  have hSf : S ∉ fp := fun z => by
    rcases hfp S z with e | e
    · exact hSr e
    · exact Nat.lt_irrefl _ (Nat.lt_of_lt_of_le ltS e)
  have hlen : vs.length ≤ sizeLine := by rw [strs_len hst, hpm.length_eq]; exact few
  have key : ∀ (h : Heap) (c₁ tk : Nat), St 0 h → (∀ b o, b ≠ S → s.heap.get? b = some o → h.get? b = some o) → h.get? S = some { cls := .type "list", data := .seq #[] c₁ } →
      codeAny (model prog w) A (.builtin "list.extend.loop" ⟨[.ref S, .ref I, res], []⟩) R { s with heap := h, toks := tk, drawn := d' } := by
    intro h c₁ tk hst0 hk hS₁
    refine codeAny_extend_loopS (W A.in1 hh).toS hlen S hSf res vs.length 0 _ #[] c₁ rfl (Nat.zero_le _) hst0 hS₁ (ItemsOf.nil _) fun s' acc' c' hm hS' hacc => ?_
    rw [Moved.eq_with hm]
    refine hR s'.heap s'.toks d' acc' c' ss (fun b o hb e => hm.heap b o (fun hmem => ?_) (hk b o hb e)) hS' (by rw [items_eq hacc]; exact hst) hpm
    rcases List.mem_cons.mp hmem with e' | hmem
    · exact hb e'
    · exact absurd (Heap.lt_size e) (by rw [List.mem_singleton.mp hmem]; exact Nat.not_lt.mpr geI)
  have hS₁ := keep _ _ hS
  have hok1 := hok.at (h' := h1) fun o e => keep _ _ e
  refine wpAny_bind (wpAny_holding (hint_set (s := { s with heap := h1, drawn := d' }) hok1.typeIs ?_))
  refine wpAny_ite_split (fun _ => ?_) (fun _ => wpAny_pure ⟨plainId_quiet PySem.F.plain_extend_loop _, key _ c₀ _ st (fun b o _ e => keep _ _ e) hS₁⟩)
  refine wpAny_bind (wpAny_rule ?_)
  refine wpAny_bind ?_
  show wpAny _ _ (updateSeq S (·.push .none) >>= fun _ => updateSeq S (·.pop)) _ _ _
  refine wpAny_bind (wpAny_updateSeq hS₁ rfl ?_)
  have hS₂ := Heap.get?_update_self (Obj.mapSeq (·.push Value.none)) hS₁ rfl
  refine wpAny_updateSeq (hz := by seq_fits) hS₂ rfl ?_
  have hS₃ := Heap.get?_update_self (Obj.mapSeq (·.pop)) hS₂ rfl
  refine wpAny_pure ⟨plainId_quiet PySem.F.plain_extend_loop _, key _ _ _ ?_ (fun b o hb e => ?_) hS₃⟩
  · refine (W A.in1 hh).frame 0 _ _ st fun b hb o e => ?_
    have hbS : b ≠ S := fun h => hSf (h ▸ hb)
    exact (Heap.get?_update_other _ _ (Ne.symm hbS)).trans ((Heap.get?_update_other _ _ (Ne.symm hbS)).trans e)
  · exact (Heap.get?_update_other _ _ (Ne.symm hb)).trans ((Heap.get?_update_other _ _ (Ne.symm hb)).trans (keep _ _ e))
theorem collect_set {r : Addr} {ks : List Str} {R : List Value → Shared → Prop} (calm : A.handled = none) (ok : SetT prog w (!w.params.followText "set-order") r ks s.heap) (few : ks.length ≤ sizeLine)
    (fin : ∀ (g : Heap) (k : Nat) (d' : Drawn) (got : List Value) (ss : List Str), (∀ b o, s.heap.get? b = some o → g.get? b = some o) → s.heap.objs.size < g.objs.size → StrsAre got ss → ss.Perm ks → R got { s with heap := g, toks := k, drawn := d' }) :
    wpAny (model prog w) A (collect (.ref r)) R E s := by
  have lr := ok.lt
  let new : Obj := { cls := .type "list", data := .seq ([] : List Value).toArray }
  have there : (s.heap.push new).get? s.heap.objs.size = some new := Heap.get?_push_size _ rfl
  have still := ok.at (h' := s.heap.push new) fun o e => Heap.get?_push_of_some (h := s.heap) new e
  have walked := extend_set (A := A) (s := { s with heap := s.heap.push new })
    (R := fun q t => ∃ (g : Heap) (k : Nat) (d' : Drawn) (got : Array Value) (c : Nat) (ss : List Str), q = Except.ok (Flow.ret (.ref s.heap.objs.size)) ∧ t = { s with heap := g, toks := k, drawn := d' } ∧ (∀ b o, s.heap.get? b = some o → g.get? b = some o) ∧
      g.get? s.heap.objs.size = some { cls := .type "list", dict := none, data := .seq got c, slots := #[] } ∧ StrsAre got.toList ss ∧ ss.Perm ks)
    calm still s.heap.objs.size (Nat.ne_of_gt lr) (.ref s.heap.objs.size) 0 there few
    (fun g k d' got c ss keep at' all pm => ⟨g, k, d', got, c, ss, rfl, rfl, fun b o e => keep b o (Nat.ne_of_lt (Heap.lt_size e)) (Heap.get?_push_of_some _ e), at', all, pm⟩)
  have done : ∀ (g : Heap) (k : Nat) (d' : Drawn) (got : Array Value) (c : Nat) (ss : List Str), (∀ b o, s.heap.get? b = some o → g.get? b = some o) → g.get? s.heap.objs.size = some { cls := .type "list", dict := none, data := .seq got c, slots := #[] } → StrsAre got.toList ss → ss.Perm ks →
      wpAny (model prog w) A (do match (← load s.heap.objs.size).data with
        | .seq xs _ => pure xs.toList
        | _ => unsupported "internal:collect") R E { s with heap := g, toks := k, drawn := d' } := fun g k d' got c ss keep at' all pm =>
    wpAny_bind (wpAny_load at' (wpAny_pure (fin g k d' got.toList ss keep (Heap.lt_size at') all pm)))
  unfold collect
  apply wpAny_bind
  apply wpAny_runValue
  apply codeAny_builtin entry_proto_collect'
  rw [Around.under_plainId F.plain_proto_collect _]
  show wpAny _ A.in1 (newList [] >>= fun z => again (.builtin "list.__iadd__" ⟨[z, .ref r], []⟩)) _ _ s
  apply wpAny_bind
  refine wpAny_newObj_type ?_
  apply wpAny_pure
  refine ⟨plainId_quiet F.plain_list_iadd _, ?_⟩
  apply codeAny_builtin entry_list_iadd'
  rw [Around.under_plainId F.plain_list_iadd _]
  refine wpAny_mono walked (fun f t q => ?_) (fun e t q => ?_)
  · cases f with
    | done f =>
      obtain ⟨g, k, d', got, c, ss, e, rfl, keep, at', all, pm⟩ := q
      cases e
      exact done g k d' got c ss keep at' all pm
    | again c1 =>
      refine ⟨q.1, codeAny_mono q.2 fun z t2 y => ?_⟩
      obtain ⟨g, k, d', got, c, ss, rfl, rfl, keep, at', all, pm⟩ := y
      exact done g k d' got c ss keep at' all pm
  · obtain ⟨_, _, _, _, _, _, e', _⟩ := q
    cases e'
end
end L2
set_option Elab.async false
set_option linter.all false
set_option maxRecDepth 100000
set_option maxHeartbeats 4000000
namespace L2
open PySem PySem.Spec PyProof.Rows
theorem Inv.drew {X : Cx} {pins : List (Addr × Obj)} {σ : St} {H : Hp} {s : Shared} (I : Inv X pins σ H s) (d : Drawn) : Inv X pins σ H { s with drawn := d } :=
  ⟨I.ok, I.os, I.bare, I.base, I.loc, I.cell, I.free, I.freeC, I.pin, I.hok, I.len⟩
/-- a set of texts -/
def SetO (P : Program) (w : World) (a : Addr) (ks : List Str) : HO := .ext fun h => SetT P w (!w.params.followText "set-order") a ks h
theorem setO_ok {P : Program} {w : World} {a : Addr} {ks : List Str} {H : Hp} {h : Heap} (x : SetT P w (!w.params.followText "set-order") a ks h) : ObjOk P w H h a (SetO P w a ks) :=
  ⟨x, let ⟨o, _, _, _, e, _⟩ := x; ⟨o, e⟩, fun _ _ y k => y.at k⟩
theorem call_set {X : Cx} (hc : X.calm = true) : CallR X (.type "set") (fun xs H Q => ∃ (p : Addr) (ss : List Str), xs = [.ref p] ∧ SqL X.K H p (ss.map V.str) ∧ ss.length ≤ 1000 ∧ ∀ l, H l = none → Q (.ref l) (upd H l (SetO X.prog X.w l (ss.foldl addN [])))) := by
  intro pins s σ H xs us Q I r h
  obtain ⟨p, ss, rfl, hS, hl, q⟩ := h
  obtain ⟨u, rfl, rx⟩ := vals1 r
  cases rx
  obtain ⟨its, rv, pl, _⟩ := I.list hS
  have hst := strsAre_of rv
  have hlen : its.length = ss.length := by have := rv.length; rw [List.length_map] at this; exact this.symm
  refine call_set_T (ss := ss) (I.ok.hd hc) pl.isList (by simpa using hst) (by rw [List.size_toArray]; show _ < 4096; omega) fun h' tk a1 a2 => ?_
  exact ⟨.ref s.heap.objs.size, _, I.laid (t' := tk) (fun b u hb => a2 b u (Heap.lt_size hb) hb) (Nat.le_refl _) (setO_ok a1), rfl, q _ (I.hok.fresh (Nat.le_refl _))⟩
theorem call_sorted_set {X : Cx} (hc : X.calm = true) : CallR X (.builtin "sorted") (fun xs H Q => ∃ p ks, xs = [.ref p] ∧ H p = some (SetO X.prog X.w p ks) ∧ ks.length < 64 ∧ ∀ l, H l = none → Q (.ref l) (upd H l (.lst ((sortS ks).map V.str)))) := by
  intro pins s σ H xs us Q I r h
  obtain ⟨p, ks, rfl, hp, hl, q⟩ := h
  obtain ⟨u, rfl, rx⟩ := vals1 r
  cases rx
  obtain ⟨hS, _, _⟩ := (show ObjOk X.prog X.w H s.heap p (SetO X.prog X.w p ks) from I.hok p _ hp)
  have hh : X.A.in1.handled = none := I.ok.hd hc
  refine Calls.call_function_entry kind_sorted plain_sorted entry_sorted (args_sorted1 _) ?_
  unfold Builtin.«sorted»
  refine wpAny_bind (m := checkCount "sorted" 1 1 _) (wpAny_pure ?_)
  refine wpAny_bind (collect_set (A := X.A.in1) hh hS (Nat.le_of_lt (small1000 (by omega))) fun h' tk d' acc ss hk hgr hst hpm => ?_)
  have hal : acc.length = ss.length := strs_len hst
  have hsl : ss.length = ks.length := hpm.length_eq
  refine wpAny_bind (wpAny_newList ?_ (by rw [hal]; exact Nat.le_of_lt (small1000 (by omega))))
  have hoL : (h'.push (seqObj "list" acc.toArray 0)).get? h'.objs.size = some (seqObj "list" acc.toArray 0) := Heap.get?_push_size _ rfl
  refine wpAny_bind (wpAny_holding (wpAny_call_entry slot_list_sort ⟨_, hoL, rfl⟩ entry_list_sort (list_sort_treeK strKind_oneLt hoL hst.keysOf (fun v₁ v₂ rest e => keyKind_strs (by rw [← e]; exact hst)) (by omega) fun st' a1 a2 => ⟨_, rfl, ?_⟩) (args_list_sort _)))
  refine wpAny_pure ⟨_, rfl, ?_⟩
  obtain ⟨ss', b1, b2, b3⟩ := sorted_out_str hst a1 a2
  obtain ⟨e, he⟩ := sortedHeap_at (out := (arrOf st').map (·.2)) hoL
  have es' : ss' = sortS ks := (sortS_eq b2 (sor_of b3)).trans (sortS_congr hpm)
  subst es'
  have hsz : s.heap.objs.size ≤ h'.objs.size := Nat.le_of_lt hgr
  have old : ∀ b u, s.heap.get? b = some u → (sortedHeap (h'.push (seqObj "list" acc.toArray 0)) h'.objs.size acc ((arrOf st').map (·.2))).get? b = some u := fun b u hb => by
    have hb' := hk b u hb
    have hlt := Heap.lt_size hb'
    rw [sortedHeap_old (Nat.ne_of_lt hlt) (by rw [size_push']; exact Nat.lt_succ_of_lt hlt)]
    exact Heap.get?_push_of_some _ hb'
  have J := I.laid (t' := tk) old hsz (show ObjOk X.prog X.w (upd H h'.objs.size (.lst ((sortS ks).map V.str))) _ _ (.lst ((sortS ks).map V.str)) from ⟨by rw [List.length_map, sortS_len]; exact Nat.le_of_lt (small1000 (by omega)), ((arrOf st').map (·.2)).toList, e, vals_strsAre b1, by rw [Array.toArray_toList]; exact he⟩)
  exact ⟨.ref h'.objs.size, _, J.drew d', rfl, q _ (I.hok.fresh hsz)⟩
end L2
set_option Elab.async false
set_option linter.all false
set_option maxRecDepth 100000
set_option maxHeartbeats 4000000
namespace L2
open PySem PySem.Spec PyProof.Rows
end L2
set_option Elab.async false
set_option linter.all false
set_option maxRecDepth 100000
set_option maxHeartbeats 4000000
namespace L2
open PySem PySem.Spec PyProof.Rows
theorem sub_tuple_set : isSubtype (.type "tuple") (.type "set") = pure false := by rw [isSubtype_type]; kernel_rfl
theorem sub_tuple_frozenset : isSubtype (.type "tuple") (.type "frozenset") = pure false := by rw [isSubtype_type]; kernel_rfl
section
variable {prog : Program} {w : World} {A : Around} {E : Value → Shared → Prop} {s : Shared}
set_option maxHeartbeats 3200000 in
theorem call_set_TT {l : Addr} {items : Array Value} {ss : List Str} {Q : Value → Shared → Prop} (hh : A.handled = none) (hl : s.heap.IsTuple l items) (hi : StrsAre items.toList ss) (hb : items.size + 1 < scanBound)
    (h : ∀ (h' : Heap) (tk : Nat), SetT prog w (!w.params.followText "set-order") s.heap.objs.size (ss.foldl addN []) h' → (∀ b o, b < s.heap.objs.size → s.heap.get? b = some o → h'.get? b = some o) → Q (.ref s.heap.objs.size) { s with heap := h', toks := tk }) :
    wpAny (model prog w) A (call (.type "set") [.ref l]) Q E s := by
  obtain ⟨c, tl, m1⟩ := F.called_set.mro
  have m2 := F.called_set.made
  have m3 := F.called_set.sub
  have m4 := F.called_set.notType
  have m5 := F.called_set.canCreate
  have m6 := F.typeCall_set_1 (.ref l)
  refine wpAny_call (codeAny_of_tree ?_)
  show wpAny _ _ (callAny (.type "set") _) _ _ _
  refine wpAny_pure ⟨Code.quiet_builtin _ (by decide +kernel), codeAny_builtin F.entry_type_call ?_⟩
  rw [Around.under_plain (weight_type_call_type "set" [.ref l] []) rfl]
  repeat (any_goals (first | assumption | wp_step))
  refine codeAny_mono (new_set_T (.ref l) (E := E) (R := fun z z1 => z = .ref s.heap.objs.size ∧ z1 = { s with heap := s.heap.push (setNew w) }) ⟨rfl, rfl⟩) fun r s₁ hr => ?_
  cases r with
  | error e => exact hr
  | ok fl =>
    cases fl with
    | ret z =>
      obtain ⟨rfl, rfl⟩ := hr
      have z1 : (s.heap.push (setNew w)).get? s.heap.objs.size = some (setNew w) := Heap.get?_push_size _ rfl
      have z2 : Shared.TypeIs { s with heap := s.heap.push (setNew w) } (.ref s.heap.objs.size) "set" := ⟨_, z1, rfl⟩
      have z3 := F.called_set.init.lookup
      have z4 := F.called_set.init.bind (.ref s.heap.objs.size)
      repeat (any_goals (first | assumption | wp_step))
      refine codeAny_mono (codeAny_call_builtin (R := wants (fun r s₂ => r = .none ∧ ∃ h' tk, s₂ = { s with heap := h', toks := tk } ∧ SetT prog w (!w.params.followText "set-order") s.heap.objs.size (ss.foldl addN []) h' ∧
          (∀ b o, b < s.heap.objs.size → s.heap.get? b = some o → h'.get? b = some o)) E) F.called_set.init.plain F.entry_set_init (check_set_init_1 z2 ?_)) fun r₂ s₂ hr₂ => ?_
      · obtain ⟨ol, e1, e2, nl, e3⟩ := hl
        obtain ⟨ocls, odict, odata, oslots⟩ := ol
        simp only at e2 e3
        subst e2; subst e3
        have y1 : (s.heap.push (setNew w)).get? l = some { cls := .type "tuple", dict := odict, data := .seq items nl, slots := oslots } := Heap.get?_push_of_some _ e1
        have y2 := sub_tuple_set
        have y3 := sub_tuple_frozenset
        have y4 : (Value.type "tuple" == Value.type "dict") = false := by decide
        have y5 : (s.heap.push (setNew w)).IsTuple l items := ⟨_, y1, rfl, nl, rfl⟩
        unfold Builtin.«set.__init__» noKeywords Builtin.Frozenset.updateFrom
        generalize hPI : pyIter = PI
        unfold setNew at z1 z2 y1 y5 ⊢
        wp_walk
        subst hPI
        refine wpAny_pyIter_tuple y5 ?_
        refine wpAny_bind (wpAny_runValue ?_)
        have lt : l < s.heap.objs.size := Heap.lt_size e1
        have q3 : A.in1.in1.in1.handled = none := by simp [hh]
        have ne : l ≠ (s.heap.push { cls := .type "set", dict := none, data := .set #[] 0 (.fresh 0 0 (!w.params.followText "set-order")) }).objs.size := by
          rw [Heap.size_push]; exact Nat.ne_of_lt (Nat.lt_succ_of_lt lt)
        have nf : s.heap.objs.size ∉ [(s.heap.push { cls := .type "set", dict := none, data := .set #[] 0 (.fresh 0 0 (!w.params.followText "set-order")) }).objs.size, l] := by
          rw [Heap.size_push]
          intro z
          rcases List.mem_cons.mp z with z | z
          · omega
          · rw [List.mem_singleton.mp z] at lt
            exact Nat.lt_irrefl _ lt
        have vl : ∀ (i : Nat) (v : Value), items[i]? = some v → ∃ t, v = .str ((fun i => ss.getD i "") i) t := fun i v e => strs_at hi i v (by rw [Array.getElem?_toList]; exact e)
        have es : metT (fun i => ss.getD i "") items.size = ss.foldl addN [] := by
          unfold metT
          rw [← Array.length_toList, strs_len hi, range_getD]
        refine set_loop_T (led := !w.params.followText "set-order") ((Walks.tuple q3 _ l ne items).toS) s.heap.objs.size nf (fun i => ss.getD i "") vl hb (items.size - 0) 0 _ (by omega) (Nat.zero_le _) ⟨⟨_, Heap.get?_push_size _ rfl, rfl, rfl⟩, y5.push _⟩ ?S0 ?R0
        case S0 => exact (new_T (prog := prog) (w := w) (s := s)).at fun o e => Heap.get?_push_of_some _ e
        case R0 =>
          intro s' hm hS'
          obtain ⟨h', g', d', tk', os'⟩ := s'
          have eg : g' = s.gens := hm.gens
          have ed : d' = s.drawn := hm.drawn
          have eo : os' = s.os := hm.os
          subst eg; subst ed; subst eo
          rw [es] at hS'
          refine wpAny_pure (wpAny_pure ⟨rfl, h', tk', rfl, hS', fun b o hb e => ?_⟩)
          refine hm.heap b o (fun z => ?_) (Heap.get?_push_of_some _ (Heap.get?_push_of_some _ e))
          rcases List.mem_cons.mp z with z | z
          · exact absurd z (Nat.ne_of_lt hb)
          · have z := List.mem_singleton.mp z
            rw [Heap.size_push] at z
            exact absurd z (Nat.ne_of_lt (Nat.lt_succ_of_lt hb))
      · cases r₂ with
        | error e => exact hr₂
        | ok fl₂ =>
          cases fl₂ with
          | ret r =>
            obtain ⟨rfl, h', tk, rfl, a1, a2⟩ := hr₂
            repeat (any_goals (first | assumption | wp_step))
            exact h _ _ a1 a2
          | _ => exact hr₂.elim
    | _ => exact hr.elim
end
theorem call_setTup {X : Cx} (hc : X.calm = true) : CallR X (.type "set") (fun xs H Q => ∃ (p : Addr) (ss : List Str), xs = [.ref p] ∧ SqT X.K H p (ss.map V.str) ∧ ss.length ≤ 1000 ∧ ∀ l, H l = none → Q (.ref l) (upd H l (SetO X.prog X.w l (ss.foldl addN [])))) := by
  intro pins s σ H xs us Q I r h
  obtain ⟨p, ss, rfl, hS, hl, q⟩ := h
  obtain ⟨u, rfl, rx⟩ := vals1 r
  cases rx
  obtain ⟨its, rv, pl, _⟩ := I.tuple hS
  have hst := strsAre_of rv
  have hlen : its.length = ss.length := by have := rv.length; rw [List.length_map] at this; exact this.symm
  refine call_set_TT (ss := ss) (I.ok.hd hc) pl (by simpa using hst) (by rw [List.size_toArray]; show _ < 4096; omega) fun h' tk a1 a2 => ?_
  exact ⟨.ref s.heap.objs.size, _, I.laid (t' := tk) (fun b u hb => a2 b u (Heap.lt_size hb) hb) (Nat.le_refl _) (setO_ok a1), rfl, q _ (I.hok.fresh (Nat.le_refl _))⟩
end L2
set_option Elab.async false
set_option linter.all false
set_option maxRecDepth 100000
set_option maxHeartbeats 4000000
namespace L2
open PySem PySem.Spec PyProof.Rows
def dd (ss : List Str) : List Str := ss.foldl addN []
theorem ddf_len : ∀ (ss acc : List Str), (ss.foldl addN acc).length ≤ acc.length + ss.length
  | [], acc => by simp
  | y :: ss, acc => by
    have ih := ddf_len ss (addN acc y)
    have : (addN acc y).length ≤ acc.length + 1 := by unfold addN; split <;> simp
    rw [List.foldl_cons, List.length_cons]
    omega
theorem dd_len (ss : List Str) : (dd ss).length ≤ ss.length := by have := ddf_len ss []; simpa [dd] using this
def SS (ss : List Str) : List Str := sortS (dd ss)
theorem call_setAny {X : Cx} (hc : X.calm = true) : CallR X (.type "set") (fun xs H Q => ∃ (p : Addr) (ss : List Str), xs = [.ref p] ∧ (SqL X.K H p (ss.map V.str) ∨ SqT X.K H p (ss.map V.str)) ∧ ss.length ≤ 1000 ∧ ∀ l, H l = none → Q (.ref l) (upd H l (SetO X.prog X.w l (dd ss)))) := by
  intro pins s σ H xs us Q I r h
  obtain ⟨p, ss, e, hS | hS, hl, q⟩ := h
  · exact call_set hc pins s σ H xs us Q I r ⟨p, ss, e, hS, hl, q⟩
  · exact call_setTup hc pins s σ H xs us Q I r ⟨p, ss, e, hS, hl, q⟩
end L2
set_option Elab.async false
set_option linter.all false
set_option maxRecDepth 100000
set_option maxHeartbeats 4000000
namespace L2
open PySem PySem.Spec PyProof.Rows
inductive iDictZ_I (R : (It → Hp → Prop)) (x : V) (H1 : Hp) : Prop
  | mk : ∀ a kvs, x = .ref a → ((∃ oa, H1 a = some (.frz oa (.dK kvs)) ∧ R (Itd a oa kvs) H1) ∨ (H1 a = some (.dK kvs) ∧ ∀ oa, R (Itd a oa kvs) (upd H1 a (.frz oa (.dK kvs))))) → iDictZ_I R x H1
def iDictZ (tl : TE) : TI := fun σ H R => tl σ H fun x H1 => iDictZ_I R x H1
theorem pi_dictZ {X : Cx} {tg l : Expr} {tl : TE} (hl : PE X l tl) : PI X tg l (iDictZ tl) := by
  intro pins s σ H R I h
  refine thn (hl pins s σ H _ I h) fun v s1 ⟨x, H1, I1, r1, q1⟩ => ?_
  obtain ⟨a, kvs, e, q⟩ := q1
  subst e
  cases r1
  obtain ⟨oa, H2, I2, hH, q2⟩ : ∃ (oa : Obj) (H2 : Hp), Inv X pins σ H2 s1 ∧ H2 a = some (.frz oa (.dK kvs)) ∧ R (Itd a oa kvs) H2 := by
    rcases q with ⟨oa, hH, q⟩ | ⟨hH, q⟩
    · exact ⟨oa, H1, I1, hH, q⟩
    · obtain ⟨oa, J⟩ := I1.freeze hH
      exact ⟨oa, _, J, upd_same, q oa⟩
  obtain ⟨hlo, vs, es, ep, rv, hd, hm⟩ := fast_of I2.hok hH
  have hn := KV.length rv
  refine wpAny_pyIter_dict hlo hm ⟨s1.heap.objs.size, [s1.heap.objs.size], _, _, H2, rfl, I2.kept (t' := s1.toks) fun b o e => Heap.get?_push_of_some _ e, turn_dict a _ oa kvs es ep hd, ⟨_, Heap.get?_push_size _ rfl, rfl, by rw [hn]; rfl⟩, fun b hb => ?_, q2⟩
  obtain rfl : b = s1.heap.objs.size := by simpa using hb
  exact I2.fpOk (Nat.le_refl _) (I2.hok.fresh (Nat.le_refl _))
end L2
set_option Elab.async false
set_option linter.all false
set_option maxRecDepth 100000
set_option maxHeartbeats 4000000
namespace L2
open PySem PySem.Spec PyProof.Rows
theorem comp_listFG {K : PySem.W.Frag} {a : Addr} {α : Type} {xs : List α} {fr : List (Nat × Str)} {tt : TT} {te : TE} {σ : St} {H1 : Hp} {Q : VK} (g : α → V) (pr : α → Bool) (f : α → V) (hz : xs.length ≤ sizeLine) (hS : SqL K H1 a (xs.map g))
    (htt : ∀ (x : α) (H3 : Hp) (Q' : Bool → Hp → Prop), x ∈ xs → Same H1 H3 → (∀ H4, Same H3 H4 → Q' (pr x) H4) → tt (some (g x) :: frV σ fr) H3 Q')
    (hte : ∀ (x : α) (H3 : Hp) (Q' : VK), x ∈ xs → Same H1 H3 → pr x = true → (∀ H4, Same H3 H4 → Q' (f x) H4) → te (some (g x) :: frV σ fr) H3 Q')
    (hQ : ∀ D H2, H1 D = none → Same H1 H2 → H2 D = some (.lst ((xs.filter pr).map f)) → Q (.ref D) H2) :
    compGoal (Itl K a) fr tt te σ H1 Q := by
  intro D hD
  refine ⟨fun i m ys H2 => m = xs.length - i ∧ i ≤ xs.length ∧ ys = ((xs.take i).filter pr).map f ∧ Same H1 H2 ∧ H2 D = some (.lst ys), ⟨xs.length, by simp, Nat.zero_le _, by simp, Same.upd_new hD, upd_same⟩, ?_⟩
  rintro i m ys H2 ⟨rfl, hi, rfl, s2, d2⟩
  refine ⟨d2, ?_⟩
  have hS2 := s2.seq hS
  by_cases hlt : i < xs.length
  · have hx0 : (xs.map g)[i]? = some (g xs[i]) := by rw [List.getElem?_map, List.getElem?_eq_getElem hlt]; rfl
    refine .inr ⟨⟨xs.map g, g xs[i], hS2, hx0⟩, ?_⟩
    rintro v H3 ⟨rfl, hv⟩
    have hx : (xs.map g)[i]? = some v := hv _ hS2
    rw [hx0] at hx
    cases hx
    have hm : xs[i] ∈ xs := List.getElem_mem hlt
    have et : xs.take (i + 1) = xs.take i ++ [xs[i]] := by rw [List.take_add_one, List.getElem?_eq_getElem hlt]; rfl
    refine htt xs[i] _ _ hm s2 fun H4 s4 => ?_
    cases hp : pr xs[i] with
    | false =>
      refine iteF ⟨xs.length - (i + 1), by omega, rfl, hlt, ?_, s2.trans s4, s4 _ _ d2⟩
      rw [et, List.filter_append, List.filter_cons, hp]
      simp
    | true =>
      refine iteT (hte xs[i] _ _ hm (s2.trans s4) hp fun H5 s5 => ⟨s5 _ _ (s4 _ _ d2), ?_, xs.length - (i + 1), by omega, rfl, hlt, ?_, ((s2.trans s4).trans s5).upd_of hD, upd_same⟩)
      · have := List.length_filter_le pr (xs.take i)
        rw [List.length_take] at this
        rw [List.length_map]
        omega
      · rw [et, List.filter_append, List.filter_cons, hp]
        simp
  · have e : i = xs.length := by omega
    subst e
    have e2 : xs.take xs.length = xs := List.take_of_length_le (Nat.le_refl _)
    rw [e2] at d2
    exact .inl ⟨⟨xs.map g, hS2, by rw [List.length_map]; exact Nat.le_refl _⟩, hQ D H2 hD s2 d2⟩
end L2
set_option Elab.async false
set_option linter.all false
set_option maxRecDepth 100000
set_option maxHeartbeats 4000000
namespace L2
open PySem PySem.Spec PyProof.Rows
theorem ObjOk.there {P : Program} {w : World} {H : Hp} {h : Heap} {a : Addr} {o : HO} (x : ObjOk P w H h a o) : ∃ ob, h.get? a = some ob := by
  cases o with
  | lst xs => obtain ⟨_, _, _, _, e⟩ := x; exact ⟨_, e⟩
  | tup xs => obtain ⟨_, _, _, ob, e, _⟩ := x; exact ⟨_, e⟩
  | dK kvs => obtain ⟨_, _, _, _, o, _, _, e, _⟩ := x; exact ⟨_, e⟩
  | dT kvs => obtain ⟨_, _, _, _, o, _, _, e, _⟩ := x; exact ⟨_, e⟩
  | set S n => obtain ⟨o, _, _, _, e, _⟩ := x; exact ⟨_, e⟩
  | ins C dx fs => obtain ⟨_, _, _, e, _⟩ := x; exact ⟨_, e⟩
  | own y => exact x
  | xd fs => obtain ⟨_, ⟨_, _, _, e, _⟩, _⟩ := x; exact ⟨_, e⟩
  | rng lo hi => obtain ⟨_, _, _, e⟩ := x; exact ⟨_, e⟩
  | frz ob u => obtain ⟨e, _⟩ := x; exact ⟨_, e⟩
  | tbl ps => exact ⟨_, (show h.get? a = some _ from x)⟩
  | met f y => exact ⟨_, (show h.get? a = some _ from x)⟩
  | ext φ => obtain ⟨_, e, _⟩ := x; exact e
/-- what stood in h is in B, but the frames; what is untracked is the same -/
def Cov (fs : List Addr) (H : Hp) (h B : Heap) : Prop := ∀ b o, h.get? b = some o → b ∉ fs → ∃ o', B.get? b = some o' ∧ (H b = none → o' = o)
/-- what is tracked stands in B -/
def Trk (H : Hp) (h B : Heap) : Prop := ∀ b o, H b ≠ none → h.get? b = some o → B.get? b = some o
theorem Un.flown {fs : List Addr} {H H' : Hp} {h h1 h2 B : Heap} (u : Un fs [] H H' h h1) (cv : Cov fs H h B) (st : B.StaysIn h2) (sl : h1.UpToSlots h2) (fr : ∀ b ∈ fs, ∀ o, h1.get? b = some o → ∀ vs, o.data ≠ .fields vs) : Un fs [] H H' h h2 where
  keep := fun b o q n hb _ => by
    obtain ⟨o', e, z⟩ := cv b o q hb
    rw [z n] at e
    exact st _ _ e
  slot := fun b o q n hb hx => by
    obtain ⟨s0, e⟩ := u.slot b o q n hb hx
    obtain ⟨s1, e1⟩ := sl b _ e (fr b hb _ e)
    exact ⟨s1, e1⟩
  free := u.free
  there := fun b o q hx => by
    by_cases hb : b ∈ fs
    · obtain ⟨o1, e1⟩ := u.there b o q hx
      obtain ⟨_, e2⟩ := sl b o1 e1 (fr b hb o1 e1)
      exact ⟨_, e2⟩
    · obtain ⟨o', e, _⟩ := cv b o q hb
      exact ⟨o', st _ _ e⟩
  tups := u.tups
  frzs := u.frzs
  tbls := u.tbls
theorem HOk.flown {P : Program} {w : World} {H : Hp} {h1 h2 B : Heap} (x : HOk P w H h1) (ct : Trk H h1 B) (st : B.StaysIn h2) : HOk P w H h2 := fun a o e =>
  (x a o e).stay (fun b u hb q => st b u (ct b u (fun z => by
    rcases hb with rfl | hb
    · rw [z] at e; cases e
    · rw [z] at hb; cases hb) q)) (fun _ q => q) fun _ _ q => q
theorem Trk.flown {P : Program} {w : World} {H : Hp} {h1 h2 B : Heap} (x : HOk P w H h1) (ct : Trk H h1 B) (st : B.StaysIn h2) : Trk H h2 B := fun b o n q => by
  cases e : H b with
  | none => exact absurd e n
  | some u =>
    obtain ⟨ob, eb⟩ := (x b u e).there
    have e1 := ct b ob n eb
    have e2 := st _ _ e1
    rw [q] at e2
    cases e2
    exact e1
/-- an exception e of the own class at C is on its way through the frames l; H, s: as it was at the call that let it out -/
structure Fly (P : Program) (w : World) (l : List Env) (H : Hp) (s : Shared) (e C : Addr) (H' : Hp) (s' : Shared) : Prop where
  os : s'.os = s.os
  bare : AllBare s'.gens
  un : Un (frs l) [] H H' s.heap s'.heap
  hok : HOk P w H' s'.heap
  fr : H' e = none
  nw : s.heap.get? e = none
  fly : ∃ (B : Heap) (a0 : Value), Heap.FlyingW B l e (.ref C) a0 s'.heap ∧ Cov (frs l) H s.heap B ∧ Trk H' s'.heap B
def CXF (P : Program) (w : World) : CXT := fun l H s E ev s' => ∃ (e C : Addr) (H' : Hp), ev = .ref e ∧ Fly P w l H s e C H' s' ∧ E (.ref C) none H'
theorem FnOk.up {P : Program} {w : World} {K : PySem.W.Frag} {mg : Str → Option Value} {base : Heap} {CX : CXT} {k : Nat} {f : Addr} {fd : FuncData} {ps : List Str} {sp : Sp} (F : FnOk P w K mg base CX0 k f fd ps sp) : FnOk P w K mg base CX k f fd ps sp :=
  ⟨F.len, fun A outer s H args us vs Q E hr he hb hv hs => codeAny_mono (F.run A outer s H args us vs Q E hr he hb hv hs) fun r s' h => by
    cases r with
    | error e => exact False.elim h
    | ok f => cases f <;> exact h⟩
section
variable {X : Cx} {pins : List (Addr × Obj)} {σ : St} {Hc H' : Hp} {sc : Shared}
theorem Inv.nofr (I : Inv X pins σ Hc sc) : ∀ b ∈ frs X.stack, ∀ o, sc.heap.get? b = some o → ∀ vs, o.data ≠ .fields vs := fun b hb o e => by
  obtain ⟨_, o1, e1, d⟩ := I.stack.mem hb
  rw [e] at e1
  cases e1
  exact d
/-- it has left this frame -/
theorem fly_out {s1 : Shared} {h2 B : Heap} {e C : Addr} {a0 : Value} (I : Inv X pins σ Hc sc) (hex : X.ex = []) (un : Un (frs X.stack) [] Hc H' sc.heap s1.heap) (os : s1.os = sc.os) (bare : AllBare s1.gens) (hok : HOk X.prog X.w H' s1.heap)
    (he : H' e = none) (nw : sc.heap.get? e = none) (fl : Heap.FlyingW B X.outer e (.ref C) a0 h2) (cv : Cov (frs X.stack) Hc sc.heap B) (ct : Trk H' s1.heap B) (sl : s1.heap.UpToSlots h2) (nf : ∀ b ∈ frs X.stack, ∀ o, s1.heap.get? b = some o → ∀ vs, o.data ≠ .fields vs) :
    Fly X.prog X.w X.outer X.H₀ X.s₀ e C H' { s1 with heap := h2 } := by
  have un2 := un.flown cv fl.1 sl nf
  have hok2 := hok.flown ct fl.1
  have J : Inv X pins σ H' { s1 with heap := h2 } := I.call' (s' := { s1 with heap := h2 }) (ch := []) os un2 hok2 bare (fun b z => nomatch z)
  have base := J.base
  rw [hex] at base
  have base0 := I.base
  rw [hex] at base0
  refine ⟨J.os, J.bare, base, J.hok, he, ?_, B, a0, fl, fun b o e hb => ?_, ct.flown hok fl.1⟩
  · cases q : X.s₀.heap.get? e with
    | none => rfl
    | some o =>
      obtain ⟨o', e'⟩ := base0.there e o q (fun z => nomatch z)
      rw [nw] at e'
      cases e'
  · obtain ⟨o1, e1⟩ := base0.there b o e (fun z => nomatch z)
    have nb : b ∉ frs X.stack := fun z => (List.mem_cons.mp (I.stkSub b z)).elim (fun z => absurd (Nat.lt_of_lt_of_le (Heap.lt_size e) I.ok.above) (by rw [z]; exact Nat.lt_irrefl _)) hb
    obtain ⟨o', e2, z⟩ := cv b o1 e1 nb
    refine ⟨o', e2, fun n => ?_⟩
    have := base0.keep b o e n hb (fun z => nomatch z)
    rw [e1] at this
    cases this
    exact z (base0.free b o e n (fun z => nomatch z))
end
section
variable {P : Program} {w : World} {K : PySem.W.Frag} {mg : Str → Option Value} {base : Heap} {N : List Str} {qual : Str} {scope : Scope} {f : Addr} {cd : Value} {A : Around} {outer : List Env} {s : Shared} {H : Hp} {E : XK}
/-- a callee's exception goes on to the caller -/
theorem passF : Passes (CXF P w) (cxOf (CXF P w) P w K mg base N qual scope f cd A outer s H E) E := by
  intro pins σ Hc sc ev s1 I h
  obtain ⟨e, C, H', rfl, F, q⟩ := h
  obtain ⟨B, a0, fl, cv, ct⟩ := F.fly
  refine wpAny_leaves_onW (base := B) I.ok.frames rfl fl fun h2 fl2 sl => ?_
  have nf : ∀ b ∈ frs (cxOf (CXF P w) P w K mg base N qual scope f cd A outer s H E).stack, ∀ o, s1.heap.get? b = some o → ∀ vs, o.data ≠ .fields vs := fun b hb o e => by
    obtain ⟨_, o1, e1, d⟩ := fl.2.2.1.mem hb
    rw [e] at e1
    cases e1
    exact d
  exact ⟨e, C, H', rfl, fly_out I rfl F.un F.os F.bare F.hok F.fr F.nw fl2 cv ct sl nf, q⟩
theorem fly_made {pins : List (Addr × Obj)} {σ : St} {H1 : Hp} {s2 : Shared} {e C : Addr} {h' : Heap} {vs : List Value} (I : Inv (cxOf (CXF P w) P w K mg base N qual scope f cd A outer s H E) pins σ H1 s2) (hx : Heap.MadeExcOf s2.heap h' e (.ref C) vs) (q : E (.ref C) none H1) :
    (cxOf (CXF P w) P w K mg base N qual scope f cd A outer s H E).xe (.ref e) { s2 with heap := h' } := by
  have hB : (PySem.W.hideAll s2.heap (frs (cxOf (CXF P w) P w K mg base N qual scope f cd A outer s H E).stack)).StaysIn s2.heap := fun b o q => PySem.W.of_hideAll _ q
  refine wpAny_leaves_madeW (h := s2.heap) I.ok.frames rfl hB (PySem.W.funFrames_hide I.stack fun env he b hb => List.mem_filterMap.mpr ⟨env, he, hb⟩) hx fun h2 t fl tup tn sl => ?_
  have un : Un (frs (cxOf (CXF P w) P w K mg base N qual scope f cd A outer s H E).stack) [] H1 H1 s2.heap h' := Un.kept hx.keeps
  have he : H1 e = none := by
    cases z : H1 e with
    | none => rfl
    | some o =>
      obtain ⟨ob, eb⟩ := (I.hok e o z).there
      rw [hx.new] at eb
      cases eb
  refine ⟨e, C, H1, rfl, fly_out (s1 := { s2 with heap := h' }) I rfl un rfl I.bare (I.hok.kept hx.keeps) he hx.new fl (fun b o e hb => ⟨o, PySem.W.hideAll_get _ e hb, fun _ => rfl⟩) (fun b o n e => ?_) sl (fun b hb o e => ?_), q⟩
  · cases z : H1 b with
    | none => exact absurd z n
    | some u =>
      obtain ⟨ob, eb⟩ := (I.hok b u z).there
      have e1 := hx.keeps _ _ eb
      have e2 : h'.get? b = some o := e
      rw [e2] at e1
      cases e1
      exact PySem.W.hideAll_get _ eb fun hb => n (I.stkFree b hb)
  · obtain ⟨_, o1, e1, d⟩ := I.stack.mem hb
    have e2 : h'.get? b = some o := e
    rw [hx.keeps _ _ e1] at e2
    cases e2
    exact d
end
abbrev mroVE : List Value := [.type "ValueError", .type "Exception", .type "BaseException", .type "object"]
structure Xcl (K : PySem.W.Frag) (C : Addr) : Prop where
  q : PySem.W.excIn K C mroVE "ValueError.__new__" = true
inductive XObj (h : Heap) (C : Addr) : Prop
  | mk : ∀ bm N nm q bs hdct sn sub ab col dd k0 k1 k2 k3 k5 mN, h.get? C = some (excClassObj nm q C N bs bm hdct sn sub ab col dd k0 k1 k2 k3 k5 "ValueError.__new__") → h.Ns N mN → mN "__init__" = none → OwnTail h mroVE bm → XObj h C
theorem Xcl.obj {K : PySem.W.Frag} {h : Heap} {C : Addr} (x : Xcl K C) (X : K.In h) : XObj h C := by
  have q := x.q
  unfold PySem.W.excIn at q
  split at q
  · rename_i dd cd sl ho
    split at q
    · rename_i C' bm k0 k1 k2 k3 n k5 hm hs
      rw [Bool.and_eq_true, Bool.and_eq_true, Bool.and_eq_true, Bool.and_eq_true, Bool.and_eq_true] at q
      obtain ⟨⟨⟨⟨⟨q1, q2⟩, q3⟩, q4⟩, q5⟩, q6⟩ := q
      have q1 := beq_iff_eq.mp q1
      have q2 := beq_iff_eq.mp q2
      rw [Bool.not_eq_true'] at q3
      obtain ⟨a1, a2, a3, a4, a5, a6, a7, a8, a9, a10, a11⟩ := cd
      obtain ⟨ls⟩ := sl
      dsimp only at hm q3 q5 q6 hs
      have q6 := beq_iff_eq.mp q6
      subst hm q3 hs q1 q2
      exact ⟨bm, a4, a1, a5, a2, a6, a7, a8, a9, a10, dd, k0, k1, k2, k3, k5, _, X _ _ ho, .of_isNs (PySem.W.isNs_of_in X q5), PySem.W.nsMap_none_of_in X q5 q6, PySem.W.tail_of_in X q4⟩
    · cases q
  · cases q
/-- raise C(e, ..) -/
def tRaise (C : Addr) (E : XK) (ta : TA) : TS := fun _ σ H => ta σ H fun vs H1 => vs.length ≤ sizeLine ∧ E (.ref C) none H1
section
variable {P : Program} {w : World} {K : PySem.W.Frag} {mg : Str → Option Value} {base : Heap} {N : List Str} {qual : Str} {scope : Scope} {f : Addr} {cd : Value} {A : Around} {outer : List Env} {s : Shared} {H : Hp} {E : XK}
theorem ps_raise {x : Str} {C : Addr} {e₀ : Expr} {rest : List Expr} {ta : TA} {np cpos pos : Pos} (c : Xcl K C) (hm : mg x = some (.ref C)) (hh : A.handled = none)
    (hg : Gl (cxOf (CXF P w) P w K mg base N qual scope f cd A outer s H E) x) (ha : PA (cxOf (CXF P w) P w K mg base N qual scope f cd A outer s H E) (e₀ :: rest) ta)
    (hdb : (x == ("__debug__" : Str)) = false := by decide)
    (he : starEach (e₀ :: rest) (cxOf (CXF P w) P w K mg base N qual scope f cd A outer s H E).env = (false, eval e₀ (cxOf (CXF P w) P w K mg base N qual scope f cd A outer s H E).env) :: starEach rest (cxOf (CXF P w) P w K mg base N qual scope f cd A outer s H E).env := by rfl)
    (hpl : (backTo cpos (starEach rest (cxOf (CXF P w) P w K mg base N qual scope f cd A outer s H E).env)).any (·.1) = false := by rfl) :
    PS (cxOf (CXF P w) P w K mg base N qual scope f cd A outer s H E) (.Raise (some (.Call (.Name x np) (e₀ :: rest) [] cpos)) none pos) (tRaise C E ta) := by
  intro pins s0 σ H0 D I h
  obtain ⟨tl, N1, nm, q, bs, hdct, sn, sub, ab, col, dd, k0, k1, k2, k3, k5, mN, hC, hN, hni, T⟩ := c.obj I.ok.mod.kin
  refine wpAny_Raise_call_subT (C := C) (nm := nm) (q := q) (N := N1) (bs := bs) (bm := tl) (hdct := hdct) (sn := sn) (sub := sub) (ab := ab) (col := col) (dd := dd) (k0 := k0) (k1 := k1) (k2 := k2) (k3 := k3) (k5 := k5)
    PySem.F.excBase_ValueError (mN := mN) (T.hasType PySem.F.excBase_ValueError.hasBase) hh ?_ hni (ld_glob I hg hm ⟨rfl, ?_⟩ hdb)
  · rw [he]
    show (false || (backTo cpos (starEach rest (cxOf (CXF P w) P w K mg base N qual scope f cd A outer s H E).env)).any (·.1)) = false
    rw [hpl]
    rfl
  · have h1 := ha cpos pins s0 σ H0 _ I h
    rw [he] at h1 ⊢
    refine Calls.evalArgs_plain (thn h1 fun us s2 z => ?_)
    obtain ⟨vs, H1, I2, r, z1, z2⟩ := z
    exact ⟨rfl, by rw [← r.length]; exact z1, I2.bk _ _ hC, hN.keeps I2.bk, T.keeps I2.bk, fun h' e hx => fly_made I2 hx z2⟩
/-- THE RULE for a def that may raise -/
theorem Fun.okX {x : Str} {st : Stmt} {fd : FuncData} {ps : List Str} {k : Nat} {sp : Sp} (F : Fun K x qual st f fd) (S : FnScope N ps (defScope st)) (len : ∀ vs H Q E, sp vs H Q E → vs.length = ps.length)
    (hbody : ∀ (cdv : Value) (A : Around) (outer : List Env) (s : Shared) (H : Hp) (vs : List V) (Q : VK) (E : XK), Room k (A.deeper (envOfC qual (defScope st) s.heap.objs.size f cdv)) → sp vs H Q E →
      ∃ t, PSs (cxOf (CXF P w) P w K mg base N qual (defScope st) f cdv A outer s H E) (defBody st) t ∧ t { nx := fun _ H' => Q .non H', rt := Q } (start N vs) H) : FnOk P w K mg base (CXF P w) (k + 1) f fd ps sp := by
  obtain ⟨oc, od, kV, doc, pm, an, cdv, ct, osl, rfl, lk, hcd⟩ := F.ex
  exact fn_of lk hcd S len fun A outer s H vs Q E hr hsp => hbody cdv A outer s H vs Q E hr hsp
end
theorem PS.nox {X : Cx} {st : Stmt} {t : TS} (h : PS X.nox st t) : PS X st t := fun pins s σ H D I hw =>
  wpAny_mono (h pins s σ H D (I.wish _) hw) (fun _ _ z => SP.unwish z) fun _ _ z => z.elim
/-- .. the wish may speak of the names' values -/
def PassesX (CX : CXT) (X : Cx) (R : St → XK) : Prop := ∀ (pins : List (Addr × Obj)) (σ : St) (H : Hp) (s : Shared) (e : Value) (s' : Shared), Inv X pins σ H s → CX X.stack H s (R σ) e s' → X.xe e s'
def tCallX (sp : Sp) (dvs : List V) (R : St → XK) (t : TA) : TE := fun σ H Q => t σ H fun vs H1 => sp (vs ++ dvs) H1 Q (R σ)
inductive tMethX_I (C : Addr) (m : Str) (sp : Sp) (dvs : List V) (R : St → XK) (t : TA) (σ : St) (Q : VK) (x : V) (H1 : Hp) : Prop
  | mk : ∀ a dx fs, x = .ref a → H1 a = some (.ins C dx fs) → fs.lookup m = none → (t σ H1 fun vs H2 => sp (x :: (vs ++ dvs)) H2 Q (R σ)) → tMethX_I C m sp dvs R t σ Q x H1
def tMethX (C : Addr) (m : Str) (sp : Sp) (dvs : List V) (R : St → XK) (ta : TE) (t : TA) : TE := fun σ H Q => ta σ H fun x H1 => tMethX_I C m sp dvs R t σ Q x H1
section
variable {X : Cx} {CX : CXT} {k : Nat} {f C : Addr} {fd : FuncData} {ps : List Str} {sp : Sp} {dvs : List V} {ds : List Value} {R : St → XK} {x m : Str} {p pos apos : Pos} {e o : Expr} {es : List Expr} {ta : TE} {t : TA}
theorem run_fnX {pins : List (Addr × Obj)} {σ : St} {H : Hp} {s : Shared} {Q : VK} {us : List Value} {vs : List V} (F : FnOk X.prog X.w X.K X.mg X.base CX k f fd ps sp) (hr : Room k X.A) (hb : Binds X.K fd ps ds) (hd : Vals dvs ds) (hx : PassesX CX X R)
    (I : Inv X pins σ H s) (r : Vals vs us) (h : sp (vs ++ dvs) H Q (R σ)) : wpAny (model X.prog X.w) X.A (call (.ref f) us) (EP X pins σ Q) X.xe s := by
  have r2 : Vals (vs ++ dvs) (us ++ ds) := r.append hd
  have hl : (us ++ ds).length = ps.length := by rw [← r2.length]; exact F.len _ _ _ _ h
  refine wpAny_call (codeAny_mono (F.run X.A X.stack s H ⟨us, []⟩ (us ++ ds) (vs ++ dvs) Q (R σ) hr I.env0 (hb s us I.kIn hl) r2 h) fun r s' hq => ?_)
  cases r with
  | error e => exact hx pins σ H s e s' I hq
  | ok fl => cases fl with
    | ret u => exact I.after hq
    | _ => exact False.elim hq
theorem pe_callX (F : FnOk X.prog X.w X.K X.mg X.base CX k f fd ps sp) (hr : Room k X.A) (hg : Gl X x) (hm : X.mg x = some (.ref f)) (hk : PySem.W.keepIn X.K (.ref f) = true) (hb : Binds X.K fd ps ds) (hd : Vals dvs ds) (hx : PassesX CX X R)
    (ha : PA X (e :: es) t) (hdb : (x == ("__debug__" : Str)) = false := by decide) (he : starEach (e :: es) X.env = (false, eval e X.env) :: starEach es X.env := by rfl) (hpl : (backTo pos (starEach es X.env)).any (·.1) = false := by rfl) :
    PE X (.Call (.Name x p) (e :: es) [] pos) (tCallX sp dvs R t) := by
  intro pins s σ H Q I h
  refine wpAny_Call_Name_kw (ld_glob I hg hm (PySem.W.callWith_K (h₀ := X.base) I.ok.mod.kin hk (thn (ha pos pins s σ H _ I h) fun us s1 ⟨vs, H1, I1, r, q⟩ => ⟨I1.kIn, run_fnX F hr hb hd hx I1 r q⟩) he hpl) hdb)
/-- o.m(e, ..) -/
theorem pe_methX {pl : Sem Bool} (he : PE X o ta) (c : Cls X.K C) (hm : Meth X.K C m f) (F : FnOk X.prog X.w X.K X.mg X.base CX k f fd ps sp) (hr : Room k X.A) (hb : Binds X.K fd ps ds) (hd : Vals dvs ds) (hx : PassesX CX X R) (ha : PA X (e :: es) t)
    (hst : starEach (e :: es) X.env = (false, eval e X.env) :: starEach es X.env := by rfl) (hpl : (backTo pos (starEach es X.env)).any (·.1) = false := by rfl)
    (ht : eval (.Call (.Attribute o m apos) (e :: es) [] pos) X.env = (do
      let ov ← eval o X.env
      standAt apos.atName
      let (f, first) ← holding [ov] (getMethod ov m pl)
      callWith pos f first (backTo pos (starEach (e :: es) X.env)) (backToKw pos (keywordEach [] X.env))) := by rfl) :
    PE X (.Call (.Attribute o m apos) (e :: es) [] pos) (tMethX C m sp dvs R ta t) := by
  intro pins s σ H Q I h
  refine PySem.W.methodCall_KW (pl := pl) (thn (he pins s σ H _ I h) fun u s1 ⟨x, H1, I1, rx, a, dx, fs, ex, ea, l, q⟩ => ?_) ht
  subst ex
  obtain rfl : u = Value.ref a := rx
  refine getmeth_ok I1 ea c hm l ?_
  refine PySem.W.callWith_K (first := [.ref a]) (h₀ := X.base) I.ok.mod.kin hm.kp (thn (ha pos pins s1 σ H1 _ I1 q) fun us s2 ⟨vs, H2, I2, r, q2⟩ => ⟨I2.kIn, ?_⟩) hst hpl
  exact run_fnX (us := .ref a :: us) (vs := .ref a :: vs) F hr hb hd hx I2 (.cons rfl r) q2
end
def mroIn (K : PySem.W.Frag) (C D : Addr) : Bool := match K.lookup C with
  | some ⟨_, _, .cls cd, _⟩ => cd.mro.contains (.ref D)
  | _ => false
structure Sub (K : PySem.W.Frag) (C D : Addr) : Prop where
  c : Xcl K C
  s : mroIn K C D = true
theorem Sub.has {K : PySem.W.Frag} {h : Heap} {C D N : Addr} (x : Sub K C D) (X : K.In h) {nm q : Str} {bs bm : List Value} {hdct : Bool} {sn : List Str} {sub : List Value} {ab : Bool} {col : Option Bool} {dd : Option Addr} {k0 k1 k2 k3 k5 : Option Value} {newId : String}
    (hC : h.get? C = some (excClassObj nm q C N bs bm hdct sn sub ab col dd k0 k1 k2 k3 k5 newId)) : (Value.ref C :: bm).contains (.ref D) = true := by
  have s := x.s
  unfold mroIn at s
  split at s
  · rename_i ho
    have e := X _ _ ho
    rw [hC] at e
    cases e
    exact s
  · cases s
theorem matches_own {M : Model} {A : Around} {E : Value → Shared → Prop} {h : Heap} {g : Array GenState} {d : Drawn} {t : Nat} {os : OsState} {e C D N N' : Addr} {oe : Obj} {Q : Bool → Shared → Prop}
    {nm q nm' q' : Str} {bs bm bs' bm' : List Value} {hdct hdct' : Bool} {sn sn' : List Str} {sub sub' : List Value} {ab ab' : Bool} {col col' : Option Bool} {dd dd' : Option Addr} {k0 k1 k2 k3 k5 l0 l1 l2 l3 l5 : Option Value} {newId newId' : String}
    (hC : h.get? C = some (excClassObj nm q C N bs bm hdct sn sub ab col dd k0 k1 k2 k3 k5 newId)) (hD : h.get? D = some (excClassObj nm' q' D N' bs' bm' hdct' sn' sub' ab' col' dd' l0 l1 l2 l3 l5 newId')) (he : h.get? e = some oe) (hcls : oe.cls = .ref C)
    (hbase : bm'.contains (.type "BaseException") = true) (hsub : (Value.ref C :: bm).contains (.ref D) = true) (hq : Q true ⟨h, g, d, t, os⟩) : wpAny M A (excMatches (.ref e) (.ref D)) Q E ⟨h, g, d, t, os⟩ := by
  have hB : (Value.ref D :: bm').contains (.type "BaseException") = true := by rw [List.contains_cons, hbase, Bool.or_true]
  have f := tc_notTuple
  unfold excMatches
  repeat (first | (with_reducible refine wpAny_loadPart_at he ?_; rw [hcls]) | (with_reducible refine wpAny_loadPart_at hD ?_) | (with_reducible refine wpAny_isSubtype_exc hD ?_; rw [hB]) | (with_reducible refine wpAny_isSubtype_exc hC ?_; rw [hsub]) | wp_step)
  exact hq
/-- a try's body: an exception comes as R says -/
def tryCx (X : Cx) (pn : List (Addr × Obj)) (R : St → XK) : Cx := { X with pn := X.pn ++ pn, xe := fun ev s' => ∃ (σ : St) (Hc : Hp) (sc : Shared) (e C : Addr) (H' : Hp), ev = .ref e ∧ Inv X pn σ Hc sc ∧ Fly X.prog X.w X.stack Hc sc e C H' s' ∧ R σ (.ref C) none H' }
/-- an except suite from which nothing is raised -/
def hnd (X : Cx) (ev : Value) : Cx := { X with A := X.A.mark (some ev), calm := false, xe := fun _ _ => False }
section
variable {X : Cx} {pins pins' : List (Addr × Obj)} {σ : St} {H : Hp} {s : Shared} {R : St → XK}
theorem Inv.intry (I : Inv X pins σ H s) : Inv (tryCx X pins R) [] σ H s :=
  ⟨⟨I.ok.mod, I.ok.kind, I.ok.glob, I.ok.blt, I.ok.above, I.ok.inj, I.ok.has, I.ok.cab, I.ok.hd, I.ok.frames, I.ok.stk, I.ok.exf, I.ok.bs, I.ok.bsz, I.ok.noex, I.ok.exfs, I.ok.funs, I.ok.frf⟩, I.os, I.bare, I.base, I.loc, I.cell, I.free, I.freeC, fun p hp => I.pin p (by
    rw [List.append_nil] at hp
    exact hp), I.hok, I.len⟩
theorem Inv.outtry (I : Inv (tryCx X pins R) pins' σ H s) : Inv X pins σ H s :=
  ⟨⟨I.ok.mod, I.ok.kind, I.ok.glob, I.ok.blt, I.ok.above, I.ok.inj, I.ok.has, I.ok.cab, I.ok.hd, I.ok.frames, I.ok.stk, I.ok.exf, I.ok.bs, I.ok.bsz, I.ok.noex, I.ok.exfs, I.ok.funs, I.ok.frf⟩, I.os, I.bare, I.base, I.loc, I.cell, I.free, I.freeC, fun p hp => I.pin p (List.mem_append_left _ hp), I.hok, I.len⟩
theorem Inv.inhnd (I : Inv X pins σ H s) (ev : Value) : Inv (hnd X ev) pins σ H s :=
  ⟨⟨I.ok.mod, I.ok.kind, I.ok.glob, I.ok.blt, I.ok.above, I.ok.inj, I.ok.has, I.ok.cab, (fun z => nomatch z), I.ok.frames, I.ok.stk, I.ok.exf, I.ok.bs, I.ok.bsz, I.ok.noex, I.ok.exfs, I.ok.funs, I.ok.frf⟩, I.os, I.bare, I.base, I.loc, I.cell, I.free, I.freeC, I.pin, I.hok, I.len⟩
theorem Inv.outhnd {ev : Value} (ok : X.Ok) (I : Inv (hnd X ev) pins σ H s) : Inv X pins σ H s :=
  ⟨ok, I.os, I.bare, I.base, I.loc, I.cell, I.free, I.freeC, I.pin, I.hok, I.len⟩
theorem SP.outtry {D : Ends} {f : Flow} (h : SP (tryCx X pins R) pins' D f s) : SP X pins D f s := by
  cases f with
  | ret u => obtain ⟨v, σ', H', I, r, q⟩ := h; exact ⟨v, σ', H', I.outtry, r, q⟩
  | _ => obtain ⟨σ', H', I, q⟩ := h; exact ⟨σ', H', I.outtry, q⟩
theorem SP.outhnd {ev : Value} {D : Ends} {f : Flow} (ok : X.Ok) (h : SP (hnd X ev) pins D f s) : SP X pins D f s := by
  cases f with
  | ret u => obtain ⟨v, σ', H', I, r, q⟩ := h; exact ⟨v, σ', H', I.outhnd ok, r, q⟩
  | _ => obtain ⟨σ', H', I, q⟩ := h; exact ⟨σ', H', I.outhnd ok, q⟩
theorem passT {pn : List (Addr × Obj)} : PassesX (CXF X.prog X.w) (tryCx X pn R) R := by
  intro pins σ H s ev s' I h
  obtain ⟨e, C, H', rfl, F, q⟩ := h
  exact ⟨σ, H, s, e, C, H', rfl, I.outtry, F, q⟩
/-- behind a callee's exception, when it has been looked at here -/
theorem Fly.inv {e C : Addr} {H' : Hp} {s1 : Shared} {B h2 : Heap} {l : List Env} {a0 : Value} (F : Fly X.prog X.w X.stack H s e C H' s1) (I : Inv X pins σ H s) (fl : Heap.FlyingW B X.stack e (.ref C) a0 s1.heap) (cv : Cov (frs X.stack) H s.heap B) (ct : Trk H' s1.heap B)
    (st : B.StaysIn h2) (sl : s1.heap.UpToSlots h2) : Inv X pins σ H' { s1 with heap := h2 } :=
  I.call' (s' := { s1 with heap := h2 }) (ch := []) F.os (F.un.flown cv st sl fun b hb o e => by
    obtain ⟨_, o1, e1, d⟩ := fl.2.2.1.mem hb
    rw [e] at e1
    cases e1
    exact d) (F.hok.flown ct st) F.bare (fun b z => nomatch z)
end
end L2
set_option Elab.async false
set_option linter.all false
set_option maxRecDepth 100000
set_option maxHeartbeats 4000000
namespace L2
open PySem PySem.Spec PyProof.Rows
/-- what comes behind, not looked into (the proof's term stays small) -/
theorem seq_open {t u : TS} {D : Ends} {σ : St} {H : Hp} (h : ∀ N : St → Hp → Prop, N = u D → t { D with nx := N } σ H) : tSeq t u D σ H := h _ rfl
theorem mro_of {K : PySem.W.Frag} {C D : Addr} (e : PySem.W.mroIn K C (.ref D) = some true) : L2.mroIn K C D = true := by
  unfold PySem.W.mroIn PySem.W.clsIn at e
  unfold L2.mroIn
  cases h : K.lookup C with
  | none => rw [h] at e; cases e
  | some o =>
    rw [h] at e
    obtain ⟨c, d, dat, sl⟩ := o
    cases dat with
    | cls cd =>
      obtain ⟨cd', e1, e2⟩ := Option.bind_eq_some_iff.mp e
      cases e1
      split at e2
      · cases e2
      · exact Option.some.inj e2
    | _ => cases e
theorem FunD.okX {P : Program} {w : World} {K : PySem.W.Frag} {mg : Str → Option Value} {base : Heap} {x qual : Str} {st : Stmt} {f : Addr} {fd : FuncData} {N ps : List Str} {k : Nat} {sp : Sp} (F : FunD K x qual st f fd) (S : FnScope N ps (defScope st)) (len : ∀ vs H Q E, sp vs H Q E → vs.length = ps.length)
    (hbody : ∀ (cdv : Value) (A : Around) (outer : List Env) (s : Shared) (H : Hp) (vs : List V) (Q : VK) (E : XK), Room k (A.deeper (envOfC qual (defScope st) s.heap.objs.size f cdv)) → sp vs H Q E →
      ∃ t, PSs (cxOf (CXF P w) P w K mg base N qual (defScope st) f cdv A outer s H E) (defBody st) t ∧ t { nx := fun _ H' => Q .non H', rt := Q } (start N vs) H) : FnOk P w K mg base (CXF P w) (k + 1) f fd ps sp := by
  obtain ⟨oc, od, dV, kV, doc, pm, an, cdv, ct, osl, rfl, lk, hcd⟩ := F.ex
  exact fn_of lk hcd S len fun A outer s H vs Q E hr hsp => hbody cdv A outer s H vs Q E hr hsp
end L2
set_option Elab.async false
set_option linter.all false
set_option maxRecDepth 100000
set_option maxHeartbeats 400000
namespace L2
open PySem PySem.Spec PyProof.Rows
open PySem.Builtin PySem.Builtin.ObjectAttr PySem.Builtin.Getset_descriptor
structure XGet (K : PySem.W.Frag) (C : Addr) : Prop where
  ga : PySem.W.findIn K (.ref C) "__getattribute__" = some (some (.builtin "BaseException.__getattribute__"))
  gt : PySem.W.findIn K (.ref C) "__getattr__" = some none
  cl : PySem.W.hasDictIn K C = true
  ca : PySem.W.findIn K (.ref C) "__class__" = some (some (.builtin "object.__class__"))
  hn : PySem.W.specialIn K (.builtin "object.__class__") "__get__" = some (some (.builtin "getset_descriptor.__get__"))
  tk : PySem.W.takesIn K (.builtin "object.__class__") = some true
  mo : PySem.W.mroIn K C (.type "object") = some true
  mb : PySem.W.mroIn K C (.type "BaseException") = some true
/-- an exception stands there -/
def XAt (C e : Addr) (h : Heap) : Prop := ∃ o, h.get? e = some o ∧ o.cls = .ref C
theorem XAt.type {C e : Addr} {h : Heap} (x : XAt C e h) {M : Model} : PySem.W.Looks M h (typeOf (.ref e)) (.ref C) := by
  obtain ⟨o, h1, h2⟩ := x
  exact h2 ▸ (PySem.W.Looks.ld h1).andThen .now
section
variable {prog : Program} {w : World} {A : Around} {E : Value → Shared → Prop} {K : PySem.W.Frag} {x C : Addr} {h : Heap} {g : Array GenState} {d : Drawn} {t : Nat} {os : OsState}
theorem wpAny_ite_f {α : Type} {M : Model} {A : Around} {c : Bool} {a b : Sem α} {Q : α → Shared → Prop} {E : Value → Shared → Prop} {s : Shared} (hc : c = false) (h : wpAny M A b Q E s) : wpAny M A (if c = true then a else b) Q E s := by
  rw [hc, if_neg Bool.false_ne_true]; exact h
theorem XGet.find (Z : XGet K C) (X : K.In h) {M : Model} : PySem.W.Looks M h (Builtin.ObjectAttr.find (.ref x) (.ref C) "__class__") (.bind (.builtin "getset_descriptor.__get__") (.builtin "object.__class__")) := by
  have L1 := PySem.W.looks_findIn (M := M) X Z.ca
  have L2 : PySem.W.Looks M h (Builtin.ObjectAttr.getOf (some (.builtin "object.__class__"))) (some (.builtin "getset_descriptor.__get__")) := PySem.W.looks_specialIn X Z.hn
  have L3 : PySem.W.Looks M h (Builtin.ObjectAttr.dataDescriptor? (some (.builtin "object.__class__")) (some (.builtin "getset_descriptor.__get__"))) (some (.builtin "getset_descriptor.__get__", .builtin "object.__class__")) := (PySem.W.looks_takesIn X Z.tk).andThen .now
  exact L1.andThen (L2.andThen (L3.andThen (PySem.W.Looks.tag .now)))
theorem exc_get {R : Result → Shared → Prop} {tp : Value} (Z : XGet K C) (X : K.In h) (I : XAt C x h) (hq : R (.ok (.ret (.ref C))) ⟨h, g, d, t, os⟩) :
    codeAny (model prog w) A (.call (.builtin "getset_descriptor.__get__") ⟨[.builtin "object.__class__", .ref x, tp], []⟩) R ⟨h, g, d, t, os⟩ := by
  have L0 := I.type (M := model prog w); have L1 := PySem.W.looks_mroIn (M := model prog w) X Z.mo
  refine codeAny_call_builtin PySem.W.KF.slot_gs.plain PySem.W.KF.entry_gs (PySem.W.KF.slot_gs.check _ _ _ _ _ _ _ _ PySem.W.KF.type_class (PySem.W.KF.args_gs _ _ _) ?_)
  unfold Builtin.«getset_descriptor.__get__» descrGet; rw [PySem.W.dga_obj]; refine wpAny_bind (wpAny_pure ?_)
  unfold descrGetter descrCheckInstance descrNameAndClass isInstance; simp only [PySem.W.KF.owner_class]; repeat lk
  refine ⟨Code.quiet_builtin _ (by decide +kernel), codeAny_builtin PySem.W.KF.entry_class ?_⟩; unfold Builtin.«object.__class__» shownTypeOf; repeat lk
  exact hq
theorem exc_entry {tk : Tok} {Q : Fin → Shared → Prop} (Z : XGet K C) (X : K.In h) (I : XAt C x h) (hq : Q (.done (.ret (.ref C))) ⟨h, g, d, t, os⟩) :
    wpAny (model prog w) A (Builtin.«object.__getattribute__» ⟨[.ref x, .str "__class__" tk], []⟩) Q E ⟨h, g, d, t, os⟩ := by
  have L0 := I.type (M := model prog w)
  have L3 := Z.find (x := x) X (M := model prog w)
  refine wpAny_bind (wpAny_pure (wpAny_bind (wpAny_pure (wpAny_bind (L0.at (wpAny_bind (L3.at ?_)))))))
  show wpAny _ _ (Builtin.ObjectAttr.bindTo (.builtin "getset_descriptor.__get__") (.builtin "object.__class__") (.ref x) (.ref C)) _ _ _
  unfold Builtin.ObjectAttr.bindTo
  repeat (any_goals (first | assumption | wp_step))
  exact exc_get Z X I (wpAny_pure hq)
theorem exc_check {M : Model} {nameV : Value} {Q : Unit → Shared → Prop} (L : PySem.W.Looks M h (isInstance (.ref x) (.type "BaseException")) true) (hq : Q () ⟨h, g, d, t, os⟩) : wpAny M A (checkBuiltinCall "BaseException.__getattribute__" ⟨[.ref x, nameV], []⟩) Q E ⟨h, g, d, t, os⟩ := by
  have hk : builtinKind "BaseException.__getattribute__" = some .slot := by decide +kernel
  have hs : splitId "BaseException.__getattribute__" = some ("BaseException", "__getattribute__") := by decide +kernel
  have ha : argsOk "BaseException.__getattribute__" ⟨[.ref x, nameV], []⟩ := F.args_bexc_ga (.ref x) nameV
  have LL : PySem.W.Looks M (⟨h, g, d, t, os⟩ : Shared).heap (isInstance (.ref x) (.type "BaseException")) true := L
  have key := PySem.W.check_slot (M := M) (A := A) (E := E) (s := ⟨h, g, d, t, os⟩) (i := "BaseException.__getattribute__") (owner := "BaseException") (n := "__getattribute__") (self := .ref x) (rest := [nameV]) (kw := []) (Q := Q) hk hs LL
  exact key ha hq
theorem exc_call {tk : Tok} {R : Result → Shared → Prop} (Z : XGet K C) (X : K.In h) (I : XAt C x h) (hq : R (.ok (.ret (.ref C))) ⟨h, g, d, t, os⟩) :
    codeAny (model prog w) A (.call (.builtin "BaseException.__getattribute__") ⟨[.ref x, .str "__class__" tk], []⟩) R ⟨h, g, d, t, os⟩ := by
  have L : PySem.W.Looks (model prog w) h (isInstance (.ref x) (.type "BaseException")) true := (I.type (M := model prog w)).andThen (PySem.W.looks_mroIn (M := model prog w) X Z.mb)
  exact codeAny_call_builtin F.excAttr_ValueError.ga.plain F.entry_bexc_ga (exc_check L (exc_entry Z X I hq))
theorem exc_by {tk : Tok} {Q : Value → Shared → Prop} (Z : XGet K C) (X : K.In h) (I : XAt C x h) (hq : Q (.ref C) ⟨h, g, d, t, os⟩) :
    wpAny (model prog w) A (getAttrBy (.ref x) (.str "__class__" tk) false) Q E ⟨h, g, d, t, os⟩ := by
  have L0 := I.type (M := model prog w)
  have L1 := PySem.W.looks_findIn (M := model prog w) X Z.ga
  have L2 := PySem.W.looks_findIn (M := model prog w) X Z.gt
  have f3 := F.excAttr_ValueError.ga.bind (.ref x)
  have hx2 : (Value.builtin "BaseException.__getattribute__" == Value.builtin "object.__getattribute__") = false := by decide +kernel
  have hx1 : (onTheHeap (Value.ref C) && Value.builtin "BaseException.__getattribute__" == Value.builtin "object.__getattribute__") = false := by rw [hx2]; rfl
  refine wpAny_holding (wpAny_bind (L0.at (wpAny_bind (L1.at ?_))))
  refine wpAny_ite_f hx1 ?_
  refine wpAny_bind (L2.at ?_)
  refine wpAny_bind (wpAny_attempt (wpAny_holding ?_))
  show wpAny _ _ (boundAndCalled (.builtin "BaseException.__getattribute__") (.ref x) (.str "__class__" tk)) _ _ _
  unfold boundAndCalled
  rw [f3]
  refine wpAny_bind (wpAny_pure ?_)
  refine wpAny_call (exc_call Z X I ?_)
  exact PySem.W.handed_on rfl hq
theorem exc_class {Q : Option Value → Shared → Prop} (Z : XGet K C) (X : K.In h) (I : XAt C x h) (hq : Q (some (.ref C)) ⟨h, g, d, t + 1, os⟩) : wpAny (model prog w) A (getAttr? (.ref x) "__class__") Q E ⟨h, g, d, t, os⟩ := by
  unfold getAttr? getAttrBy?
  refine wpAny_bind (wpAny_mkText (wpAny_bind (wpAny_attempt (exc_by Z X I ?_))))
  exact wpAny_pure hq
theorem kitx_exc (Z : XGet K C) : PySem.W.KitX K (.ref x) (.ref C) (XAt C x) where
  ty := fun _ _ _ I => I.type
  it := fun _ _ X _ => by
    obtain ⟨cd, hc, _⟩ := PySem.W.any_some Z.cl
    unfold PySem.W.clsIn at hc
    split at hc
    · rename_i ho
      intro A' Q' E' s' k q; unfold isType loadHead; exact wpAny_bind (wpAny_loadPart (k _ _ (X _ _ ho)) (wpAny_pure q))
    · cases hc
  ne := fun h tp dd its n sl X htp => by
    obtain ⟨cd, hc, _⟩ := PySem.W.any_some Z.cl
    refine Bool.eq_false_iff.mpr fun q => ?_
    have e : C = tp := Value.ref.inj (beq_iff_eq.mp q)
    rw [← e] at htp; unfold PySem.W.clsIn at hc
    split at hc
    · rename_i ho
      have z := (X _ _ ho).symm.trans htp; cases z
    · cases hc
  ca := fun {prog w A E Q s} X I k => by
    obtain ⟨h, g, d, t, os⟩ := s
    exact exc_class Z X I k
end
/-- an exception, held -/
def ExcO (C e : Addr) : HO := .ext (XAt C e)
theorem excO_ok {P : Program} {w : World} {H : Hp} {h : Heap} {C e : Addr} (x : XAt C e h) : ObjOk P w H h e (ExcO C e) := ⟨x, let ⟨o, h1, _⟩ := x; ⟨o, h1⟩, fun _ _ y k => let ⟨o, h1, h2⟩ := y; ⟨o, k o h1, h2⟩⟩
theorem call_isexc {X : Cx} : CallR X (.builtin "isinstance") (fun xs H Q => ∃ e C c cv b, xs = [.ref e, c] ∧ H e = some (ExcO C e) ∧ XGet X.K C ∧ clsV c = some cv ∧ PySem.W.kitOne X.K (.ref C) cv = some b ∧ Q (.bl b) H) := by
  intro pins s σ H xs us Q I r h
  obtain ⟨e, C, c, cv, b, rfl, he, Z, hcv, hk, q⟩ := h
  obtain ⟨u, u', rfl, rx, rc⟩ := vals2 r
  have e' : u' = cv := by
    cases c with
    | ty n => cases hcv; exact rc
    | ref a => cases hcv; exact rc
    | _ => cases hcv
  subst e'
  obtain rfl : u = Value.ref e := rx
  obtain ⟨x, _⟩ := (show ObjOk X.prog X.w H s.heap e (ExcO C e) from I.hok e _ he)
  exact PySem.W.kia_one (kitx_exc Z) I.kIn x hk (by intro q; cases q) fun tk => ⟨.bl b, H, I.tok tk, rfl, q⟩
end L2
set_option Elab.async false
set_option linter.all false
set_option maxRecDepth 100000
set_option maxHeartbeats 4000000
namespace L2
open PySem PySem.Spec PyProof.Rows
section
variable {X : Cx} {pins : List (Addr × Obj)} {σ : St} {H : Hp} {s : Shared}
/-- what stands there untracked, and was not there when the body began, is tracked from here on -/
theorem Inv.track {e : Addr} {o : HO} (I : Inv X pins σ H s) (hn : H e = none) (h0 : X.s₀.heap.get? e = none) (hL : e ≠ X.env.locals) (hC : ∀ x c, X.env.cells.lookup x = some c → c ≠ e) (hp : ∀ p ∈ X.pn ++ pins, p.1 ≠ e)
    (ok : ObjOk X.prog X.w (upd H e o) s.heap e o) : Inv X pins σ (upd H e o) s where
  ok := I.ok
  os := I.os
  bare := I.bare
  base := ⟨I.base.keep, I.base.slot, fun b ob q n hx => by
      have hb : b ≠ e := fun z => by rw [z, h0] at q; cases q
      rw [upd_ne hb]; exact I.base.free b ob q n hx, I.base.there,
    fun b xs q => by have := I.base.tups b xs q; rw [upd_ne (ne_of_none this hn)]; exact this,
    fun b o u q => by have := I.base.frzs b o u q; rw [upd_ne (ne_of_none this hn)]; exact this,
    fun b ps q => by obtain ⟨more, this⟩ := I.base.tbls b ps q; exact ⟨more, by rw [upd_ne (ne_of_none this hn)]; exact this⟩⟩
  loc := I.loc
  cell := I.cell
  free := by rw [upd_ne (Ne.symm hL)]; exact I.free
  freeC := fun x c q => by rw [upd_ne (hC x c q)]; exact I.freeC x c q
  pin := fun p q => by
    obtain ⟨a, b, c⟩ := I.pin p q
    exact ⟨a, by rw [upd_ne (hp p q)]; exact b, c⟩
  hok := fun b u q => by
    by_cases hb : b = e
    · subst hb; rw [upd_same] at q; cases q; exact ok
    · rw [upd_ne hb] at q
      exact (I.hok b u q).stay (fun _ _ _ z => z) (fun c z => by rw [upd_ne (ne_of_none z hn)]; exact z) fun c xs z => by rw [upd_ne (ne_of_none z hn)]; exact z
  len := I.len
/-- a name is gone behind the suite -/
theorem goes_ok {M : Model} {A : Around} {E : Value → Shared → Prop} {i : Nat} {x : Str} {pos : Pos} {Q : Unit → Shared → Prop} (I : Inv X pins σ H s) (hN : X.N.Nodup) (hi : X.N[i]? = some x) (hk : X.env.scope.names.lookup x = some .local)
    (h : ∀ s', Inv X pins (σ.set i none) H s' → Q () s') : wpAny M A (do bindName X.env x .none; unbindBehindTheSuite X.env x pos) Q E s := by
  obtain ⟨m, hn, hl⟩ := id I.loc
  have hcls : (X.env.scope.kind == .class || (X.env.scope.kind == .module && X.env.locals != X.env.globals)) = false := by rw [I.ok.kind]; rfl
  have cne := I.cne
  have hiσ : i < σ.length := by rw [I.len]; exact (List.getElem?_eq_some_iff.mp hi).1
  obtain ⟨oL, _, _, hoL, _⟩ := id hn
  refine wpAny_nameGoes_keeps hk hn hcls fun h' v hn' hs => ?_
  have far : ∀ b o, X.s₀.heap.get? b = some o → b ≠ X.env.locals := fun b o e => Nat.ne_of_lt (Nat.lt_of_lt_of_le (Heap.lt_size e) I.ok.above)
  refine h _ ⟨I.ok, I.os, I.bare, ⟨fun b o e n hb hx => ?_, fun b o e n hb hx => ?_, I.base.free, fun b o e hx => ?_, I.base.tups, I.base.frzs, I.base.tbls⟩, ⟨_, hn', fun j y v' e1 e2 e3 => ?_⟩, fun y c e => ?_, I.free, I.freeC, fun p hp => ?_, fun b ob e => ?_, by simpa using I.len⟩
  · exact (hs.2 b (far b o e)).trans (I.base.keep b o e n hb hx)
  · obtain ⟨sl, e1⟩ := I.base.slot b o e n hb hx
    exact ⟨sl, (hs.2 b (far b o e)).trans e1⟩
  · obtain ⟨o', e1⟩ := I.base.there b o e hx
    exact ⟨o', (hs.2 b (far b o e)).trans e1⟩
  · have hj : j ≠ i := fun z => by
      subst z
      rw [List.getElem?_set_self hiσ] at e2
      cases e2
    rw [List.getElem?_set_ne (Ne.symm hj)] at e2
    obtain ⟨u', r', q⟩ := hl j y v' e1 e2 e3
    refine ⟨u', r', ?_⟩
    rcases q with ⟨k, e⟩ | ⟨k, c, e, z⟩
    · refine .inl ⟨k, ?_⟩
      have : y ≠ x := fun e => hj (nodup_ix hN e1 (e ▸ hi))
      simp [this, e]
    · exact .inr ⟨k, c, e, z.sameBut hs (cne y c e)⟩
  · obtain ⟨w', z⟩ := I.cell y c e
    exact ⟨w', z.sameBut hs (cne y c e)⟩
  · obtain ⟨e, n, ne, nf, d⟩ := I.pin p hp
    exact ⟨(hs.2 p.1 ne).trans e, n, ne, nf, d⟩
  · refine (I.hok b ob e).stay (fun c w' hc q => (hs.2 c ?_).trans q) (fun _ q => q) fun _ _ q => q
    rintro rfl
    rcases hc with rfl | hc
    · rw [I.free] at e; cases e
    · rw [I.free] at hc; cases hc
end
/-- the ends, where the name at i is gone -/
def unb (i : Nat) (D : Ends) : Ends := { nx := fun σ H => D.nx (σ.set i none) H, rt := D.rt, bk := fun σ H => D.bk (σ.set i none) H, ct := fun σ H => D.ct (σ.set i none) H }
def tTryAs (i : Nat) (R : St → XK) (tb ts : TS) : TS := fun D σ H => (∀ σ' C H' e, R σ' (.ref C) none H' → H' e = none → ts (unb i D) (σ'.set i (some (.ref e))) (upd H' e (ExcO C e))) ∧ tb D σ H
theorem ps_tryAs {X : Cx} {body : List Stmt} {x n : Str} {i : Nat} {D : Addr} {b₀ : Stmt} {suite : List Stmt} {np hpos pos : Pos} {R : St → XK} {tb ts : TS} (hg : Gl X x) (hm : X.mg x = some (.ref D)) (d : Xcl X.K D) (hst : X.stack = X.env :: X.outer) (hf : X.env.frame = some X.env.locals) (hex : X.ex = [])
    (hN : X.N.Nodup) (hi : X.N[i]? = some n) (hloc : X.env.scope.names.lookup n = some .local)
    (hsub : ∀ σ C H, R σ (.ref C) none H → Sub X.K C D) (hb : ∀ pn, PSs (tryCx X pn R) body tb) (hs : ∀ ev, PSs (hnd X ev) (b₀ :: suite) ts) (hdb : (x == ("__debug__" : Str)) = false := by decide) :
    PS X (.Try body [.ExceptHandler (some (.Name x np)) (some n) (b₀ :: suite) hpos] [] [] pos) (tTryAs i R tb ts) := by
  intro pins s σ H Dd I h
  obtain ⟨hh, hq⟩ := h
  refine wpAny_Try_except (wpAny_mono (hb pins [] s σ H Dd I.intry hq) (fun f s₁ h₁ => ?_) fun ev s₁ h₁ => ?_)
  · have h2 : SP X pins Dd f s₁ := SP.outtry h₁
    cases f with
    | next => rw [arm_execs_nil]; exact wpAny_pure h2
    | _ => exact h2
  · obtain ⟨σ', Hc, sc, e, C, H', rfl, Ic, F, q⟩ := h₁
    obtain ⟨B, a0, fl, cv, ct⟩ := F.fly
    have fr : X.A.frames = some (X.env :: X.outer) := by rw [I.ok.frames, hst]
    have fl' := fl
    rw [hst] at fl'
    refine wpAny_looks_onW fr hf fl' fun h4 hheld hsm4 => ?_
    refine wpAny_landsW hheld fun h5 fl5 hsm5 => ?_
    have J5 : Inv X pins σ' H' { s₁ with heap := h5 } := F.inv (l := X.stack) Ic fl cv ct fl5.1 (hsm4.trans hsm5)
    refine wpAny_handleBy_cons (codeAny_handlers_test ?_) (by intro q; cases q)
    refine Calls.Name_function_global I.ok.kind hg (Calls.loadGlobal_global (by rw [I.ok.glob]; exact I.mod.glob.keeps J5.bk) hm ?_) hdb
    have sb := hsub σ' C H' q
    obtain ⟨bm, N, nm, qn, bs, hdct, sn, sub, ab, col, dd, k0, k1, k2, k3, k5, mN, hC, hN', hni, TL⟩ := sb.c.obj J5.kIn
    obtain ⟨bm', N', nm', qn', bs', hdct', sn', sub', ab', col', dd', l0, l1, l2, l3, l5, mN', hD, hN'', hni', TL'⟩ := d.obj J5.kIn
    obtain ⟨ob, hob, hobc⟩ := fl5.there
    refine matches_own hC hD hob hobc (TL'.hasType PySem.F.excBase_ValueError.hasBase) (sb.has J5.kIn hC) ?_
    refine codeAny_handlers_suite_as ?_
    refine lands_againW fl5 fun h6 fl6 hsm6 => ?_
    have J6 : Inv X pins σ' H' { s₁ with heap := h6 } := F.inv (l := X.stack) Ic fl cv ct fl6.1 ((hsm4.trans hsm5).trans hsm6)
    have base0 := Ic.base
    rw [hex] at base0
    have e0 : X.s₀.heap.get? e = none := by
      cases z : X.s₀.heap.get? e with
      | none => rfl
      | some o =>
        obtain ⟨o', e'⟩ := base0.there e o z (fun z => nomatch z)
        rw [F.nw] at e'
        cases e'
    obtain ⟨ob6, hob6, hobc6⟩ := fl6.there
    have eL : e ≠ X.env.locals := fun z => by
      obtain ⟨m, hn, _⟩ := Ic.loc
      obtain ⟨oL, _, _, hoL, _⟩ := hn
      rw [← z, F.nw] at hoL
      cases hoL
    have eC : ∀ x c, X.env.cells.lookup x = some c → c ≠ e := fun x c hc z => by
      obtain ⟨v, o, ho, _⟩ := Ic.cell x c hc
      rw [z, F.nw] at ho
      cases ho
    have eP : ∀ p ∈ X.pn ++ pins, p.1 ≠ e := fun p hp z => by
      obtain ⟨z1, _⟩ := Ic.pin p hp
      rw [z, F.nw] at z1
      cases z1
    have J7 : Inv X pins σ' (upd H' e (ExcO C e)) { s₁ with heap := h6 } := J6.track F.fr e0 eL eC eP (excO_ok ⟨ob6, hob6, hobc6⟩)
    refine store_ok J7 hN hi (.inl hloc) (v := .ref e) rfl (fun s2 J8 => ?_) (.inr hloc)
    refine wpAny_mono (hs (.ref e) pins s2 _ _ (unb i Dd) (J8.inhnd _) (hh σ' C H' e q F.fr)) (fun f s3 z => ?_) (fun _ _ z => z.elim)
    have z' : SP X pins (unb i Dd) f s3 := SP.outhnd I.ok z
    cases f with
    | ret u =>
      obtain ⟨v, σ2, H2, I2, r, q2⟩ := z'
      exact goes_ok I2 hN hi hloc fun s4 I4 => ⟨v, _, H2, I4, r, q2⟩
    | next =>
      obtain ⟨σ2, H2, I2, q2⟩ := z'
      exact goes_ok I2 hN hi hloc fun s4 I4 => ⟨_, H2, I4, q2⟩
    | brk =>
      obtain ⟨σ2, H2, I2, q2⟩ := z'
      exact goes_ok I2 hN hi hloc fun s4 I4 => ⟨_, H2, I4, q2⟩
    | cont =>
      obtain ⟨σ2, H2, I2, q2⟩ := z'
      exact goes_ok I2 hN hi hloc fun s4 I4 => ⟨_, H2, I4, q2⟩
end L2
set_option Elab.async false
set_option linter.all false
set_option maxRecDepth 100000
set_option maxHeartbeats 400000
namespace L2
open PySem PySem.Spec PyProof.Rows
def keyIsN : Option Key → Value → Bool
  | none, .none => true
  | some k, v => keyIs k v
  | _, _ => false
def keyHN (w : World) : Option Key → Int
  | none => reduceHash 0xFCA86420
  | some k => keyH w k
theorem keyIsN_none {v : Value} (h : keyIsN none v = true) : v = .none := by
  cases v <;> first | rfl | cases h
theorem hash_none {prog : Program} {w : World} {A : Around} {E : Value → Shared → Prop} {s : Shared} {Q : Int → Shared → Prop} (h : Q (reduceHash 0xFCA86420) { s with toks := s.toks + 1 }) : wpAny (model prog w) A (pyHash .none) Q E s :=
  PySem.W.pyHash_slot (T := "NoneType") rfl F.slot_NoneType_hash F.entry_NoneType_hash (F.args_NoneType_hash_1 _) (beq_builtin_none _) (.inl rfl) (wpAny_bind (wpAny_pure (wpAny_bind (wpAny_mkInt (wpAny_pure ⟨_, _, rfl, h⟩)))))
def mixN (prog : Program) (w : World) : PySem.KeyKind prog w (Option Key) where
  is := keyIsN
  hash := keyHN w
  inj := fun v a b ha hb => by
    cases a with
    | none =>
      cases keyIsN_none ha
      cases b with
      | none => rfl
      | some k => rcases keyIs_shape (show keyIs k .none = true from hb) with ⟨i, t, _, e⟩ | ⟨x, t, _, e⟩ <;> cases e
    | some k =>
      cases b with
      | none =>
        cases keyIsN_none hb
        rcases keyIs_shape (show keyIs k .none = true from ha) with ⟨i, t, _, e⟩ | ⟨x, t, _, e⟩ <;> cases e
      | some k' => rw [(mixKind prog w).inj v k k' ha hb]
  byValue := fun k v h => by
    cases k with
    | none => cases keyIsN_none h; rfl
    | some k => exact (mixKind prog w).byValue k v h
  pyHash := fun {A E s k v Q} hv h => by
    cases k with
    | none => cases keyIsN_none hv; exact hash_none h
    | some k => exact (mixKind prog w).pyHash (k := k) hv h
  eqBool := fun {A E s a b u v Q} hu hv h => by
    cases a with
    | none =>
      cases keyIsN_none hu
      cases b with
      | none => cases keyIsN_none hv; exact SeqAt.EqAt.same _ _ _ _ _ h
      | some k =>
        have h' : Q false s := by
          have e : decide ((none : Option Key) = some k) = false := decide_eq_false (fun q => nomatch q)
          rw [e] at h; exact h
        rcases keyIs_shape (show keyIs k v = true from hv) with ⟨i, t, _, rfl⟩ | ⟨x, t, _, rfl⟩
        · exact SeqAt.EqAt.none_int _ _ _ _ _ _ h'
        · exact SeqAt.EqAt.none_str _ _ _ _ _ _ h'
    | some k =>
      cases b with
      | none =>
        cases keyIsN_none hv
        have h' : Q false s := by
          have e : decide ((some k : Option Key) = none) = false := decide_eq_false (fun q => nomatch q)
          rw [e] at h; exact h
        rcases keyIs_shape (show keyIs k u = true from hu) with ⟨i, t, _, rfl⟩ | ⟨x, t, _, rfl⟩
        · exact SeqAt.EqAt.int_none _ _ _ _ _ _ h'
        · exact SeqAt.EqAt.str_none _ _ _ _ _ _ h'
      | some k' =>
        refine (mixKind prog w).eqBool (a := k) (b := k') hu hv ?_
        have e : decide ((some k : Option Key) = some k') = decide (k = k') := by
          by_cases q : k = k'
          · rw [q, decide_eq_true rfl, decide_eq_true rfl]
          · rw [decide_eq_false q, decide_eq_false (fun z => q (Option.some.inj z))]
        rw [e] at h; exact h
  «strs» := fun k x t v h => by
    cases k with
    | none => cases keyIsN_none h
    | some k => exact (mixKind prog w).strs k x t v h
theorem mapN {P : Program} {w : World} {h : Heap} {a : Addr} {f : Key → Option Value} (m : h.MapOf (mixKind P w) a f) : ∃ g, h.MapOf (mixN P w) a g ∧ g none = none := by
  obtain ⟨o, es, ep, h1, h2, h3, h4, h5⟩ := m
  refine ⟨fun k => findBy keyIsN es k, ⟨o, es, ep, h1, h2, h3, fun e he => ?_, fun _ => rfl⟩, ?_⟩
  · obtain ⟨k, hk, hh⟩ := h4 e he
    exact ⟨some k, hk, hh⟩
  · show findBy keyIsN es none = none
    unfold findBy
    have : es.find? (fun e => keyIsN none e.key) = none := by
      rw [Array.find?_eq_none]
      intro e he q
      obtain ⟨k, hk, _⟩ := h4 e he
      have z := keyIsN_none q
      rw [z] at hk
      rcases keyIs_shape (show keyIs k .none = true from hk) with ⟨i, t, _, e⟩ | ⟨x, t, _, e⟩ <;> cases e
    simp [this]
end L2
set_option Elab.async false
set_option linter.all false
set_option maxRecDepth 100000
set_option maxHeartbeats 400000
namespace L2
open PySem PySem.Spec PyProof.Rows
theorem vals_bls {k : Bool} : ∀ {bs : List Bool} {us : List Value}, Vals (bs.map V.bl) us → (∀ y ∈ us, ∃ b, y = Value.bool b) ∧ us.countP (isBoolOf k) = bs.count k
  | [], us, r => by
    cases r
    exact ⟨fun y hy => (List.not_mem_nil hy).elim, rfl⟩
  | b :: bs, us, r => by
    cases r with
    | cons r1 r2 =>
      rename_i u us'
      obtain rfl : u = Value.bool b := r1
      obtain ⟨h1, h2⟩ := vals_bls (k := k) r2
      refine ⟨fun y hy => ?_, ?_⟩
      · rcases List.mem_cons.mp hy with rfl | hy
        · exact ⟨b, rfl⟩
        · exact h1 y hy
      · rw [List.countP_cons, List.count_cons, h2]
        rfl
inductive rCountB_I (x : V) (vs : List V) (H : Hp) (Q : VK) : Prop
  | mk : ∀ (l : Addr) (bs : List Bool) (k : Bool), x = .ref l → vs = [.bl k] → H l = some (.lst (bs.map V.bl)) → Q (.int (bs.count k : Nat)) H → rCountB_I x vs H Q
def rCountB : V → List V → Hp → VK → Prop := fun x vs H Q => rCountB_I x vs H Q
theorem mt_countB {X : Cx} : MtR X "list.count" rCountB := by
  intro pins s σ H x vs v us Q I rx rv h
  obtain ⟨l, bs, k, rfl, rfl, hH, q⟩ := h
  cases rx
  obtain ⟨u, rfl, ru⟩ := vals1 rv
  obtain rfl : u = Value.bool k := ru
  obtain ⟨z, its, n, r, hl, e⟩ := I.lstM hH
  obtain ⟨h1, h2⟩ := vals_bls (k := k) r
  refine call_meets F.slot_list_count ⟨_, e, rfl⟩ F.entry_list_count (F.args_list_count_2 _ _) (SeqAt.list_countAt l its.toArray n _ _ (.bool k) (isBoolOf k)) ⟨e, fun y hy => ?_, ?_⟩
  · obtain ⟨b, rfl⟩ := h1 y (by simpa using hy)
    exact SeqAt.EqAt.bool_bool b k
  · rw [show its.toArray.toList = its from rfl, h2]
    exact ⟨.int (bs.count k : Nat), H, I.tok _, ⟨_, rfl⟩, q⟩
end L2
set_option Elab.async false
set_option linter.all false
set_option maxRecDepth 100000
set_option maxHeartbeats 400000
namespace L2
open PySem PySem.Spec PyProof.Rows
structure RoomU (k : Nat) (A : Around) : Prop where
  dp : A.depth + 3 * k + 5 < recursionLimit
  un : A.units + 16 * k + 200 < cLine
  gd : A.guards = some []
theorem Room.toU {k : Nat} {A : Around} (r : Room k A) : RoomU k A := ⟨r.dp, r.un, r.gd⟩
theorem RoomU.mono {j k : Nat} {A : Around} (r : RoomU k A) (h : j ≤ k) : RoomU j A := ⟨by have := r.dp; omega, by have := r.un; omega, r.gd⟩
theorem RoomU.mark {k : Nat} {A : Around} (r : RoomU k A) (ev : Option Value) : RoomU k (A.mark ev) := ⟨r.dp, r.un, r.gd⟩
theorem RoomU.deeper {k : Nat} {A : Around} (r : RoomU (k + 1) A) (env : Env) : RoomU k (A.deeper env) :=
  ⟨by have := r.dp; show A.depth + 1 + 3 * k + 5 < _; omega, by have := r.un; show A.units + 3 + 16 * k + 200 < _; omega, r.gd⟩
theorem RoomU.depth {k : Nat} {A : Around} (r : RoomU k A) : A.depth < recursionLimit := by have := r.dp; omega
theorem RoomU.units {k : Nat} {A : Around} (r : RoomU k A) : A.units + 64 < cLine := by have := r.un; omega
structure FnOkU (P : Program) (w : World) (K : PySem.W.Frag) (mg : Str → Option Value) (base : Heap) (k : Nat) (f : Addr) (fd : FuncData) (ps : List Str) (sp : Sp) : Prop where
  len : ∀ vs H Q E, sp vs H Q E → vs.length = ps.length
  run : ∀ (A : Around) (outer : List Env) (s : Shared) (H : Hp) (args : Args) (us : List Value) (vs : List V) (Q : VK) (E : XK), RoomU k A → Env0 P w K mg base A outer s H → BindsTo s fd args (ps.zip us) → Vals vs us → sp vs H Q E →
    codeAny (model P w) A (.call (.ref f) args) (CR CX0 outer P w H s Q E) s
/-- the context of such a body -/
def cxU (P : Program) (w : World) (K : PySem.W.Frag) (mg : Str → Option Value) (base : Heap) (N : List Str) (qual : Str) (scope : Scope) (f : Addr) (cd : Value) (A : Around) (outer : List Env) (s : Shared) (H : Hp) (E : XK) : Cx :=
  { cxOf CX0 P w K mg base N qual scope f cd A outer s H E with calm := false, xe := fun _ _ => False }
theorem Inv.toU {P : Program} {w : World} {K : PySem.W.Frag} {mg : Str → Option Value} {base : Heap} {N : List Str} {qual : Str} {scope : Scope} {f : Addr} {cd : Value} {A : Around} {outer : List Env} {s s1 : Shared} {H H1 : Hp} {E : XK} {σ : St} {pins : List (Addr × Obj)}
    (I : Inv (cxOf CX0 P w K mg base N qual scope f cd { A with handled := none } outer s H E) pins σ H1 s1) : Inv (cxU P w K mg base N qual scope f cd A outer s H E) pins σ H1 s1 :=
  ⟨⟨I.ok.mod, I.ok.kind, I.ok.glob, I.ok.blt, I.ok.above, I.ok.inj, I.ok.has, I.ok.cab, (fun z => nomatch z), I.ok.frames, I.ok.stk, I.ok.exf, I.ok.bs, I.ok.bsz, I.ok.noex, I.ok.exfs, I.ok.funs, I.ok.frf⟩, I.os, I.bare, I.base, I.loc, I.cell, I.free, I.freeC, I.pin, I.hok, I.len⟩
theorem fn_ofU {P : Program} {w : World} {K : PySem.W.Frag} {mg : Str → Option Value} {base : Heap} {k : Nat} {f : Addr} {name qual : Str} {params : Arguments} {body : List Stmt} {scope : Scope} {dV kV doc pm cdv ct oc : Value} {an od : Option Addr}
    {osl : Array (Option Value)} {N ps : List Str} {sp : Sp} (lk : K.lookup f = some ⟨oc, od, .func (PySem.W.fnOf name qual params body scope dV kV doc pm an cdv ct), osl⟩) (hcd : PySem.W.codeIn K cdv qual = true) (S : FnScope N ps scope)
    (len : ∀ vs H Q E, sp vs H Q E → vs.length = ps.length)
    (hbody : ∀ (A : Around) (outer : List Env) (s : Shared) (H : Hp) (vs : List V) (Q : VK) (E : XK), RoomU k (A.deeper (envOfC qual scope s.heap.objs.size f cdv)) → sp vs H Q E →
      ∃ t, PSs (cxU P w K mg base N qual scope f cdv A outer s H E) body t ∧ t { nx := fun _ H' => Q .non H', rt := Q } (start N vs) H) :
    FnOkU P w K mg base (k + 1) f (PySem.W.fnOf name qual params body scope dV kV doc pm an cdv ct) ps sp := by
  refine ⟨len, fun A outer s H args us vs Q E hr e0 hb r hsp => ?_⟩
  have hl := len _ _ _ _ hsp
  have KX : K.In s.heap := e0.mod.kin.keeps fun b o e => (e0.bs b o e).1
  have lim : s.heap.NoLimit := e0.mod.nolimit.keeps fun b o e => (e0.bs b o e).1
  have hkind : ∀ y ∈ ps.zip us, scope.names.lookup y.1 = some .local ∨ (scope.names.lookup y.1 = some .cell ∧ ((cellsFrom (s.heap.objs.size + 1) scope.names []).lookup y.1).isSome = true) := fun ⟨n, v⟩ hy => by
    rcases S.par n (List.of_mem_zip hy).1 with q | q
    · exact .inl q
    · exact .inr ⟨q, PySem.W.cellsFrom_some _ _ _ (.inl q)⟩
  refine codeAny_call_function hr.depth (KX _ _ lk) rfl S.co S.gen rfl (PySem.W.codeRec_of KX hcd) (hb _ _ _ _ ?_)
  refine wpAny_newFunctionEnv_cells S.kind hkind fun env he s1 x => ?_
  subst he
  refine ⟨lim.keeps x.toInCall.keep, codeAny_func ?_⟩
  obtain ⟨t, ht, hq⟩ := hbody A outer s H vs Q E (hr.deeper _) hsp
  have e0' : Env0 P w K mg base { A with handled := none } outer s H := ⟨e0.frames, e0.mod, e0.bs, e0.bsz, e0.funs, e0.frf, e0.hok, e0.bare⟩
  have I0 : Inv (cxOf CX0 P w K mg base N qual scope f cdv { A with handled := none } outer s H E) [] (start N vs) H s1 := inv_start S rfl e0' hl r x
  have I : Inv (cxU P w K mg base N qual scope f cdv A outer s H E) [] (start N vs) H s1 := I0.toU
  refine wpAny_mono (ht [] s1 (start N vs) H _ I hq) (fun fl s' hs => ?_) fun e s' hs => hs.elim
  have fin : ∀ {σ' : St} {H' : Hp} {v : V} {u : Value}, Inv (cxU P w K mg base N qual scope f cdv A outer s H E) [] σ' H' s' → RelV v u → Q v H' → CE outer P w H s Q u s' :=
    fun {σ' H' v u} J rv q => ⟨v, H', J.os, J.bare, J.base, J.hok, rv, q⟩
  cases fl with
  | ret u =>
    obtain ⟨v, σ', H', J, rv, q⟩ := hs
    exact fin J rv q
  | next =>
    obtain ⟨σ', H', J, q⟩ := hs
    exact fin (v := V.non) (u := Value.none) J rfl q
  | brk =>
    obtain ⟨_, _, _, q⟩ := hs
    exact False.elim q
  | cont =>
    obtain ⟨_, _, _, q⟩ := hs
    exact False.elim q
theorem Fun.okU {P : Program} {w : World} {K : PySem.W.Frag} {mg : Str → Option Value} {base : Heap} {x qual : Str} {st : Stmt} {f : Addr} {fd : FuncData} {N ps : List Str} {k : Nat} {sp : Sp} (F : Fun K x qual st f fd) (S : FnScope N ps (defScope st)) (len : ∀ vs H Q E, sp vs H Q E → vs.length = ps.length)
    (hbody : ∀ (cdv : Value) (A : Around) (outer : List Env) (s : Shared) (H : Hp) (vs : List V) (Q : VK) (E : XK), RoomU k (A.deeper (envOfC qual (defScope st) s.heap.objs.size f cdv)) → sp vs H Q E →
      ∃ t, PSs (cxU P w K mg base N qual (defScope st) f cdv A outer s H E) (defBody st) t ∧ t { nx := fun _ H' => Q .non H', rt := Q } (start N vs) H) : FnOkU P w K mg base (k + 1) f fd ps sp := by
  obtain ⟨oc, od, kV, doc, pm, an, cdv, ct, osl, rfl, lk, hcd⟩ := F.ex
  exact fn_ofU lk hcd S len fun A outer s H vs Q E hr hsp => hbody cdv A outer s H vs Q E hr hsp
section
variable {X : Cx} {k : Nat} {f : Addr} {fd : FuncData} {ps : List Str} {sp : Sp} {dvs : List V} {ds : List Value} {E : XK} {x : Str} {p pos : Pos} {e : Expr} {es : List Expr} {t : TA}
theorem run_fnU {pins : List (Addr × Obj)} {σ : St} {H : Hp} {s : Shared} {Q : VK} {us : List Value} {vs : List V} (F : FnOkU X.prog X.w X.K X.mg X.base k f fd ps sp) (hr : RoomU k X.A) (hb : Binds X.K fd ps ds) (hd : Vals dvs ds)
    (I : Inv X pins σ H s) (r : Vals vs us) (h : sp (vs ++ dvs) H Q E) : wpAny (model X.prog X.w) X.A (call (.ref f) us) (EP X pins σ Q) X.xe s := by
  have r2 : Vals (vs ++ dvs) (us ++ ds) := r.append hd
  have hl : (us ++ ds).length = ps.length := by rw [← r2.length]; exact F.len _ _ _ _ h
  refine wpAny_call (codeAny_mono (F.run X.A X.stack s H ⟨us, []⟩ (us ++ ds) (vs ++ dvs) Q E hr I.env0 (hb s us I.kIn hl) r2 h) fun r s' hq => ?_)
  cases r with
  | error e => exact False.elim hq
  | ok fl =>
    cases fl with
    | ret u => exact I.after hq
    | next => exact False.elim hq
    | brk => exact False.elim hq
    | cont => exact False.elim hq
theorem pe_callU (F : FnOkU X.prog X.w X.K X.mg X.base k f fd ps sp) (hr : RoomU k X.A) (hg : Gl X x) (hm : X.mg x = some (.ref f)) (hk : PySem.W.keepIn X.K (.ref f) = true) (hb : Binds X.K fd ps ds) (hd : Vals dvs ds)
    (ha : PA X (e :: es) t) (hdb : (x == ("__debug__" : Str)) = false := by decide) (he : starEach (e :: es) X.env = (false, eval e X.env) :: starEach es X.env := by rfl) (hpl : (backTo pos (starEach es X.env)).any (·.1) = false := by rfl) :
    PE X (.Call (.Name x p) (e :: es) [] pos) (tCall sp dvs E t) := by
  intro pins s σ H Q I h
  refine wpAny_Call_Name_kw (ld_glob I hg hm ?_ hdb)
  refine PySem.W.callWith_K (h₀ := X.base) I.ok.mod.kin hk (thn (ha pos pins s σ H _ I h) fun us s1 ⟨vs, H1, I1, r, q⟩ => ⟨I1.kIn, ?_⟩) he hpl
  exact run_fnU F hr hb hd I1 r q
end
end L2
set_option Elab.async false
set_option linter.all false
set_option maxRecDepth 100000
set_option maxHeartbeats 400000
namespace L2
open PySem PySem.Spec PyProof.Rows
def rIsExc (K : PySem.W.Frag) : List V → Hp → VK → Prop := fun xs H Q => ∃ e C c cv b, xs = [.ref e, c] ∧ H e = some (ExcO C e) ∧ XGet K C ∧ clsV c = some cv ∧ PySem.W.kitOne K (.ref C) cv = some b ∧ Q (.bl b) H
theorem call_isexcK {X : Cx} (K : PySem.W.Frag) (hK : X.K = K := by rfl) : CallR X (.builtin "isinstance") (rIsExc K) := hK ▸ call_isexc
section
variable {X : Cx} {o e : Expr} {es : List Expr} {to : TE} {t : TA} {name : Str} {apos cpos : Pos} {T id : String} {r : V → List V → Hp → VK → Prop}
end
theorem boot_VE : bootBuiltins "ValueError" = some (.type "ValueError") := by decide +kernel
def MissV (y : V) (kvs : List (Key × V)) : Prop := y = .non ∨ ∃ k, y = kV k ∧ valV kvs k = none
inductive tMiss_I (Q : VK) (y : V) (x : V) (H2 : Hp) : Prop
  | mk : ∀ a kvs, x = .ref a → H2 a = some (.dK kvs) → MissV y kvs → Q (.bl true) H2 → tMiss_I Q y x H2
def tMiss (ty td : TE) : TE := fun σ H Q => ty σ H fun y H1 => td σ H1 fun x H2 => tMiss_I Q y x H2
theorem pc_miss {X : Cx} {i o : Expr} {ty td : TE} (hu : X.A.units + 1 < cLine) (hi : PE X i ty) (ho : PE X o td) : PC X .NotIn i o (tMiss ty td) := by
  intro pins s σ H Q I h
  refine thn (hi pins s σ H _ I h) fun iv s1 ⟨y, H1, I1, ry, q1⟩ => thn (ho pins s1 σ H1 _ I1 q1) fun u s2 ⟨x, H2, I2, rx, a, kvs, ex, ea, m, q2⟩ => ?_
  subst ex
  obtain rfl : u = Value.ref a := rx
  rcases m with rfl | ⟨k, rfl, hk⟩
  · obtain rfl : iv = Value.none := ry
    obtain ⟨z, hd, vs, rel, dd⟩ := dk_rd I2.hok (show Rd H2 a (.dK kvs) from .inl ea)
    obtain ⟨g, hg, gn⟩ := mapN dd.mapOf
    refine wpAny_notIn_of (knd := mixN X.prog X.w) (k := none) rfl hd hg ?_
    rw [gn]
    exact ⟨.bl true, H2, I2.tok _, rfl, q2⟩
  · have g : DGet H2 a (kV k) (valV kvs k) := DGet.k (k := k) ea
    rw [hk] at g
    exact d_notIn hu I2 g ry fun s3 I3 => ⟨.bl true, H2, I3, rfl, q2⟩
end L2
set_option Elab.async false
set_option maxRecDepth 100000
namespace Hd
open PySem PySem.W PySem.Calls PyProof.Rows L2
/-- the top's run over a tree of objects, to its end -/
noncomputable def runT (st : SharedT → Thread → Option (SharedT × Thread)) (ok : Thread → Bool) (n : Nat) : SharedT → Thread → Option SharedT :=
  @Nat.rec (fun _ => SharedT → Thread → Option SharedT) (fun _ _ => none) (fun _ ih s t => match through t with
    | true => some s
    | false => match ok t with
      | false => none
      | true => match st s t with
        | some (s', t') => ih s' t'
        | none => none) n
theorem runT_succ (st : SharedT → Thread → Option (SharedT × Thread)) (ok : Thread → Bool) (n : Nat) (s : SharedT) (t : Thread) : runT st ok (n + 1) s t = (match through t with
    | true => some s
    | false => match ok t with
      | false => none
      | true => match st s t with
        | some (s', t') => runT st ok n s' t'
        | none => none) := rfl
theorem runT_of {tb : String → Option Builtin} {p : Program} {w : World} {n₀ : Nat} {ann : Option Value} : ∀ (n : Nat) (s : SharedT) (t : Thread) (s' : SharedT),
    runT (stepT (denote tb) p w) (stepOk n₀ ann) n s t = some s' → topRun tb p w n₀ ann n s.abs t = some s'.abs
  | 0, _, _, _, h => nomatch (h : none = some _)
  | n + 1, s, t, s', h => by
    rw [runT_succ] at h
    unfold topRun
    cases ht : through t with
    | true => rw [ht] at h; cases h; rfl
    | false =>
      rw [ht] at h
      cases hk : stepOk n₀ ann t with
      | false => rw [hk] at h; cases h
      | true =>
        rw [hk] at h
        dsimp only at h ⊢
        cases hs : stepT (denote tb) p w s t with
        | none => rw [hs] at h; cases h
        | some x =>
          obtain ⟨s₂, t₂⟩ := x
          rw [hs] at h
          rw [stepT_spec hs]
          exact runT_of n s₂ t₂ s' h
def btFrom (t : BT) (n : Nat) : List Obj → BT
  | [] => t
  | o :: r => btFrom (t.ins n o) (n + 1) r
noncomputable def bootT (P : Params) : BT := btFrom .nil 0 (boot_heap P).objs.toList
theorem boot_size (P : Params) : ((boot_heap P).isNs mainGlobals, (boot_heap P).objs.size, (boot_heap P).nsMap mainGlobals "__annotations__") = (true, 11, some (.ref 6)) := by kernel_rfl
theorem boot_abs (P : Params) : absHeap (bootT P) 11 {} = boot_heap P := by kernel_rfl
/-- what stands when the top begins -/
noncomputable def S0 (w : World) (os : OsState) : SharedT := ⟨bootT w.params, 11, {}, #[], boot_drawn, boot_toks, os⟩
theorem S0_abs (w : World) (os : OsState) : (S0 w os).abs = ⟨boot_heap w.params, #[], boot_drawn, boot_toks, os⟩ := congrArg (fun h => (⟨h, #[], boot_drawn, boot_toks, os⟩ : Shared)) (boot_abs w.params)
noncomputable def chk (p : Program) (P : Params) (s : Shared) : Bool := staticsOk (importedModules p.main.body) (boot_heap P) s.heap && namesBound p s.heap && gensDone s && laidKept (boot_heap P) s.heap
noncomputable abbrev stepQ : (Code → Sem Fin) → Program → World → SharedT → Thread → Option (SharedT × Thread) := PySem.W.Fast.tw10156331382660048174
noncomputable abbrev denQ : Code → Sem Fin := PySem.W.Fast.tw11892475500146522536 PySem.W.Fast.tw14364793385576792824
noncomputable abbrev okQ : Nat → Option Value → Thread → Bool := PySem.W.Fast.tw6613529449190102663
noncomputable abbrev seenQ := @PySem.W.Fast.tw4187177175401517315
theorem left {p q : Program} {loose : List Str} {Xt : Shared → Bool} {α : Type} {Yf : Shared → α} {Ya : World → α} {N : Nat} (e : opening p = plainProg p.main.scope.names) (hN : Nat.ble 600 N = true) (f : ∀ s, fenceModules? p s = some s)
    (h : ∀ (w : World) (os : OsState), (runT (stepQ denQ p w) (okQ 11 (some (.ref 6))) N (S0 w os) (topStub p)).map (fun s => (chk p w.params s.abs, seenQ q loose (importedModules p.main.body) Xt true s.abs, Yf s.abs)) = some (true, openGood q loose, Ya w)) :
    LeftO p q loose Xt Yf Ya N := fun w => by
  obtain ⟨⟨hh, gs, d, k, os⟩, e1, e'⟩ := Option.map_eq_some_iff.mp (boot_open e hN f w)
  obtain ⟨rfl, rfl, rfl, rfl⟩ : hh = boot_heap w.params ∧ gs = #[] ∧ d = boot_drawn ∧ k = boot_toks := by simpa using e'
  have h := h w os
  unfold stepQ denQ okQ seenQ at h
  rw [← PySem.W.Fast.te10156331382660048174, ← PySem.W.Fast.te11892475500146522536, ← PySem.W.Fast.te14364793385576792824, ← PySem.W.Fast.te6613529449190102663, ← PySem.W.Fast.te4187177175401517315] at h
  obtain ⟨s, r, l⟩ := Option.map_eq_some_iff.mp h
  obtain ⟨l1, l2, l3⟩ : _ ∧ _ ∧ _ := by simpa only [Prod.mk.injEq] using l
  have r := runT_of N _ _ _ r
  rw [S0_abs] at r
  obtain ⟨z1, z2, z3⟩ : _ ∧ _ ∧ _ := by simpa only [Prod.mk.injEq] using boot_size w.params
  have t : topFrom treeTable p w N ⟨boot_heap w.params, #[], boot_drawn, boot_toks, os⟩ = some s.abs := by
    unfold topFrom
    dsimp only
    rw [z1, z2, z3, r]
    show (match staticsOk (importedModules p.main.body) (boot_heap w.params) s.abs.heap && namesBound p s.abs.heap && gensDone s.abs && laidKept (boot_heap w.params) s.abs.heap with | true => _ | false => _) = _
    rw [show (staticsOk (importedModules p.main.body) (boot_heap w.params) s.abs.heap && namesBound p s.abs.heap && gensDone s.abs && laidKept (boot_heap w.params) s.abs.heap) = true from l1]
  unfold openEnds
  rw [e1]
  show (topFrom treeTable p w N _).map _ = _
  rw [t]
  exact congrArg some (Prod.ext l2 l3)
def fragH (h : Heap) : Frag := (List.range h.objs.size).filterMap fun a => (h.get? a).map fun o => (a, o)
theorem look_map (f : Nat → Option Obj) (a : Addr) (o : Obj) : ∀ l : List Nat, (l.filterMap fun a => (f a).map fun o => (a, o)).lookup a = some o → f a = some o
  | [], e => nomatch e
  | b :: l, e => by
    cases hb : f b with
    | none => rw [List.filterMap_cons_none (by rw [hb]; rfl)] at e; exact look_map f a o l e
    | some x =>
      rw [List.filterMap_cons_some (by rw [hb]; rfl), List.lookup_cons] at e
      split at e
      · rename_i q; cases e; rw [beq_iff_eq.mp q]; exact hb
      · exact look_map f a o l e
theorem frag_in (h : Heap) : (fragH h).In h := fun a o e => look_map h.get? a o _ e
def fragT (s : SharedT) : Frag := (List.range s.n).filterMap fun a => (match Nat.blt a s.n with | true => alive ((s.tree.get a).getD default) | false => none).map fun o => (a, o)
theorem fragT_eq (s : SharedT) : fragT s = fragH s.abs.heap := by
  unfold fragT fragH
  show _ = (List.range (absHeap s.tree s.n s.life).objs.size).filterMap fun a => ((absHeap s.tree s.n s.life).get? a).map fun o => (a, o)
  rw [absHeap_size]
  congr 1
  funext a
  congr 1
  unfold Heap.get?
  rw [absHeap_at]
  cases h : Nat.blt a s.n with
  | true =>
    rw [if_pos (show a < s.n from Nat.le_of_ble_eq_true h)]
    dsimp only
    cases (s.tree.get a).getD default with
    | mk c d dt sl => cases dt <;> rfl
  | false =>
    rw [if_neg (fun q => by rw [show Nat.blt a s.n = true from Nat.ble_eq_true_of_le q] at h; cases h)]
/-- what the walk asks of it -/
def says {α : Type} (obs : Frag → α) (good : α) (_ : World) (h : Heap) : Prop := ∃ K : Frag, K.In h ∧ obs K = good
theorem close {l : OpenLaw} {q : Program} {loose : List Str} {d : DefRec} {α : Type} {obs : Frag → α} {good : α} {N : Nat}
    (look : PySem.W.Fast.tw9446332074065402090 l = true) (e : opening l.prog = plainProg l.prog.main.scope.names) (hN : Nat.ble 600 N = true) (f : ∀ s, fenceModules? l.prog s = some s)
    (h : ∀ (w : World) (os : OsState), (runT (stepQ denQ l.prog w) (okQ 11 (some (.ref 6))) N (S0 w os) (topStub l.prog)).map (fun s => (chk l.prog w.params s.abs, seenQ q loose (importedModules l.prog.main.body) (fun s => recOk [] s) true s.abs, obs (fragT s))) = some (true, openGood q loose, good))
    (hdef : defOf q l.name = some (d, [])) (hp : l.prog.theDef l.name = some (d.params, d.body, d.scope)) (hk : kwWritten? d.params.kwonlyargs d.params.kw_defaults = some []) (hwr : (!l.writes || ([] : WRecords).isEmpty) = true)
    (ok : (chainsOk q && opensWell l.prog && (frees l.row.toRowW && l.row.within.isEmpty)) = true) (hb : l.prog.bare) (hw : l.row.toRowW.promised)
    (call : WalkO q loose (fun _ _ => True) (says obs good) l.row.toRowW d [] fun f vs => PySem.call f vs) : l.Holds := by
  rw [← PySem.W.Fast.te9446332074065402090] at look
  refine holds_law look fun said => ?_
  have lf : LeftO l.prog q loose (fun s => recOk [] s) (fun s => obs (fragH s.heap)) (fun _ => good) N := left e hN f fun w os => by
    have := h w os
    rw [show (fun s : SharedT => (chk l.prog w.params s.abs, seenQ q loose (importedModules l.prog.main.body) (fun s => recOk [] s) true s.abs, obs (fragT s))) = fun s => (chk l.prog w.params s.abs, seenQ q loose (importedModules l.prog.main.body) (fun s => recOk [] s) true s.abs, obs (fragH s.abs.heap)) from funext fun s => by rw [fragT_eq]] at this
    exact this
  exact holds_open (r := l.row) (q := q) (loose := loose) (Xt := fun s => recOk [] s) (XP := fun _ _ => True) (YP := says obs good) lf (fun _ s y => ⟨fragH s.heap, frag_in _, y⟩) (fun _ _ _ ⟨K, X, y⟩ k => ⟨K, X.keeps k, y⟩) (fun _ _ => trivial) (fun _ _ _ _ _ => trivial) hdef hp hk (fun _ e => recFacts_of e) hwr said ok hb hw call
def bareV : Value → Value
  | .int n _ => .int n 0
  | .str x _ => .str x 0
  | v => v
def dflOf (K : Frag) : Value → Option (List Value)
  | .none => none
  | .ref D => (match K.lookup D with
    | some ⟨_, _, .seq items _, _⟩ => some (items.toList.map bareV)
    | _ => some [])
  | _ => some []
def adOf : Option (Option Value) → Addr
  | some (some (.ref f)) => f
  | _ => 0
def see (K : Frag) (r : Option (Option Value)) (q : Str) : Option (FuncData × Option (List Value)) × Bool := match r with
  | some (some (.ref f)) => (match K.lookup f with
    | some ⟨_, _, .func fd, _⟩ => (some ({ fd with defaults := .none, kwdefaults := .none, doc := .none, pyModule := .none, annotations := none, code := .none, closureTuple := .none }, dflOf K fd.defaults), codeIn K fd.code q && (keepIn K (.ref f) && isFn K (.ref f)))
    | _ => (none, false))
  | _ => (none, false)
abbrev bareFn (x q : Str) (st : Stmt) : FuncData := fnOf x q (defArgs st) (defBody st) (defScope st) .none .none .none .none none .none .none
theorem see_inv {K : Frag} {r : Option (Option Value)} {x q : Str} {st : Stmt} {ds : Option (List Value)} (h : see K r q = (some (bareFn x q st, ds), true)) : ∃ (oc : Value) (od : Option Addr) (dV kV doc pm : Value) (an : Option Addr) (cdv ct : Value) (osl : Array (Option Value)),
    r = some (some (.ref (adOf r))) ∧ K.lookup (adOf r) = some ⟨oc, od, .func (fnOf x q (defArgs st) (defBody st) (defScope st) dV kV doc pm an cdv ct), osl⟩ ∧ dflOf K dV = ds ∧ codeIn K cdv q = true ∧ keepIn K (.ref (adOf r)) = true ∧ isFn K (.ref (adOf r)) = true := by
  unfold see at h
  split at h
  · rename_i f
    split at h
    · rename_i oc od fd osl hl
      obtain ⟨h1, h2⟩ := Prod.mk.inj h
      obtain ⟨h3, h4⟩ := Prod.mk.inj (Option.some.inj h1)
      obtain ⟨c1, c2⟩ := Bool.and_eq_true_iff.mp h2
      obtain ⟨c2, c3⟩ := Bool.and_eq_true_iff.mp c2
      obtain ⟨n, qn, ps, b, sc, g, cl, dV, kV, doc, pm, an, cdv, ct, bs⟩ := fd
      simp only [FuncData.mk.injEq] at h3
      obtain ⟨rfl, rfl, rfl, rfl, rfl, rfl, rfl, -, -, -, -, -, -, -, rfl⟩ := h3
      exact ⟨oc, od, dV, kV, doc, pm, an, cdv, ct, osl, rfl, hl, h4, c1, c2, c3⟩
    · cases h
  · cases h
/-- a def without defaults -/
theorem see_fun {K : Frag} {r : Option (Option Value)} {x q : Str} {st : Stmt} (h : see K r q = (some (bareFn x q st, none), true)) : r = some (some (.ref (adOf r))) ∧ keepIn K (.ref (adOf r)) = true ∧ isFn K (.ref (adOf r)) = true ∧ ∃ fd, Fun K x q st (adOf r) fd := by
  obtain ⟨oc, od, dV, kV, doc, pm, an, cdv, ct, osl, h1, h2, h3, h4, h5, h6⟩ := see_inv h
  have : dV = .none := by
    cases dV with
    | none => rfl
    | ref D => simp only [dflOf] at h3; split at h3 <;> cases h3
    | _ => cases h3
  subst this
  exact ⟨h1, h5, h6, _, fun_mk h2 h4 h5⟩
/-- a def with defaults -/
theorem see_funD {K : Frag} {r : Option (Option Value)} {x q : Str} {st : Stmt} {b : Value} {bs : List Value} (h : see K r q = (some (bareFn x q st, some (b :: bs)), true)) : r = some (some (.ref (adOf r))) ∧ keepIn K (.ref (adOf r)) = true ∧ isFn K (.ref (adOf r)) = true ∧
    ∃ (D : Addr) (kV doc pm : Value) (an : Option Addr) (cdv ct : Value) (o : Obj) (items : List Value) (n : Nat), FunD K x q st (adOf r) (fnOf x q (defArgs st) (defBody st) (defScope st) (.ref D) kV doc pm an cdv ct) ∧ K.lookup D = some o ∧ o.data = .seq items.toArray n ∧ items.map bareV = b :: bs := by
  obtain ⟨oc, od, dV, kV, doc, pm, an, cdv, ct, osl, h1, h2, h3, h4, h5, h6⟩ := see_inv h
  cases dV with
  | none => cases h3
  | ref D =>
    simp only [dflOf] at h3
    split at h3
    · rename_i c dd items n sl hl
      refine ⟨h1, h5, h6, D, kV, doc, pm, an, cdv, ct, _, items.toList, n, fun_mkD h2 h4 h5, hl, ?_, Option.some.inj h3⟩
      rw [Array.toArray_toList]
    · cases h3
  | _ => cases h3
theorem map2 {f : Value → Value} {b c : Value} {l : List Value} (h : l.map f = [b, c]) : ∃ u v, l = [u, v] ∧ f u = b ∧ f v = c := by
  match l, h with
  | [u, v], h => exact ⟨u, v, rfl, (List.cons.inj h).1, (List.cons.inj (List.cons.inj h).2).1⟩
def bv : V → Value
  | .int n => .int n 0
  | .str x => .str x 0
  | .bl b => .bool b
  | _ => .none
def flat : V → Bool
  | .int _ | .str _ | .bl _ | .non => true
  | _ => false
theorem bare_rel {v : V} {u : Value} (h : bareV u = bv v) (hv : flat v = true := by rfl) : RelV v u := by
  cases v <;> first | (cases hv; done) | skip
  all_goals (cases u <;> first | (cases h; done) | skip)
  all_goals first | rfl | (injection h with h1; subst h1; exact ⟨_, rfl⟩) | (injection h with h1 _; subst h1; exact ⟨_, rfl⟩) | (injection h with h1; subst h1; rfl)
/-- the value of a name of the text's -/
abbrev gl (K : Frag) (x : Str) : Option (Option Value) := nsIn K mainGlobals x
abbrev cl (K : Frag) (x : Str) : Addr := adOf (gl K x)
theorem all_at {l : List Bool} (h : l.all id = true) (i : Nat) {b : Bool} (e : l[i]? = some b) : b = true := List.all_eq_true.mp h b (List.mem_of_getElem? e)
theorem eq_at {α : Type} {l m : List α} (h : l = m) (i : Nat) {a b : α} (e : l[i]? = some a) (e' : m[i]? = some b) : a = b := by
  subst h
  exact Option.some.inj (e.symm.trans e')
/-- the goal that the closing leaves, from the law's promise -/
theorem walk {l : OpenLaw} {n k : Nat} {q : Program} {loose : List Str} {XP : (Str → Option Value) → Heap → Prop} {α : Type} {obs : Frag → α} {good : α} {d : DefRec} {sp : Frag → Sp} {x : Str}
    (hn : l.most = some n) (hn2 : n ≤ sizeLine) (hdf : d.params.defaults = []) (hr : Room k callerA)
    (F : ∀ (w : World) (K : Frag) (mg : Str → Option Value) (fa : Addr) (h : Heap), K.In h → obs K = good → h.Ns mainGlobals mg → mg d.name = some (.ref fa) →
      ∃ fd : FuncData, (∀ (s : Shared) (u : Value), BindsTo s fd ⟨[u], []⟩ [(x, u)]) ∧ ∀ base : Heap, K.In base → base.Ns mainGlobals mg → FnOk l.prog w K mg base CX0 k fa fd [x] (sp K))
    (hsp : ∀ (K : Frag) (H : Hp) (a : Addr) (ns : List Int), ns.length ≤ n → Only H → SqL K H a (ns.map V.int) → sp K [.ref a] H (fun v _ => v = .bl true) fun _ _ _ => False) :
    WalkO q loose XP (says obs good) l.row.toRowW d [] (fun f vs => PySem.call f vs) := by
  refine Att.attach_call hn hdf fun w s₀ s₁ mg mb fa o pm cd doc a vs ns G Y ho hd hcd hmg hobj hints hlen hg => ?_
  obtain ⟨K, KX, y⟩ := Y
  obtain ⟨fd, hb, hF⟩ := F w K mg fa _ KX y G.T.g hmg
  exact law_call KX G.T.g G.T.b G.T.builtins G.T.nolimit hg hobj hints (Nat.le_trans hlen hn2) hr hF hb (fun H hO hS => hsp K H a ns hlen hO hS) fun _ _ _ z => z
/-- a constant of the text -/
theorem const_at {K : Frag} {h : Heap} {mg : Str → Option Value} {x : Str} {v : V} (X : K.In h) (G : h.Ns mainGlobals mg) (e : (gl K x).map (Option.map bareV) = some (some (bv v))) (hv : flat v = true := by rfl) : ∃ u, mg x = some u ∧ RelV v u := by
  obtain ⟨r, h1, h2⟩ := Option.map_eq_some_iff.mp e
  obtain ⟨u, h3, h4⟩ := Option.map_eq_some_iff.mp h2
  subst h3
  exact ⟨u, mg_of X G h1, bare_rel h4 hv⟩
theorem no_at {K : Frag} {C : Addr} {f : Str} (h : decide (findIn K (.ref C) f = some none) = true) : NoAttr K C f := by have e : findIn K (.ref C) f = some none := of_decide_eq_true h; exact e
end Hd
set_option maxHeartbeats 4000000
namespace K32
open PySem L2
def top (i : Nat) : Stmt := PySem.Challenge.pw_mailroom_k32_folders_refused.main.body.getD i (.Pass ⟨0, 0, 0, 0⟩)
abbrev swall : Stmt := top 0
abbrev scheck_there : Stmt := top 10
abbrev scheck_new : Stmt := top 11
abbrev sl_row : Stmt := top 16
abbrev sl_word : Stmt := top 17
abbrev sl_done : Stmt := top 19
abbrev sl_does : Stmt := top 20
abbrev sl_some : Stmt := top 22
abbrev sl_of_one_class : Stmt := top 23
abbrev sl_asked : Stmt := top 24
abbrev sl_refused : Stmt := top 25
abbrev sl_odd_refused : Stmt := top 26
abbrev sl_goes : Stmt := top 27
abbrev sl_seen : Stmt := top 28
abbrev slaw : Stmt := top 29
abbrev sFolders_init : Stmt := inClass (top 14) 0
abbrev sFolders_add : Stmt := inClass (top 14) 1
abbrev sFolders_take_out : Stmt := inClass (top 14) 2
abbrev sFolders_put_in : Stmt := inClass (top 14) 3
abbrev sFolders_put_out : Stmt := inClass (top 14) 4
abbrev sFolders_place : Stmt := inClass (top 14) 5
abbrev sFolders_mark : Stmt := inClass (top 14) 6
abbrev sFolders_unmark : Stmt := inClass (top 14) 7
abbrev sFolders_folder : Stmt := inClass (top 14) 8
abbrev sFolders_marks : Stmt := inClass (top 14) 9
abbrev sFolders_counts : Stmt := inClass (top 14) 10
abbrev sFolders_marked : Stmt := inClass (top 14) 11
abbrev sFolders_names : Stmt := inClass (top 14) 12
abbrev sFolders_folders : Stmt := inClass (top 14) 13
abbrev n_check_there : List Str := ["name", "there"]
theorem sc_check_there : FnScope n_check_there ["name", "there"] (defScope scheck_there) := ⟨rfl, rfl, rfl, by decide +kernel, rfl, by decide +kernel, by decide +kernel⟩
abbrev n_check_new : List Str := ["name", "there"]
theorem sc_check_new : FnScope n_check_new ["name", "there"] (defScope scheck_new) := ⟨rfl, rfl, rfl, by decide +kernel, rfl, by decide +kernel, by decide +kernel⟩
abbrev n_l_row : List Str := ["_law_script", "_law_many", "_law_found", "_law_more", "_law_k", "_law_cell"]
theorem sc_l_row : FnScope n_l_row ["_law_script", "_law_many"] (defScope sl_row) := ⟨rfl, rfl, rfl, by decide +kernel, rfl, by decide +kernel, by decide +kernel⟩
abbrev n_l_word : List Str := ["_law_base", "_law_turn", "_law_some_here", "_law_signs", "_law_size", "_law_at"]
theorem sc_l_word : FnScope n_l_word ["_law_base", "_law_turn"] (defScope sl_word) := ⟨rfl, rfl, rfl, by decide +kernel, rfl, by decide +kernel, by decide +kernel⟩
abbrev n_l_done : List Str := ["_law_own", "_law_deed_here"]
theorem sc_l_done : FnScope n_l_done ["_law_own", "_law_deed_here"] (defScope sl_done) := ⟨rfl, rfl, rfl, by decide +kernel, rfl, by decide +kernel, by decide +kernel⟩
abbrev n_l_does : List Str := ["_law_folders", "_law_deed_here", "_law_defaults", "_law_marks", "_law_found"]
theorem sc_l_does : FnScope n_l_does ["_law_folders", "_law_deed_here", "_law_defaults"] (defScope sl_does) := ⟨rfl, rfl, rfl, by decide +kernel, rfl, by decide +kernel, by decide +kernel⟩
abbrev n_l_some : List Str := ["_law_base", "_law_folders", "_law_marks"]
theorem sc_l_some : FnScope n_l_some ["_law_base"] (defScope sl_some) := ⟨rfl, rfl, rfl, by decide +kernel, rfl, by decide +kernel, by decide +kernel⟩
abbrev n_l_of_one_class : List Str := ["_law_e", "_law_found"]
theorem sc_l_of_one_class : FnScope n_l_of_one_class ["_law_e"] (defScope sl_of_one_class) := ⟨rfl, rfl, rfl, by decide +kernel, rfl, by decide +kernel, by decide +kernel⟩
abbrev n_l_asked : List Str := ["_law_folders", "_law_way", "_law_name", "_law_some_here", "_law_number"]
theorem sc_l_asked : FnScope n_l_asked ["_law_folders", "_law_way", "_law_name", "_law_some_here", "_law_number"] (defScope sl_asked) := ⟨rfl, rfl, rfl, by decide +kernel, rfl, by decide +kernel, by decide +kernel⟩
abbrev n_l_refused : List Str := ["_law_folders", "_law_way", "_law_name", "_law_some_here", "_law_number", "_law_e"]
theorem sc_l_refused : FnScope n_l_refused ["_law_folders", "_law_way", "_law_name", "_law_some_here", "_law_number"] (defScope sl_refused) := ⟨rfl, rfl, rfl, by decide +kernel, rfl, by decide +kernel, by decide +kernel⟩
abbrev n_l_odd_refused : List Str := ["_law_folders", "_law_some_here", "_law_number", "_law_odd"]
theorem sc_l_odd_refused : FnScope n_l_odd_refused ["_law_folders", "_law_some_here", "_law_number"] (defScope sl_odd_refused) := ⟨rfl, rfl, rfl, by decide +kernel, rfl, by decide +kernel, by decide +kernel⟩
abbrev n_l_goes : List Str := ["_law_folders", "_law_way", "_law_name", "_law_some_here", "_law_number"]
theorem sc_l_goes : FnScope n_l_goes ["_law_folders", "_law_way", "_law_name", "_law_some_here", "_law_number"] (defScope sl_goes) := ⟨rfl, rfl, rfl, by decide +kernel, rfl, by decide +kernel, by decide +kernel⟩
abbrev n_l_seen : List Str := ["_law_folders", "_law_own", "_law_some_here", "_law_found", "_law_name", "_law_box"]
theorem sc_l_seen : FnScope n_l_seen ["_law_folders", "_law_own", "_law_some_here"] (defScope sl_seen) := ⟨rfl, rfl, rfl, by decide +kernel, rfl, by decide +kernel, by decide +kernel⟩
abbrev n_law : List Str := ["_law_script", "_law_row_here", "_law_some_here", "_law_folders", "_law_own", "_law_k", "_law_deed_here", "_law_number", "_law_name", "_law_way", "_law_ahead", "_law_good", "_law_turn"]
theorem sc_law : FnScope n_law ["_law_script"] (defScope slaw) := ⟨rfl, rfl, rfl, by decide +kernel, rfl, by decide +kernel, by decide +kernel⟩
abbrev n_Folders_init : List Str := ["self"]
theorem sc_Folders_init : FnScope n_Folders_init ["self"] (defScope sFolders_init) := ⟨rfl, rfl, rfl, by decide +kernel, rfl, by decide +kernel, by decide +kernel⟩
abbrev n_Folders_add : List Str := ["self", "name", "folder", "marks", "word"]
theorem sc_Folders_add : FnScope n_Folders_add ["self", "name", "folder", "marks"] (defScope sFolders_add) := ⟨rfl, rfl, rfl, by decide +kernel, rfl, by decide +kernel, by decide +kernel⟩
abbrev n_Folders_take_out : List Str := ["self", "name"]
theorem sc_Folders_take_out : FnScope n_Folders_take_out ["self", "name"] (defScope sFolders_take_out) := ⟨rfl, rfl, rfl, by decide +kernel, rfl, by decide +kernel, by decide +kernel⟩
abbrev n_Folders_put_in : List Str := ["self", "name", "folder"]
theorem sc_Folders_put_in : FnScope n_Folders_put_in ["self", "name", "folder"] (defScope sFolders_put_in) := ⟨rfl, rfl, rfl, by decide +kernel, rfl, by decide +kernel, by decide +kernel⟩
abbrev n_Folders_put_out : List Str := ["self", "name", "folder"]
theorem sc_Folders_put_out : FnScope n_Folders_put_out ["self", "name"] (defScope sFolders_put_out) := ⟨rfl, rfl, rfl, by decide +kernel, rfl, by decide +kernel, by decide +kernel⟩
abbrev n_Folders_place : List Str := ["self", "name", "folder"]
theorem sc_Folders_place : FnScope n_Folders_place ["self", "name", "folder"] (defScope sFolders_place) := ⟨rfl, rfl, rfl, by decide +kernel, rfl, by decide +kernel, by decide +kernel⟩
abbrev n_Folders_mark : List Str := ["self", "name", "word"]
theorem sc_Folders_mark : FnScope n_Folders_mark ["self", "name", "word"] (defScope sFolders_mark) := ⟨rfl, rfl, rfl, by decide +kernel, rfl, by decide +kernel, by decide +kernel⟩
abbrev n_Folders_unmark : List Str := ["self", "name", "word"]
theorem sc_Folders_unmark : FnScope n_Folders_unmark ["self", "name", "word"] (defScope sFolders_unmark) := ⟨rfl, rfl, rfl, by decide +kernel, rfl, by decide +kernel, by decide +kernel⟩
abbrev n_Folders_folder : List Str := ["self", "name"]
theorem sc_Folders_folder : FnScope n_Folders_folder ["self", "name"] (defScope sFolders_folder) := ⟨rfl, rfl, rfl, by decide +kernel, rfl, by decide +kernel, by decide +kernel⟩
abbrev n_Folders_marks : List Str := ["self", "name"]
theorem sc_Folders_marks : FnScope n_Folders_marks ["self", "name"] (defScope sFolders_marks) := ⟨rfl, rfl, rfl, by decide +kernel, rfl, by decide +kernel, by decide +kernel⟩
abbrev n_Folders_counts : List Str := ["self", "folder", "whole"]
theorem sc_Folders_counts : FnScope n_Folders_counts ["self", "folder"] (defScope sFolders_counts) := ⟨rfl, rfl, rfl, by decide +kernel, rfl, by decide +kernel, by decide +kernel⟩
abbrev n_Folders_marked : List Str := ["self", "folder", "word"]
theorem sc_Folders_marked : FnScope n_Folders_marked ["self", "folder", "word"] (defScope sFolders_marked) := ⟨rfl, rfl, rfl, by decide +kernel, rfl, by decide +kernel, by decide +kernel⟩
abbrev n_Folders_names : List Str := ["self", "folder"]
theorem sc_Folders_names : FnScope n_Folders_names ["self", "folder"] (defScope sFolders_names) := ⟨rfl, rfl, rfl, by decide +kernel, rfl, by decide +kernel, by decide +kernel⟩
abbrev n_Folders_folders : List Str := ["self", "told", "folder", "counts"]
theorem sc_Folders_folders : FnScope n_Folders_folders ["self"] (defScope sFolders_folders) := ⟨rfl, rfl, rfl, by decide +kernel, rfl, by decide +kernel, by decide +kernel⟩
set_option genInjectivity false in
/-- where the top's things stand -/
structure Adr where
  f_wall : Addr
  f_check_there : Addr
  f_check_new : Addr
  f_l_row : Addr
  f_l_word : Addr
  f_l_done : Addr
  f_l_does : Addr
  f_l_some : Addr
  f_l_of_one_class : Addr
  f_l_asked : Addr
  f_l_refused : Addr
  f_l_odd_refused : Addr
  f_l_goes : Addr
  f_l_seen : Addr
  f_law : Addr
  f_Folders_init : Addr
  f_Folders_add : Addr
  f_Folders_take_out : Addr
  f_Folders_put_in : Addr
  f_Folders_put_out : Addr
  f_Folders_place : Addr
  f_Folders_mark : Addr
  f_Folders_unmark : Addr
  f_Folders_folder : Addr
  f_Folders_marks : Addr
  f_Folders_counts : Addr
  f_Folders_marked : Addr
  f_Folders_names : Addr
  f_Folders_folders : Addr
  C_Folders : Addr
  C_MailError : Addr
  C_NoName : Addr
  C_NoWord : Addr
  C_NoLetter : Addr
  C_NoRule : Addr
  C_NoParcel : Addr
  C_NoRow : Addr
  dummy : Nat := 0
structure Txt (K : PySem.W.Frag) (mg : Str → Option Value) (a : Adr) : Prop where
  m_wall : mg "_wall" = some (.ref a.f_wall)
  m_check_there : mg "check_there" = some (.ref a.f_check_there)
  m_check_new : mg "check_new" = some (.ref a.f_check_new)
  m_l_row : mg "_law_row" = some (.ref a.f_l_row)
  m_l_word : mg "_law_word" = some (.ref a.f_l_word)
  m_l_done : mg "_law_done" = some (.ref a.f_l_done)
  m_l_does : mg "_law_does" = some (.ref a.f_l_does)
  m_l_some : mg "_law_some" = some (.ref a.f_l_some)
  m_l_of_one_class : mg "_law_of_one_class" = some (.ref a.f_l_of_one_class)
  m_l_asked : mg "_law_asked" = some (.ref a.f_l_asked)
  m_l_refused : mg "_law_refused" = some (.ref a.f_l_refused)
  m_l_odd_refused : mg "_law_odd_refused" = some (.ref a.f_l_odd_refused)
  m_l_goes : mg "_law_goes" = some (.ref a.f_l_goes)
  m_l_seen : mg "_law_seen" = some (.ref a.f_l_seen)
  m_law : mg "law" = some (.ref a.f_law)
  g_SEEN : ∃ u, mg "SEEN" = some u ∧ RelV (.str "seen") u
  b_len : mg "len" = none
  b_range : mg "range" = none
  b_isinstance : mg "isinstance" = none
  b_str : mg "str" = none
  b_list : mg "list" = none
  b_tuple : mg "tuple" = none
  b_set : mg "set" = none
  b_min : mg "min" = none
  b_sorted : mg "sorted" = none
  mc_Folders : mg "Folders" = some (.ref a.C_Folders)
  c_Folders : Cls K a.C_Folders
  k_Folders : Mk K a.C_Folders a.f_Folders_init
  M_Folders_add : Meth K a.C_Folders "add" a.f_Folders_add
  M_Folders_take_out : Meth K a.C_Folders "take_out" a.f_Folders_take_out
  M_Folders_put_in : Meth K a.C_Folders "put_in" a.f_Folders_put_in
  M_Folders_put_out : Meth K a.C_Folders "put_out" a.f_Folders_put_out
  M_Folders_place : Meth K a.C_Folders "place" a.f_Folders_place
  M_Folders_mark : Meth K a.C_Folders "mark" a.f_Folders_mark
  M_Folders_unmark : Meth K a.C_Folders "unmark" a.f_Folders_unmark
  M_Folders_folder : Meth K a.C_Folders "folder" a.f_Folders_folder
  M_Folders_marks : Meth K a.C_Folders "marks" a.f_Folders_marks
  M_Folders_counts : Meth K a.C_Folders "counts" a.f_Folders_counts
  M_Folders_marked : Meth K a.C_Folders "marked" a.f_Folders_marked
  M_Folders_names : Meth K a.C_Folders "names" a.f_Folders_names
  M_Folders_folders : Meth K a.C_Folders "folders" a.f_Folders_folders
  n_Folders_boxes : NoAttr K a.C_Folders "boxes"
  n_Folders_tags : NoAttr K a.C_Folders "tags"
  n_Folders_inside : NoAttr K a.C_Folders "inside"
  mx_MailError : mg "MailError" = some (.ref a.C_MailError)
  x_MailError : Xcl K a.C_MailError
  mx_NoName : mg "NoName" = some (.ref a.C_NoName)
  x_NoName : Xcl K a.C_NoName
  s_NoName_MailError : mroIn K a.C_NoName a.C_MailError = true
  mx_NoWord : mg "NoWord" = some (.ref a.C_NoWord)
  mx_NoLetter : mg "NoLetter" = some (.ref a.C_NoLetter)
  mx_NoRule : mg "NoRule" = some (.ref a.C_NoRule)
  mx_NoParcel : mg "NoParcel" = some (.ref a.C_NoParcel)
  mx_NoRow : mg "NoRow" = some (.ref a.C_NoRow)
  xg_NoName : XGet K a.C_NoName
  ki_NoName_NoWord : PySem.W.kitOne K (.ref a.C_NoName) (.ref a.C_NoWord) = some false
  ki_NoName_NoLetter : PySem.W.kitOne K (.ref a.C_NoName) (.ref a.C_NoLetter) = some false
  ki_NoName_NoRule : PySem.W.kitOne K (.ref a.C_NoName) (.ref a.C_NoRule) = some false
  ki_NoName_NoName : PySem.W.kitOne K (.ref a.C_NoName) (.ref a.C_NoName) = some true
  ki_NoName_ValueError : PySem.W.kitOne K (.ref a.C_NoName) (.type "ValueError") = some true
  ki_NoName_NoParcel : PySem.W.kitOne K (.ref a.C_NoName) (.ref a.C_NoParcel) = some false
  ki_NoName_NoRow : PySem.W.kitOne K (.ref a.C_NoName) (.ref a.C_NoRow) = some false
  b_ValueError : mg "ValueError" = none
  top_ : True
structure Funs (K : PySem.W.Frag) (a : Adr) : Prop where
  F_wall : ∃ fd, Fun K "_wall" "_wall" swall a.f_wall fd ∧ Binds K fd ["k"] []
  F_check_there : ∃ fd, Fun K "check_there" "check_there" scheck_there a.f_check_there fd ∧ Binds K fd ["name", "there"] []
  F_check_new : ∃ fd, Fun K "check_new" "check_new" scheck_new a.f_check_new fd ∧ Binds K fd ["name", "there"] []
  F_l_row : ∃ fd, Fun K "_law_row" "_law_row" sl_row a.f_l_row fd ∧ Binds K fd ["_law_script", "_law_many"] []
  F_l_word : ∃ fd, Fun K "_law_word" "_law_word" sl_word a.f_l_word fd ∧ Binds K fd ["_law_base", "_law_turn"] []
  F_l_done : ∃ fd, Fun K "_law_done" "_law_done" sl_done a.f_l_done fd ∧ Binds K fd ["_law_own", "_law_deed_here"] []
  F_l_does : ∃ fd, Fun K "_law_does" "_law_does" sl_does a.f_l_does fd ∧ Binds K fd ["_law_folders", "_law_deed_here", "_law_defaults"] []
  F_l_some : ∃ fd, Fun K "_law_some" "_law_some" sl_some a.f_l_some fd ∧ Binds K fd ["_law_base"] []
  F_l_of_one_class : ∃ fd, Fun K "_law_of_one_class" "_law_of_one_class" sl_of_one_class a.f_l_of_one_class fd ∧ Binds K fd ["_law_e"] []
  F_l_asked : ∃ fd, Fun K "_law_asked" "_law_asked" sl_asked a.f_l_asked fd ∧ Binds K fd ["_law_folders", "_law_way", "_law_name", "_law_some_here", "_law_number"] []
  F_l_refused : ∃ fd, Fun K "_law_refused" "_law_refused" sl_refused a.f_l_refused fd ∧ Binds K fd ["_law_folders", "_law_way", "_law_name", "_law_some_here", "_law_number"] []
  F_l_odd_refused : ∃ fd, Fun K "_law_odd_refused" "_law_odd_refused" sl_odd_refused a.f_l_odd_refused fd ∧ Binds K fd ["_law_folders", "_law_some_here", "_law_number"] []
  F_l_goes : ∃ fd, Fun K "_law_goes" "_law_goes" sl_goes a.f_l_goes fd ∧ Binds K fd ["_law_folders", "_law_way", "_law_name", "_law_some_here", "_law_number"] []
  F_l_seen : ∃ fd, Fun K "_law_seen" "_law_seen" sl_seen a.f_l_seen fd ∧ Binds K fd ["_law_folders", "_law_own", "_law_some_here"] []
  F_law : ∃ fd, Fun K "law" "law" slaw a.f_law fd ∧ Binds K fd ["_law_script"] []
  F_Folders_init : ∃ fd, Fun K "__init__" "Folders.__init__" sFolders_init a.f_Folders_init fd ∧ Binds K fd ["self"] []
  F_Folders_add : ∃ fd, FunD K "add" "Folders.add" sFolders_add a.f_Folders_add fd ∧ Binds K fd ["self", "name", "folder", "marks"] [] ∧ (∃ ds, Vals [.str "inbox", .non] ds ∧ Binds K fd ["self", "name", "folder", "marks"] ds) ∧ (∃ ds, Vals [.non] ds ∧ Binds K fd ["self", "name", "folder", "marks"] ds)
  F_Folders_take_out : ∃ fd, Fun K "take_out" "Folders.take_out" sFolders_take_out a.f_Folders_take_out fd ∧ Binds K fd ["self", "name"] []
  F_Folders_put_in : ∃ fd, Fun K "put_in" "Folders.put_in" sFolders_put_in a.f_Folders_put_in fd ∧ Binds K fd ["self", "name", "folder"] []
  F_Folders_put_out : ∃ fd, Fun K "put_out" "Folders.put_out" sFolders_put_out a.f_Folders_put_out fd ∧ Binds K fd ["self", "name"] []
  F_Folders_place : ∃ fd, Fun K "place" "Folders.place" sFolders_place a.f_Folders_place fd ∧ Binds K fd ["self", "name", "folder"] []
  F_Folders_mark : ∃ fd, Fun K "mark" "Folders.mark" sFolders_mark a.f_Folders_mark fd ∧ Binds K fd ["self", "name", "word"] []
  F_Folders_unmark : ∃ fd, Fun K "unmark" "Folders.unmark" sFolders_unmark a.f_Folders_unmark fd ∧ Binds K fd ["self", "name", "word"] []
  F_Folders_folder : ∃ fd, Fun K "folder" "Folders.folder" sFolders_folder a.f_Folders_folder fd ∧ Binds K fd ["self", "name"] []
  F_Folders_marks : ∃ fd, Fun K "marks" "Folders.marks" sFolders_marks a.f_Folders_marks fd ∧ Binds K fd ["self", "name"] []
  F_Folders_counts : ∃ fd, Fun K "counts" "Folders.counts" sFolders_counts a.f_Folders_counts fd ∧ Binds K fd ["self", "folder"] []
  F_Folders_marked : ∃ fd, Fun K "marked" "Folders.marked" sFolders_marked a.f_Folders_marked fd ∧ Binds K fd ["self", "folder", "word"] []
  F_Folders_names : ∃ fd, Fun K "names" "Folders.names" sFolders_names a.f_Folders_names fd ∧ Binds K fd ["self", "folder"] []
  F_Folders_folders : ∃ fd, Fun K "folders" "Folders.folders" sFolders_folders a.f_Folders_folders fd ∧ Binds K fd ["self"] []
inductive spThereD_I (vs : List V) (H : Hp) (Q : VK) : Prop
  | mk : ∀ (nm : Str) (L : Addr) (kvs : List (Key × V)) (v : V), vs = [.str nm, .ref L] → H L = some (.dK kvs) → valV kvs (Sum.inr nm) = some v → Q .non H → spThereD_I vs H Q
def spThereD : Sp := fun vs H Q _ => spThereD_I vs H Q
inductive spNewD_I (vs : List V) (H : Hp) (Q : VK) : Prop
  | mk : ∀ (nm : Str) (L : Addr) (kvs : List (Key × V)), vs = [.str nm, .ref L] → H L = some (.dK kvs) → valV kvs (Sum.inr nm) = none → Q .non H → spNewD_I vs H Q
def spNewD : Sp := fun vs H Q _ => spNewD_I vs H Q
theorem kitSS {K : PySem.W.Frag} : PySem.W.kitOne K (.type "str") (.type "str") = some true := by unfold PySem.W.kitOne; rw [if_pos (beq_self_eq_true _)]
section
variable {P : Program} {w : World} {K : PySem.W.Frag} {mg : Str → Option Value} {base : Heap} {a : Adr}
theorem ok_there {fd : FuncData} (F : Fun K "check_there" "check_there" scheck_there a.f_check_there fd) (T : Txt K mg a) : FnOk P w K mg base CX0 1 a.f_check_there fd ["name", "there"] spThereD := by
  refine F.ok sc_check_there (fun vs H Q E h => ?_) (fun cdv A outer st H vs Q E hr h => ?_)
  · obtain ⟨nm, L, kvs, v, rfl, _⟩ := h; rfl
  · obtain ⟨nm, L, kvs, v, rfl, hL, hv, k⟩ := h
    have hu := hu_of hr
    refine ⟨_, (pss_one (ps_if (pt_cmp (pc_dnotin hu (pv 0) (pv 1))) (pss_one ps_never) pss_nil)), ?_⟩
    refine ⟨_, rfl, _, rfl, L, _, rfl, DGet.k (k := Sum.inr nm) hL, _, rfl, ?_⟩
    rw [hv]
    exact iteF k
theorem ok_new {fd : FuncData} (F : Fun K "check_new" "check_new" scheck_new a.f_check_new fd) (T : Txt K mg a) : FnOk P w K mg base CX0 1 a.f_check_new fd ["name", "there"] spNewD := by
  refine F.ok sc_check_new (fun vs H Q E h => ?_) (fun cdv A outer st H vs Q E hr h => ?_)
  · obtain ⟨nm, L, kvs, rfl, _⟩ := h; rfl
  · obtain ⟨nm, L, kvs, rfl, hL, hv, k⟩ := h
    have hu := hu_of hr
    refine ⟨_, (pss_one (ps_if (PW.pt (pw_or (pt_not (pt_val (pe_callB call_isinst rfl T.b_isinstance PyProof.Rows.boot_isinstance (pac (pv 0) (pac (pe_bltn (v := .ty "str") rfl T.b_str PyProof.Rows.boot_str rfl) pa_nil))))) (pw_or1 (pt_cmp (pc_din hu (pv 0) (pv 1)))))) (pss_one ps_never) pss_nil)), ?_⟩
    refine ⟨_, rfl, _, _, _, _, _, rfl, rfl, TyOf.str nm, kitSS, _, rfl, iteF ?_⟩
    refine ⟨_, rfl, _, rfl, L, _, rfl, DGet.k (k := Sum.inr nm) hL, _, rfl, ?_⟩
    rw [hv]
    exact iteF k
end
inductive spLaw_I (K : PySem.W.Frag) (vs : List V) (H : Hp) (Q : VK) : Prop
  | mk : ∀ (a : Addr) (ns : List Int), vs = [.ref a] → SqL K H a (ns.map V.int) → ns.length ≤ 63 → (∀ H', Q (.bl true) H') → spLaw_I K vs H Q
def spLaw (K : PySem.W.Frag) : Sp := fun vs H Q _ => spLaw_I K vs H Q
section
variable {α : Type}
def dG (f : α → Str) (g : α → V) (xs : List α) : List (Key × V) := xs.map fun r => (Sum.inr (f r), g r)
theorem dG_none {f : α → Str} {g : α → V} {n : Str} : ∀ {xs : List α}, ¬ n ∈ xs.map f → valV (dG f g xs) (Sum.inr n) = none
  | [], _ => rfl
  | r :: xs, h => by
    show valV ((Sum.inr (f r), g r) :: dG f g xs) (Sum.inr n) = _
    rw [valV_neg fun e => h (by rw [← Sum.inr.inj e]; exact List.mem_cons_self)]
    exact dG_none fun z => h (List.mem_cons_of_mem _ z)
theorem dG_some {f : α → Str} {g : α → V} {r : α} : ∀ {xs : List α}, (xs.map f).Nodup → r ∈ xs → valV (dG f g xs) (Sum.inr (f r)) = some (g r)
  | [], _, h => nomatch h
  | y :: xs, nd, h => by
    rw [List.map_cons, List.nodup_cons] at nd
    show valV ((Sum.inr (f y), g y) :: dG f g xs) (Sum.inr (f r)) = _
    rcases List.mem_cons.mp h with rfl | h
    · exact valV_pos rfl
    · rw [valV_neg fun e => nd.1 (by rw [Sum.inr.inj e]; exact List.mem_map.mpr ⟨r, h, rfl⟩)]
      exact dG_some nd.2 h
theorem dG_put {f : α → Str} {g : α → V} {xs : List α} {n : Str} {v : V} (r : α) (h : ¬ n ∈ xs.map f) (e1 : f r = n) (e2 : g r = v) : putK (dG f g xs) (Sum.inr n) v = dG f g (xs ++ [r]) := by
  rw [putK_new _ (dG_none h)]
  simp [dG, e1, e2]
theorem dG_drop (f : α → Str) (g : α → V) (n : Str) : ∀ xs : List α, dropK (dG f g xs) (Sum.inr n) = dG f g (xs.filter fun r => decide (f r ≠ n))
  | [] => rfl
  | r :: xs => by
    show dropK ((Sum.inr (f r), g r) :: dG f g xs) (Sum.inr n) = _
    by_cases h : f r = n
    · rw [dropK_pos (by rw [h]), dG_drop f g n xs]
      simp [List.filter_cons, h]
    · rw [dropK_neg (fun e => h (Sum.inr.inj e)), dG_drop f g n xs]
      simp [List.filter_cons, h, dG]
theorem dG_len (f : α → Str) (g : α → V) (xs : List α) : (dG f g xs).length = xs.length := List.length_map _
theorem dG_keys (f : α → Str) (g : α → V) (xs : List α) : (dG f g xs).map (fun kv => kV kv.1) = (xs.map f).map V.str := by
  unfold dG
  rw [List.map_map, List.map_map]
  rfl
end
/-- bearers but of one word -/
def putB (bf : Str → List Str) (w : Str) (ys : List Str) : Str → List Str := fun t => if t = w then ys else bf t
theorem putB_same (bf : Str → List Str) (w : Str) (ys : List Str) : putB bf w ys w = ys := if_pos rfl
theorem putB_ne {bf : Str → List Str} {w t : Str} {ys : List Str} (h : t ≠ w) : putB bf w ys t = bf t := if_neg h
abbrev brK (bs : List (Str × Addr)) : List (Key × V) := dG (·.1) (fun b => V.ref b.2) bs
structure BD (H : Hp) (E B : Addr) (bs : List (Str × Addr)) (bf : Str → List Str) (W : List Str) : Prop where
  nd : (bs.map (·.1)).Nodup
  nda : (bs.map (·.2)).Nodup
  at_ : ∀ p ∈ bs, H p.2 = some (.dK (keysT (bf p.1))) ∧ p.2 ≠ E ∧ p.2 ≠ B ∧ bf p.1 ≠ [] ∧ p.1 ∈ W
  no_ : ∀ t, ¬ t ∈ bs.map (·.1) → bf t = []
theorem BD.len {H : Hp} {E B : Addr} {bs : List (Str × Addr)} {bf : Str → List Str} {W : List Str} (h : BD H E B bs bf W) : bs.length ≤ W.length := by
  have := nodup_le h.nd fun m hm => by
    obtain ⟨p, hp, rfl⟩ := List.mem_map.mp hm
    exact (h.at_ p hp).2.2.2.2
  rw [List.length_map] at this
  exact this
theorem BD.congr {H H' : Hp} {E B : Addr} {bs : List (Str × Addr)} {bf bf' : Str → List Str} {W : List Str} (h : BD H E B bs bf W) (k : ∀ p ∈ bs, ∀ o, H p.2 = some o → H' p.2 = some o) (e : ∀ t, bf' t = bf t) : BD H' E B bs bf' W :=
  ⟨h.nd, h.nda, fun p hp => by rw [e]; exact ⟨k p hp _ (h.at_ p hp).1, (h.at_ p hp).2⟩, fun t ht => by rw [e]; exact h.no_ t ht⟩
theorem map_inj_of {α β : Type} {f : α → β} {xs : List α} (nd : (xs.map f).Nodup) {a b : α} (ha : a ∈ xs) (hb : b ∈ xs) (e : f a = f b) : a = b := by
  induction xs with
  | nil => cases ha
  | cons x xs ih =>
    rw [List.map_cons, List.nodup_cons] at nd
    rcases List.mem_cons.mp ha with h1 | h1
    · rcases List.mem_cons.mp hb with h2 | h2
      · rw [h1, h2]
      · exact absurd (List.mem_map.mpr ⟨b, h2, by rw [← e, h1]⟩) nd.1
    · rcases List.mem_cons.mp hb with h2 | h2
      · exact absurd (List.mem_map.mpr ⟨a, h1, by rw [e, h2]⟩) nd.1
      · exact ih nd.2 h1 h2
theorem snoc_nodup {α : Type} {xs : List α} {a : α} (h : xs.Nodup) (n : ¬ a ∈ xs) : (xs ++ [a]).Nodup := by
  rw [List.nodup_append]
  exact ⟨h, List.pairwise_singleton _ _, fun x hx y hy e => n (by rw [List.mem_singleton.mp hy] at e; rw [← e]; exact hx)⟩
theorem BD.new {H H' : Hp} {E B p : Addr} {bs : List (Str × Addr)} {bf : Str → List Str} {W ys : List Str} {w : Str} (h : BD H E B bs bf W) (hw : ¬ w ∈ bs.map (·.1)) (hp : ¬ p ∈ bs.map (·.2)) (pE : p ≠ E) (pB : p ≠ B) (wW : w ∈ W) (hy : ys ≠ [])
    (k : ∀ q ∈ bs, ∀ o, H q.2 = some o → H' q.2 = some o) (e : H' p = some (.dK (keysT ys))) : BD H' E B (bs ++ [(w, p)]) (putB bf w ys) W := by
  refine ⟨by rw [List.map_append]; exact snoc_nodup h.nd hw, by rw [List.map_append]; exact snoc_nodup h.nda hp, fun q hq => ?_, fun t ht => ?_⟩
  · rcases List.mem_append.mp hq with z | z
    · rw [putB_ne (fun e => hw (by rw [← e]; exact List.mem_map.mpr ⟨q, z, rfl⟩))]
      exact ⟨k q z _ (h.at_ q z).1, (h.at_ q z).2⟩
    · rw [List.mem_singleton.mp z]
      show H' p = some (.dK (keysT (putB bf w ys w))) ∧ p ≠ E ∧ p ≠ B ∧ putB bf w ys w ≠ [] ∧ w ∈ W
      rw [putB_same]
      exact ⟨e, pE, pB, hy, wW⟩
  · rw [List.map_append] at ht
    rw [putB_ne (fun e => ht (List.mem_append_right _ (by rw [e]; exact List.mem_cons_self)))]
    exact h.no_ t fun z => ht (List.mem_append_left _ z)
theorem BD.set {H H' : Hp} {E B d : Addr} {bs : List (Str × Addr)} {bf : Str → List Str} {W ys : List Str} {w : Str} (h : BD H E B bs bf W) (hw : (w, d) ∈ bs) (hy : ys ≠ [])
    (k : ∀ q ∈ bs, q.2 ≠ d → ∀ o, H q.2 = some o → H' q.2 = some o) (e : H' d = some (.dK (keysT ys))) : BD H' E B bs (putB bf w ys) W := by
  refine ⟨h.nd, h.nda, fun q hq => ?_, fun t ht => ?_⟩
  · by_cases z : q.1 = w
    · have eq : q = (w, d) := map_inj_of h.nd hq hw z
      rw [eq]
      show H' d = some (.dK (keysT (putB bf w ys w))) ∧ d ≠ E ∧ d ≠ B ∧ putB bf w ys w ≠ [] ∧ w ∈ W
      rw [putB_same]
      have := h.at_ _ hw
      exact ⟨e, this.2.1, this.2.2.1, hy, this.2.2.2.2⟩
    · rw [putB_ne z]
      refine ⟨k q hq (fun u => z ?_) _ (h.at_ q hq).1, (h.at_ q hq).2⟩
      have : q = (w, d) := map_inj_of h.nda hq hw u
      rw [this]
  · rw [putB_ne (fun e => ht (by rw [e]; exact List.mem_map.mpr ⟨_, hw, rfl⟩))]
    exact h.no_ t ht
theorem BD.del {H H' : Hp} {E B d : Addr} {bs : List (Str × Addr)} {bf : Str → List Str} {W : List Str} {w : Str} (h : BD H E B bs bf W) (hw : (w, d) ∈ bs)
    (k : ∀ q ∈ bs, q.2 ≠ d → ∀ o, H q.2 = some o → H' q.2 = some o) : BD H' E B (bs.filter fun r => decide (r.1 ≠ w)) (putB bf w []) W := by
  refine ⟨h.nd.sublist (List.filter_sublist.map _), h.nda.sublist (List.filter_sublist.map _), fun q hq => ?_, fun t ht => ?_⟩
  · obtain ⟨q1, q2⟩ := List.mem_filter.mp hq
    have z : q.1 ≠ w := of_decide_eq_true q2
    rw [putB_ne z]
    refine ⟨k q q1 (fun u => z ?_) _ (h.at_ q q1).1, (h.at_ q q1).2⟩
    have : q = (w, d) := map_inj_of h.nda q1 hw u
    rw [this]
  · by_cases e : t = w
    · rw [e, putB_same]
    · rw [putB_ne e]
      refine h.no_ t fun z => ht ?_
      obtain ⟨q, hq, rfl⟩ := List.mem_map.mp z
      exact List.mem_map.mpr ⟨q, List.mem_filter.mpr ⟨hq, decide_eq_true e⟩, rfl⟩
theorem bd_find {bs : List (Str × Addr)} {w : Str} (h : w ∈ bs.map (·.1)) : ∃ d, (w, d) ∈ bs := by
  obtain ⟨p, hp, rfl⟩ := List.mem_map.mp h
  exact ⟨p.2, hp⟩
/-- all but what stands in F stays -/
def KpF (F : List Addr) (H H' : Hp) : Prop := ∀ c o, ¬ c ∈ F → H c = some o → H' c = some o
theorem KpF.upd {F : List Addr} {H H1 : Hp} {b : Addr} {o : HO} (k : KpF F H H1) (h : b ∈ F ∨ H b = none) : KpF F H (upd H1 b o) := fun c u hc e => by
  have : c ≠ b := fun z => h.elim (fun q => hc (by rw [z]; exact q)) fun q => by rw [z, q] at e; cases e
  rw [upd_ne this]
  exact k c u hc e
theorem fr_upd {H : Hp} {b c : Addr} {o o' : HO} (e : H b = some o) (h : (upd H b o') c = none) : H c = none := by
  by_cases z : c = b
  · rw [z, upd_same] at h; cases h
  · rw [upd_ne z] at h; exact h
structure FI (H : Hp) (X1 N1 : Addr) (bx : Rows) (bs : List (Str × Addr)) (W : List Str) : Prop where
  bx_ : H X1 = some (.dK (rowsK bx))
  br : H N1 = some (.dK (brK bs))
  ne : X1 ≠ N1
  nd : (bx.map (·.1)).Nodup
  few : bx.length ≤ 40
  wf : W.length ≤ 20
  bd : BD H X1 N1 bs (reps bx) W
def ft1 (X1 N1 : Addr) (bs : List (Str × Addr)) : List Addr := X1 :: N1 :: bs.map (·.2)
theorem mem_ft1 {X1 N1 c : Addr} {bs : List (Str × Addr)} : c ∈ ft1 X1 N1 bs ↔ c = X1 ∨ c = N1 ∨ c ∈ bs.map (·.2) := by unfold ft1; rw [List.mem_cons, List.mem_cons]
structure FT (H : Hp) (T1 : Addr) (tg : List (Str × Addr)) (mk : Str → List Str) (M : List Str) : Prop where
  t_ : H T1 = some (.dK (brK tg))
  nd : (tg.map (·.1)).Nodup
  nda : (tg.map (·.2)).Nodup
  at_ : ∀ p ∈ tg, H p.2 = some (.dK (keysT (mk p.1))) ∧ p.2 ≠ T1 ∧ (mk p.1).Nodup ∧ ∀ y ∈ mk p.1, y ∈ M
  few : tg.length ≤ 40
  mf : M.length ≤ 20
def ft2 (T1 : Addr) (tg : List (Str × Addr)) : List Addr := T1 :: tg.map (·.2)
theorem mem_ft2 {T1 c : Addr} {tg : List (Str × Addr)} : c ∈ ft2 T1 tg ↔ c = T1 ∨ c ∈ tg.map (·.2) := by unfold ft2; rw [List.mem_cons]
abbrev fflds (X1 T1 N1 : Addr) : List (Str × V) := [("boxes", .ref X1), ("tags", .ref T1), ("inside", .ref N1)]
theorem flds_box (X1 T1 N1 : Addr) : (fflds X1 T1 N1).lookup ("boxes" : Str) = some (V.ref X1) := by simp [List.lookup]
theorem flds_tag (X1 T1 N1 : Addr) : (fflds X1 T1 N1).lookup ("tags" : Str) = some (V.ref T1) := by
  have e : (("tags" : Str) == ("boxes" : Str)) = false := by decide +kernel
  simp [List.lookup, e]
theorem flds_ins (X1 T1 N1 : Addr) : (fflds X1 T1 N1).lookup ("inside" : Str) = some (V.ref N1) := by
  have e : (("inside" : Str) == ("boxes" : Str)) = false := by decide +kernel
  have e2 : (("inside" : Str) == ("tags" : Str)) = false := by decide +kernel
  simp [List.lookup, e, e2]
theorem FI.keep {H H' : Hp} {X1 N1 : Addr} {bx : Rows} {bs : List (Str × Addr)} {W : List Str} (h : FI H X1 N1 bx bs W) (k : ∀ c o, c ∈ ft1 X1 N1 bs → H c = some o → H' c = some o) : FI H' X1 N1 bx bs W :=
  ⟨k _ _ (mem_ft1.mpr (.inl rfl)) h.bx_, k _ _ (mem_ft1.mpr (.inr (.inl rfl))) h.br, h.ne, h.nd, h.few, h.wf, h.bd.congr (fun p hp o e => k _ _ (mem_ft1.mpr (.inr (.inr (List.mem_map.mpr ⟨p, hp, rfl⟩)))) e) fun _ => rfl⟩
theorem FT.keep {H H' : Hp} {T1 : Addr} {tg : List (Str × Addr)} {mk : Str → List Str} {M : List Str} (h : FT H T1 tg mk M) (k : ∀ c o, c ∈ ft2 T1 tg → H c = some o → H' c = some o) : FT H' T1 tg mk M :=
  ⟨k _ _ (mem_ft2.mpr (.inl rfl)) h.t_, h.nd, h.nda, fun p hp => ⟨k _ _ (mem_ft2.mpr (.inr (List.mem_map.mpr ⟨p, hp, rfl⟩))) (h.at_ p hp).1, (h.at_ p hp).2⟩, h.few, h.mf⟩
theorem FI.kind {H : Hp} {X1 N1 : Addr} {bx : Rows} {bs : List (Str × Addr)} {W : List Str} (h : FI H X1 N1 bx bs W) {c : Addr} (hc : c ∈ ft1 X1 N1 bs) : ∃ kvs, H c = some (.dK kvs) := by
  rcases mem_ft1.mp hc with z | z | z
  · rw [z]; exact ⟨_, h.bx_⟩
  · rw [z]; exact ⟨_, h.br⟩
  · obtain ⟨p, hp, rfl⟩ := List.mem_map.mp z
    exact ⟨_, (h.bd.at_ p hp).1⟩
theorem FT.kind {H : Hp} {T1 : Addr} {tg : List (Str × Addr)} {mk : Str → List Str} {M : List Str} (h : FT H T1 tg mk M) {c : Addr} (hc : c ∈ ft2 T1 tg) : ∃ kvs, H c = some (.dK kvs) := by
  rcases mem_ft2.mp hc with z | z
  · rw [z]; exact ⟨_, h.t_⟩
  · obtain ⟨p, hp, rfl⟩ := List.mem_map.mp z
    exact ⟨_, (h.at_ p hp).1⟩
inductive spPutIn_I (a : Adr) (vs : List V) (H : Hp) (Q : VK) : Prop
  | mk : ∀ (x dx X1 T1 N1 : Addr) (bx : Rows) (bs : List (Str × Addr)) (W : List Str) (nm fo : Str), vs = [.ref x, .str nm, .str fo] → H x = some (.ins a.C_Folders dx (fflds X1 T1 N1)) → FI H X1 N1 bx bs W → up bx nm = none → bx.length < 40 → fo ∈ W → (∀ H' bs', FI H' X1 N1 (bx ++ [(nm, fo)]) bs' W → KpF (ft1 X1 N1 bs) H H' → (∀ q ∈ bs', q ∈ bs ∨ H q.2 = none) → Q .non H') → spPutIn_I a vs H Q
def spPutIn (a : Adr) : Sp := fun vs H Q _ => spPutIn_I a vs H Q
inductive spPutOut_I (a : Adr) (vs : List V) (H : Hp) (Q : VK) : Prop
  | mk : ∀ (x dx X1 T1 N1 : Addr) (bx : Rows) (bs : List (Str × Addr)) (W : List Str) (nm fo : Str), vs = [.ref x, .str nm] → H x = some (.ins a.C_Folders dx (fflds X1 T1 N1)) → FI H X1 N1 bx bs W → up bx nm = some fo → (∀ H' bs', FI H' X1 N1 (without bx nm) bs' W → KpF (ft1 X1 N1 bs) H H' → (∀ q ∈ bs', q ∈ bs) → (∀ c, H' c = none → H c = none) → Q .non H') → spPutOut_I a vs H Q
def spPutOut (a : Adr) : Sp := fun vs H Q _ => spPutOut_I a vs H Q
section
variable {P : Program} {w : World} {K : PySem.W.Frag} {mg : Str → Option Value} {base : Heap} {a : Adr}
theorem ok_putin {fd : FuncData} (F : Fun K "put_in" "Folders.put_in" sFolders_put_in a.f_Folders_put_in fd) (T : Txt K mg a) : FnOk P w K mg base CX0 1 a.f_Folders_put_in fd ["self", "name", "folder"] (spPutIn a) := by
  refine F.ok sc_Folders_put_in (fun vs H Q E h => ?_) (fun cdv A outer st H vs Q E hr h => ?_)
  · obtain ⟨x, dx, X1, T1, N1, bx, bs, W, nm, fo, rfl, _⟩ := h; rfl
  · obtain ⟨x, dx, X1, T1, N1, bx, bs, W, nm, fo, rfl, obj, fi, hnm, h40, hfo, k⟩ := h
    have hu := hu_of hr
    have hwf := fi.wf
    have hbl := fi.bd.len
    refine ⟨_, (pss_cons (ps_dput hu (pe_fld (pv 0) rfl) (pv 1) (pv 2) rfl)
        (pss_cons (ps_if (pt_cmp (pc_dnotin hu (pv 2) (pe_fld (pv 0) rfl))) (pss_one (ps_dput hu (pe_fld (pv 0) rfl) (pv 2) pe_dnewK rfl)) pss_nil)
        (pss_one (ps_dput hu (pe_dget hu (pe_fld (pv 0) rfl) (pv 2) (fun _ _ => rfl)) (pv 1) pe_bl rfl)))), ?_⟩
    refine ⟨_, rfl, _, rfl, x, _, dx, _, _, rfl, obj, T.c_Folders, T.n_Folders_boxes, flds_box X1 T1 N1, _, rfl, X1, _, rfl, DPut.k (k := Sum.inr nm) fi.bx_ (by rw [rowsK, List.length_map]; exact small1000 (by omega)), ?_⟩
    rw [put_rows hnm]
    have hXF : X1 ∈ ft1 X1 N1 bs := mem_ft1.mpr (.inl rfl)
    have hNF : N1 ∈ ft1 X1 N1 bs := mem_ft1.mpr (.inr (.inl rfl))
    have xX : x ≠ X1 := ne_of obj fi.bx_ fun z => nomatch z
    have obj4 : (upd H X1 (.dK (rowsK (bx ++ [(nm, fo)])))) x = some (.ins a.C_Folders dx (fflds X1 T1 N1)) := by rw [upd_ne xX]; exact obj
    have bx4 : (upd H X1 (.dK (rowsK (bx ++ [(nm, fo)])))) X1 = some (.dK (rowsK (bx ++ [(nm, fo)]))) := upd_same
    have br4 : (upd H X1 (.dK (rowsK (bx ++ [(nm, fo)])))) N1 = some (.dK (brK bs)) := by rw [upd_ne fi.ne.symm]; exact fi.br
    have bd4 : BD (upd H X1 (.dK (rowsK (bx ++ [(nm, fo)])))) X1 N1 bs (reps bx) W := fi.bd.congr (fun q hq o e => by rw [upd_ne (fi.bd.at_ q hq).2.1]; exact e) fun _ => rfl
    have kp4 : KpF (ft1 X1 N1 bs) H (upd H X1 (.dK (rowsK (bx ++ [(nm, fo)])))) := KpF.upd (fun c o _ e => e) (.inl hXF)
    show tSeq _ _ _ _ (upd H X1 (.dK (rowsK (bx ++ [(nm, fo)]))))
    generalize upd H X1 (.dK (rowsK (bx ++ [(nm, fo)]))) = H4 at obj4 bx4 br4 bd4 kp4
    have nd' : ((bx ++ [(nm, fo)]).map (·.1)).Nodup := snoc_nd fi.nd hnm
    have few' : (bx ++ [(nm, fo)]).length ≤ 40 := by rw [List.length_append, List.length_singleton]; omega
    have ebf : ∀ t, reps (bx ++ [(nm, fo)]) t = putB (reps bx) fo (reps bx fo ++ [nm]) t := fun t => by
      rw [reps_snoc]
      by_cases e : t = fo
      · subst e; rw [if_pos rfl, putB_same]
      · rw [if_neg fun z => e z.symm, List.append_nil, putB_ne e]
    refine ⟨_, rfl, _, rfl, x, _, dx, _, _, rfl, obj4, T.c_Folders, T.n_Folders_inside, flds_ins X1 T1 N1, N1, _, rfl, DGet.k (k := Sum.inr fo) br4, _, rfl, ?_⟩
    by_cases hyb : fo ∈ bs.map (·.1)
    · obtain ⟨d, hd⟩ := bd_find hyb
      have hvd : valV (brK bs) (Sum.inr fo) = some (V.ref d) := dG_some (r := ((fo, d) : Str × Addr)) bd4.nd hd
      obtain ⟨ed, dE, dB, _, _⟩ := bd4.at_ _ hd
      have ed : H4 d = some (.dK (keysT (reps bx fo))) := ed
      have hrl := reps_len bx fo
      rw [hvd]
      have nrep : ¬ nm ∈ reps bx fo := fun z => up_none.mp hnm (reps_sub z)
      refine iteF ⟨_, rfl, x, _, dx, _, _, rfl, obj4, T.c_Folders, T.n_Folders_inside, flds_ins X1 T1 N1, _, rfl, N1, _, rfl, (by rw [← hvd]; exact DGet.k (k := Sum.inr fo) br4), _, rfl, d, _, rfl, DPut.k (k := Sum.inr nm) ed (by rw [keysT, List.length_map]; exact small1000 (by omega)), ?_⟩
      rw [put_keys nrep]
      exact k _ bs ⟨by rw [upd_ne dE.symm]; exact bx4, by rw [upd_ne dB.symm]; exact br4, fi.ne, nd', few', fi.wf, (bd4.set hd (by simp) (fun q _ ne o e => by rw [upd_ne ne]; exact e) upd_same).congr (fun _ _ _ e => e) ebf⟩ (kp4.upd (.inl (mem_ft1.mpr (.inr (.inr (List.mem_map.mpr ⟨_, hd, rfl⟩)))))) fun q hq => .inl hq
    · have hvd : valV (brK bs) (Sum.inr fo) = none := dG_none hyb
      rw [hvd]
      refine iteT ?_
      intro d hd0
      have xd : x ≠ d := ne_of_none obj4 hd0
      have Ed : X1 ≠ d := ne_of_none bx4 hd0
      have Bd : N1 ≠ d := ne_of_none br4 hd0
      have xB : x ≠ N1 := ne_of obj4 br4 fun z => nomatch z
      have dn : H d = none := by
        cases e : H d with
        | none => rfl
        | some o =>
          by_cases hin : d ∈ ft1 X1 N1 bs
          · rcases mem_ft1.mp hin with z | z | z
            · exact absurd z.symm Ed
            · exact absurd z.symm Bd
            · obtain ⟨q, hq, eq⟩ := List.mem_map.mp z
              have := (bd4.at_ q hq).1
              rw [eq, hd0] at this
              cases this
          · have := kp4 d o hin e
            rw [hd0] at this
            cases this
      refine ⟨_, rfl, x, _, dx, _, _, rfl, (by rw [upd_ne xd]; exact obj4), T.c_Folders, T.n_Folders_inside, flds_ins X1 T1 N1, _, rfl, N1, _, rfl, DPut.k (k := Sum.inr fo) (by rw [upd_ne Bd]; exact br4) (by rw [dG_len]; exact small1000 (by omega)), ?_⟩
      rw [dG_put ((fo, d) : Str × Addr) hyb rfl rfl]
      have nd5 : ((bs ++ [((fo, d) : Str × Addr)]).map (·.1)).Nodup := by rw [List.map_append]; exact snoc_nodup bd4.nd hyb
      have hv5 : valV (brK (bs ++ [((fo, d) : Str × Addr)])) (Sum.inr fo) = some (V.ref d) := dG_some (r := ((fo, d) : Str × Addr)) nd5 (List.mem_append_right _ List.mem_cons_self)
      have br5 : (upd (upd H4 d (.dK [])) N1 (.dK (brK (bs ++ [((fo, d) : Str × Addr)])))) N1 = some (.dK (brK (bs ++ [((fo, d) : Str × Addr)]))) := upd_same
      have d5 : (upd (upd H4 d (.dK [])) N1 (.dK (brK (bs ++ [((fo, d) : Str × Addr)])))) d = some (.dK []) := by rw [upd_ne Bd.symm]; exact upd_same
      refine ⟨_, rfl, x, _, dx, _, _, rfl, (by rw [upd_ne xB, upd_ne xd]; exact obj4), T.c_Folders, T.n_Folders_inside, flds_ins X1 T1 N1, _, rfl, N1, _, rfl, (by rw [← hv5]; exact DGet.k (k := Sum.inr fo) br5), _, rfl, d, _, rfl, DPut.k (k := Sum.inr nm) d5 (by decide), ?_⟩
      have ek : putK ([] : List (Key × V)) (Sum.inr nm) (.bl true) = keysT [nm] := rfl
      rw [ek]
      have e0 : reps bx fo = [] := bd4.no_ fo hyb
      refine k _ (bs ++ [((fo, d) : Str × Addr)]) ⟨by rw [upd_ne Ed, upd_ne fi.ne, upd_ne Ed]; exact bx4, by rw [upd_ne Bd]; exact upd_same, fi.ne, nd', few', fi.wf, ?_⟩ (((kp4.upd (.inr dn)).upd (.inl hNF)).upd (.inr dn)) fun q hq => ?_
      · refine (bd4.new (p := d) (ys := reps bx fo ++ [nm]) hyb (fun z => ?_) Ed.symm Bd.symm hfo (by simp) (fun q hq o e => ?_) ?_).congr (fun _ _ _ e => e) ebf
        · obtain ⟨q, hq, eq⟩ := List.mem_map.mp z
          have := (bd4.at_ q hq).1
          rw [eq, hd0] at this
          cases this
        · rw [upd_ne (ne_of_none e hd0), upd_ne (bd4.at_ q hq).2.2.1, upd_ne (ne_of_none e hd0)]
          exact e
        · rw [e0, upd_same]; rfl
      · rcases List.mem_append.mp hq with z | z
        · exact .inl z
        · rw [List.mem_singleton.mp z]; exact .inr dn
theorem ok_putout {fd : FuncData} (F : Fun K "put_out" "Folders.put_out" sFolders_put_out a.f_Folders_put_out fd) (T : Txt K mg a) : FnOk P w K mg base CX0 1 a.f_Folders_put_out fd ["self", "name"] (spPutOut a) := by
  refine F.ok sc_Folders_put_out (fun vs H Q E h => ?_) (fun cdv A outer st H vs Q E hr h => ?_)
  · obtain ⟨x, dx, X1, T1, N1, bx, bs, W, nm, fo, rfl, _⟩ := h; rfl
  · obtain ⟨x, dx, X1, T1, N1, bx, bs, W, nm, fo, rfl, obj, fi, eu, k⟩ := h
    have hu := hu_of hr
    refine ⟨_, (pss_cons (ps_set (i := 2) sc_Folders_put_out.nd rfl (Or.inl rfl) (pe_dpop1 (pe_fld (pv 0) rfl) (pv 1) ⟨rfl, rfl, rfl, rfl⟩))
        (pss_cons (ps_expr (pe_dpop1 (pe_dget hu (pe_fld (pv 0) rfl) (pv 2) (fun _ _ => rfl)) (pv 1) ⟨rfl, rfl, rfl, rfl⟩))
        (pss_one (ps_if (pt_not (pt_truth (pe_dget hu (pe_fld (pv 0) rfl) (pv 2) (fun _ _ => rfl)) (fun _ => rfl))) (pss_one (ps_expr (pe_dpop1 (pe_fld (pv 0) rfl) (pv 2) ⟨rfl, rfl, rfl, rfl⟩))) pss_nil)))), ?_⟩
    refine ⟨_, rfl, x, _, dx, _, _, rfl, obj, T.c_Folders, T.n_Folders_boxes, flds_box X1 T1 N1, X1, rfl, .inl ⟨_, .inl fi.bx_⟩, _, rfl, _, Sum.inr nm, .str fo, fi.bx_, rfl, (by rw [val_rows, eu]; rfl), ?_⟩
    rw [drop_rows]
    have hXF : X1 ∈ ft1 X1 N1 bs := mem_ft1.mpr (.inl rfl)
    have hNF : N1 ∈ ft1 X1 N1 bs := mem_ft1.mpr (.inr (.inl rfl))
    have xX : x ≠ X1 := ne_of obj fi.bx_ fun z => nomatch z
    have obj4 : (upd H X1 (.dK (rowsK (without bx nm)))) x = some (.ins a.C_Folders dx (fflds X1 T1 N1)) := by rw [upd_ne xX]; exact obj
    have bx4 : (upd H X1 (.dK (rowsK (without bx nm)))) X1 = some (.dK (rowsK (without bx nm))) := upd_same
    have br4 : (upd H X1 (.dK (rowsK (without bx nm)))) N1 = some (.dK (brK bs)) := by rw [upd_ne fi.ne.symm]; exact fi.br
    have bd4 : BD (upd H X1 (.dK (rowsK (without bx nm)))) X1 N1 bs (reps bx) W := fi.bd.congr (fun q hq o e => by rw [upd_ne (fi.bd.at_ q hq).2.1]; exact e) fun _ => rfl
    have kp4 : KpF (ft1 X1 N1 bs) H (upd H X1 (.dK (rowsK (without bx nm)))) := KpF.upd (fun c o _ e => e) (.inl hXF)
    show tSeq _ _ _ _ (upd H X1 (.dK (rowsK (without bx nm))))
    have fr4 : ∀ c, (upd H X1 (.dK (rowsK (without bx nm)))) c = none → H c = none := fun c e => fr_upd fi.bx_ e
    generalize upd H X1 (.dK (rowsK (without bx nm))) = H4 at obj4 bx4 br4 bd4 kp4 fr4
    have hin : nm ∈ reps bx fo := in_reps eu
    have hyb : fo ∈ bs.map (·.1) := Classical.byContradiction fun z => by
      have := bd4.no_ fo z
      rw [this] at hin
      cases hin
    obtain ⟨d, hd⟩ := bd_find hyb
    have hvd : valV (brK bs) (Sum.inr fo) = some (V.ref d) := dG_some (r := ((fo, d) : Str × Addr)) bd4.nd hd
    obtain ⟨ed, dE, dB, _, _⟩ := bd4.at_ _ hd
    have ed : H4 d = some (.dK (keysT (reps bx fo))) := ed
    have xd : x ≠ d := ne_of obj4 ed fun z => nomatch z
    have hdF : d ∈ ft1 X1 N1 bs := mem_ft1.mpr (.inr (.inr (List.mem_map.mpr ⟨_, hd, rfl⟩)))
    have wl : (without bx nm).length ≤ bx.length := List.length_filter_le _ _
    have hfew := fi.few
    have ebf : ∀ t, reps (without bx nm) t = putB (reps bx) fo ((reps bx fo).filter fun m => decide (m ≠ nm)) t := fun t => by
      rw [reps_without]
      by_cases e : t = fo
      · subst e; rw [putB_same]
      · rw [putB_ne e]; exact filter_not (not_reps fi.nd eu e)
    refine ⟨_, rfl, x, _, dx, _, _, rfl, obj4, T.c_Folders, T.n_Folders_inside, flds_ins X1 T1 N1, _, rfl, N1, _, rfl, (by rw [← hvd]; exact DGet.k (k := Sum.inr fo) br4), d, rfl, .inl ⟨_, .inl ed⟩, _, rfl, _, Sum.inr nm, .bl true, ed, rfl, (by rw [val_keys, if_pos hin]), ?_⟩
    rw [drop_keys]
    have obj5 : (upd H4 d (.dK (keysT ((reps bx fo).filter fun m => decide (m ≠ nm))))) x = some (.ins a.C_Folders dx (fflds X1 T1 N1)) := by rw [upd_ne xd]; exact obj4
    have bx5 : (upd H4 d (.dK (keysT ((reps bx fo).filter fun m => decide (m ≠ nm))))) X1 = some (.dK (rowsK (without bx nm))) := by rw [upd_ne dE.symm]; exact bx4
    have br5 : (upd H4 d (.dK (keysT ((reps bx fo).filter fun m => decide (m ≠ nm))))) N1 = some (.dK (brK bs)) := by rw [upd_ne dB.symm]; exact br4
    have d5 : (upd H4 d (.dK (keysT ((reps bx fo).filter fun m => decide (m ≠ nm))))) d = some (.dK (keysT ((reps bx fo).filter fun m => decide (m ≠ nm)))) := upd_same
    have kp5 : KpF (ft1 X1 N1 bs) H (upd H4 d (.dK (keysT ((reps bx fo).filter fun m => decide (m ≠ nm))))) := kp4.upd (.inl hdF)
    have ot5 : ∀ q ∈ bs, q.2 ≠ d → ∀ o, H4 q.2 = some o → (upd H4 d (.dK (keysT ((reps bx fo).filter fun m => decide (m ≠ nm))))) q.2 = some o := fun q _ ne o e => by rw [upd_ne ne]; exact e
    show tSeq _ _ _ _ (upd H4 d (.dK (keysT ((reps bx fo).filter fun m => decide (m ≠ nm)))))
    have fr5 : ∀ c, (upd H4 d (.dK (keysT ((reps bx fo).filter fun m => decide (m ≠ nm))))) c = none → H c = none := fun c e => fr4 c (fr_upd ed e)
    generalize upd H4 d (.dK (keysT ((reps bx fo).filter fun m => decide (m ≠ nm)))) = H5 at obj5 bx5 br5 d5 kp5 ot5 fr5
    refine ⟨_, rfl, x, _, dx, _, _, rfl, obj5, T.c_Folders, T.n_Folders_inside, flds_ins X1 T1 N1, _, rfl, N1, .ref d, rfl, (by rw [← hvd]; exact DGet.k (k := Sum.inr fo) br5), !(keysT ((reps bx fo).filter fun m => decide (m ≠ nm))).isEmpty, Or.inr (Or.inr ⟨_, d5, rfl⟩), ?_⟩
    cases hys : (reps bx fo).filter fun m => decide (m ≠ nm) with
    | cons z zs =>
      rw [hys] at d5
      refine iteF (k H5 bs ⟨bx5, br5, fi.ne, without_nd fi.nd, by omega, fi.wf, (bd4.set hd (ys := z :: zs) (by simp) ot5 d5).congr (fun _ _ _ e => e) fun t => ?_⟩ kp5 (fun q hq => hq) fr5)
      rw [ebf, hys]
    | nil =>
      have xB : x ≠ N1 := ne_of obj5 br5 fun z => nomatch z
      refine iteT ⟨_, rfl, x, _, dx, _, _, rfl, obj5, T.c_Folders, T.n_Folders_inside, flds_ins X1 T1 N1, N1, rfl, .inl ⟨_, .inl br5⟩, _, rfl, _, Sum.inr fo, .ref d, br5, rfl, hvd, ?_⟩
      rw [dG_drop]
      refine k _ (bs.filter fun r => decide (r.1 ≠ fo)) ⟨by rw [upd_ne fi.ne]; exact bx5, upd_same, fi.ne, without_nd fi.nd, by omega, fi.wf, (bd4.del hd fun q hq ne o e => ?_).congr (fun _ _ _ e => e) fun t => ?_⟩ (kp5.upd (.inl hNF)) (fun q hq => (List.mem_filter.mp hq).1) fun c e => fr5 c (fr_upd br5 e)
      · rw [upd_ne (bd4.at_ q hq).2.2.1]; exact ot5 q hq ne o e
      · rw [ebf, hys]
end
theorem mem_wo {α : Type} {f : α → Str} {l : List α} {n m : Str} : m ∈ (l.filter fun r => decide (f r ≠ n)).map f ↔ m ∈ l.map f ∧ m ≠ n := by
  rw [List.mem_map, List.mem_map]
  constructor
  · rintro ⟨r, hr, rfl⟩
    exact ⟨⟨r, (List.mem_filter.mp hr).1, rfl⟩, of_decide_eq_true (List.mem_filter.mp hr).2⟩
  · rintro ⟨⟨r, hr, rfl⟩, hn⟩
    exact ⟨r, List.mem_filter.mpr ⟨hr, decide_eq_true hn⟩, rfl⟩
theorem FT.new {H H' : Hp} {T1 p : Addr} {tg : List (Str × Addr)} {mk : Str → List Str} {M ys : List Str} {nm : Str} (h : FT H T1 tg mk M) (hn : ¬ nm ∈ tg.map (·.1)) (hp : ¬ p ∈ tg.map (·.2)) (pT : p ≠ T1) (few : tg.length < 40) (yn : ys.Nodup) (yM : ∀ y ∈ ys, y ∈ M)
    (k : ∀ q ∈ tg, ∀ o, H q.2 = some o → H' q.2 = some o) (e : H' p = some (.dK (keysT ys))) (et : H' T1 = some (.dK (brK (tg ++ [((nm, p) : Str × Addr)])))) : FT H' T1 (tg ++ [((nm, p) : Str × Addr)]) (putB mk nm ys) M := by
  refine ⟨et, by rw [List.map_append]; exact snoc_nodup h.nd hn, by rw [List.map_append]; exact snoc_nodup h.nda hp, fun q hq => ?_, by rw [List.length_append, List.length_singleton]; omega, h.mf⟩
  rcases List.mem_append.mp hq with z | z
  · rw [putB_ne (fun e => hn (by rw [← e]; exact List.mem_map.mpr ⟨q, z, rfl⟩))]
    exact ⟨k q z _ (h.at_ q z).1, (h.at_ q z).2⟩
  · rw [List.mem_singleton.mp z]
    show H' p = some (.dK (keysT (putB mk nm ys nm))) ∧ p ≠ T1 ∧ (putB mk nm ys nm).Nodup ∧ ∀ y ∈ putB mk nm ys nm, y ∈ M
    rw [putB_same]
    exact ⟨e, pT, yn, yM⟩
theorem FT.set {H H' : Hp} {T1 d : Addr} {tg : List (Str × Addr)} {mk : Str → List Str} {M ys : List Str} {nm : Str} (h : FT H T1 tg mk M) (hw : (nm, d) ∈ tg) (yn : ys.Nodup) (yM : ∀ y ∈ ys, y ∈ M)
    (k : ∀ q ∈ tg, q.2 ≠ d → ∀ o, H q.2 = some o → H' q.2 = some o) (e : H' d = some (.dK (keysT ys))) (et : H' T1 = some (.dK (brK tg))) : FT H' T1 tg (putB mk nm ys) M := by
  refine ⟨et, h.nd, h.nda, fun q hq => ?_, h.few, h.mf⟩
  by_cases z : q.1 = nm
  · have eq : q = (nm, d) := map_inj_of h.nd hq hw z
    rw [eq]
    show H' d = some (.dK (keysT (putB mk nm ys nm))) ∧ d ≠ T1 ∧ (putB mk nm ys nm).Nodup ∧ ∀ y ∈ putB mk nm ys nm, y ∈ M
    rw [putB_same]
    exact ⟨e, (h.at_ _ hw).2.1, yn, yM⟩
  · rw [putB_ne z]
    refine ⟨k q hq (fun u => z ?_) _ (h.at_ q hq).1, (h.at_ q hq).2⟩
    have : q = (nm, d) := map_inj_of h.nda hq hw u
    rw [this]
theorem FT.del {H H' : Hp} {T1 : Addr} {tg : List (Str × Addr)} {mk : Str → List Str} {M : List Str} (h : FT H T1 tg mk M) (nm : Str) (k : ∀ q ∈ tg, ∀ o, H q.2 = some o → H' q.2 = some o) (et : H' T1 = some (.dK (brK (tg.filter fun r => decide (r.1 ≠ nm))))) : FT H' T1 (tg.filter fun r => decide (r.1 ≠ nm)) mk M :=
  ⟨et, h.nd.sublist (List.filter_sublist.map _), h.nda.sublist (List.filter_sublist.map _), fun q hq => ⟨k q (List.mem_filter.mp hq).1 _ (h.at_ q (List.mem_filter.mp hq).1).1, (h.at_ q (List.mem_filter.mp hq).1).2⟩, Nat.le_trans (List.length_filter_le _ _) h.few, h.mf⟩
theorem FT.congr {H : Hp} {T1 : Addr} {tg : List (Str × Addr)} {mk mk' : Str → List Str} {M : List Str} (h : FT H T1 tg mk M) (e : ∀ t, mk' t = mk t) : FT H T1 tg mk' M := ⟨h.t_, h.nd, h.nda, fun q hq => by rw [e]; exact h.at_ q hq, h.few, h.mf⟩
theorem FT.len {H : Hp} {T1 : Addr} {tg : List (Str × Addr)} {mk : Str → List Str} {M : List Str} (h : FT H T1 tg mk M) {p : Str × Addr} (hp : p ∈ tg) : (mk p.1).length ≤ 20 := Nat.le_trans (nodup_le (h.at_ p hp).2.2.1 (h.at_ p hp).2.2.2) h.mf
def FO (a : Adr) (H : Hp) (x : Addr) (bx : Rows) (mk : Str → List Str) (W M : List Str) (n : Nat) (F : List Addr) : Prop := ∃ dx X1 T1 N1 bs tg, H x = some (.ins a.C_Folders dx (fflds X1 T1 N1)) ∧ FI H X1 N1 bx bs W ∧ FT H T1 tg mk M ∧ (∀ c ∈ ft1 X1 N1 bs, ¬ c ∈ ft2 T1 tg) ∧ (∀ m, m ∈ tg.map (·.1) ↔ m ∈ bx.map (·.1)) ∧ bx.length ≤ n ∧ F = ft1 X1 N1 bs ++ ft2 T1 tg
section
variable {a : Adr} {H H' : Hp} {x : Addr} {bx : Rows} {mk : Str → List Str} {W M : List Str} {n : Nat} {F : List Addr}
theorem FO.keep (h : FO a H x bx mk W M n F) (k : ∀ c o, (c = x ∨ c ∈ F) → H c = some o → H' c = some o) : FO a H' x bx mk W M n F := by
  obtain ⟨dx, X1, T1, N1, bs, tg, obj, fi, ft, dj, nm, l, rfl⟩ := h
  exact ⟨dx, X1, T1, N1, bs, tg, k _ _ (.inl rfl) obj, fi.keep fun c o hc e => k c o (.inr (List.mem_append_left _ hc)) e, ft.keep fun c o hc e => k c o (.inr (List.mem_append_right _ hc)) e, dj, nm, l, rfl⟩
theorem FO.same (h : FO a H x bx mk W M n F) (s : Same H H') : FO a H' x bx mk W M n F := h.keep fun c o _ e => s c o e
theorem FO.up (h : FO a H x bx mk W M n F) : FO a H x bx mk W M (n + 1) F := by
  obtain ⟨dx, X1, T1, N1, bs, tg, obj, fi, ft, dj, nm, l, e⟩ := h
  exact ⟨dx, X1, T1, N1, bs, tg, obj, fi, ft, dj, nm, by omega, e⟩
theorem FO.kind (h : FO a H x bx mk W M n F) {c : Addr} (hc : c ∈ F) : ∃ kvs, H c = some (.dK kvs) := by
  obtain ⟨dx, X1, T1, N1, bs, tg, obj, fi, ft, dj, nm, l, rfl⟩ := h
  rcases List.mem_append.mp hc with z | z
  · exact fi.kind z
  · exact ft.kind z
theorem FO.other (h : FO a H x bx mk W M n F) {c : Addr} {o : HO} (hc : H c = some o) (no : ∀ kvs, o ≠ .dK kvs) : ¬ c ∈ F := fun z => by
  obtain ⟨kvs, e⟩ := h.kind z
  rw [hc] at e; cases e; exact no _ rfl
theorem FO.obj (h : FO a H x bx mk W M n F) : ∃ dx X1 T1 N1, H x = some (.ins a.C_Folders dx (fflds X1 T1 N1)) := let ⟨dx, X1, T1, N1, _, _, e, _⟩ := h; ⟨dx, X1, T1, N1, e⟩
theorem FO.nd (h : FO a H x bx mk W M n F) : (bx.map (·.1)).Nodup := let ⟨_, _, _, _, _, _, _, fi, _⟩ := h; fi.nd
theorem FO.few (h : FO a H x bx mk W M n F) : bx.length ≤ 40 := let ⟨_, _, _, _, _, _, _, fi, _⟩ := h; fi.few
theorem FO.mk_ok (h : FO a H x bx mk W M n F) {nm : Str} (hn : nm ∈ bx.map (·.1)) : (mk nm).Nodup ∧ (∀ y ∈ mk nm, y ∈ M) ∧ (mk nm).length ≤ 20 := by
  obtain ⟨dx, X1, T1, N1, bs, tg, obj, fi, ft, dj, nn, l, rfl⟩ := h
  obtain ⟨d, hd⟩ := bd_find ((nn nm).mpr hn)
  exact ⟨(ft.at_ _ hd).2.2.1, (ft.at_ _ hd).2.2.2, ft.len hd⟩
end
inductive spFInit_I (a : Adr) (vs : List V) (H : Hp) (Q : VK) : Prop
  | mk : ∀ (x dx : Addr) (mk : Str → List Str) (W M : List Str), vs = [.ref x] → W.length ≤ 20 → M.length ≤ 20 → H x = some (.ins a.C_Folders dx []) → (∀ H' F, (∀ c o, c ≠ x → H c = some o → H' c = some o) → (∀ c ∈ F, H c = none) → FO a H' x [] mk W M 0 F → Q .non H') → spFInit_I a vs H Q
def spFInit (a : Adr) : Sp := fun vs H Q _ => spFInit_I a vs H Q
inductive spFAdd_I (a : Adr) (vs : List V) (H : Hp) (Q : VK) : Prop
  | mk : ∀ (x m : Addr) (bx : Rows) (mk : Str → List Str) (W M : List Str) (n : Nat) (F : List Addr) (nm fo : Str) (ss : List Str), vs = [.ref x, .str nm, .str fo, .ref m] → FO a H x bx mk W M n F → n < 40 → up bx nm = none → fo ∈ W → H m = some (.lst (ss.map V.str)) → (∀ y ∈ ss, y ∈ M) → (∀ H' F', FO a H' x (bx ++ [(nm, fo)]) (putB mk nm (dd ss)) W M (n + 1) F' → KpF F H H' → (∀ c ∈ F', c ∈ F ∨ H c = none) → Q .non H') → spFAdd_I a vs H Q
def spFAdd (a : Adr) : Sp := fun vs H Q _ => spFAdd_I a vs H Q
inductive spFTake_I (a : Adr) (vs : List V) (H : Hp) (Q : VK) : Prop
  | mk : ∀ (x : Addr) (bx : Rows) (mk : Str → List Str) (W M : List Str) (n : Nat) (F : List Addr) (nm : Str), vs = [.ref x, .str nm] → FO a H x bx mk W M n F → nm ∈ bx.map (·.1) → (∀ H' F', FO a H' x (without bx nm) mk W M n F' → KpF F H H' → (∀ c ∈ F', c ∈ F) → Q .non H') → spFTake_I a vs H Q
def spFTake (a : Adr) : Sp := fun vs H Q _ => spFTake_I a vs H Q
inductive spFPlace_I (a : Adr) (vs : List V) (H : Hp) (Q : VK) : Prop
  | mk : ∀ (x : Addr) (bx : Rows) (mk : Str → List Str) (W M : List Str) (n : Nat) (F : List Addr) (nm fo : Str), vs = [.ref x, .str nm, .str fo] → FO a H x bx mk W M n F → nm ∈ bx.map (·.1) → fo ∈ W → (∀ H' F', FO a H' x (without bx nm ++ [(nm, fo)]) mk W M n F' → KpF F H H' → (∀ c ∈ F', c ∈ F ∨ H c = none) → Q .non H') → spFPlace_I a vs H Q
def spFPlace (a : Adr) : Sp := fun vs H Q _ => spFPlace_I a vs H Q
inductive spFMark_I (a : Adr) (vs : List V) (H : Hp) (Q : VK) : Prop
  | mk : ∀ (x : Addr) (bx : Rows) (mk : Str → List Str) (W M : List Str) (n : Nat) (F : List Addr) (nm y : Str), vs = [.ref x, .str nm, .str y] → FO a H x bx mk W M n F → nm ∈ bx.map (·.1) → y ∈ M → (∀ H', FO a H' x bx (putB mk nm (addN (mk nm) y)) W M n F → KpF F H H' → Q .non H') → spFMark_I a vs H Q
def spFMark (a : Adr) : Sp := fun vs H Q _ => spFMark_I a vs H Q
inductive spFUnmark_I (a : Adr) (vs : List V) (H : Hp) (Q : VK) : Prop
  | mk : ∀ (x : Addr) (bx : Rows) (mk : Str → List Str) (W M : List Str) (n : Nat) (F : List Addr) (nm y : Str), vs = [.ref x, .str nm, .str y] → FO a H x bx mk W M n F → nm ∈ bx.map (·.1) → (∀ H', FO a H' x bx (putB mk nm ((mk nm).filter fun z => decide (z ≠ y))) W M n F → KpF F H H' → Q .non H') → spFUnmark_I a vs H Q
def spFUnmark (a : Adr) : Sp := fun vs H Q _ => spFUnmark_I a vs H Q
inductive spFFolder_I (a : Adr) (vs : List V) (H : Hp) (Q : VK) : Prop
  | mk : ∀ (x : Addr) (bx : Rows) (mk : Str → List Str) (W M : List Str) (n : Nat) (F : List Addr) (nm fo : Str), vs = [.ref x, .str nm] → FO a H x bx mk W M n F → up bx nm = some fo → Q (.str fo) H → spFFolder_I a vs H Q
def spFFolder (a : Adr) : Sp := fun vs H Q _ => spFFolder_I a vs H Q
inductive spFMarks_I (a : Adr) (vs : List V) (H : Hp) (Q : VK) : Prop
  | mk : ∀ (x : Addr) (bx : Rows) (mk : Str → List Str) (W M : List Str) (n : Nat) (F : List Addr) (nm : Str), vs = [.ref x, .str nm] → FO a H x bx mk W M n F → nm ∈ bx.map (·.1) → (∀ l H', H l = none → Same H H' → H' l = some (.lst ((sortS (mk nm)).map V.str)) → Q (.ref l) H') → spFMarks_I a vs H Q
def spFMarks (a : Adr) : Sp := fun vs H Q _ => spFMarks_I a vs H Q
inductive spFNames_I (a : Adr) (vs : List V) (H : Hp) (Q : VK) : Prop
  | mk : ∀ (x : Addr) (bx : Rows) (mk : Str → List Str) (W M : List Str) (n : Nat) (F : List Addr) (fo : Str), vs = [.ref x, .str fo] → FO a H x bx mk W M n F → (∀ l H', H l = none → Same H H' → H' l = some (.lst ((sortS (reps bx fo)).map V.str)) → Q (.ref l) H') → spFNames_I a vs H Q
def spFNames (a : Adr) : Sp := fun vs H Q _ => spFNames_I a vs H Q
section
variable {P : Program} {w : World} {K : PySem.W.Frag} {mg : Str → Option Value} {base : Heap} {a : Adr}
theorem ok_finit {fd : FuncData} (F : Fun K "__init__" "Folders.__init__" sFolders_init a.f_Folders_init fd) (T : Txt K mg a) : FnOk P w K mg base CX0 1 a.f_Folders_init fd ["self"] (spFInit a) := by
  refine F.ok sc_Folders_init (fun vs H Q E h => ?_) (fun cdv A outer st H vs Q E hr h => ?_)
  · obtain ⟨x, dx, mk, W, M, rfl, _⟩ := h; rfl
  · obtain ⟨x, dx, mk, W, M, rfl, hW, hM, hx, k⟩ := h
    refine ⟨_, (pss_cons (ps_fld (pv 0) pe_dnewK rfl)
        (pss_cons (ps_fld (pv 0) pe_dnewK rfl)
        (pss_one (ps_fld (pv 0) pe_dnewK rfl)))), ?_⟩
    intro X1 h1
    have x1 : x ≠ X1 := ne_of_none hx h1
    refine ⟨_, rfl, x, _, dx, _, rfl, (by rw [upd_ne x1]; exact hx), T.c_Folders, T.n_Folders_boxes, by decide, ?_⟩
    have kx1 : SX x H (upd (upd H X1 (.dK [])) x (.ins a.C_Folders dx (putF "boxes" (.ref X1) []))) := fun c o ne e => by rw [upd_ne ne, upd_ne (ne_of_none e h1)]; exact e
    have ob1 : (upd (upd H X1 (.dK [])) x (.ins a.C_Folders dx (putF "boxes" (.ref X1) []))) x = some (.ins a.C_Folders dx (putF "boxes" (.ref X1) [])) := upd_same
    have e1 : (upd (upd H X1 (.dK [])) x (.ins a.C_Folders dx (putF "boxes" (.ref X1) []))) X1 = some (.dK []) := by rw [upd_ne x1.symm]; exact upd_same
    show tSeq _ _ _ _ (upd (upd H X1 (.dK [])) x (.ins a.C_Folders dx (putF "boxes" (.ref X1) [])))
    generalize upd (upd H X1 (.dK [])) x (.ins a.C_Folders dx (putF "boxes" (.ref X1) [])) = H1 at kx1 ob1 e1
    intro T1 h2
    have x2 : x ≠ T1 := ne_of_none ob1 h2
    refine ⟨_, rfl, x, _, dx, _, rfl, (by rw [upd_ne x2]; exact ob1), T.c_Folders, T.n_Folders_tags, (by show 1 < 1000; decide), ?_⟩
    have kx2 : SX x H1 (upd (upd H1 T1 (.dK [])) x (.ins a.C_Folders dx (putF "tags" (.ref T1) (putF "boxes" (.ref X1) [])))) := fun c o ne e => by rw [upd_ne ne, upd_ne (ne_of_none e h2)]; exact e
    have ob2 : (upd (upd H1 T1 (.dK [])) x (.ins a.C_Folders dx (putF "tags" (.ref T1) (putF "boxes" (.ref X1) [])))) x = some (.ins a.C_Folders dx (putF "tags" (.ref T1) (putF "boxes" (.ref X1) []))) := upd_same
    have e2 : (upd (upd H1 T1 (.dK [])) x (.ins a.C_Folders dx (putF "tags" (.ref T1) (putF "boxes" (.ref X1) [])))) T1 = some (.dK []) := by rw [upd_ne x2.symm]; exact upd_same
    show tSeq _ _ _ _ (upd (upd H1 T1 (.dK [])) x (.ins a.C_Folders dx (putF "tags" (.ref T1) (putF "boxes" (.ref X1) []))))
    generalize upd (upd H1 T1 (.dK [])) x (.ins a.C_Folders dx (putF "tags" (.ref T1) (putF "boxes" (.ref X1) []))) = H2 at kx2 ob2 e2
    intro N1 h3
    have x3 : x ≠ N1 := ne_of_none ob2 h3
    refine ⟨_, rfl, x, _, dx, _, rfl, (by rw [upd_ne x3]; exact ob2), T.c_Folders, T.n_Folders_inside, (by show 2 < 1000; decide), ?_⟩
    have kx3 : SX x H2 (upd (upd H2 N1 (.dK [])) x (.ins a.C_Folders dx (putF "inside" (.ref N1) (putF "tags" (.ref T1) (putF "boxes" (.ref X1) []))))) := fun c o ne e => by rw [upd_ne ne, upd_ne (ne_of_none e h3)]; exact e
    have ob3 : (upd (upd H2 N1 (.dK [])) x (.ins a.C_Folders dx (putF "inside" (.ref N1) (putF "tags" (.ref T1) (putF "boxes" (.ref X1) []))))) x = some (.ins a.C_Folders dx (fflds X1 T1 N1)) := upd_same
    have e3 : (upd (upd H2 N1 (.dK [])) x (.ins a.C_Folders dx (putF "inside" (.ref N1) (putF "tags" (.ref T1) (putF "boxes" (.ref X1) []))))) N1 = some (.dK []) := by rw [upd_ne x3.symm]; exact upd_same
    have e1' := kx2 _ _ x1.symm e1
    have e1'' := kx3 _ _ x1.symm e1'
    have e2' := kx3 _ _ x2.symm e2
    have n12 : X1 ≠ T1 := ne_of_none e1 h2
    have n13 : X1 ≠ N1 := ne_of_none e1' h3
    have n23 : T1 ≠ N1 := ne_of_none e2 h3
    have kx := (kx1.trans kx2).trans kx3
    refine k _ (ft1 X1 N1 [] ++ ft2 T1 []) (fun c o ne e => kx c o ne e) (fun c hc => ?_) ⟨dx, X1, T1, N1, [], [], ob3, ⟨e1'', e3, n13, List.nodup_nil, Nat.zero_le _, hW, ⟨List.nodup_nil, List.nodup_nil, (fun _ z => nomatch z), fun _ _ => rfl⟩⟩, ⟨e2', List.nodup_nil, List.nodup_nil, (fun _ z => nomatch z), Nat.zero_le _, hM⟩, fun c h1 h2 => ?_, fun m => Iff.rfl, Nat.le_refl _, rfl⟩
    · rcases List.mem_append.mp hc with z | z
      · rcases mem_ft1.mp z with z | z | z
        · rw [z]; exact h1
        · rw [z]; exact kx1.free ob1 (kx2.free ob2 h3)
        · cases z
      · rcases mem_ft2.mp z with z | z
        · rw [z]; exact kx1.free ob1 h2
        · cases z
    · rcases mem_ft2.mp h2 with z2 | z2
      · rcases mem_ft1.mp h1 with z1 | z1 | z1
        · exact n12 (z1.symm.trans z2)
        · exact n23 (z2.symm.trans z1)
        · cases z1
      · cases z2
theorem ok_ffolder {fd : FuncData} (F : Fun K "folder" "Folders.folder" sFolders_folder a.f_Folders_folder fd) (T : Txt K mg a) (FF : Funs K a) : FnOk P w K mg base CX0 2 a.f_Folders_folder fd ["self", "name"] (spFFolder a) := by
  obtain ⟨fdC, F_check_there, b_check_there⟩ := FF.F_check_there
  have G_check_there : FnOk P w K mg base CX0 1 a.f_check_there fdC ["name", "there"] spThereD := ok_there F_check_there T
  refine F.ok sc_Folders_folder (fun vs H Q E h => ?_) (fun cdv A outer st H vs Q E hr h => ?_)
  · obtain ⟨x, bx, mk, W, M, n, F, nm, fo, rfl, _⟩ := h; rfl
  · obtain ⟨x, bx, mk, W, M, n, F, nm, fo, rfl, ⟨dx, X1, T1, N1, bs, tg, obj, fi, ft, dj, nn, l, rfl⟩, eu, k⟩ := h
    have hu := hu_of hr
    have hr_check_there : Room 1 _ := hr
    refine ⟨_, (pss_cons (ps_expr (pe_call G_check_there hr_check_there rfl T.m_check_there F_check_there.kp b_check_there .nil pass0 (pac (pv 1) (pac (pe_fld (pv 0) rfl) pa_nil))))
        (pss_one (ps_ret (pe_dget hu (pe_fld (pv 0) rfl) (pv 1) (fun _ _ => rfl))))), ?_⟩
    have hv : valV (rowsK bx) (Sum.inr nm) = some (V.str fo) := by rw [val_rows, eu]; rfl
    refine ⟨_, rfl, _, rfl, x, _, dx, _, _, rfl, obj, T.c_Folders, T.n_Folders_boxes, flds_box X1 T1 N1, nm, X1, _, _, rfl, fi.bx_, hv, ?_⟩
    exact ⟨_, rfl, x, _, dx, _, _, rfl, obj, T.c_Folders, T.n_Folders_boxes, flds_box X1 T1 N1, _, rfl, X1, _, rfl, (by rw [← hv]; exact DGet.k (k := Sum.inr nm) fi.bx_), k⟩
theorem ok_fmarks {fd : FuncData} (F : Fun K "marks" "Folders.marks" sFolders_marks a.f_Folders_marks fd) (T : Txt K mg a) (FF : Funs K a) : FnOk P w K mg base CX0 2 a.f_Folders_marks fd ["self", "name"] (spFMarks a) := by
  obtain ⟨fdC, F_check_there, b_check_there⟩ := FF.F_check_there
  have G_check_there : FnOk P w K mg base CX0 1 a.f_check_there fdC ["name", "there"] spThereD := ok_there F_check_there T
  refine F.ok sc_Folders_marks (fun vs H Q E h => ?_) (fun cdv A outer st H vs Q E hr h => ?_)
  · obtain ⟨x, bx, mk, W, M, n, F, nm, rfl, _⟩ := h; rfl
  · obtain ⟨x, bx, mk, W, M, n, F, nm, rfl, ⟨dx, X1, T1, N1, bs, tg, obj, fi, ft, dj, nn, l, rfl⟩, hn, k⟩ := h
    have hu := hu_of hr
    have hr_check_there : Room 1 _ := hr
    refine ⟨_, (pss_cons (ps_expr (pe_call G_check_there hr_check_there rfl T.m_check_there F_check_there.kp b_check_there .nil pass0 (pac (pv 1) (pac (pe_fld (pv 0) rfl) pa_nil))))
        (pss_one (ps_ret (pe_callB (call_sorted_dict rfl) rfl T.b_sorted PyProof.Rows.boot_sorted (pac (pe_dget hu (pe_fld (pv 0) rfl) (pv 1) (fun _ _ => rfl)) pa_nil))))), ?_⟩
    obtain ⟨fo, eu⟩ := up_some hn
    obtain ⟨d, hd⟩ := bd_find ((nn nm).mpr hn)
    have hvd : valV (brK tg) (Sum.inr nm) = some (V.ref d) := dG_some (r := ((nm, d) : Str × Addr)) ft.nd hd
    have hml := ft.len hd
    have hml : (mk nm).length ≤ 20 := hml
    refine ⟨_, rfl, _, rfl, x, _, dx, _, _, rfl, obj, T.c_Folders, T.n_Folders_boxes, flds_box X1 T1 N1, nm, X1, _, _, rfl, fi.bx_, (by rw [val_rows, eu]; rfl), ?_⟩
    refine ⟨_, rfl, x, _, dx, _, _, rfl, obj, T.c_Folders, T.n_Folders_tags, flds_tag X1 T1 N1, _, rfl, T1, _, rfl, (by rw [← hvd]; exact DGet.k (k := Sum.inr nm) ft.t_), d, keysT (mk nm), mk nm, rfl, (ft.at_ _ hd).1, ?_, by omega, fun l hl => k l _ hl (Same.upd_new hl) upd_same⟩
    unfold keysT
    rw [List.map_map]
    rfl
theorem ok_fnames {fd : FuncData} (F : Fun K "names" "Folders.names" sFolders_names a.f_Folders_names fd) (T : Txt K mg a) : FnOk P w K mg base CX0 1 a.f_Folders_names fd ["self", "folder"] (spFNames a) := by
  refine F.ok sc_Folders_names (fun vs H Q E h => ?_) (fun cdv A outer st H vs Q E hr h => ?_)
  · obtain ⟨x, bx, mk, W, M, n, F, fo, rfl, _⟩ := h; rfl
  · obtain ⟨x, bx, mk, W, M, n, F, t, rfl, ⟨dx, X1, T1, N1, bs, tg, obj, fi, ft, dj, nn, l, rfl⟩, k⟩ := h
    have hu := hu_of hr
    refine ⟨_, (pss_one (ps_ret (pe_callB (call_sorted_dict rfl) rfl T.b_sorted PyProof.Rows.boot_sorted (pac (pe_dget2 hu (pe_fld (pv 0) rfl) (pv 1) pe_dnewK ⟨rfl, rfl, rfl, rfl⟩) pa_nil)))), ?_⟩
    refine ⟨_, rfl, x, _, dx, _, _, rfl, obj, T.c_Folders, T.n_Folders_inside, flds_ins X1 T1 N1, N1, rfl, .inl ⟨_, .inl fi.br⟩, _, rfl, fun p hp => ?_⟩
    have s1 : Same H (upd H p (.dK [])) := Same.upd_new hp
    have hfew := fi.few
    have hrl := reps_len bx t
    refine ⟨_, DGet.k (k := Sum.inr t) (s1 _ _ fi.br), ?_⟩
    by_cases ht : t ∈ bs.map (·.1)
    · obtain ⟨d, hd⟩ := bd_find ht
      have hv : valV (brK bs) (Sum.inr t) = some (V.ref d) := dG_some (r := ((t, d) : Str × Addr)) fi.bd.nd hd
      rw [hv]
      refine ⟨d, keysT (reps bx t), reps bx t, rfl, s1 _ _ (fi.bd.at_ _ hd).1, ?_, by omega, fun l hl => k l _ (s1.free hl) (s1.upd_of (s1.free hl)) upd_same⟩
      unfold keysT
      rw [List.map_map]
      rfl
    · have hv : valV (brK bs) (Sum.inr t) = none := dG_none ht
      rw [hv]
      refine ⟨p, [], [], rfl, upd_same, rfl, by decide, fun l hl => ?_⟩
      refine k l _ (s1.free hl) (s1.upd_of (s1.free hl)) ?_
      rw [upd_same, fi.bd.no_ t ht]
end
section
variable {P : Program} {w : World} {K : PySem.W.Frag} {mg : Str → Option Value} {base : Heap} {a : Adr}
theorem ok_fmark {fd : FuncData} (F : Fun K "mark" "Folders.mark" sFolders_mark a.f_Folders_mark fd) (T : Txt K mg a) (FF : Funs K a) : FnOk P w K mg base CX0 2 a.f_Folders_mark fd ["self", "name", "word"] (spFMark a) := by
  obtain ⟨fdC, F_check_there, b_check_there⟩ := FF.F_check_there
  have G_check_there : FnOk P w K mg base CX0 1 a.f_check_there fdC ["name", "there"] spThereD := ok_there F_check_there T
  refine F.ok sc_Folders_mark (fun vs H Q E h => ?_) (fun cdv A outer st H vs Q E hr h => ?_)
  · obtain ⟨x, bx, mk, W, M, n, F, nm, y, rfl, _⟩ := h; rfl
  · obtain ⟨x, bx, mk, W, M, n, F, nm, y, rfl, ⟨dx, X1, T1, N1, bs, tg, obj, fi, ft, dj, nn, l, rfl⟩, hn, hy, k⟩ := h
    have hu := hu_of hr
    have hr_check_there : Room 1 _ := hr
    refine ⟨_, (pss_cons (ps_expr (pe_call G_check_there hr_check_there rfl T.m_check_there F_check_there.kp b_check_there .nil pass0 (pac (pv 1) (pac (pe_fld (pv 0) rfl) pa_nil))))
        (pss_one (ps_dput hu (pe_dget hu (pe_fld (pv 0) rfl) (pv 1) (fun _ _ => rfl)) (pv 2) pe_bl rfl))), ?_⟩
    obtain ⟨fo, eu⟩ := up_some hn
    obtain ⟨d, hd⟩ := bd_find ((nn nm).mpr hn)
    have hvd : valV (brK tg) (Sum.inr nm) = some (V.ref d) := dG_some (r := ((nm, d) : Str × Addr)) ft.nd hd
    have hml : (mk nm).length ≤ 20 := ft.len hd
    have ed : H d = some (.dK (keysT (mk nm))) := (ft.at_ _ hd).1
    have dT : d ≠ T1 := (ft.at_ _ hd).2.1
    have hdF : d ∈ ft2 T1 tg := mem_ft2.mpr (.inr (List.mem_map.mpr ⟨_, hd, rfl⟩))
    refine ⟨_, rfl, _, rfl, x, _, dx, _, _, rfl, obj, T.c_Folders, T.n_Folders_boxes, flds_box X1 T1 N1, nm, X1, _, _, rfl, fi.bx_, (by rw [val_rows, eu]; rfl), ?_⟩
    refine ⟨_, rfl, x, _, dx, _, _, rfl, obj, T.c_Folders, T.n_Folders_tags, flds_tag X1 T1 N1, _, rfl, T1, _, rfl, (by rw [← hvd]; exact DGet.k (k := Sum.inr nm) ft.t_), _, rfl, d, _, rfl, DPut.k (k := Sum.inr y) ed (by rw [keysT, List.length_map]; exact small1000 (by omega)), ?_⟩
    rw [put_add]
    have xd : x ≠ d := ne_of obj ed fun z => nomatch z
    refine k _ ⟨dx, X1, T1, N1, bs, tg, by rw [upd_ne xd]; exact obj, fi.keep fun c o hc e => by rw [upd_ne (fun z => dj c hc (by rw [z]; exact hdF))]; exact e, ft.set hd (add_nd (ft.at_ _ hd).2.2.1) (fun z hz => ?_) (fun q _ ne o e => by rw [upd_ne ne]; exact e) upd_same (by rw [upd_ne dT.symm]; exact ft.t_), dj, nn, l, rfl⟩ (KpF.upd (fun c o _ e => e) (.inl (List.mem_append_right _ hdF)))
    rcases mem_add.mp hz with u | u
    · exact (ft.at_ _ hd).2.2.2 z u
    · rw [u]; exact hy
theorem ok_funmark {fd : FuncData} (F : Fun K "unmark" "Folders.unmark" sFolders_unmark a.f_Folders_unmark fd) (T : Txt K mg a) (FF : Funs K a) : FnOk P w K mg base CX0 2 a.f_Folders_unmark fd ["self", "name", "word"] (spFUnmark a) := by
  obtain ⟨fdC, F_check_there, b_check_there⟩ := FF.F_check_there
  have G_check_there : FnOk P w K mg base CX0 1 a.f_check_there fdC ["name", "there"] spThereD := ok_there F_check_there T
  refine F.ok sc_Folders_unmark (fun vs H Q E h => ?_) (fun cdv A outer st H vs Q E hr h => ?_)
  · obtain ⟨x, bx, mk, W, M, n, F, nm, y, rfl, _⟩ := h; rfl
  · obtain ⟨x, bx, mk, W, M, n, F, nm, y, rfl, ⟨dx, X1, T1, N1, bs, tg, obj, fi, ft, dj, nn, l, rfl⟩, hn, k⟩ := h
    have hu := hu_of hr
    have hr_check_there : Room 1 _ := hr
    refine ⟨_, (pss_cons (ps_expr (pe_call G_check_there hr_check_there rfl T.m_check_there F_check_there.kp b_check_there .nil pass0 (pac (pv 1) (pac (pe_fld (pv 0) rfl) pa_nil))))
        (pss_one (ps_expr (pe_dpop2 (pe_dget hu (pe_fld (pv 0) rfl) (pv 1) (fun _ _ => rfl)) (pv 2) pe_non ⟨rfl, rfl, rfl, rfl⟩)))), ?_⟩
    obtain ⟨fo, eu⟩ := up_some hn
    obtain ⟨d, hd⟩ := bd_find ((nn nm).mpr hn)
    have hvd : valV (brK tg) (Sum.inr nm) = some (V.ref d) := dG_some (r := ((nm, d) : Str × Addr)) ft.nd hd
    have ed : H d = some (.dK (keysT (mk nm))) := (ft.at_ _ hd).1
    have dT : d ≠ T1 := (ft.at_ _ hd).2.1
    have hdF : d ∈ ft2 T1 tg := mem_ft2.mpr (.inr (List.mem_map.mpr ⟨_, hd, rfl⟩))
    refine ⟨_, rfl, _, rfl, x, _, dx, _, _, rfl, obj, T.c_Folders, T.n_Folders_boxes, flds_box X1 T1 N1, nm, X1, _, _, rfl, fi.bx_, (by rw [val_rows, eu]; rfl), ?_⟩
    have xd : x ≠ d := ne_of obj ed fun z => nomatch z
    refine ⟨_, rfl, x, _, dx, _, _, rfl, obj, T.c_Folders, T.n_Folders_tags, flds_tag X1 T1 N1, _, rfl, T1, _, rfl, (by rw [← hvd]; exact DGet.k (k := Sum.inr nm) ft.t_), d, rfl, .inl ⟨_, .inl ed⟩, _, rfl, _, Sum.inr y, ed, rfl, fun v _ => ?_, fun hv => ?_⟩
    · rw [drop_keys]
      exact k _ ⟨dx, X1, T1, N1, bs, tg, by rw [upd_ne xd]; exact obj, fi.keep fun c o hc e => by rw [upd_ne (fun z => dj c hc (by rw [z]; exact hdF))]; exact e, ft.set hd ((ft.at_ _ hd).2.2.1.filter _) (fun z hz => (ft.at_ _ hd).2.2.2 z (List.mem_filter.mp hz).1) (fun q _ ne o e => by rw [upd_ne ne]; exact e) upd_same (by rw [upd_ne dT.symm]; exact ft.t_), dj, nn, l, rfl⟩ (KpF.upd (fun c o _ e => e) (.inl (List.mem_append_right _ hdF)))
    · have ny : ¬ y ∈ mk nm := fun z => by rw [val_keys, if_pos z] at hv; cases hv
      refine k _ ⟨dx, X1, T1, N1, bs, tg, obj, fi, ft.congr fun t => ?_, dj, nn, l, rfl⟩ fun c o _ e => e
      by_cases e : t = nm
      · rw [e, putB_same]; exact filter_not ny
      · exact putB_ne e
theorem ok_ftake {fd : FuncData} (F : Fun K "take_out" "Folders.take_out" sFolders_take_out a.f_Folders_take_out fd) (T : Txt K mg a) (FF : Funs K a) : FnOk P w K mg base CX0 2 a.f_Folders_take_out fd ["self", "name"] (spFTake a) := by
  obtain ⟨fdC, F_check_there, b_check_there⟩ := FF.F_check_there
  obtain ⟨fdO, F_out, b_Folders_put_out⟩ := FF.F_Folders_put_out
  have G_check_there : FnOk P w K mg base CX0 1 a.f_check_there fdC ["name", "there"] spThereD := ok_there F_check_there T
  have G_Folders_put_out : FnOk P w K mg base CX0 1 a.f_Folders_put_out fdO ["self", "name"] (spPutOut a) := ok_putout F_out T
  refine F.ok sc_Folders_take_out (fun vs H Q E h => ?_) (fun cdv A outer st H vs Q E hr h => ?_)
  · obtain ⟨x, bx, mk, W, M, n, F, nm, rfl, _⟩ := h; rfl
  · obtain ⟨x, bx, mk, W, M, n, F, nm, rfl, ⟨dx, X1, T1, N1, bs, tg, obj, fi, ft, dj, nn, l, rfl⟩, hn, k⟩ := h
    have hu := hu_of hr
    have hr_check_there : Room 1 _ := hr
    have hr_Folders_put_out : Room 1 _ := hr
    refine ⟨_, (pss_cons (ps_expr (pe_call G_check_there hr_check_there rfl T.m_check_there F_check_there.kp b_check_there .nil pass0 (pac (pv 1) (pac (pe_fld (pv 0) rfl) pa_nil))))
        (pss_cons (ps_expr (pe_meth (pv 0) T.c_Folders T.M_Folders_put_out G_Folders_put_out hr_Folders_put_out b_Folders_put_out .nil pass0 (pac (pv 1) pa_nil)))
        (pss_one (ps_expr (pe_dpop1 (pe_fld (pv 0) rfl) (pv 1) ⟨rfl, rfl, rfl, rfl⟩))))), ?_⟩
    obtain ⟨fo, eu⟩ := up_some hn
    obtain ⟨d, hd⟩ := bd_find ((nn nm).mpr hn)
    have hvd : valV (brK tg) (Sum.inr nm) = some (V.ref d) := dG_some (r := ((nm, d) : Str × Addr)) ft.nd hd
    refine ⟨_, rfl, _, rfl, x, _, dx, _, _, rfl, obj, T.c_Folders, T.n_Folders_boxes, flds_box X1 T1 N1, nm, X1, _, _, rfl, fi.bx_, (by rw [val_rows, eu]; rfl), ?_⟩
    refine ⟨_, rfl, x, dx, _, rfl, obj, rfl, _, rfl, x, dx, X1, T1, N1, bx, bs, W, nm, fo, rfl, obj, fi, eu, fun H5 bs5 fi5 kp5 in5 fr5 => ?_⟩
    have nx1 : ¬ x ∈ ft1 X1 N1 bs := fun z => by obtain ⟨_, e⟩ := fi.kind z; rw [obj] at e; cases e
    have obj5 := kp5 _ _ nx1 obj
    have ft5 := ft.keep (H' := H5) fun c o hc e => kp5 c o (fun z => dj c z hc) e
    refine ⟨_, rfl, x, _, dx, _, _, rfl, obj5, T.c_Folders, T.n_Folders_tags, flds_tag X1 T1 N1, T1, rfl, .inl ⟨_, .inl ft5.t_⟩, _, rfl, _, Sum.inr nm, .ref d, ft5.t_, rfl, hvd, ?_⟩
    rw [dG_drop]
    have hT2 : T1 ∈ ft2 T1 tg := mem_ft2.mpr (.inl rfl)
    have sub5 : ∀ c ∈ ft1 X1 N1 bs5, c ∈ ft1 X1 N1 bs := fun c hc => by
      rcases mem_ft1.mp hc with z | z | z
      · exact mem_ft1.mpr (.inl z)
      · exact mem_ft1.mpr (.inr (.inl z))
      · obtain ⟨q, hq, rfl⟩ := List.mem_map.mp z
        exact mem_ft1.mpr (.inr (.inr (List.mem_map.mpr ⟨q, in5 q hq, rfl⟩)))
    have sub2 : ∀ c ∈ ft2 T1 (tg.filter fun r => decide (r.1 ≠ nm)), c ∈ ft2 T1 tg := fun c hc => by
      rcases mem_ft2.mp hc with z | z
      · exact mem_ft2.mpr (.inl z)
      · obtain ⟨q, hq, rfl⟩ := List.mem_map.mp z
        exact mem_ft2.mpr (.inr (List.mem_map.mpr ⟨q, (List.mem_filter.mp hq).1, rfl⟩))
    have xT : x ≠ T1 := ne_of obj5 ft5.t_ fun z => nomatch z
    have wl : (without bx nm).length ≤ bx.length := List.length_filter_le _ _
    refine k _ (ft1 X1 N1 bs5 ++ ft2 T1 (tg.filter fun r => decide (r.1 ≠ nm))) ⟨dx, X1, T1, N1, bs5, _, by rw [upd_ne xT]; exact obj5, fi5.keep fun c o hc e => by rw [upd_ne (fun z => dj c (sub5 c hc) (by rw [z]; exact hT2))]; exact e, ft5.del nm (fun q hq o e => by rw [upd_ne (ft.at_ q hq).2.1]; exact e) upd_same, fun c h1 h2 => dj c (sub5 c h1) (sub2 c h2), fun m => ?_, by omega, rfl⟩
      (fun c o hc e => by rw [upd_ne (fun z => hc (List.mem_append_right _ (by rw [z]; exact hT2)))]; exact kp5 c o (fun z => hc (List.mem_append_left _ z)) e) fun c hc => (List.mem_append.mp hc).elim (fun z => List.mem_append_left _ (sub5 c z)) fun z => List.mem_append_right _ (sub2 c z)
    rw [mem_wo (f := fun r : Str × Addr => r.1), nn m]
    unfold L2.without
    rw [mem_wo (f := fun r : Str × Str => r.1)]
theorem ok_fplace {fd : FuncData} (F : Fun K "place" "Folders.place" sFolders_place a.f_Folders_place fd) (T : Txt K mg a) (FF : Funs K a) : FnOk P w K mg base CX0 2 a.f_Folders_place fd ["self", "name", "folder"] (spFPlace a) := by
  obtain ⟨fdC, F_check_there, b_check_there⟩ := FF.F_check_there
  obtain ⟨fdO, F_out, b_Folders_put_out⟩ := FF.F_Folders_put_out
  obtain ⟨fdI, F_in, b_Folders_put_in⟩ := FF.F_Folders_put_in
  have G_check_there : FnOk P w K mg base CX0 1 a.f_check_there fdC ["name", "there"] spThereD := ok_there F_check_there T
  have G_Folders_put_out : FnOk P w K mg base CX0 1 a.f_Folders_put_out fdO ["self", "name"] (spPutOut a) := ok_putout F_out T
  have G_Folders_put_in : FnOk P w K mg base CX0 1 a.f_Folders_put_in fdI ["self", "name", "folder"] (spPutIn a) := ok_putin F_in T
  refine F.ok sc_Folders_place (fun vs H Q E h => ?_) (fun cdv A outer st H vs Q E hr h => ?_)
  · obtain ⟨x, bx, mk, W, M, n, F, nm, fo, rfl, _⟩ := h; rfl
  · obtain ⟨x, bx, mk, W, M, n, F, nm, fo2, rfl, ⟨dx, X1, T1, N1, bs, tg, obj, fi, ft, dj, nn, l, rfl⟩, hn, hfo, k⟩ := h
    have hr_check_there : Room 1 _ := hr
    have hr_Folders_put_out : Room 1 _ := hr
    have hr_Folders_put_in : Room 1 _ := hr
    refine ⟨_, (pss_cons (ps_expr (pe_call G_check_there hr_check_there rfl T.m_check_there F_check_there.kp b_check_there .nil pass0 (pac (pv 1) (pac (pe_fld (pv 0) rfl) pa_nil))))
        (pss_cons (ps_expr (pe_meth (pv 0) T.c_Folders T.M_Folders_put_out G_Folders_put_out hr_Folders_put_out b_Folders_put_out .nil pass0 (pac (pv 1) pa_nil)))
        (pss_one (ps_expr (pe_meth (pv 0) T.c_Folders T.M_Folders_put_in G_Folders_put_in hr_Folders_put_in b_Folders_put_in .nil pass0 (pac (pv 1) (pac (pv 2) pa_nil))))))), ?_⟩
    obtain ⟨fo, eu⟩ := up_some hn
    refine ⟨_, rfl, _, rfl, x, _, dx, _, _, rfl, obj, T.c_Folders, T.n_Folders_boxes, flds_box X1 T1 N1, nm, X1, _, _, rfl, fi.bx_, (by rw [val_rows, eu]; rfl), ?_⟩
    refine ⟨_, rfl, x, dx, _, rfl, obj, rfl, _, rfl, x, dx, X1, T1, N1, bx, bs, W, nm, fo, rfl, obj, fi, eu, fun H5 bs5 fi5 kp5 in5 fr5 => ?_⟩
    have nx1 : ¬ x ∈ ft1 X1 N1 bs := fun z => by obtain ⟨_, e⟩ := fi.kind z; rw [obj] at e; cases e
    have obj5 := kp5 _ _ nx1 obj
    have ft5 := ft.keep (H' := H5) fun c o hc e => kp5 c o (fun z => dj c z hc) e
    have sub5 : ∀ c ∈ ft1 X1 N1 bs5, c ∈ ft1 X1 N1 bs := fun c hc => by
      rcases mem_ft1.mp hc with z | z | z
      · exact mem_ft1.mpr (.inl z)
      · exact mem_ft1.mpr (.inr (.inl z))
      · obtain ⟨q, hq, rfl⟩ := List.mem_map.mp z
        exact mem_ft1.mpr (.inr (.inr (List.mem_map.mpr ⟨q, in5 q hq, rfl⟩)))
    have hnw : ¬ nm ∈ (without bx nm).map (·.1) := fun z => by
      unfold L2.without at z
      exact (mem_wo (f := fun r : Str × Str => r.1).mp z).2 rfl
    have wl : (without bx nm).length < bx.length := by
      have h1 : ((without bx nm).map (·.1) ++ [nm]).Nodup := snoc_nodup (without_nd fi.nd) hnw
      have h2 := nodup_le h1 (l := bx.map (·.1)) fun m hm => by
        rcases List.mem_append.mp hm with z | z
        · unfold L2.without at z
          exact (mem_wo (f := fun r : Str × Str => r.1).mp z).1
        · rw [List.mem_singleton.mp z]; exact hn
      rw [List.length_append, List.length_singleton, List.length_map, List.length_map] at h2
      omega
    have hfew := fi.few
    refine ⟨_, rfl, x, dx, _, rfl, obj5, rfl, _, rfl, _, rfl, x, dx, X1, T1, N1, without bx nm, bs5, W, nm, fo2, rfl, obj5, fi5, up_none.mpr hnw, by omega, hfo, fun H6 bs6 fi6 kp6 in6 => ?_⟩
    have nx5 : ¬ x ∈ ft1 X1 N1 bs5 := fun z => nx1 (sub5 x z)
    refine k H6 (ft1 X1 N1 bs6 ++ ft2 T1 tg) ⟨dx, X1, T1, N1, bs6, tg, kp6 _ _ nx5 obj5, fi6, ft5.keep fun c o hc e => kp6 c o (fun z => dj c (sub5 c z) hc) e, fun c h1 h2 => ?_, fun m => ?_, by rw [List.length_append, List.length_singleton]; omega, rfl⟩ (fun c o hc e => kp6 c o (fun z => hc (List.mem_append_left _ (sub5 c z))) (kp5 c o (fun z => hc (List.mem_append_left _ z)) e)) fun c hc => ?_
    · rcases mem_ft1.mp h1 with z | z | z
      · exact dj c (mem_ft1.mpr (.inl z)) h2
      · exact dj c (mem_ft1.mpr (.inr (.inl z))) h2
      · obtain ⟨q, hq, rfl⟩ := List.mem_map.mp z
        rcases in6 q hq with y | y
        · exact dj _ (sub5 _ (mem_ft1.mpr (.inr (.inr (List.mem_map.mpr ⟨q, y, rfl⟩))))) h2
        · obtain ⟨_, e⟩ := ft5.kind h2
          rw [y] at e
          cases e
    · rw [nn m, List.map_append, List.mem_append]
      unfold L2.without
      rw [mem_wo (f := fun r : Str × Str => r.1)]
      constructor
      · intro h
        by_cases e : m = nm
        · exact .inr (by rw [e]; exact List.mem_cons_self)
        · exact .inl ⟨h, e⟩
      · rintro (h | h)
        · exact h.1
        · rw [List.mem_singleton.mp h]; exact hn
    · rcases List.mem_append.mp hc with z | z
      · rcases mem_ft1.mp z with z | z | z
        · exact .inl (List.mem_append_left _ (mem_ft1.mpr (.inl z)))
        · exact .inl (List.mem_append_left _ (mem_ft1.mpr (.inr (.inl z))))
        · obtain ⟨q, hq, rfl⟩ := List.mem_map.mp z
          rcases in6 q hq with y | y
          · exact .inl (List.mem_append_left _ (sub5 _ (mem_ft1.mpr (.inr (.inr (List.mem_map.mpr ⟨q, y, rfl⟩))))))
          · exact .inr (fr5 _ y)
      · exact .inl (List.mem_append_right _ z)
end
section
variable {P : Program} {w : World} {K : PySem.W.Frag} {mg : Str → Option Value} {base : Heap} {a : Adr}
theorem ok_fadd {fd : FuncData} (F : FunD K "add" "Folders.add" sFolders_add a.f_Folders_add fd) (T : Txt K mg a) (FF : Funs K a) : FnOk P w K mg base CX0 2 a.f_Folders_add fd ["self", "name", "folder", "marks"] (spFAdd a) := by
  obtain ⟨fdC, F_check_new, b_check_new⟩ := FF.F_check_new
  obtain ⟨fdI, F_in, b_Folders_put_in⟩ := FF.F_Folders_put_in
  have G_check_new : FnOk P w K mg base CX0 1 a.f_check_new fdC ["name", "there"] spNewD := ok_new F_check_new T
  have G_Folders_put_in : FnOk P w K mg base CX0 1 a.f_Folders_put_in fdI ["self", "name", "folder"] (spPutIn a) := ok_putin F_in T
  refine F.ok sc_Folders_add (fun vs H Q E h => ?_) (fun cdv A outer st H vs Q E hr h => ?_)
  · obtain ⟨x, m, bx, mk, W, M, n, F, nm, fo, ss, rfl, _⟩ := h; rfl
  · obtain ⟨x, m, bx, mk, W, M, n, F, nm, fo, ss, rfl, ⟨dx, X1, T1, N1, bs, tg, obj, fi, ft, dj, nn, l, rfl⟩, hn40, hnm, hfo, hm, hss, k⟩ := h
    have hu := hu_of hr
    have hr_check_new : Room 1 _ := hr
    have hr_Folders_put_in : Room 1 _ := hr
    refine ⟨_, (pss_cons (ps_expr (pe_call G_check_new hr_check_new rfl T.m_check_new F_check_new.kp b_check_new .nil pass0 (pac (pv 1) (pac (pe_fld (pv 0) rfl) pa_nil))))
        (pss_cons (ps_dput hu (pe_fld (pv 0) rfl) (pv 1) pe_dnewK rfl)
        (pss_cons (ps_if (pt_cmpR op_notN (pv 3) pe_non (nomark _)) (pss_one (ps_for PassesOwn.never rfl (pi_list (pv 3)) (pg_name (i := 4) sc_Folders_add.nd rfl (Or.inl rfl)) (pss_one (ps_dput hu (pe_dget hu (pe_fld (pv 0) rfl) (pv 1) (fun _ _ => rfl)) (pv 4) pe_bl rfl)))) pss_nil)
        (pss_one (ps_expr (pe_meth (pv 0) T.c_Folders T.M_Folders_put_in G_Folders_put_in hr_Folders_put_in b_Folders_put_in .nil pass0 (pac (pv 1) (pac (pv 2) pa_nil)))))))), ?_⟩
    have hnt : ¬ nm ∈ tg.map (·.1) := fun z => up_none.mp hnm ((nn nm).mp z)
    have tl : tg.length ≤ bx.length := by
      have := nodup_le ft.nd fun m hm => (nn m).mp hm
      rw [List.length_map, List.length_map] at this
      exact this
    have hmf := ft.mf
    have hT2 : T1 ∈ ft2 T1 tg := mem_ft2.mpr (.inl rfl)
    refine ⟨_, rfl, _, rfl, x, _, dx, _, _, rfl, obj, T.c_Folders, T.n_Folders_boxes, flds_box X1 T1 N1, nm, X1, _, rfl, fi.bx_, (by rw [val_rows, hnm]; rfl), ?_⟩
    intro p hp
    have xp : x ≠ p := ne_of_none obj hp
    have Tp : T1 ≠ p := ne_of_none ft.t_ hp
    have mp : m ≠ p := ne_of_none hm hp
    have mT : m ≠ T1 := ne_of hm ft.t_ fun z => nomatch z
    have xT : x ≠ T1 := ne_of obj ft.t_ fun z => nomatch z
    refine ⟨_, rfl, x, _, dx, _, _, rfl, (by rw [upd_ne xp]; exact obj), T.c_Folders, T.n_Folders_tags, flds_tag X1 T1 N1, _, rfl, T1, _, rfl, DPut.k (k := Sum.inr nm) (by rw [upd_ne Tp]; exact ft.t_) (by rw [dG_len]; exact small1000 (by omega)), ?_⟩
    rw [dG_put ((nm, p) : Str × Addr) hnt rfl rfl]
    have k2 : ∀ c o, c ≠ T1 → H c = some o → (upd (upd H p (.dK [])) T1 (.dK (brK (tg ++ [((nm, p) : Str × Addr)])))) c = some o := fun c o ne e => by rw [upd_ne ne, upd_ne (ne_of_none e hp)]; exact e
    have t2 : (upd (upd H p (.dK [])) T1 (.dK (brK (tg ++ [((nm, p) : Str × Addr)])))) T1 = some (.dK (brK (tg ++ [((nm, p) : Str × Addr)]))) := upd_same
    have p2 : (upd (upd H p (.dK [])) T1 (.dK (brK (tg ++ [((nm, p) : Str × Addr)])))) p = some (.dK (keysT [])) := by rw [upd_ne Tp.symm]; exact upd_same
    show tSeq _ _ _ _ (upd (upd H p (.dK [])) T1 (.dK (brK (tg ++ [((nm, p) : Str × Addr)]))))
    generalize upd (upd H p (.dK [])) T1 (.dK (brK (tg ++ [((nm, p) : Str × Addr)]))) = H2 at k2 t2 p2
    have ntp : ¬ p ∈ tg.map (·.2) := fun z => by
      obtain ⟨q, hq, eq⟩ := List.mem_map.mp z
      have := (ft.at_ q hq).1
      rw [eq, hp] at this
      cases this
    have ft2' : FT H2 T1 (tg ++ [((nm, p) : Str × Addr)]) (putB mk nm []) M := ft.new hnt ntp Tp.symm (by omega) List.nodup_nil (fun _ z => nomatch z) (fun q hq o e => k2 _ _ (ft.at_ q hq).2.1 e) p2 t2
    have fi2 : FI H2 X1 N1 bx bs W := fi.keep fun c o hc e => k2 c o (fun z => dj c hc (by rw [z]; exact hT2)) e
    have dj2 : ∀ c ∈ ft1 X1 N1 bs, ¬ c ∈ ft2 T1 (tg ++ [((nm, p) : Str × Addr)]) := fun c hc z => by
      rcases mem_ft2.mp z with z | z
      · exact dj c hc (mem_ft2.mpr (.inl z))
      · rw [List.map_append] at z
        rcases List.mem_append.mp z with z | z
        · exact dj c hc (mem_ft2.mpr (.inr z))
        · obtain ⟨_, e⟩ := fi.kind hc
          rw [List.mem_singleton.mp z, hp] at e
          cases e
    have hdp : ((nm, p) : Str × Addr) ∈ tg ++ [((nm, p) : Str × Addr)] := List.mem_append_right _ List.mem_cons_self
    have hpF : p ∈ ft2 T1 (tg ++ [((nm, p) : Str × Addr)]) := mem_ft2.mpr (.inr (List.mem_map.mpr ⟨_, hdp, rfl⟩))
    have kp2 : KpF (ft1 X1 N1 bs ++ ft2 T1 tg) H H2 := fun c o hc e => k2 c o (fun z => hc (List.mem_append_right _ (by rw [z]; exact hT2))) e
    refine ⟨_, rfl, rfl, _, rfl, iteT ?_⟩
    refine ⟨_, rfl, m, rfl, ⟨_, SqL.of (k2 _ _ mT hm)⟩, for_list (K := K) (a := m) (xs := ss.map V.str) (fun j σ H4 => ∃ (o : Option V), σ = [some (.ref x), some (.str nm), some (.str fo), some (.ref m), o] ∧ H4 x = some (.ins a.C_Folders dx (fflds X1 T1 N1)) ∧ FI H4 X1 N1 bx bs W ∧ FT H4 T1 (tg ++ [((nm, p) : Str × Addr)]) (putB mk nm ((ss.take j).foldl addN [])) M ∧ H4 m = some (.lst (ss.map V.str)) ∧ KpF (ft1 X1 N1 bs ++ ft2 T1 tg) H H4)
      ⟨none, rfl, k2 _ _ xT obj, fi2, by rw [List.take_zero]; exact ft2', k2 _ _ mT hm, kp2⟩ ?_ ?_ ?_⟩
    · rintro j σ H4 _ ⟨o, rfl, obj4, fi4, ft4, m4, kp4⟩
      exact SqL.of m4
    · rintro j v σ H4 hv ⟨o, rfl, obj4, fi4, ft4, m4, kp4⟩
      obtain ⟨y, hy, rfl⟩ : ∃ y, ss[j]? = some y ∧ V.str y = v := by
        rw [List.getElem?_map] at hv
        cases e : ss[j]? with
        | none => rw [e] at hv; cases hv
        | some t => rw [e] at hv; exact ⟨t, rfl, Option.some.inj hv⟩
      have et : ss.take (j + 1) = ss.take j ++ [y] := by rw [List.take_add_one, hy]; rfl
      have hvd : valV (brK (tg ++ [((nm, p) : Str × Addr)])) (Sum.inr nm) = some (V.ref p) := dG_some (r := ((nm, p) : Str × Addr)) ft4.nd hdp
      obtain ⟨ep, _, ynd, yM⟩ := ft4.at_ _ hdp
      have ep : H4 p = some (.dK (keysT (putB mk nm ((ss.take j).foldl addN []) nm))) := ep
      have ynd : (putB mk nm ((ss.take j).foldl addN []) nm).Nodup := ynd
      have yM : ∀ z ∈ putB mk nm ((ss.take j).foldl addN []) nm, z ∈ M := yM
      rw [putB_same] at ep ynd yM
      have hyl := nodup_le ynd yM
      refine ⟨_, rfl, x, _, dx, _, _, rfl, obj4, T.c_Folders, T.n_Folders_tags, flds_tag X1 T1 N1, _, rfl, T1, _, rfl, (by rw [← hvd]; exact DGet.k (k := Sum.inr nm) ft4.t_), _, rfl, p, _, rfl, DPut.k (k := Sum.inr y) ep (by rw [keysT, List.length_map]; exact small1000 (by omega)), ?_⟩
      rw [put_add]
      refine ⟨_, rfl, by rw [upd_ne xp]; exact obj4, fi4.keep fun c o hc e => by rw [upd_ne (fun z => dj2 c hc (by rw [z]; exact hpF))]; exact e, ?_, by rw [upd_ne mp]; exact m4, kp4.upd (.inr hp)⟩
      rw [et, List.foldl_append]
      refine (ft4.set hdp (ys := addN ((ss.take j).foldl addN []) y) (add_nd ynd) (fun z hz => ?_) (fun q _ ne o e => by rw [upd_ne ne]; exact e) upd_same (by rw [upd_ne Tp]; exact ft4.t_)).congr fun t => ?_
      · rcases mem_add.mp hz with u | u
        · exact yM z u
        · rw [u]; exact hss y (List.mem_of_getElem? hy)
      · by_cases e : t = nm
        · rw [e, putB_same, putB_same]; rfl
        · rw [putB_ne e, putB_ne e, putB_ne e]
    · rintro σ H4 ⟨o, rfl, obj4, fi4, ft4, m4, kp4⟩
      rw [List.length_map, List.take_length] at ft4
      refine ⟨_, rfl, x, dx, _, rfl, obj4, rfl, _, rfl, _, rfl, x, dx, X1, T1, N1, bx, bs, W, nm, fo, rfl, obj4, fi4, hnm, by omega, hfo, fun H5 bs5 fi5 kp5 in5 => ?_⟩
      have nx1 : ¬ x ∈ ft1 X1 N1 bs := fun z => by obtain ⟨_, e⟩ := fi.kind z; rw [obj] at e; cases e
      have fr4 : ∀ c, H4 c = none → H c = none := fun c e => by
        cases q : H c with
        | none => rfl
        | some o =>
          by_cases z : c ∈ ft1 X1 N1 bs ++ ft2 T1 tg
          · rcases List.mem_append.mp z with z | z
            · obtain ⟨_, e2⟩ := fi4.kind z; rw [e] at e2; cases e2
            · have z2 : c ∈ ft2 T1 (tg ++ [((nm, p) : Str × Addr)]) := by
                rcases mem_ft2.mp z with u | u
                · exact mem_ft2.mpr (.inl u)
                · exact mem_ft2.mpr (.inr (by rw [List.map_append]; exact List.mem_append_left _ u))
              obtain ⟨_, e2⟩ := ft4.kind z2; rw [e] at e2; cases e2
          · rw [kp4 c o z q] at e; cases e
      refine k H5 (ft1 X1 N1 bs5 ++ ft2 T1 (tg ++ [((nm, p) : Str × Addr)])) ⟨dx, X1, T1, N1, bs5, _, kp5 _ _ nx1 obj4, fi5, ft4.keep fun c o hc e => kp5 c o (fun z => dj2 c z hc) e, fun c h1 h2 => ?_, fun m => ?_, by rw [List.length_append, List.length_singleton]; omega, rfl⟩ (fun c o hc e => kp5 c o (fun z => hc (List.mem_append_left _ z)) (kp4 c o hc e)) fun c hc => ?_
      · rcases mem_ft1.mp h1 with z | z | z
        · exact dj2 c (mem_ft1.mpr (.inl z)) h2
        · exact dj2 c (mem_ft1.mpr (.inr (.inl z))) h2
        · obtain ⟨q, hq, rfl⟩ := List.mem_map.mp z
          rcases in5 q hq with y | y
          · exact dj2 _ (mem_ft1.mpr (.inr (.inr (List.mem_map.mpr ⟨q, y, rfl⟩)))) h2
          · obtain ⟨_, e⟩ := ft4.kind h2
            rw [y] at e
            cases e
      · rw [List.map_append, List.map_append, List.mem_append, List.mem_append, nn m]
        exact Iff.rfl
      · rcases List.mem_append.mp hc with z | z
        · rcases mem_ft1.mp z with z | z | z
          · exact .inl (List.mem_append_left _ (mem_ft1.mpr (.inl z)))
          · exact .inl (List.mem_append_left _ (mem_ft1.mpr (.inr (.inl z))))
          · obtain ⟨q, hq, rfl⟩ := List.mem_map.mp z
            rcases in5 q hq with y | y
            · exact .inl (List.mem_append_left _ (mem_ft1.mpr (.inr (.inr (List.mem_map.mpr ⟨q, y, rfl⟩)))))
            · exact .inr (fr4 _ y)
        · rcases mem_ft2.mp z with z | z
          · exact .inl (List.mem_append_right _ (mem_ft2.mpr (.inl z)))
          · rw [List.map_append] at z
            rcases List.mem_append.mp z with u | u
            · exact .inl (List.mem_append_right _ (mem_ft2.mpr (.inr u)))
            · rw [List.mem_singleton.mp u]; exact .inr hp
end
def nMk (bx : Rows) (mk : Str → List Str) (fo y : Str) : Nat := ((reps bx fo).filter fun n => decide (y ∈ mk n)).length
inductive spFMarked_I (a : Adr) (vs : List V) (H : Hp) (Q : VK) : Prop
  | mk : ∀ (x : Addr) (bx : Rows) (mk : Str → List Str) (W M : List Str) (n : Nat) (F : List Addr) (fo y : Str), vs = [.ref x, .str fo, .str y] → FO a H x bx mk W M n F → (∀ H', Same H H' → Q (.int (nMk bx mk fo y)) H') → spFMarked_I a vs H Q
def spFMarked (a : Adr) : Sp := fun vs H Q _ => spFMarked_I a vs H Q
inductive spFCounts_I (a : Adr) (vs : List V) (H : Hp) (Q : VK) : Prop
  | mk : ∀ (x : Addr) (bx : Rows) (mk : Str → List Str) (W M : List Str) (n : Nat) (F : List Addr) (fo : Str), vs = [.ref x, .str fo] → FO a H x bx mk W M n F → (∀ l H', H l = none → Same H H' → H' l = some (.tup [.int ((reps bx fo).length : Nat), .int (((reps bx fo).length : Nat) - (nMk bx mk fo "seen" : Nat))]) → Q (.ref l) H') → spFCounts_I a vs H Q
def spFCounts (a : Adr) : Sp := fun vs H Q _ => spFCounts_I a vs H Q
theorem same_back {H H1 : Hp} {d : Addr} {o : HO} (e : H d = some o) (s : ∀ b u, b ≠ d → H b = some u → H1 b = some u) : Same H (upd H1 d o) := fun b u q => by
  by_cases z : b = d
  · rw [z] at q ⊢; rw [e] at q; cases q; exact upd_same
  · rw [upd_ne z]; exact s b u z q
section
variable {P : Program} {w : World} {K : PySem.W.Frag} {mg : Str → Option Value} {base : Heap} {a : Adr}
theorem ok_fmarked {fd : FuncData} (F : Fun K "marked" "Folders.marked" sFolders_marked a.f_Folders_marked fd) (T : Txt K mg a) : FnOk P w K mg base CX0 1 a.f_Folders_marked fd ["self", "folder", "word"] (spFMarked a) := by
  refine F.ok sc_Folders_marked (fun vs H Q E h => ?_) (fun cdv A outer st H vs Q E hr h => ?_)
  · obtain ⟨x, bx, mk, W, M, n, F, fo, y, rfl, _⟩ := h; rfl
  · obtain ⟨x, bx, mk, W, M, n, F, fo, y, rfl, ⟨dx, X1, T1, N1, bs, tg, obj, fi, ft, dj, nn, l, rfl⟩, k⟩ := h
    have hu := hu_of hr
    have hfew := fi.few
    have hrl := reps_len bx fo
    refine ⟨_, (pss_one (ps_fast (ps_ret (pe_callB call_len_seq rfl T.b_len PySem.boot_len (pac (pe_comp (sc := defScope sFolders_marked) (N := n_Folders_marked) (fr := [(2, "word"), (0, "self")]) ⟨rfl, rfl, by decide +kernel, by decide +kernel, by decide +kernel, by decide +kernel, by decide +kernel⟩ rfl rfl rfl (pi_dictZ (pe_dget2 hu (pe_fld (pv 0) rfl) (pv 1) pe_dnewK ⟨rfl, rfl, rfl, rfl⟩)) (fun _ _ _ _ => pts_one (pt_cmp (pc_din hu (pv 1) (pe_dget hu (pe_fldK K (pv 2) rfl) (pv 0) (fun _ _ => rfl))))) (fun _ _ _ _ => (pv 0))) pa_nil))))), ?_⟩
    by_cases ht : fo ∈ bs.map (·.1)
    · obtain ⟨d, hd⟩ := bd_find ht
      have hv : valV (brK bs) (Sum.inr fo) = some (V.ref d) := dG_some (r := ((fo, d) : Str × Addr)) fi.bd.nd hd
      obtain ⟨ed, dX, dN, _, _⟩ := fi.bd.at_ _ hd
      have ed : H d = some (.dK (keysT (reps bx fo))) := ed
      have hdF : d ∈ ft1 X1 N1 bs := mem_ft1.mpr (.inr (.inr (List.mem_map.mpr ⟨_, hd, rfl⟩)))
      have xd : x ≠ d := ne_of obj ed fun z => nomatch z
      refine ⟨d, _, ed, fun oa => ?_⟩
      have k1 : ∀ c o, c ≠ d → H c = some o → (upd H d (.frz oa (.dK (keysT (reps bx fo))))) c = some o := fun c o ne e => by rw [upd_ne ne]; exact e
      have d1 : (upd H d (.frz oa (.dK (keysT (reps bx fo))))) d = some (.frz oa (.dK (keysT (reps bx fo)))) := upd_same
      generalize upd H d (.frz oa (.dK (keysT (reps bx fo)))) = H1 at k1 d1
      refine ⟨_, rfl, x, _, dx, _, _, rfl, k1 _ _ xd obj, T.c_Folders, T.n_Folders_inside, flds_ins X1 T1 N1, N1, rfl, .inl ⟨_, .inl (k1 _ _ dN.symm fi.br)⟩, _, rfl, fun p hp => ?_⟩
      have s2 : Same H1 (upd H1 p (.dK [])) := Same.upd_new hp
      refine ⟨_, DGet.k (k := Sum.inr fo) (s2 _ _ (k1 _ _ dN.symm fi.br)), ?_⟩
      rw [hv]
      generalize upd H1 p (.dK []) = H2 at s2
      have d2 := s2 _ _ d1
      refine ⟨d, keysT (reps bx fo), rfl, .inl ⟨oa, d2, comp_dictFM (xs := reps bx fo) V.str (fun z => decide (y ∈ mk z)) V.str (Nat.le_of_lt (small1000 (by omega))) d2 (by unfold keysT; rw [List.map_map]; rfl) ?_ ?_ ?_⟩⟩
      · intro z H5 Q' hz s5 q'
        have zin := (nn z).mpr (reps_sub hz)
        obtain ⟨dz, hdz⟩ := bd_find zin
        have hvz : valV (brK tg) (Sum.inr z) = some (V.ref dz) := dG_some (r := ((z, dz) : Str × Addr)) ft.nd hdz
        have ez : H dz = some (.dK (keysT (mk z))) := (ft.at_ _ hdz).1
        have zd : dz ≠ d := fun e => dj d hdF (mem_ft2.mpr (.inr (List.mem_map.mpr ⟨_, hdz, e⟩)))
        have Td : T1 ≠ d := fun e => dj d hdF (mem_ft2.mpr (.inl e.symm))
        refine ⟨_, rfl, _, rfl, x, _, dx, _, _, rfl, s5 _ _ (s2 _ _ (k1 _ _ xd obj)), T.c_Folders, T.n_Folders_tags, flds_tag X1 T1 N1, _, rfl, T1, _, rfl, (by rw [← hvz]; exact DGet.k (k := Sum.inr z) (s5 _ _ (s2 _ _ (k1 _ _ Td ft.t_)))), dz, _, rfl, DGet.k (k := Sum.inr y) (s5 _ _ (s2 _ _ (k1 _ _ zd ez))), _, rfl, ?_⟩
        rw [val_keys]
        by_cases e : y ∈ mk z
        · rw [if_pos e]; rw [decide_eq_true e] at q'; exact q'
        · rw [if_neg e]; rw [decide_eq_false e] at q'; exact q'
      · intro z H5 Q' hz s5 _ q'
        exact ⟨_, rfl, q'⟩
      · intro D hD
        have dD : d ≠ D := ne_of_none d2 hD
        refine ⟨D, _, rfl, .inl (SqL.of upd_same), ⟨by rw [upd_ne dD]; exact d2, ?_⟩⟩
        rw [List.length_map]
        exact k _ (same_back ed fun b u ne e => by rw [upd_ne (ne_of_none (s2 _ _ (k1 b u ne e)) hD)]; exact s2 _ _ (k1 b u ne e))
    · have hv : valV (brK bs) (Sum.inr fo) = none := dG_none ht
      have e0 : reps bx fo = [] := fi.bd.no_ fo ht
      have xX : x ≠ X1 := ne_of obj fi.bx_ fun z => nomatch z
      refine ⟨X1, _, fi.bx_, fun oa => ?_⟩
      have k1 : ∀ c o, c ≠ X1 → H c = some o → (upd H X1 (.frz oa (.dK (rowsK bx)))) c = some o := fun c o ne e => by rw [upd_ne ne]; exact e
      have d1 : (upd H X1 (.frz oa (.dK (rowsK bx)))) X1 = some (.frz oa (.dK (rowsK bx))) := upd_same
      generalize upd H X1 (.frz oa (.dK (rowsK bx))) = H1 at k1 d1
      refine ⟨_, rfl, x, _, dx, _, _, rfl, k1 _ _ xX obj, T.c_Folders, T.n_Folders_inside, flds_ins X1 T1 N1, N1, rfl, .inl ⟨_, .inl (k1 _ _ fi.ne.symm fi.br)⟩, _, rfl, fun p hp => ?_⟩
      have s2 : Same H1 (upd H1 p (.dK [])) := Same.upd_new hp
      have p2 : (upd H1 p (.dK [])) p = some (.dK []) := upd_same
      refine ⟨_, DGet.k (k := Sum.inr fo) (s2 _ _ (k1 _ _ fi.ne.symm fi.br)), ?_⟩
      rw [hv]
      have Xp : X1 ≠ p := ne_of_none d1 hp
      generalize upd H1 p (.dK []) = H2 at s2 p2
      refine ⟨p, [], rfl, .inr ⟨p2, fun ob => ?_⟩⟩
      have d3 : (upd H2 p (.frz ob (.dK []))) X1 = some (.frz oa (.dK (rowsK bx))) := by rw [upd_ne Xp]; exact s2 _ _ d1
      have p3 : (upd H2 p (.frz ob (.dK []))) p = some (.frz ob (.dK [])) := upd_same
      have k3 : ∀ c o, H1 c = some o → (upd H2 p (.frz ob (.dK []))) c = some o := fun c o e => by rw [upd_ne (ne_of_none e hp)]; exact s2 _ _ e
      generalize upd H2 p (.frz ob (.dK [])) = H3 at d3 p3 k3
      refine comp_dictFM (xs := ([] : List Str)) V.str (fun z => decide (y ∈ mk z)) V.str (Nat.zero_le _) p3 rfl (fun z _ _ hz => nomatch hz) (fun z _ _ hz => nomatch hz) fun D hD => ?_
      have XD : X1 ≠ D := ne_of_none d3 hD
      refine ⟨D, _, rfl, .inl (SqL.of upd_same), ⟨by rw [upd_ne XD]; exact d3, ?_⟩⟩
      have en : ((([] : List Str).filter fun z => decide (y ∈ mk z)).map V.str).length = nMk bx mk fo y := by unfold nMk; rw [e0]; rfl
      rw [en]
      exact k _ (same_back fi.bx_ fun b u ne e => by rw [upd_ne (ne_of_none (k3 _ _ (k1 b u ne e)) hD)]; exact k3 _ _ (k1 b u ne e))
theorem ok_fcounts {fd : FuncData} (F : Fun K "counts" "Folders.counts" sFolders_counts a.f_Folders_counts fd) (T : Txt K mg a) (FF : Funs K a) : FnOk P w K mg base CX0 2 a.f_Folders_counts fd ["self", "folder"] (spFCounts a) := by
  obtain ⟨fdM, F_mar, b_Folders_marked⟩ := FF.F_Folders_marked
  have G_Folders_marked : FnOk P w K mg base CX0 1 a.f_Folders_marked fdM ["self", "folder", "word"] (spFMarked a) := ok_fmarked F_mar T
  refine F.ok sc_Folders_counts (fun vs H Q E h => ?_) (fun cdv A outer st H vs Q E hr h => ?_)
  · obtain ⟨x, bx, mk, W, M, n, F, fo, rfl, _⟩ := h; rfl
  · obtain ⟨x, bx, mk, W, M, n, F, fo, rfl, hf, k⟩ := h
    obtain ⟨dx, X1, T1, N1, bs, tg, obj, fi, ft, dj, nn, l, e⟩ := id hf
    have hu := hu_of hr
    have hr_Folders_marked : Room 1 _ := hr
    refine ⟨_, (pss_cons (ps_set (i := 2) sc_Folders_counts.nd rfl (Or.inl rfl) (pe_callB call_lenD rfl T.b_len PySem.boot_len (pac (pe_dget2 hu (pe_fld (pv 0) rfl) (pv 1) pe_dnewK ⟨rfl, rfl, rfl, rfl⟩) pa_nil)))
        (pss_one (ps_ret (pe_tupS (pas_cons (pv 2) (pas_cons (pe_op op_sub (pv 2) (pe_meth (pv 0) T.c_Folders T.M_Folders_marked G_Folders_marked hr_Folders_marked b_Folders_marked .nil pass0 (pac (pv 1) (pac (pe_gl rfl T.g_SEEN) pa_nil)))) pas_nil)))))), ?_⟩
    refine ⟨_, rfl, x, _, dx, _, _, rfl, obj, T.c_Folders, T.n_Folders_inside, flds_ins X1 T1 N1, N1, rfl, .inl ⟨_, .inl fi.br⟩, _, rfl, fun p hp => ?_⟩
    have s1 : Same H (upd H p (.dK [])) := Same.upd_new hp
    refine ⟨_, DGet.k (k := Sum.inr fo) (s1 _ _ fi.br), ?_⟩
    have hd : ∃ d, ((valV (brK bs) (Sum.inr fo)).getD (V.ref p)) = V.ref d ∧ (upd H p (.dK [])) d = some (.dK (keysT (reps bx fo))) := by
      by_cases ht : fo ∈ bs.map (·.1)
      · obtain ⟨d, hd⟩ := bd_find ht
        have hv : valV (brK bs) (Sum.inr fo) = some (V.ref d) := dG_some (r := ((fo, d) : Str × Addr)) fi.bd.nd hd
        rw [hv]
        exact ⟨d, rfl, s1 _ _ (fi.bd.at_ _ hd).1⟩
      · have hv : valV (brK bs) (Sum.inr fo) = none := dG_none ht
        rw [hv]
        exact ⟨p, rfl, by rw [upd_same, fi.bd.no_ fo ht]; rfl⟩
    obtain ⟨d, e1, e2⟩ := hd
    rw [e1]
    refine ⟨d, _, rfl, e2, ?_⟩
    have elen : (keysT (reps bx fo)).length = (reps bx fo).length := by unfold keysT; rw [List.length_map]
    rw [elen]
    generalize upd H p (.dK []) = H1 at s1 e2
    refine ⟨_, rfl, _, rfl, _, rfl, x, dx, _, rfl, s1 _ _ obj, rfl, _, rfl, x, bx, mk, W, M, n, F, fo, "seen", rfl, hf.same s1, fun H2 s2 => ?_⟩
    refine ⟨_, _, rfl, rfl, (by show 2 ≤ sizeLine; decide), fun u hu0 => ?_⟩
    exact k u _ ((s1.trans s2).free hu0) ((s1.trans s2).upd_of ((s1.trans s2).free hu0)) upd_same
end
/-- a folder that is there, told: how many names, how many that are not seen -/
abbrev FRow := Addr × Str
def cN (bx : Rows) (f : Str) : Int := ((reps bx f).length : Nat)
def cU (bx : Rows) (mk : Str → List Str) (f : Str) : Int := ((reps bx f).length : Nat) - (nMk bx mk f "seen" : Nat)
def FolAt (H : Hp) (l : Addr) (bx : Rows) (mk : Str → List Str) (fs : List FRow) : Prop := H l = some (.lst (fs.map fun q => V.ref q.1)) ∧ ∀ q ∈ fs, H q.1 = some (.tup [.str q.2, .int (cN bx q.2), .int (cU bx mk q.2)])
inductive spFFolders_I (a : Adr) (vs : List V) (H : Hp) (Q : VK) : Prop
  | mk : ∀ (x : Addr) (bx : Rows) (mk : Str → List Str) (W M : List Str) (n : Nat) (F : List Addr), vs = [.ref x] → FO a H x bx mk W M n F → (∀ l H' fs ks, ks.Nodup → ks.length ≤ 20 → (∀ t, t ∈ ks ↔ reps bx t ≠ []) → fs.map (·.2) = sortS ks → H l = none → Same H H' → FolAt H' l bx mk fs → Q (.ref l) H') → spFFolders_I a vs H Q
def spFFolders (a : Adr) : Sp := fun vs H Q _ => spFFolders_I a vs H Q
section
variable {P : Program} {w : World} {K : PySem.W.Frag} {mg : Str → Option Value} {base : Heap} {a : Adr}
theorem ok_ffolders {fd : FuncData} (F : Fun K "folders" "Folders.folders" sFolders_folders a.f_Folders_folders fd) (T : Txt K mg a) (FF : Funs K a) : FnOk P w K mg base CX0 3 a.f_Folders_folders fd ["self"] (spFFolders a) := by
  obtain ⟨fdC, F_cou, b_Folders_counts⟩ := FF.F_Folders_counts
  have G_Folders_counts : FnOk P w K mg base CX0 2 a.f_Folders_counts fdC ["self", "folder"] (spFCounts a) := ok_fcounts F_cou T FF
  refine F.ok sc_Folders_folders (fun vs H Q E h => ?_) (fun cdv A outer st H vs Q E hr h => ?_)
  · obtain ⟨x, bx, mk, W, M, n, F, rfl, _⟩ := h; rfl
  · obtain ⟨x, bx, mk, W, M, n, F, rfl, hf, k⟩ := h
    obtain ⟨dx, X1, T1, N1, bs, tg, obj, fi, ft, dj, nn, l, e⟩ := id hf
    have hr_Folders_counts : Room 2 _ := hr
    have hbl := fi.bd.len
    have hwf := fi.wf
    refine ⟨_, (pss_cons (ps_set (i := 1) sc_Folders_folders.nd rfl (Or.inl rfl) (pe_lstS pas_nil))
        (pss_cons (ps_for PassesOwn.never rfl (pi_list (pe_callB (call_sorted_dict rfl) rfl T.b_sorted PyProof.Rows.boot_sorted (pac (pe_fld (pv 0) rfl) pa_nil))) (pg_name (i := 2) sc_Folders_folders.nd rfl (Or.inl rfl)) (pss_cons (ps_set (i := 3) sc_Folders_folders.nd rfl (Or.inl rfl) (pe_meth (pv 0) T.c_Folders T.M_Folders_counts G_Folders_counts hr_Folders_counts b_Folders_counts .nil pass0 (pac (pv 2) pa_nil)))
        (pss_one (ps_expr (pe_bm PySem.F.plainAttrs_list PySem.F.slot_list_append PySem.F.type_list_append mt_append (pv 1) (pac (pe_tupS (pas_cons (pv 2) (pas_cons (pe_ix ix_tup (pv 3) pe_int (fun _ _ => rfl)) (pas_cons (pe_ix ix_tup (pv 3) pe_int (fun _ _ => rfl)) pas_nil)))) pa_nil))))))
        (pss_one (ps_ret (pv 1))))), ?_⟩
    refine ⟨(by show 0 ≤ sizeLine; decide), fun q hq => ?_⟩
    have s1 : Same H (upd H q (.lst [])) := Same.upd_new hq
    have q1 : (upd H q (.lst [])) q = some (.lst []) := upd_same
    show tSeq _ _ _ _ (upd H q (.lst []))
    generalize upd H q (.lst []) = H1 at s1 q1
    refine ⟨_, rfl, x, _, dx, _, _, rfl, s1 _ _ obj, T.c_Folders, T.n_Folders_inside, flds_ins X1 T1 N1, N1, brK bs, bs.map (·.1), rfl, s1 _ _ fi.br, dG_keys _ _ _, by rw [List.length_map]; omega, fun m hm => ?_⟩
    have s2 : Same H1 (upd H1 m (.lst ((sortS (bs.map (·.1))).map V.str))) := Same.upd_new hm
    have m2 : (upd H1 m (.lst ((sortS (bs.map (·.1))).map V.str))) m = some (.lst ((sortS (bs.map (·.1))).map V.str)) := upd_same
    have q2 := s2 _ _ q1
    have qm : q ≠ m := ne_of_none q1 hm
    generalize upd H1 m (.lst ((sortS (bs.map (·.1))).map V.str)) = H2 at s2 m2 q2
    have hks : (sortS (bs.map (·.1))).length ≤ 20 := by rw [sortS_len, List.length_map]; omega
    generalize hns : sortS (bs.map (·.1)) = ns at m2 hks
    have qn : H q = none := hq
    refine ⟨m, rfl, ⟨_, SqL.of m2⟩, for_list (K := K) (a := m) (xs := ns.map V.str) (fun i σ H4 => ∃ (fs : List FRow) (o2 o3 : Option V), σ = [some (.ref x), some (.ref q), o2, o3] ∧ Same H H4 ∧ FolAt H4 q bx mk fs ∧ fs.map (·.2) = ns.take i ∧ H4 m = some (.lst (ns.map V.str)))
      ⟨[], none, none, rfl, s1.trans s2, ⟨q2, (fun _ z => nomatch z)⟩, by rw [List.take_zero]; rfl, m2⟩ ?_ ?_ ?_⟩
    · rintro i σ H4 _ ⟨fs, o2, o3, rfl, s4, f4, e4, m4⟩
      exact SqL.of m4
    · rintro i v σ H4 hv ⟨fs, o2, o3, rfl, s4, f4, e4, m4⟩
      obtain ⟨t, ht, rfl⟩ : ∃ y, ns[i]? = some y ∧ V.str y = v := by
        rw [List.getElem?_map] at hv
        cases e : ns[i]? with
        | none => rw [e] at hv; cases hv
        | some t => rw [e] at hv; exact ⟨t, rfl, Option.some.inj hv⟩
      have et : ns.take (i + 1) = ns.take i ++ [t] := by rw [List.take_add_one, ht]; rfl
      have hfl : fs.length ≤ 20 := by
        have := congrArg List.length e4
        rw [List.length_map, List.length_take] at this
        omega
      refine ⟨_, rfl, x, dx, _, rfl, s4 _ _ obj, rfl, _, rfl, x, bx, mk, W, M, n, F, t, rfl, hf.same s4, fun c H5 nc s5 ec => ?_⟩
      refine ⟨_, rfl, .inl ⟨rfl, _, SqL.of (s5 _ _ f4.1)⟩, _, rfl, _, rfl, c, _, _, _, rfl, rfl, SqT.of ec, rfl, _, rfl, c, _, _, _, rfl, rfl, SqT.of ec, rfl, (by show 3 ≤ sizeLine; decide), fun u hu => ?_⟩
      have s6 : Same H5 (upd H5 u (.tup [.str t, .int (cN bx t), .int (cU bx mk t)])) := Same.upd_new hu
      have u6 : (upd H5 u (.tup [.str t, .int (cN bx t), .int (cU bx mk t)])) u = some (.tup [.str t, .int (cN bx t), .int (cU bx mk t)]) := upd_same
      refine ⟨q, _, _, rfl, rfl, s6 _ _ (s5 _ _ f4.1), (by rw [List.length_map]; exact small1000 (by omega)), ?_⟩
      have uq : u ≠ q := (ne_of_none (s5 _ _ f4.1) hu).symm
      have el : (fs.map fun q => V.ref q.1) ++ [V.ref u] = (fs ++ [((u, t) : FRow)]).map fun q => V.ref q.1 := by rw [List.map_append]; rfl
      rw [el]
      refine ⟨fs ++ [((u, t) : FRow)], _, _, rfl, ((s4.trans s5).trans s6).upd_of qn, ⟨upd_same, fun z hz => ?_⟩, by rw [List.map_append, e4, et]; rfl, by rw [upd_ne qm.symm]; exact s6 _ _ (s5 _ _ m4)⟩
      rcases List.mem_append.mp hz with y | y
      · rw [upd_ne (ne_of (f4.2 z y) f4.1 fun z => nomatch z)]; exact s6 _ _ (s5 _ _ (f4.2 z y))
      · rw [List.mem_singleton.mp y, upd_ne uq]; exact u6
    · rintro σ H4 ⟨fs, o2, o3, rfl, s4, f4, e4, m4⟩
      rw [List.length_map, List.take_length] at e4
      refine ⟨_, rfl, k q H4 fs (bs.map (·.1)) fi.bd.nd (by rw [List.length_map]; omega) (fun t => ⟨fun ht => ?_, fun ht => ?_⟩) (by rw [hns]; exact e4) qn s4 f4⟩
      · obtain ⟨d, hd⟩ := bd_find ht
        exact (fi.bd.at_ _ hd).2.2.2.1
      · exact Classical.byContradiction fun z => ht (fi.bd.no_ t z)
end
inductive spFAddN_I (a : Adr) (vs : List V) (H : Hp) (Q : VK) : Prop
  | mk : ∀ (x : Addr) (bx : Rows) (mk : Str → List Str) (W M : List Str) (n : Nat) (F : List Addr) (nm fo : Str), vs = [.ref x, .str nm, .str fo, .non] → FO a H x bx mk W M n F → n < 40 → up bx nm = none → fo ∈ W → (∀ H' F', FO a H' x (bx ++ [(nm, fo)]) (putB mk nm []) W M (n + 1) F' → KpF F H H' → (∀ c ∈ F', c ∈ F ∨ H c = none) → Q .non H') → spFAddN_I a vs H Q
def spFAddN (a : Adr) : Sp := fun vs H Q _ => spFAddN_I a vs H Q
section
variable {P : Program} {w : World} {K : PySem.W.Frag} {mg : Str → Option Value} {base : Heap} {a : Adr}
theorem ok_faddN {fd : FuncData} (F : FunD K "add" "Folders.add" sFolders_add a.f_Folders_add fd) (T : Txt K mg a) (FF : Funs K a) : FnOk P w K mg base CX0 2 a.f_Folders_add fd ["self", "name", "folder", "marks"] (spFAddN a) := by
  obtain ⟨fdC, F_check_new, b_check_new⟩ := FF.F_check_new
  obtain ⟨fdI, F_in, b_Folders_put_in⟩ := FF.F_Folders_put_in
  have G_check_new : FnOk P w K mg base CX0 1 a.f_check_new fdC ["name", "there"] spNewD := ok_new F_check_new T
  have G_Folders_put_in : FnOk P w K mg base CX0 1 a.f_Folders_put_in fdI ["self", "name", "folder"] (spPutIn a) := ok_putin F_in T
  refine F.ok sc_Folders_add (fun vs H Q E h => ?_) (fun cdv A outer st H vs Q E hr h => ?_)
  · obtain ⟨x, bx, mk, W, M, n, F, nm, fo, rfl, _⟩ := h; rfl
  · obtain ⟨x, bx, mk, W, M, n, F, nm, fo, rfl, ⟨dx, X1, T1, N1, bs, tg, obj, fi, ft, dj, nn, l, rfl⟩, hn40, hnm, hfo, k⟩ := h
    have hu := hu_of hr
    have hr_check_new : Room 1 _ := hr
    have hr_Folders_put_in : Room 1 _ := hr
    refine ⟨_, (pss_cons (ps_expr (pe_call G_check_new hr_check_new rfl T.m_check_new F_check_new.kp b_check_new .nil pass0 (pac (pv 1) (pac (pe_fld (pv 0) rfl) pa_nil))))
        (pss_cons (ps_dput hu (pe_fld (pv 0) rfl) (pv 1) pe_dnewK rfl)
        (pss_cons (ps_if (pt_cmpR op_notN (pv 3) pe_non (nomark _)) (pss_one (ps_for PassesOwn.never rfl (pi_list (pv 3)) (pg_name (i := 4) sc_Folders_add.nd rfl (Or.inl rfl)) (pss_one (ps_dput hu (pe_dget hu (pe_fld (pv 0) rfl) (pv 1) (fun _ _ => rfl)) (pv 4) pe_bl rfl)))) pss_nil)
        (pss_one (ps_expr (pe_meth (pv 0) T.c_Folders T.M_Folders_put_in G_Folders_put_in hr_Folders_put_in b_Folders_put_in .nil pass0 (pac (pv 1) (pac (pv 2) pa_nil)))))))), ?_⟩
    have hnt : ¬ nm ∈ tg.map (·.1) := fun z => up_none.mp hnm ((nn nm).mp z)
    have tl : tg.length ≤ bx.length := by
      have := nodup_le ft.nd fun m hm => (nn m).mp hm
      rw [List.length_map, List.length_map] at this
      exact this
    have hmf := ft.mf
    have hT2 : T1 ∈ ft2 T1 tg := mem_ft2.mpr (.inl rfl)
    refine ⟨_, rfl, _, rfl, x, _, dx, _, _, rfl, obj, T.c_Folders, T.n_Folders_boxes, flds_box X1 T1 N1, nm, X1, _, rfl, fi.bx_, (by rw [val_rows, hnm]; rfl), ?_⟩
    intro p hp
    have xp : x ≠ p := ne_of_none obj hp
    have Tp : T1 ≠ p := ne_of_none ft.t_ hp
    have xT : x ≠ T1 := ne_of obj ft.t_ fun z => nomatch z
    refine ⟨_, rfl, x, _, dx, _, _, rfl, (by rw [upd_ne xp]; exact obj), T.c_Folders, T.n_Folders_tags, flds_tag X1 T1 N1, _, rfl, T1, _, rfl, DPut.k (k := Sum.inr nm) (by rw [upd_ne Tp]; exact ft.t_) (by rw [dG_len]; exact small1000 (by omega)), ?_⟩
    rw [dG_put ((nm, p) : Str × Addr) hnt rfl rfl]
    have k2 : ∀ c o, c ≠ T1 → H c = some o → (upd (upd H p (.dK [])) T1 (.dK (brK (tg ++ [((nm, p) : Str × Addr)])))) c = some o := fun c o ne e => by rw [upd_ne ne, upd_ne (ne_of_none e hp)]; exact e
    have t2 : (upd (upd H p (.dK [])) T1 (.dK (brK (tg ++ [((nm, p) : Str × Addr)])))) T1 = some (.dK (brK (tg ++ [((nm, p) : Str × Addr)]))) := upd_same
    have p2 : (upd (upd H p (.dK [])) T1 (.dK (brK (tg ++ [((nm, p) : Str × Addr)])))) p = some (.dK (keysT [])) := by rw [upd_ne Tp.symm]; exact upd_same
    show tSeq _ _ _ _ (upd (upd H p (.dK [])) T1 (.dK (brK (tg ++ [((nm, p) : Str × Addr)]))))
    generalize upd (upd H p (.dK [])) T1 (.dK (brK (tg ++ [((nm, p) : Str × Addr)]))) = H2 at k2 t2 p2
    have ntp : ¬ p ∈ tg.map (·.2) := fun z => by
      obtain ⟨q, hq, eq⟩ := List.mem_map.mp z
      have := (ft.at_ q hq).1
      rw [eq, hp] at this
      cases this
    have ft2' : FT H2 T1 (tg ++ [((nm, p) : Str × Addr)]) (putB mk nm []) M := ft.new hnt ntp Tp.symm (by omega) List.nodup_nil (fun _ z => nomatch z) (fun q hq o e => k2 _ _ (ft.at_ q hq).2.1 e) p2 t2
    have fi2 : FI H2 X1 N1 bx bs W := fi.keep fun c o hc e => k2 c o (fun z => dj c hc (by rw [z]; exact hT2)) e
    have dj2 : ∀ c ∈ ft1 X1 N1 bs, ¬ c ∈ ft2 T1 (tg ++ [((nm, p) : Str × Addr)]) := fun c hc z => by
      rcases mem_ft2.mp z with z | z
      · exact dj c hc (mem_ft2.mpr (.inl z))
      · rw [List.map_append] at z
        rcases List.mem_append.mp z with z | z
        · exact dj c hc (mem_ft2.mpr (.inr z))
        · obtain ⟨_, e⟩ := fi.kind hc
          rw [List.mem_singleton.mp z, hp] at e
          cases e
    have hdp : ((nm, p) : Str × Addr) ∈ tg ++ [((nm, p) : Str × Addr)] := List.mem_append_right _ List.mem_cons_self
    have hpF : p ∈ ft2 T1 (tg ++ [((nm, p) : Str × Addr)]) := mem_ft2.mpr (.inr (List.mem_map.mpr ⟨_, hdp, rfl⟩))
    have kp2 : KpF (ft1 X1 N1 bs ++ ft2 T1 tg) H H2 := fun c o hc e => k2 c o (fun z => hc (List.mem_append_right _ (by rw [z]; exact hT2))) e
    refine ⟨_, rfl, rfl, _, rfl, iteF ?_⟩
    have obj4 := k2 _ _ xT obj
    have fi4 := fi2
    have ft4 := ft2'
    have kp4 := kp2
    refine ⟨_, rfl, x, dx, _, rfl, obj4, rfl, _, rfl, _, rfl, x, dx, X1, T1, N1, bx, bs, W, nm, fo, rfl, obj4, fi4, hnm, by omega, hfo, fun H5 bs5 fi5 kp5 in5 => ?_⟩
    have nx1 : ¬ x ∈ ft1 X1 N1 bs := fun z => by obtain ⟨_, e⟩ := fi.kind z; rw [obj] at e; cases e
    have fr4 : ∀ c, H2 c = none → H c = none := fun c e => by
      cases q : H c with
      | none => rfl
      | some o =>
        by_cases z : c ∈ ft1 X1 N1 bs ++ ft2 T1 tg
        · rcases List.mem_append.mp z with z | z
          · obtain ⟨_, e2⟩ := fi4.kind z; rw [e] at e2; cases e2
          · have z2 : c ∈ ft2 T1 (tg ++ [((nm, p) : Str × Addr)]) := by
              rcases mem_ft2.mp z with u | u
              · exact mem_ft2.mpr (.inl u)
              · exact mem_ft2.mpr (.inr (by rw [List.map_append]; exact List.mem_append_left _ u))
            obtain ⟨_, e2⟩ := ft4.kind z2; rw [e] at e2; cases e2
        · rw [kp4 c o z q] at e; cases e
    refine k H5 (ft1 X1 N1 bs5 ++ ft2 T1 (tg ++ [((nm, p) : Str × Addr)])) ⟨dx, X1, T1, N1, bs5, _, kp5 _ _ nx1 obj4, fi5, ft4.keep fun c o hc e => kp5 c o (fun z => dj2 c z hc) e, fun c h1 h2 => ?_, fun m => ?_, by rw [List.length_append, List.length_singleton]; omega, rfl⟩ (fun c o hc e => kp5 c o (fun z => hc (List.mem_append_left _ z)) (kp4 c o hc e)) fun c hc => ?_
    · rcases mem_ft1.mp h1 with z | z | z
      · exact dj2 c (mem_ft1.mpr (.inl z)) h2
      · exact dj2 c (mem_ft1.mpr (.inr (.inl z))) h2
      · obtain ⟨q, hq, rfl⟩ := List.mem_map.mp z
        rcases in5 q hq with y | y
        · exact dj2 _ (mem_ft1.mpr (.inr (.inr (List.mem_map.mpr ⟨q, y, rfl⟩)))) h2
        · obtain ⟨_, e⟩ := ft4.kind h2
          rw [y] at e
          cases e
    · rw [List.map_append, List.map_append, List.mem_append, List.mem_append, nn m]
      exact Iff.rfl
    · rcases List.mem_append.mp hc with z | z
      · rcases mem_ft1.mp z with z | z | z
        · exact .inl (List.mem_append_left _ (mem_ft1.mpr (.inl z)))
        · exact .inl (List.mem_append_left _ (mem_ft1.mpr (.inr (.inl z))))
        · obtain ⟨q, hq, rfl⟩ := List.mem_map.mp z
          rcases in5 q hq with y | y
          · exact .inl (List.mem_append_left _ (mem_ft1.mpr (.inr (.inr (List.mem_map.mpr ⟨q, y, rfl⟩)))))
          · exact .inr (fr4 _ y)
      · rcases mem_ft2.mp z with z | z
        · exact .inl (List.mem_append_right _ (mem_ft2.mpr (.inl z)))
        · rw [List.map_append] at z
          rcases List.mem_append.mp z with u | u
          · exact .inl (List.mem_append_right _ (mem_ft2.mpr (.inr u)))
          · rw [List.mem_singleton.mp u]; exact .inr hp
end
inductive spNewX_I (a : Adr) (vs : List V) (H : Hp) (E : XK) : Prop
  | mk : ∀ (nm : Str) (L : Addr) (kvs : List (Key × V)) (v : V), vs = [.str nm, .ref L] → H L = some (.dK kvs) → valV kvs (Sum.inr nm) = some v → E (.ref a.C_NoName) none H → spNewX_I a vs H E
def spNewX (a : Adr) : Sp := fun vs H _ E => spNewX_I a vs H E
inductive spFAddX_I (a : Adr) (vs : List V) (H : Hp) (E : XK) : Prop
  | mk : ∀ (x : Addr) (bx : Rows) (mk : Str → List Str) (W M : List Str) (n : Nat) (F : List Addr) (nm fo : Str) (u v : V), vs = [.ref x, .str nm, u, v] → FO a H x bx mk W M n F → up bx nm = some fo → E (.ref a.C_NoName) none H → spFAddX_I a vs H E
def spFAddX (a : Adr) : Sp := fun vs H _ E => spFAddX_I a vs H E
section
variable {P : Program} {w : World} {K : PySem.W.Frag} {mg : Str → Option Value} {base : Heap} {a : Adr}
theorem ok_newX {fd : FuncData} (F : Fun K "check_new" "check_new" scheck_new a.f_check_new fd) (T : Txt K mg a) : FnOk P w K mg base (CXF P w) 1 a.f_check_new fd ["name", "there"] (spNewX a) := by
  refine F.okX sc_check_new (fun vs H Q E h => ?_) (fun cdv A outer st H vs Q E hr h => ?_)
  · obtain ⟨nm, L, kvs, v, rfl, _⟩ := h; rfl
  · obtain ⟨nm, L, kvs, v, rfl, hL, hv, k⟩ := h
    have hu := hu_of hr
    refine ⟨_, (pss_one (ps_if (PW.pt (pw_or (pt_not (pt_val (pe_callB call_isinst rfl T.b_isinstance PyProof.Rows.boot_isinstance (pac (pv 0) (pac (pe_bltn (v := .ty "str") rfl T.b_str PyProof.Rows.boot_str rfl) pa_nil))))) (pw_or1 (pt_cmp (pc_din hu (pv 0) (pv 1)))))) (pss_one (ps_raise T.x_NoName T.mx_NoName hr.hd rfl (pac pe_str pa_nil))) pss_nil)), ?_⟩
    refine ⟨_, rfl, _, _, _, _, _, rfl, rfl, TyOf.str nm, kitSS, _, rfl, iteF ?_⟩
    refine ⟨_, rfl, _, rfl, L, _, rfl, DGet.k (k := Sum.inr nm) hL, _, rfl, ?_⟩
    rw [hv]
    exact iteT ⟨by show 1 ≤ sizeLine; decide, k⟩
theorem ok_faddX {fd : FuncData} (F : FunD K "add" "Folders.add" sFolders_add a.f_Folders_add fd) (T : Txt K mg a) (FF : Funs K a) : FnOk P w K mg base (CXF P w) 2 a.f_Folders_add fd ["self", "name", "folder", "marks"] (spFAddX a) := by
  obtain ⟨fdC, F_check_new, b_check_new⟩ := FF.F_check_new
  have G_check_new : FnOk P w K mg base (CXF P w) 1 a.f_check_new fdC ["name", "there"] (spNewX a) := ok_newX F_check_new T
  refine F.okX sc_Folders_add (fun vs H Q E h => ?_) (fun cdv A outer st H vs Q E hr h => ?_)
  · obtain ⟨x, bx, mk, W, M, n, F, nm, fo, u, v, rfl, _⟩ := h; rfl
  · obtain ⟨x, bx, mk, W, M, n, F, nm, fo, u, v, rfl, ⟨dx, X1, T1, N1, bs, tg, obj, fi, _⟩, hnm, k⟩ := h
    have hr_check_new : Room 1 _ := hr
    refine ⟨_, (pss_cons (ps_expr (pe_callX (R := fun _ => E) G_check_new hr_check_new rfl T.m_check_new F_check_new.kp b_check_new .nil passF (pac (pv 1) (pac (pe_fld (pv 0) rfl) pa_nil)))) pss_never), ?_⟩
    exact ⟨_, rfl, _, rfl, x, _, dx, _, _, rfl, obj, T.c_Folders, T.n_Folders_boxes, flds_box X1 T1 N1, nm, X1, _, _, rfl, fi.bx_, (by rw [val_rows, hnm]; rfl), k⟩
end
inductive spRow_I (K : PySem.W.Frag) (vs : List V) (H : Hp) (Q : VK) : Prop
  | mk : ∀ (a : Addr) (ns : List Int) (n : Nat), vs = [.ref a, .int n] → SqL K H a (ns.map V.int) → n ≤ 1000 → (∀ (p : Addr) (rs : List Int) (H' : Hp), rs.length = n → (∀ r ∈ rs, 0 ≤ r ∧ r < 2147483629) → Same H H' → H' p = some (.lst (rs.map V.int)) → Q (.ref p) H') → spRow_I K vs H Q
def spRow (K : PySem.W.Frag) : Sp := fun vs H Q _ => spRow_I K vs H Q
theorem ok_row {P : Program} {w : World} {K : PySem.W.Frag} {mg : Str → Option Value} {base : Heap} {a : Adr} {fd : FuncData} (F : Fun K "_law_row" "_law_row" sl_row a.f_l_row fd) (T : Txt K mg a) : FnOk P w K mg base CX0 1 a.f_l_row fd ["_law_script", "_law_many"] (spRow K) := by
  refine F.ok sc_l_row (fun vs H Q E h => ?_) (fun cdv A outer s H vs Q E hr h => ?_)
  · obtain ⟨x, ns, n, rfl, _⟩ := h; rfl
  · obtain ⟨q, ns, n, rfl, hS, hn, k⟩ := h
    refine ⟨_, pss_cons (ps_set (i := 2) sc_l_row.nd rfl (Or.inl rfl) (pe_lst pa_nil))
      (pss_cons (ps_set (i := 3) sc_l_row.nd rfl (Or.inl rfl) pe_int)
      (pss_cons (ps_for PassesOwn.never rfl (pi_range1 rfl T.b_range (pa_cons (pv 1) pa_nil)) (pg_name (i := 4) sc_l_row.nd rfl (Or.inl rfl))
        (pss_cons (ps_set (i := 5) sc_l_row.nd rfl (Or.inl rfl) pe_int)
        (pss_cons (ps_if (pt_cmpR op_gt (pe_callB call_len_seq rfl T.b_len PySem.boot_len (pa_cons (pv 0) pa_nil)) pe_int (nomark _))
          (pss_one (ps_set (i := 5) sc_l_row.nd rfl (Or.inl rfl) (pe_ix ix_list (pv 0) (pe_op op_mod (pv 4) (pe_callB call_len_seq rfl T.b_len PySem.boot_len (pa_cons (pv 0) pa_nil))) (fun _ _ => rfl)))) pss_nil)
        (pss_cons (ps_set (i := 3) sc_l_row.nd rfl (Or.inl rfl) (pe_op op_mod (pe_op op_add (pe_op op_add (pe_op op_mul (pv 3) pe_int) (pv 5)) (pv 4)) pe_int))
        (pss_one (ps_expr (pe_bm PySem.F.plainAttrs_list PySem.F.slot_list_append PySem.F.type_list_append mt_append (pv 2) (pa_cons (pe_op op_mod (pe_op op_add (pe_op op_mul (pv 3) (pv 3)) (pe_op op_mul pe_int (pv 3))) pe_int) pa_nil))))))))
      (pss_one (ps_ret (pv 2))))), ?_⟩
    refine ⟨Nat.zero_le _, fun p hp => ?_⟩
    refine ⟨_, rfl, (n : Int), rfl, by omega, by omega, for_range (n := (n : Int).toNat) (fun i σ H2 => ∃ (rs : List Int) (more : Int) (c1 c2 : Option V), σ = [some (.ref q), some (.int n), some (.ref p), some (.int more), c1, c2] ∧ 0 ≤ more ∧ more < 2147483647 ∧
      rs.length = i ∧ (∀ r ∈ rs, 0 ≤ r ∧ r < 2147483629) ∧ H2 p = some (.lst (rs.map V.int)) ∧ Same H H2)
      ⟨[], 7, none, none, rfl, by decide, by decide, rfl, (fun _ h => nomatch h), upd_same, Same.upd_new hp⟩ ?_ ?_⟩
    · rintro i σ H2 hi ⟨rs, more, c1, c2, rfl, h0, h1, hl, hb, hp2, hs⟩
      have hS2 := hs.seq hS
      have hin : i < n := by omega
      have rest : ∀ z : Int, ∃ x : V, ([some (.ref q), some (.int n), some (.ref p), some (.int more), some (.int (0 + (i : Int))), some (.int z)] : St)[3]? = some (some x) ∧ True := fun z => ⟨_, rfl, trivial⟩
      refine ⟨_, rfl, q, _, rfl, .inl hS2, _, _, rfl, rfl, _, rfl, ?_⟩
      refine ite2 (fun hpos => ?_) (fun hneg => ?_)
      · have hpos' : 0 < (ns.map V.int).length := by simpa using hpos
        obtain ⟨v, hv, hm, _⟩ := atI_mod (xs := ns.map V.int) (0 + (i : Int)) hpos'
        obtain ⟨z, rfl, _⟩ := mem_map_int hm
        refine ⟨_, rfl, _, rfl, _, rfl, q, _, rfl, .inl hS2, _, _, rfl, rfl, (by omega), q, _, _, _, rfl, rfl, hS2, hv, ?_⟩
        refine ⟨_, rfl, _, _, rfl, rfl, .inl ⟨by omega, by omega⟩, _, rfl, _, _, rfl, rfl, _, rfl, _, _, rfl, rfl, _, _, rfl, rfl, (by show (0 : Int) < 2147483647; decide), ?_⟩
        have b0 : 0 ≤ (more * 48271 + z + (0 + (i : Int))) % 2147483647 := Int.emod_nonneg _ (by decide)
        have b1 : (more * 48271 + z + (0 + (i : Int))) % 2147483647 < 2147483647 := Int.emod_lt_of_pos _ (by decide)
        refine ⟨_, rfl, .inl ⟨rfl, _, SqL.of hp2⟩, _, rfl, _, rfl, _, _, rfl, rfl, .inl ⟨by omega, by omega⟩, _, rfl, _, _, rfl, rfl, .inl ⟨by decide, by decide⟩, _, _, rfl, rfl, _, _, rfl, rfl, (by show (0 : Int) < 2147483629; decide), p, _, _, rfl, rfl, hp2, (by rw [List.length_map]; exact small1000 (by omega)), ?_⟩
        refine ⟨rs ++ [_], _, _, _, rfl, b0, b1, by rw [List.length_append, hl]; rfl, fun r hr => ?_, by rw [List.map_append]; exact upd_same, hs.upd_of hp⟩
        rcases List.mem_append.mp hr with hr | hr
        · exact hb r hr
        · rw [List.mem_singleton.mp hr]
          exact ⟨Int.emod_nonneg _ (by decide), Int.emod_lt_of_pos _ (by decide)⟩
      · refine ⟨_, rfl, _, _, rfl, rfl, .inl ⟨by omega, by omega⟩, _, rfl, _, _, rfl, rfl, _, rfl, _, _, rfl, rfl, _, _, rfl, rfl, (by show (0 : Int) < 2147483647; decide), ?_⟩
        have b0 : 0 ≤ (more * 48271 + 0 + (0 + (i : Int))) % 2147483647 := Int.emod_nonneg _ (by decide)
        have b1 : (more * 48271 + 0 + (0 + (i : Int))) % 2147483647 < 2147483647 := Int.emod_lt_of_pos _ (by decide)
        refine ⟨_, rfl, .inl ⟨rfl, _, SqL.of hp2⟩, _, rfl, _, rfl, _, _, rfl, rfl, .inl ⟨by omega, by omega⟩, _, rfl, _, _, rfl, rfl, .inl ⟨by decide, by decide⟩, _, _, rfl, rfl, _, _, rfl, rfl, (by show (0 : Int) < 2147483629; decide), p, _, _, rfl, rfl, hp2, (by rw [List.length_map]; exact small1000 (by omega)), ?_⟩
        refine ⟨rs ++ [_], _, _, _, rfl, b0, b1, by rw [List.length_append, hl]; rfl, fun r hr => ?_, by rw [List.map_append]; exact upd_same, hs.upd_of hp⟩
        rcases List.mem_append.mp hr with hr | hr
        · exact hb r hr
        · rw [List.mem_singleton.mp hr]
          exact ⟨Int.emod_nonneg _ (by decide), Int.emod_lt_of_pos _ (by decide)⟩
    · rintro σ H2 ⟨rs, more, c1, c2, rfl, h0, h1, hl, hb, hp2, hs⟩
      refine ⟨_, rfl, k p rs H2 (by omega) hb hs hp2⟩
inductive spWord_I (vs : List V) (H : Hp) (Q : VK) : Prop
  | mk : ∀ (b t : Int), vs = [.int b, .int t] → 0 ≤ b → b < 2147483629 → 0 ≤ t → t < 100 → (∀ (x : Str) (H' : Hp), WordS x → Same H H' → Q (.str x) H') → spWord_I vs H Q
def spWord : Sp := fun vs H Q _ => spWord_I vs H Q
theorem ok_word {P : Program} {w : World} {K : PySem.W.Frag} {mg : Str → Option Value} {base : Heap} {a : Adr} {fd : FuncData} (F : Fun K "_law_word" "_law_word" sl_word a.f_l_word fd) (T : Txt K mg a) : FnOk P w K mg base CX0 1 a.f_l_word fd ["_law_base", "_law_turn"] spWord := by
  refine F.ok sc_l_word (fun vs H Q E h => ?_) (fun cdv A outer s H vs Q E hr h => ?_)
  · obtain ⟨b, t, rfl, _⟩ := h; rfl
  · obtain ⟨b, t, rfl, hb0, hb1, ht0, ht1, k⟩ := h
    have h36 := aZ_len
    have mod36 : ∀ z : Int, ∃ c, atI aZ.cps.toList (z % 36) = some c ∧ c ∈ aZ.cps.toList := fun z =>
      pick_sign (Int.emod_nonneg _ (by decide)) (by rw [h36]; exact Int.emod_lt_of_pos _ (by decide))
    have fin : ∀ (ys : List Str) (j : Nat) (H' : Hp), (∀ y ∈ ys, Sign1 aZ y) → ys.length = 20 → 1 ≤ j → j ≤ 20 → Same H H' → Q (.str (Txt.join "" (ys.take j))) H' := fun ys j H' h1 hl hj0 hj1 s' => by
      have q := join_signs (z := aZ) (ys := ys.take j) fun y hy => h1 y (List.mem_of_mem_take hy)
      have e : (ys.take j).length = j := by rw [List.length_take]; omega
      exact k _ H' ⟨by rw [q.1, e]; exact hj0, by rw [q.1, e]; exact hj1, q.2⟩ s'
    obtain ⟨t4, h4, sp4⟩ : ∃ tt, PSs (cxOf CX0 P w K mg base n_l_word "_law_word" (defScope sl_word) a.f_l_word cdv A outer s H E).nox ((defBody sl_word).drop 4) tt ∧
        ∀ (H1 : Hp) (D : Addr) (ys : List Str), Same H H1 → H D = none → H1 D = some (.lst (ys.map V.str)) → (∀ y ∈ ys, Sign1 aZ y) → ys.length = 20 →
          tt { nx := fun _ H' => Q .non H', rt := Q } [some (.int b), some (.int t), some (.str aZ), some (.ref D), none, none] H1 := by
      refine ⟨_, (pss_cons (ps_set (i := 4) sc_l_word.nd rfl (Or.inl rfl) (pe_op op_add pe_int (pe_op op_mod (pe_op op_fdiv (pv 0) pe_int) pe_int)))
        (pss_cons (ps_set (i := 5) sc_l_word.nd rfl (Or.inl rfl) (pe_op op_mod (pe_op op_fdiv (pv 0) pe_int) (pv 4)))
        (pss_cons (ps_asg (pe_ix ix_str (pv 2) (pe_op op_mod (pe_op op_add (pe_op op_fdiv (pv 0) pe_int) (pv 1)) pe_int) (fun _ _ => rfl)) (pg_sub (pv 3) (pv 5) set_list))
        (pss_one (ps_ret (pe_bm PySem.F.plainAttrs_str PySem.F.slot_str_join PySem.F.type_str_join mt_join pe_str (pa_cons (pe_slice sl_list (pv 3) po_none (po_some (pv 4))) pa_nil))))))), fun H1 D ys s1 hDn hD h1 hl => ?_⟩
      have z0 : 0 ≤ b / 3 % 20 := Int.emod_nonneg _ (by decide)
      have z1 : b / 3 % 20 < 20 := Int.emod_lt_of_pos _ (by decide)
      refine ⟨_, rfl, _, _, rfl, rfl, ⟨by decide, by decide⟩, _, _, rfl, rfl, (by show (0 : Int) < 20; decide), _, _, rfl, rfl, ?_⟩
      have y0 : 0 ≤ b / 61 % (1 + b / 3 % 20) := Int.emod_nonneg _ (by omega)
      have y1 : b / 61 % (1 + b / 3 % 20) < (1 + b / 3 % 20) := Int.emod_lt_of_pos _ (by omega)
      refine ⟨_, rfl, _, _, rfl, rfl, ⟨by decide, by decide⟩, _, rfl, _, _, rfl, rfl, (by show (0 : Int) < (1 + b / 3 % 20); omega), ?_⟩
      obtain ⟨c, hc, hcm⟩ := mod36 (b / 2311 + t)
      have hix : ixN (ys.map V.str).length (b / 61 % (1 + b / 3 % 20)) = some (b / 61 % (1 + b / 3 % 20)).toNat := by
        unfold ixN
        rw [if_pos y0, if_pos (by rw [List.length_map, hl]; omega)]
      refine ⟨_, rfl, _, rfl, _, _, rfl, rfl, ⟨by decide, by decide⟩, _, rfl, _, _, rfl, rfl, _, _, rfl, rfl, (by show (0 : Int) < 36; decide), aZ, _, c, rfl, rfl, aZ_small, hc, _, rfl, _, rfl, D, _, _, _, rfl, rfl, hD, hix, ?_⟩
      have hset : (ys.map V.str).set (b / 61 % (1 + b / 3 % 20)).toNat (V.str ⟨#[c]⟩) = (ys.set (b / 61 % (1 + b / 3 % 20)).toNat ⟨#[c]⟩).map V.str := by rw [List.map_set]
      rw [hset]
      generalize hzs : ys.set (b / 61 % (1 + b / 3 % 20)).toNat ⟨#[c]⟩ = zs
      have hzl : zs.length = 20 := by rw [← hzs, List.length_set]; exact hl
      have hz1 : ∀ y ∈ zs, Sign1 aZ y := fun y hy => by
        rw [← hzs] at hy
        rcases List.mem_or_eq_of_mem_set hy with z | z
        · exact h1 y z
        · exact ⟨c, hcm, z⟩
      refine ⟨rfl, _, rfl, _, rfl, _, rfl, D, _, rfl, SqL.of upd_same, fun p hp => ?_⟩
      have hcut := cut_front V.str zs (1 + b / 3 % 20) (by omega)
      refine ⟨"", p, zs.take (1 + b / 3 % 20).toNat, rfl, rfl, SqL.of (by rw [← hcut]; exact upd_same), join_sum (fun y hy => (hz1 y (List.mem_of_mem_take hy)).len) (by rw [List.length_take]; omega), ?_⟩
      refine fin zs (1 + b / 3 % 20).toNat _ hz1 hzl (by omega) (by omega) ?_
      intro bb o e
      have nb : bb ≠ D := ne_of_none e hDn
      have e1 : (upd H1 D (.lst (zs.map V.str))) bb = some o := by rw [upd_ne nb]; exact s1 _ _ e
      rw [upd_ne (ne_of_none e1 hp)]
      exact e1
    obtain ⟨t3, h3, sp3⟩ : ∃ tt, PSs (cxOf CX0 P w K mg base n_l_word "_law_word" (defScope sl_word) a.f_l_word cdv A outer s H E).nox ((defBody sl_word).drop 3) tt ∧
        ∀ (H1 : Hp) (D : Addr) (ys : List Str), Same H H1 → H D = none → H1 D = some (.lst (ys.map V.str)) → (∀ y ∈ ys, Sign1 aZ y) → ys.length = 20 →
          tt { nx := fun _ H' => Q .non H', rt := Q } [some (.int b), some (.int t), some (.str aZ), some (.ref D), none, none] H1 := by
      refine ⟨_, (pss_cons (ps_if (pw_or (pt_cmpR op_lt (pe_op op_mod (pv 0) pe_int) pe_int (nomark _)) (pw_or1 (pt_cmpR op_gt (pv 1) pe_int (nomark _)))).pt (pss_one (ps_ret (pe_op op_add_str (pe_op op_add_str (pe_bm PySem.F.plainAttrs_str PySem.F.slot_str_join PySem.F.type_str_join mt_join pe_str (pa_cons (pe_slice sl_list (pv 3) po_none (po_some (pe_op op_add pe_int (pe_op op_mod (pe_op op_fdiv (pv 0) pe_int) pe_int)))) pa_nil)) pe_str) (pe_callTy call_str_int rfl T.b_str PyProof.Rows.boot_str (pa_cons (pv 1) pa_nil))))) pss_nil)
        h4), fun H1 D ys s1 hDn hD h1 hl => ?_⟩
      have z0 : 0 ≤ b / 3 % 16 := Int.emod_nonneg _ (by decide)
      have z1 : b / 3 % 16 < 16 := Int.emod_lt_of_pos _ (by decide)
      have nxt := sp4 H1 D ys s1 hDn hD h1 hl
      obtain ⟨tn, rfl⟩ : ∃ tn : Nat, t = (tn : Int) := ⟨t.toNat, by omega⟩
      have htn : tn < 100 := by omega
      have num := num_small tn htn
      have hlog : ((tn : Int)).natAbs.log2 < 1920 := by
        have : ((tn : Int)).natAbs = tn := by omega
        rw [this]
        exact Nat.lt_of_le_of_lt (Nat.log2_le_self tn) (by omega)
      have hsm : ∀ n : Nat, n ≤ 1000 → n ≤ sizeLine := fun n h => Nat.le_of_lt (small1000 h)
      have done : ∀ (p : Addr) (hp : H1 p = none), Q (.str (Txt.join "" (ys.take (1 + b / 3 % 16).toNat) ++ "x" ++ Str.ofString (toString (tn : Int)))) (upd H1 p (.lst (cutV (ys.map V.str) none (some (1 + b / 3 % 16))))) := fun p hp => by
        have q := join_signs (z := aZ) (ys := ys.take (1 + b / 3 % 16).toNat) fun y hy => h1 y (List.mem_of_mem_take hy)
        have e : (ys.take (1 + b / 3 % 16).toNat).length = (1 + b / 3 % 16).toNat := by rw [List.length_take]; omega
        have ex : ("x" : Str).length = 1 := by decide +kernel
        have ex2 : ∀ c ∈ ("x" : Str).cps.toList, c ∈ aZ.cps.toList := by decide +kernel
        refine k _ _ ⟨?_, ?_, fun c hc => ?_⟩ (s1.upd_of (s1.free hp))
        · rw [cat_len, cat_len, ex]; omega
        · rw [cat_len, cat_len, ex, q.1, e]; omega
        · have e2 : (Txt.join "" (ys.take (1 + b / 3 % 16).toNat) ++ "x" ++ Str.ofString (toString (tn : Int))).cps.toList = (Txt.join "" (ys.take (1 + b / 3 % 16).toNat)).cps.toList ++ ("x" : Str).cps.toList ++ (Str.ofString (toString (tn : Int))).cps.toList := by
            rw [cat_list, cat_list]
          rw [e2] at hc
          rcases List.mem_append.mp hc with hc | hc
          · rcases List.mem_append.mp hc with hc | hc
            · exact q.2 c hc
            · exact ex2 c hc
          · exact of_decide_eq_true (List.all_eq_true.mp num.2.2 c hc)
      have ret : ∀ (Q2 : VK), (∀ (p : Addr), H1 p = none → Q2 (.str (Txt.join "" (ys.take (1 + b / 3 % 16).toNat) ++ "x" ++ Str.ofString (toString (tn : Int)))) (upd H1 p (.lst (cutV (ys.map V.str) none (some (1 + b / 3 % 16)))))) →
          ∀ (p : Addr), H1 p = none → rJoin K (.str "") [.ref p] (upd H1 p (.lst (cutV (ys.map V.str) none (some (1 + b / 3 % 16))))) fun x H2 => ∃ i j, x = .str i ∧ V.str "x" = .str j ∧ i.length + j.length ≤ sizeLine ∧ ∃ i' j', V.str (i ++ j) = .str i' ∧ V.str (Str.ofString (toString (tn : Int))) = .str j' ∧ i'.length + j'.length ≤ sizeLine ∧ Q2 (.str (i' ++ j')) H2 := fun Q2 q2 p hp => by
        have q := join_signs (z := aZ) (ys := ys.take (1 + b / 3 % 16).toNat) fun y hy => h1 y (List.mem_of_mem_take hy)
        have e : (ys.take (1 + b / 3 % 16).toNat).length = (1 + b / 3 % 16).toNat := by rw [List.length_take]; omega
        have ex : ("x" : Str).length = 1 := by decide +kernel
        refine ⟨"", p, ys.take (1 + b / 3 % 16).toNat, rfl, rfl, SqL.of (by rw [← cut_front V.str ys (1 + b / 3 % 16) (by omega)]; exact upd_same), join_sum (fun y hy => (h1 y (List.mem_of_mem_take hy)).len) (by rw [List.length_take]; omega), ?_⟩
        exact ⟨_, _, rfl, rfl, hsm _ (by rw [q.1, e, ex]; omega), _, _, rfl, rfl, hsm _ (by rw [cat_len, q.1, e, ex]; omega), q2 p hp⟩
      refine ⟨_, rfl, _, _, rfl, rfl, (by show (0 : Int) < 3; decide), _, _, rfl, rfl, _, rfl, ?_⟩
      refine ite2 (fun _ => ?_) (fun _ => ?_)
      · refine iteT ?_
        refine ⟨rfl, _, rfl, _, rfl, _, _, rfl, rfl, ⟨by decide, by decide⟩, _, _, rfl, rfl, (by show (0 : Int) < 16; decide), _, _, rfl, rfl, _, rfl, D, _, rfl, SqL.of hD, fun p hp => ?_⟩
        obtain ⟨sep, p', zs, e1, e2, hS, hz, i, j, e3, e4, hij, i', j', e5, e6, hij', qq⟩ := ret Q done p hp
        exact ⟨sep, p', zs, e1, e2, hS, hz, i, j, e3, e4, hij, _, rfl, _, rfl, hlog, i', j', e5, e6, hij', qq⟩
      · refine ⟨_, rfl, _, _, rfl, rfl, _, rfl, ?_⟩
        refine ite2 (fun _ => ?_) (fun _ => nxt)
        refine ⟨rfl, _, rfl, _, rfl, _, _, rfl, rfl, ⟨by decide, by decide⟩, _, _, rfl, rfl, (by show (0 : Int) < 16; decide), _, _, rfl, rfl, _, rfl, D, _, rfl, SqL.of hD, fun p hp => ?_⟩
        obtain ⟨sep, p', zs, e1, e2, hS, hz, i, j, e3, e4, hij, i', j', e5, e6, hij', qq⟩ := ret Q done p hp
        exact ⟨sep, p', zs, e1, e2, hS, hz, i, j, e3, e4, hij, _, rfl, _, rfl, hlog, i', j', e5, e6, hij', qq⟩
    refine ⟨_, (pss_cons (ps_set (i := 2) sc_l_word.nd rfl (Or.inr rfl) pe_str)
        (pss_cons (ps_setComp (sc := defScope sl_word) (N := n_l_word) (i := 3) (fr := [(2, "_law_some_here"), (0, "_law_base")]) ⟨rfl, rfl, by decide +kernel, by decide +kernel, by decide +kernel, by decide +kernel, by decide +kernel⟩ rfl rfl rfl sc_l_word.nd rfl rfl (pi_range1 rfl T.b_range (pa_cons pe_int pa_nil)) (fun _ _ _ _ => pts_nil) (fun _ _ _ _ => (pe_ix ix_str (pv 1) (pe_op op_mod (pe_op op_add (pe_op op_add (pe_op op_fdiv (pv 2) pe_int) (pe_op op_mul pe_int (pv 0))) (pe_op op_mul (pe_op op_fdiv (pv 2) pe_int) (pv 0))) pe_int) (fun _ _ => rfl))))
        (pss_cons (ps_if (pw_and (pt_cmpR op_eq (pe_op op_mod (pv 0) pe_int) pe_int (nomark _)) (pw_and1 (pt_cmpR op_lt (pv 1) pe_int (nomark _)))).pt (pss_one (ps_ret (pe_bm PySem.F.plainAttrs_str PySem.F.slot_str_join PySem.F.type_str_join mt_join pe_str (pa_cons (pe_slice sl_list (pv 3) po_none (po_some (pe_op op_add pe_int (pv 1)))) pa_nil)))) pss_nil)
        h3))), ?_⟩
    refine ⟨20, rfl, by decide, by decide, comp_range (n := (20 : Int).toNat) (fun i => V.str ⟨#[(atI aZ.cps.toList ((b / 64 + 7 * (0 + (i : Int)) + b / 99991 * (0 + (i : Int))) % 36)).getD 0]⟩) (by decide) ?_ ?_⟩
    · intro i H3 Q' hi s3 q3
      have hi' : i < 20 := hi
      obtain ⟨c, hc, _⟩ := mod36 (b / 64 + 7 * (0 + (i : Int)) + b / 99991 * (0 + (i : Int)))
      rw [hc] at q3
      exact ⟨_, rfl, _, rfl, _, _, rfl, rfl, ⟨by decide, by decide⟩, _, rfl, _, _, rfl, rfl, .inl ⟨by decide, by decide⟩, _, _, rfl, rfl, _, rfl, _, _, rfl, rfl, ⟨by decide, by decide⟩, _, rfl, _, _, rfl, rfl, .inl ⟨by omega, by omega⟩, _, _, rfl, rfl, _, _, rfl, rfl, (by show (0 : Int) < 36; decide),
        aZ, _, c, rfl, rfl, aZ_small, hc, q3⟩
    · intro D hDn
      generalize hys : (List.range (20 : Int).toNat).map (fun i : Nat => (⟨#[(atI aZ.cps.toList ((b / 64 + 7 * (0 + (i : Int)) + b / 99991 * (0 + (i : Int))) % 36)).getD 0]⟩ : Str)) = ys
      have hm : ((List.range (20 : Int).toNat).map fun (i : Nat) => V.str ⟨#[(atI aZ.cps.toList ((b / 64 + 7 * (0 + (i : Int)) + b / 99991 * (0 + (i : Int))) % 36)).getD 0]⟩) = ys.map V.str := by rw [← hys, List.map_map]; rfl
      have hyl : ys.length = 20 := by rw [← hys, List.length_map, List.length_range]; rfl
      have h1 : ∀ y ∈ ys, Sign1 aZ y := fun y hy => by
        rw [← hys] at hy
        obtain ⟨i, _, rfl⟩ := List.mem_map.mp hy
        obtain ⟨c, hc, hcm⟩ := mod36 (b / 64 + 7 * (0 + (i : Int)) + b / 99991 * (0 + (i : Int)))
        exact ⟨c, hcm, by rw [hc]; rfl⟩
      rw [hm]
      generalize hH : upd H D (.lst (ys.map V.str)) = H1
      have hD : H1 D = some (.lst (ys.map V.str)) := by rw [← hH]; exact upd_same
      have s1 : Same H H1 := by rw [← hH]; exact Same.upd_new hDn
      refine ⟨_, rfl, _, _, rfl, rfl, (by show (0 : Int) < 3; decide), rfl, _, rfl, ?_⟩
      refine ite2 (fun _ => ?_) (fun _ => iteF (sp3 H1 D ys s1 hDn hD h1 hyl))
      refine ⟨_, rfl, _, _, rfl, rfl, _, rfl, ?_⟩
      refine ite2 (fun hlt => ?_) (fun _ => sp3 H1 D ys s1 hDn hD h1 hyl)
      have hlt' : t < 20 := of_decide_eq_true hlt
      refine ⟨rfl, _, rfl, _, rfl, _, _, rfl, rfl, _, rfl, D, _, rfl, SqL.of hD, fun p hp => ?_⟩
      refine ⟨"", p, ys.take (1 + t).toNat, rfl, rfl, SqL.of (by rw [← cut_front V.str ys (1 + t) (by omega)]; exact upd_same), join_sum (fun y hy => (h1 y (List.mem_of_mem_take hy)).len) (by rw [List.length_take]; omega), ?_⟩
      exact fin ys (1 + t).toNat _ h1 hyl (by omega) (by omega) (s1.upd_of (s1.free hp))
theorem word_of {x : Str} (h1 : 1 ≤ x.length) (h2 : x.length ≤ 20) (h3 : (x.cps.toList.all fun c => aZ.cps.toList.contains c) = true) : WordS x := ⟨h1, h2, fun c hc => by
  have := List.all_eq_true.mp h3 c hc
  simpa using this⟩
theorem w_inbox : WordS "inbox" := word_of (by decide +kernel) (by decide +kernel) (by decide +kernel)
theorem w_seen : WordS "seen" := word_of (by decide +kernel) (by decide +kernel) (by decide +kernel)
inductive spSome_I (vs : List V) (H : Hp) (Q : VK) : Prop
  | mk : ∀ (b : Int), vs = [.int b] → 0 ≤ b → b < 2147483629 → (∀ (p n f m : Addr) (ns W M : List Str) (H' : Hp), ns.length = 9 → W.length = 5 → M.length = 6 → (∀ y ∈ ns, WordS y) → (∀ y ∈ W, WordS y) → (∀ y ∈ M, WordS y) → ("seen" : Str) ∈ M → ("inbox" : Str) ∈ W → Same H H' → H' p = some (.lst [.ref n, .ref f, .ref m]) → H' n = some (.lst (ns.map V.str)) → H' f = some (.lst (W.map V.str)) → H' m = some (.lst (M.map V.str)) → Q (.ref p) H') → spSome_I vs H Q
def spSome : Sp := fun vs H Q _ => spSome_I vs H Q
section
variable {P : Program} {w : World} {K : PySem.W.Frag} {mg : Str → Option Value} {base : Heap} {a : Adr}
theorem ok_some {fd : FuncData} (F : Fun K "_law_some" "_law_some" sl_some a.f_l_some fd) (T : Txt K mg a) (FF : Funs K a) : FnOk P w K mg base CX0 2 a.f_l_some fd ["_law_base"] spSome := by
  obtain ⟨fdW, F_l_word, b_l_word⟩ := FF.F_l_word
  have G_l_word : FnOk P w K mg base CX0 1 a.f_l_word fdW ["_law_base", "_law_turn"] spWord := ok_word F_l_word T
  refine F.ok sc_l_some (fun vs H Q E h => ?_) (fun cdv A outer s H vs Q E hr h => ?_)
  · obtain ⟨b, rfl, _⟩ := h; rfl
  · obtain ⟨b, rfl, b0, b1, k⟩ := h
    have hr_l_word : Room 1 _ := hr
    refine ⟨_, (pss_cons (ps_set (i := 1) sc_l_some.nd rfl (Or.inl rfl) (pe_op op_cat (pe_lstS (pas_cons pe_str pas_nil)) (pe_comp (sc := defScope sl_some) (N := n_l_some) (fr := [(0, "_law_base")]) ⟨rfl, rfl, by decide +kernel, by decide +kernel, by decide +kernel, by decide +kernel, by decide +kernel⟩ rfl rfl rfl (pi_range1 rfl T.b_range (pac pe_int pa_nil)) (fun _ _ _ _ => pts_nil) (fun _ _ _ _ => (pe_call G_l_word hr_l_word rfl T.m_l_word F_l_word.kp b_l_word .nil pass0 (pac (pe_op op_fdiv (pv 1) pe_int) (pac (pv 0) pa_nil)))))))
        (pss_cons (ps_set (i := 2) sc_l_some.nd rfl (Or.inl rfl) (pe_op op_cat (pe_lstS (pas_cons pe_str (pas_cons pe_str pas_nil))) (pe_comp (sc := defScope sl_some) (N := n_l_some) (fr := [(0, "_law_base")]) ⟨rfl, rfl, by decide +kernel, by decide +kernel, by decide +kernel, by decide +kernel, by decide +kernel⟩ rfl rfl rfl (pi_range1 rfl T.b_range (pac pe_int pa_nil)) (fun _ _ _ _ => pts_nil) (fun _ _ _ _ => (pe_call G_l_word hr_l_word rfl T.m_l_word F_l_word.kp b_l_word .nil pass0 (pac (pe_op op_fdiv (pv 1) pe_int) (pac (pv 0) pa_nil)))))))
        (pss_one (ps_ret (pe_lstS (pas_cons (pe_comp (sc := defScope sl_some) (N := n_l_some) (fr := [(0, "_law_base")]) ⟨rfl, rfl, by decide +kernel, by decide +kernel, by decide +kernel, by decide +kernel, by decide +kernel⟩ rfl rfl rfl (pi_range1 rfl T.b_range (pac pe_int pa_nil)) (fun _ _ _ _ => pts_nil) (fun _ _ _ _ => (pe_call G_l_word hr_l_word rfl T.m_l_word F_l_word.kp b_l_word .nil pass0 (pac (pv 1) (pac (pv 0) pa_nil))))) (pas_cons (pv 1) (pas_cons (pv 2) pas_nil)))))))), ?_⟩
    have stp : ∀ (vs : List Str) (y : Str) (i : Nat), vs.length = i → (∀ x ∈ vs, WordS x) → WordS y → ∃ us : List Str, vs.map V.str ++ [V.str y] = us.map V.str ∧ us.length = i + 1 ∧ ∀ x ∈ us, WordS x := fun vs y i el hv hy => ⟨vs ++ [y], by rw [List.map_append]; rfl, by rw [List.length_append, List.length_singleton, el], fun z hz => by
      rcases List.mem_append.mp hz with u | u
      · exact hv z u
      · rw [List.mem_singleton.mp u]; exact hy⟩
    refine ⟨(by show 1 ≤ sizeLine; decide), fun p1 hp1 => ?_⟩
    have s1 : Same H (upd H p1 (.lst [.str "inbox"])) := Same.upd_new hp1
    have e1 : (upd H p1 (.lst [.str "inbox"])) p1 = some (.lst [.str "inbox"]) := upd_same
    generalize upd H p1 (.lst [.str "inbox"]) = H1 at s1 e1
    refine ⟨(4 : Int), rfl, by decide, by decide, comp_rangeG (n := 4) (fun i ys => ∃ vs : List Str, ys = vs.map V.str ∧ vs.length = i ∧ ∀ x ∈ vs, WordS x) (Nat.le_of_lt (small1000 (by decide))) ⟨[], rfl, rfl, fun _ z => nomatch z⟩ (fun i ys ⟨vs, e, el, _⟩ => by rw [e, List.length_map, el]) ?_ ?_⟩
    · rintro i ys H3 Q' hi ⟨vs, rfl, el, hv⟩ s3 q'
      exact ⟨_, rfl, _, _, rfl, rfl, ⟨by decide, by decide⟩, _, rfl, b / 7, 0 + (i : Int), rfl, by omega, by omega, by omega, by omega, fun y H5 hy s5 => q' _ H5 (stp vs y i el hv hy) s5⟩
    rintro D2 ys H2 hD2 ⟨fw, rfl, fl, hfw⟩ s2 eD2
    refine ⟨p1, D2, _, _, rfl, rfl, s2 _ _ e1, eD2, (by rw [List.length_map, fl]; decide), fun f hf => ?_⟩
    have s3 : Same H (upd H2 f (.lst ([V.str "inbox"] ++ fw.map V.str))) := (s1.trans s2).upd_of ((s1.trans s2).free hf)
    have e3 : (upd H2 f (.lst ([V.str "inbox"] ++ fw.map V.str))) f = some (.lst ((("inbox" : Str) :: fw).map V.str)) := upd_same
    show tSeq _ _ _ _ (upd H2 f (.lst ([V.str "inbox"] ++ fw.map V.str)))
    generalize upd H2 f (.lst ([V.str "inbox"] ++ fw.map V.str)) = H3 at s3 e3
    refine ⟨(by show 2 ≤ sizeLine; decide), fun p4 hp4 => ?_⟩
    have s4 : Same H3 (upd H3 p4 (.lst [.str "seen", .str "seen"])) := Same.upd_new hp4
    have e4 : (upd H3 p4 (.lst [.str "seen", .str "seen"])) p4 = some (.lst [.str "seen", .str "seen"]) := upd_same
    generalize upd H3 p4 (.lst [.str "seen", .str "seen"]) = H4 at s4 e4
    refine ⟨(4 : Int), rfl, by decide, by decide, comp_rangeG (n := 4) (fun i ys => ∃ vs : List Str, ys = vs.map V.str ∧ vs.length = i ∧ ∀ x ∈ vs, WordS x) (Nat.le_of_lt (small1000 (by decide))) ⟨[], rfl, rfl, fun _ z => nomatch z⟩ (fun i ys ⟨vs, e, el, _⟩ => by rw [e, List.length_map, el]) ?_ ?_⟩
    · rintro i ys H5 Q' hi ⟨vs, rfl, el, hv⟩ s5 q'
      exact ⟨_, rfl, _, _, rfl, rfl, ⟨by decide, by decide⟩, _, rfl, b / 5, 0 + (i : Int), rfl, by omega, by omega, by omega, by omega, fun y H6 hy s6 => q' _ H6 (stp vs y i el hv hy) s6⟩
    rintro D5 ys H5 hD5 ⟨mw, rfl, ml, hmw⟩ s5 eD5
    refine ⟨p4, D5, _, _, rfl, rfl, s5 _ _ e4, eD5, (by rw [List.length_map, ml]; decide), fun m hm => ?_⟩
    have s6 : Same H3 (upd H5 m (.lst ([V.str "seen", V.str "seen"] ++ mw.map V.str))) := (s4.trans s5).upd_of ((s4.trans s5).free hm)
    have e6 : (upd H5 m (.lst ([V.str "seen", V.str "seen"] ++ mw.map V.str))) m = some (.lst ((("seen" : Str) :: "seen" :: mw).map V.str)) := upd_same
    show tSeq _ _ _ _ (upd H5 m (.lst ([V.str "seen", V.str "seen"] ++ mw.map V.str)))
    generalize upd H5 m (.lst ([V.str "seen", V.str "seen"] ++ mw.map V.str)) = H6 at s6 e6
    refine ⟨(9 : Int), rfl, by decide, by decide, comp_rangeG (n := 9) (fun i ys => ∃ vs : List Str, ys = vs.map V.str ∧ vs.length = i ∧ ∀ x ∈ vs, WordS x) (Nat.le_of_lt (small1000 (by decide))) ⟨[], rfl, rfl, fun _ z => nomatch z⟩ (fun i ys ⟨vs, e, el, _⟩ => by rw [e, List.length_map, el]) ?_ ?_⟩
    · rintro i ys H7 Q' hi ⟨vs, rfl, el, hv⟩ s7 q'
      exact ⟨_, rfl, _, rfl, b, 0 + (i : Int), rfl, b0, b1, by omega, by omega, fun y H8 hy s8 => q' _ H8 (stp vs y i el hv hy) s8⟩
    rintro n ys H7 hn ⟨nw, rfl, nl, hnw⟩ s7 en
    refine ⟨_, rfl, _, rfl, (by show 3 ≤ sizeLine; decide), fun p hp => ?_⟩
    have s8 : Same H7 (upd H7 p (.lst [.ref n, .ref f, .ref m])) := Same.upd_new hp
    refine k p n f m nw ("inbox" :: fw) ("seen" :: "seen" :: mw) _ nl (by rw [List.length_cons, fl]) (by rw [List.length_cons, List.length_cons, ml]) hnw (fun y hy => ?_) (fun y hy => ?_) List.mem_cons_self List.mem_cons_self (s3.trans (s6.trans (s7.trans s8))) upd_same (s8 _ _ en) (s8 _ _ (s7 _ _ (s6 _ _ e3))) (s8 _ _ (s7 _ _ e6))
    · rcases List.mem_cons.mp hy with z | z
      · rw [z]; exact w_inbox
      · exact hfw y z
    · rcases List.mem_cons.mp hy with z | z
      · rw [z]; exact w_seen
      · rcases List.mem_cons.mp z with z | z
        · rw [z]; exact w_seen
        · exact hmw y z
end
/-- on a name's road -/
structure RS (a : Adr) (H0 : Hp) (F0 : List Addr) (bx0 : Rows) (mk0 : Str → List Str) (nm : Str) (H : Hp) (x : Addr) (W M : List Str) (n : Nat) (bx : Rows) (mk : Str → List Str) (F : List Addr) : Prop where
  fo : FO a H x bx mk W M n F
  inn : nm ∈ bx.map (·.1)
  ou : ∀ t, t ≠ nm → up bx t = up bx0 t
  om : ∀ t, t ≠ nm → mk t = mk0 t
  kp : KpF F0 H0 H
  sb : ∀ c ∈ F, c ∈ F0 ∨ H0 c = none
section
variable {a : Adr} {H0 H H' : Hp} {F0 F F' : List Addr} {bx0 bx : Rows} {mk0 mk : Str → List Str} {nm : Str} {x : Addr} {W M : List Str} {n : Nat}
theorem RS.same (r : RS a H0 F0 bx0 mk0 nm H x W M n bx mk F) (s : Same H H') : RS a H0 F0 bx0 mk0 nm H' x W M n bx mk F := ⟨r.fo.same s, r.inn, r.ou, r.om, fun c o n e => s _ _ (r.kp c o n e), r.sb⟩
end
def dPair (i j : Int) : PyData := .tuple [.int i, .int j]
theorem rd_pair {K : PySem.W.Frag} {H : Hp} {c : Addr} {i j : Int} (h : H c = some (.tup [.int i, .int j])) : RD K H (.ref c) (dPair i j) := .tup (SqT.of h) (.cons (.int _) (.cons (.int _) .nil))
mutual
theorem RD.mono {K : PySem.W.Frag} {H H' : Hp} (s : Same H H') : ∀ {x : V} {d : PyData}, RD K H x d → RD K H' x d
  | _, _, .non => .non
  | _, _, .bl b => .bl b
  | _, _, .int i => .int i
  | _, _, .str y => .str y
  | _, _, .lst h r => .lst (s.seq h) (RDs.mono s r)
  | _, _, .tup h r => .tup (s.tup h) (RDs.mono s r)
theorem RDs.mono {K : PySem.W.Frag} {H H' : Hp} (s : Same H H') : ∀ {xs : List V} {ds : List PyData}, RDs K H xs ds → RDs K H' xs ds
  | _, _, .nil => .nil
  | _, _, .cons r rs => .cons (RD.mono s r) (RDs.mono s rs)
end
theorem RDs.snoc {K : PySem.W.Frag} {H : Hp} {x : V} {d : PyData} (r : RD K H x d) : ∀ {xs : List V} {ds : List PyData}, RDs K H xs ds → RDs K H (xs ++ [x]) (ds ++ [d])
  | _, _, .nil => .cons r .nil
  | _, _, .cons q qs => .cons q (RDs.snoc r qs)
theorem rds_map {K : PySem.W.Frag} {H : Hp} {α : Type} {f : α → V} {g : α → PyData} : ∀ {xs : List α}, (∀ x ∈ xs, RD K H (f x) (g x)) → RDs K H (xs.map f) (xs.map g)
  | [], _ => .nil
  | x :: xs, h => .cons (h x List.mem_cons_self) (rds_map fun z hz => h z (List.mem_cons_of_mem _ hz))
def Ly (m : Nat) (d : PyData) : Prop := d.canLay0 = true ∧ d.depth ≤ m
theorem Ly.up {m n : Nat} {d : PyData} (h : Ly m d) (k : m ≤ n) : Ly n d := ⟨h.1, Nat.le_trans h.2 k⟩
theorem ly_int (i : Int) : Ly 0 (.int i) := ⟨rfl, Nat.le_refl _⟩
theorem ly_str {x : Str} (h : Asc x) : Ly 0 (.str x) := by
  have := lay_strs (xs := [x]) fun y hy => by rw [List.mem_singleton.mp hy]; exact h
  refine ⟨?_, Nat.le_refl _⟩
  have e : (PyData.canLay0 (.str x) && true) = true := this.1
  rwa [Bool.and_true] at e
theorem ly_all {m : Nat} : ∀ {ds : List PyData}, (∀ d ∈ ds, Ly m d) → PyData.canLayAll0 ds = true ∧ PyData.depthAll ds ≤ m
  | [], _ => ⟨rfl, Nat.zero_le _⟩
  | d :: ds, h => by
    obtain ⟨a1, a2⟩ := ly_all (ds := ds) fun z hz => h z (List.mem_cons_of_mem _ hz)
    obtain ⟨b1, b2⟩ := h d List.mem_cons_self
    refine ⟨?_, ?_⟩
    · show (PyData.canLay0 d && PyData.canLayAll0 ds) = true
      rw [b1, a1]; rfl
    · show max (PyData.depth d) (PyData.depthAll ds) ≤ m
      omega
theorem ly_list {m : Nat} {ds : List PyData} (h : ∀ d ∈ ds, Ly m d) : Ly (m + 1) (.list ds) := by
  obtain ⟨a1, a2⟩ := ly_all h
  refine ⟨a1, ?_⟩
  show PyData.depthAll ds + 1 ≤ m + 1
  omega
theorem ly_tup {m : Nat} {ds : List PyData} (h : ∀ d ∈ ds, Ly m d) : Ly (m + 1) (.tuple ds) := by
  obtain ⟨a1, a2⟩ := ly_all h
  refine ⟨a1, ?_⟩
  show PyData.depthAll ds + 1 ≤ m + 1
  omega
theorem ly_strs {xs : List Str} (h : ∀ x ∈ xs, Asc x) : Ly 1 (.list (xs.map PyData.str)) := ly_list fun d hd => by
  obtain ⟨x, hx, rfl⟩ := List.mem_map.mp hd
  exact ly_str (h x hx)
theorem Ly.shaped {m : Nat} {d : PyData} (h : Ly m d) (k : m ≤ 64) : SeqAt.shaped d = true := by
  unfold SeqAt.shaped
  rw [h.1, decide_eq_true (Nat.le_trans h.2 k)]
  rfl
theorem ly_pair {m : Nat} {a b : PyData} (ha : Ly m a) (hb : Ly m b) : Ly (m + 1) (.tuple [a, b]) := ly_tup fun d hd => by
  rcases List.mem_cons.mp hd with rfl | hd
  · exact ha
  · rw [List.mem_singleton.mp hd]; exact hb
def OddN (bx : Rows) (y : V) : Prop := MissV y (rowsK bx)
theorem oddN_str {bx : Rows} {nm : Str} (h : up bx nm = none) : OddN bx (.str nm) := .inr ⟨Sum.inr nm, rfl, by rw [val_rows, h]; rfl⟩
theorem oddN_non {bx : Rows} : OddN bx .non := .inl rfl
theorem oddN_int {bx : Rows} {i : Int} : OddN bx (.int i) := .inr ⟨Sum.inl i, rfl, by
  unfold rowsK
  induction bx with
  | nil => rfl
  | cons r bx ih => rw [List.map_cons]; exact (by first | exact ih | (simp only [valV, List.lookup] at ih ⊢; exact ih) | (unfold valV at ih ⊢; simpa [List.lookup] using ih))⟩
inductive spThereV_I (a : Adr) (vs : List V) (H : Hp) (E : XK) : Prop
  | mk : ∀ (y : V) (L : Addr) (kvs : List (Key × V)), vs = [y, .ref L] → H L = some (.dK kvs) → MissV y kvs → E (.ref a.C_NoName) none H → spThereV_I a vs H E
def spThereV (a : Adr) : Sp := fun vs H _ E => spThereV_I a vs H E
inductive spF2V_I (a : Adr) (vs : List V) (H : Hp) (E : XK) : Prop
  | mk : ∀ (x : Addr) (bx : Rows) (mk : Str → List Str) (W M : List Str) (n : Nat) (F : List Addr) (y : V), vs = [.ref x, y] → FO a H x bx mk W M n F → OddN bx y → E (.ref a.C_NoName) none H → spF2V_I a vs H E
def spF2V (a : Adr) : Sp := fun vs H _ E => spF2V_I a vs H E
inductive spF3V_I (a : Adr) (vs : List V) (H : Hp) (E : XK) : Prop
  | mk : ∀ (x : Addr) (bx : Rows) (mk : Str → List Str) (W M : List Str) (n : Nat) (F : List Addr) (y z : V), vs = [.ref x, y, z] → FO a H x bx mk W M n F → OddN bx y → E (.ref a.C_NoName) none H → spF3V_I a vs H E
def spF3V (a : Adr) : Sp := fun vs H _ E => spF3V_I a vs H E
section
variable {P : Program} {w : World} {K : PySem.W.Frag} {mg : Str → Option Value} {base : Heap} {a : Adr}
theorem ok_thereV {fd : FuncData} (F : Fun K "check_there" "check_there" scheck_there a.f_check_there fd) (T : Txt K mg a) : FnOk P w K mg base (CXF P w) 1 a.f_check_there fd ["name", "there"] (spThereV a) := by
  refine F.okX sc_check_there (fun vs H Q E h => ?_) (fun cdv A outer st H vs Q E hr h => ?_)
  · obtain ⟨nm, L, kvs, rfl, _⟩ := h; rfl
  · obtain ⟨y, L, kvs, rfl, hL, hv, k⟩ := h
    have hu := hu_of hr
    refine ⟨_, (pss_one (ps_if (pt_cmp (pc_miss hu (pv 0) (pv 1))) (pss_one (ps_raise T.x_NoName T.mx_NoName hr.hd rfl (pac pe_str pa_nil))) pss_nil)), ?_⟩
    exact ⟨_, rfl, _, rfl, L, _, rfl, hL, hv, _, rfl, iteT ⟨by show 1 ≤ sizeLine; decide, k⟩⟩
theorem ok_vtake {fd : FuncData} (F : Fun K "take_out" "Folders.take_out" sFolders_take_out a.f_Folders_take_out fd) (T : Txt K mg a) (FF : Funs K a) : FnOk P w K mg base (CXF P w) 2 a.f_Folders_take_out fd ["self", "name"] (spF2V a) := by
  obtain ⟨fdC, F_check_there, b_check_there⟩ := FF.F_check_there
  have G_check_there : FnOk P w K mg base (CXF P w) 1 a.f_check_there fdC ["name", "there"] (spThereV a) := ok_thereV F_check_there T
  refine F.okX sc_Folders_take_out (fun vs H Q E h => ?_) (fun cdv A outer st H vs Q E hr h => ?_)
  · obtain ⟨x, bx, mk, W, M, n, F, y, rfl, _⟩ := h; rfl
  · obtain ⟨x, bx, mk, W, M, n, F, y, rfl, ⟨dx, X1, T1, N1, bs, tg, obj, fi, _⟩, hnm, k⟩ := h
    have hr_check_there : Room 1 _ := hr
    refine ⟨_, (pss_cons (ps_expr (pe_callX (R := fun _ => E) G_check_there hr_check_there rfl T.m_check_there F_check_there.kp b_check_there .nil passF (pac (pv 1) (pac (pe_fld (pv 0) rfl) pa_nil)))) pss_never), ?_⟩
    exact ⟨_, rfl, _, rfl, x, _, dx, _, _, rfl, obj, T.c_Folders, T.n_Folders_boxes, flds_box X1 T1 N1, y, X1, _, rfl, fi.bx_, hnm, k⟩
theorem ok_vplace {fd : FuncData} (F : Fun K "place" "Folders.place" sFolders_place a.f_Folders_place fd) (T : Txt K mg a) (FF : Funs K a) : FnOk P w K mg base (CXF P w) 2 a.f_Folders_place fd ["self", "name", "folder"] (spF3V a) := by
  obtain ⟨fdC, F_check_there, b_check_there⟩ := FF.F_check_there
  have G_check_there : FnOk P w K mg base (CXF P w) 1 a.f_check_there fdC ["name", "there"] (spThereV a) := ok_thereV F_check_there T
  refine F.okX sc_Folders_place (fun vs H Q E h => ?_) (fun cdv A outer st H vs Q E hr h => ?_)
  · obtain ⟨x, bx, mk, W, M, n, F, y, z, rfl, _⟩ := h; rfl
  · obtain ⟨x, bx, mk, W, M, n, F, y, z, rfl, ⟨dx, X1, T1, N1, bs, tg, obj, fi, _⟩, hnm, k⟩ := h
    have hr_check_there : Room 1 _ := hr
    refine ⟨_, (pss_cons (ps_expr (pe_callX (R := fun _ => E) G_check_there hr_check_there rfl T.m_check_there F_check_there.kp b_check_there .nil passF (pac (pv 1) (pac (pe_fld (pv 0) rfl) pa_nil)))) pss_never), ?_⟩
    exact ⟨_, rfl, _, rfl, x, _, dx, _, _, rfl, obj, T.c_Folders, T.n_Folders_boxes, flds_box X1 T1 N1, y, X1, _, rfl, fi.bx_, hnm, k⟩
theorem ok_vmark {fd : FuncData} (F : Fun K "mark" "Folders.mark" sFolders_mark a.f_Folders_mark fd) (T : Txt K mg a) (FF : Funs K a) : FnOk P w K mg base (CXF P w) 2 a.f_Folders_mark fd ["self", "name", "word"] (spF3V a) := by
  obtain ⟨fdC, F_check_there, b_check_there⟩ := FF.F_check_there
  have G_check_there : FnOk P w K mg base (CXF P w) 1 a.f_check_there fdC ["name", "there"] (spThereV a) := ok_thereV F_check_there T
  refine F.okX sc_Folders_mark (fun vs H Q E h => ?_) (fun cdv A outer st H vs Q E hr h => ?_)
  · obtain ⟨x, bx, mk, W, M, n, F, y, z, rfl, _⟩ := h; rfl
  · obtain ⟨x, bx, mk, W, M, n, F, y, z, rfl, ⟨dx, X1, T1, N1, bs, tg, obj, fi, _⟩, hnm, k⟩ := h
    have hr_check_there : Room 1 _ := hr
    refine ⟨_, (pss_cons (ps_expr (pe_callX (R := fun _ => E) G_check_there hr_check_there rfl T.m_check_there F_check_there.kp b_check_there .nil passF (pac (pv 1) (pac (pe_fld (pv 0) rfl) pa_nil)))) pss_never), ?_⟩
    exact ⟨_, rfl, _, rfl, x, _, dx, _, _, rfl, obj, T.c_Folders, T.n_Folders_boxes, flds_box X1 T1 N1, y, X1, _, rfl, fi.bx_, hnm, k⟩
theorem ok_vunmark {fd : FuncData} (F : Fun K "unmark" "Folders.unmark" sFolders_unmark a.f_Folders_unmark fd) (T : Txt K mg a) (FF : Funs K a) : FnOk P w K mg base (CXF P w) 2 a.f_Folders_unmark fd ["self", "name", "word"] (spF3V a) := by
  obtain ⟨fdC, F_check_there, b_check_there⟩ := FF.F_check_there
  have G_check_there : FnOk P w K mg base (CXF P w) 1 a.f_check_there fdC ["name", "there"] (spThereV a) := ok_thereV F_check_there T
  refine F.okX sc_Folders_unmark (fun vs H Q E h => ?_) (fun cdv A outer st H vs Q E hr h => ?_)
  · obtain ⟨x, bx, mk, W, M, n, F, y, z, rfl, _⟩ := h; rfl
  · obtain ⟨x, bx, mk, W, M, n, F, y, z, rfl, ⟨dx, X1, T1, N1, bs, tg, obj, fi, _⟩, hnm, k⟩ := h
    have hr_check_there : Room 1 _ := hr
    refine ⟨_, (pss_cons (ps_expr (pe_callX (R := fun _ => E) G_check_there hr_check_there rfl T.m_check_there F_check_there.kp b_check_there .nil passF (pac (pv 1) (pac (pe_fld (pv 0) rfl) pa_nil)))) pss_never), ?_⟩
    exact ⟨_, rfl, _, rfl, x, _, dx, _, _, rfl, obj, T.c_Folders, T.n_Folders_boxes, flds_box X1 T1 N1, y, X1, _, rfl, fi.bx_, hnm, k⟩
theorem ok_vfolder {fd : FuncData} (F : Fun K "folder" "Folders.folder" sFolders_folder a.f_Folders_folder fd) (T : Txt K mg a) (FF : Funs K a) : FnOk P w K mg base (CXF P w) 2 a.f_Folders_folder fd ["self", "name"] (spF2V a) := by
  obtain ⟨fdC, F_check_there, b_check_there⟩ := FF.F_check_there
  have G_check_there : FnOk P w K mg base (CXF P w) 1 a.f_check_there fdC ["name", "there"] (spThereV a) := ok_thereV F_check_there T
  refine F.okX sc_Folders_folder (fun vs H Q E h => ?_) (fun cdv A outer st H vs Q E hr h => ?_)
  · obtain ⟨x, bx, mk, W, M, n, F, y, rfl, _⟩ := h; rfl
  · obtain ⟨x, bx, mk, W, M, n, F, y, rfl, ⟨dx, X1, T1, N1, bs, tg, obj, fi, _⟩, hnm, k⟩ := h
    have hr_check_there : Room 1 _ := hr
    refine ⟨_, (pss_cons (ps_expr (pe_callX (R := fun _ => E) G_check_there hr_check_there rfl T.m_check_there F_check_there.kp b_check_there .nil passF (pac (pv 1) (pac (pe_fld (pv 0) rfl) pa_nil)))) pss_never), ?_⟩
    exact ⟨_, rfl, _, rfl, x, _, dx, _, _, rfl, obj, T.c_Folders, T.n_Folders_boxes, flds_box X1 T1 N1, y, X1, _, rfl, fi.bx_, hnm, k⟩
theorem ok_vmarks {fd : FuncData} (F : Fun K "marks" "Folders.marks" sFolders_marks a.f_Folders_marks fd) (T : Txt K mg a) (FF : Funs K a) : FnOk P w K mg base (CXF P w) 2 a.f_Folders_marks fd ["self", "name"] (spF2V a) := by
  obtain ⟨fdC, F_check_there, b_check_there⟩ := FF.F_check_there
  have G_check_there : FnOk P w K mg base (CXF P w) 1 a.f_check_there fdC ["name", "there"] (spThereV a) := ok_thereV F_check_there T
  refine F.okX sc_Folders_marks (fun vs H Q E h => ?_) (fun cdv A outer st H vs Q E hr h => ?_)
  · obtain ⟨x, bx, mk, W, M, n, F, y, rfl, _⟩ := h; rfl
  · obtain ⟨x, bx, mk, W, M, n, F, y, rfl, ⟨dx, X1, T1, N1, bs, tg, obj, fi, _⟩, hnm, k⟩ := h
    have hr_check_there : Room 1 _ := hr
    refine ⟨_, (pss_cons (ps_expr (pe_callX (R := fun _ => E) G_check_there hr_check_there rfl T.m_check_there F_check_there.kp b_check_there .nil passF (pac (pv 1) (pac (pe_fld (pv 0) rfl) pa_nil)))) pss_never), ?_⟩
    exact ⟨_, rfl, _, rfl, x, _, dx, _, _, rfl, obj, T.c_Folders, T.n_Folders_boxes, flds_box X1 T1 N1, y, X1, _, rfl, fi.bx_, hnm, k⟩
end
inductive spOneClass_I (a : Adr) (vs : List V) (H : Hp) (Q : VK) : Prop
  | mk : ∀ (e : Addr), vs = [.ref e] → H e = some (ExcO a.C_NoName e) → (∀ H', Same H H' → Q (.bl true) H') → spOneClass_I a vs H Q
def spOneClass (a : Adr) : Sp := fun vs H Q _ => spOneClass_I a vs H Q
section
variable {P : Program} {w : World} {K : PySem.W.Frag} {mg : Str → Option Value} {base : Heap} {a : Adr}
theorem ok_oneclass {fd : FuncData} (F : Fun K "_law_of_one_class" "_law_of_one_class" sl_of_one_class a.f_l_of_one_class fd) (T : Txt K mg a) : FnOkU P w K mg base 1 a.f_l_of_one_class fd ["_law_e"] (spOneClass a) := by
  refine F.okU sc_l_of_one_class (fun vs H Q E h => ?_) (fun cdv A outer s H vs Q E hr h => ?_)
  · obtain ⟨e, rfl, _⟩ := h; rfl
  · obtain ⟨e, rfl, he, k⟩ := h
    refine ⟨_, (pss_cons (ps_set (i := 1) sc_l_of_one_class.nd rfl (Or.inl rfl) (pe_lstS (pas_cons (pe_callB call_isexc rfl T.b_isinstance PyProof.Rows.boot_isinstance (pac (pv 0) (pac (pe_gl (v := .ref a.C_NoWord) rfl ⟨_, T.mx_NoWord, rfl⟩) pa_nil))) (pas_cons (pe_callB call_isexc rfl T.b_isinstance PyProof.Rows.boot_isinstance (pac (pv 0) (pac (pe_gl (v := .ref a.C_NoLetter) rfl ⟨_, T.mx_NoLetter, rfl⟩) pa_nil))) (pas_cons (pe_callB call_isexc rfl T.b_isinstance PyProof.Rows.boot_isinstance (pac (pv 0) (pac (pe_gl (v := .ref a.C_NoRule) rfl ⟨_, T.mx_NoRule, rfl⟩) pa_nil))) (pas_cons (pe_callB call_isexc rfl T.b_isinstance PyProof.Rows.boot_isinstance (pac (pv 0) (pac (pe_gl (v := .ref a.C_NoName) rfl ⟨_, T.mx_NoName, rfl⟩) pa_nil))) pas_nil))))))
        (pss_cons (ps_set (i := 1) sc_l_of_one_class.nd rfl (Or.inl rfl) (pe_op op_cat (pv 1) (pe_lstS (pas_cons (pe_callB call_isexc rfl T.b_isinstance PyProof.Rows.boot_isinstance (pac (pv 0) (pac (pe_gl (v := .ref a.C_NoParcel) rfl ⟨_, T.mx_NoParcel, rfl⟩) pa_nil))) (pas_cons (pe_callB call_isexc rfl T.b_isinstance PyProof.Rows.boot_isinstance (pac (pv 0) (pac (pe_gl (v := .ref a.C_NoRow) rfl ⟨_, T.mx_NoRow, rfl⟩) pa_nil))) pas_nil)))))
        (pss_one (ps_ret (pe_and (pe_callB call_isexc rfl T.b_isinstance PyProof.Rows.boot_isinstance (pac (pv 0) (pac (pe_bltn (v := .ty "ValueError") rfl T.b_ValueError boot_VE rfl) pa_nil))) (pe_one (pe_cmpR op_eq (pe_bm PySem.F.plainAttrs_list PySem.F.slot_list_count PySem.F.type_list_count mt_countB (pv 1) (pac pe_bl pa_nil)) pe_int (nomark _)))))))), ?_⟩
    refine ⟨_, rfl, e, _, _, _, _, rfl, he, T.xg_NoName, rfl, T.ki_NoName_NoWord, _, rfl, e, _, _, _, _, rfl, he, T.xg_NoName, rfl, T.ki_NoName_NoLetter, _, rfl, e, _, _, _, _, rfl, he, T.xg_NoName, rfl, T.ki_NoName_NoRule, _, rfl, e, _, _, _, _, rfl, he, T.xg_NoName, rfl, T.ki_NoName_NoName, (by show 4 ≤ sizeLine; decide), fun l hl => ?_⟩
    have s1 : Same H (upd H l (.lst [.bl false, .bl false, .bl false, .bl true])) := Same.upd_new hl
    have e1 : (upd H l (.lst [.bl false, .bl false, .bl false, .bl true])) l = some (.lst [.bl false, .bl false, .bl false, .bl true]) := upd_same
    show tSeq _ _ _ _ (upd H l (.lst [.bl false, .bl false, .bl false, .bl true]))
    generalize upd H l (.lst [.bl false, .bl false, .bl false, .bl true]) = H1 at s1 e1
    have he1 := s1 _ _ he
    refine ⟨_, rfl, _, rfl, e, _, _, _, _, rfl, he1, T.xg_NoName, rfl, T.ki_NoName_NoParcel, _, rfl, e, _, _, _, _, rfl, he1, T.xg_NoName, rfl, T.ki_NoName_NoRow, (by show 2 ≤ sizeLine; decide), fun m hm => ?_⟩
    have s2 : Same H1 (upd H1 m (.lst [.bl false, .bl false])) := Same.upd_new hm
    have e2 : (upd H1 m (.lst [.bl false, .bl false])) m = some (.lst [.bl false, .bl false]) := upd_same
    have e12 := s2 _ _ e1
    have he2 := s2 _ _ he1
    generalize upd H1 m (.lst [.bl false, .bl false]) = H2 at s2 e2 e12 he2
    refine ⟨l, m, _, _, rfl, rfl, e12, e2, (by show 6 ≤ sizeLine; decide), fun r hr => ?_⟩
    have s3 : Same H2 (upd H2 r (.lst ([false, false, false, true, false, false].map V.bl))) := Same.upd_new hr
    have e3 : (upd H2 r (.lst ([false, false, false, true, false, false].map V.bl))) r = some (.lst ([false, false, false, true, false, false].map V.bl)) := upd_same
    show tSeq _ _ _ _ (upd H2 r (.lst ([false, false, false, true, false, false].map V.bl)))
    generalize upd H2 r (.lst ([false, false, false, true, false, false].map V.bl)) = H3 at s3 e3
    have he3 := s3 _ _ he2
    refine ⟨_, rfl, e, _, _, _, _, rfl, he3, T.xg_NoName, rfl, T.ki_NoName_ValueError, _, rfl, ?_⟩
    refine iteT ?_
    refine ⟨_, rfl, .inl ⟨rfl, _, SqL.of e3⟩, r, [false, false, false, true, false, false], true, rfl, rfl, e3, rfl, ?_⟩
    exact k _ (s1.trans (s2.trans s3))
end
structure SmAt (H : Hp) (so n1 f1 m1 : Addr) (ns W M : List Str) : Prop where
  so_ : H so = some (.lst [.ref n1, .ref f1, .ref m1])
  n_ : H n1 = some (.lst (ns.map V.str))
  f_ : H f1 = some (.lst (W.map V.str))
  m_ : H m1 = some (.lst (M.map V.str))
  nl : ns.length = 9
  wl : W.length = 5
  ml : M.length = 6
theorem SmAt.same {H H' : Hp} {so n1 f1 m1 : Addr} {ns W M : List Str} (h : SmAt H so n1 f1 m1 ns W M) (s : Same H H') : SmAt H' so n1 f1 m1 ns W M := ⟨s _ _ h.so_, s _ _ h.n_, s _ _ h.f_, s _ _ h.m_, h.nl, h.wl, h.ml⟩
theorem SmAt.kp {H H' : Hp} {so n1 f1 m1 : Addr} {ns W M : List Str} {F : List Addr} (h : SmAt H so n1 f1 m1 ns W M) (k : KpF F H H') (hF : ∀ c ∈ F, ∃ kvs, H c = some (.dK kvs)) : SmAt H' so n1 f1 m1 ns W M := by
  have no : ∀ {c : Addr} {xs : List V}, H c = some (.lst xs) → ¬ c ∈ F := fun e z => by
    obtain ⟨_, e'⟩ := hF _ z
    rw [e] at e'; cases e'
  exact ⟨k _ _ (no h.so_) h.so_, k _ _ (no h.n_) h.n_, k _ _ (no h.f_) h.f_, k _ _ (no h.m_) h.m_, h.nl, h.wl, h.ml⟩
theorem int_no {i : Nat} {σ : St} {H : Hp} {w n : Int} {Q : Bool → Hp → Prop} (h0 : σ[i]? = some (some (.int w))) (ne : w ≠ n) (q : Q false H) : tTest (tOp rEq (tVar i) (tC (.int n))) σ H Q := ⟨_, h0, rfl, _, rfl, by rw [decide_eq_false fun z => ne (V.int.inj z)]; exact q⟩
theorem int_yes {i : Nat} {σ : St} {H : Hp} {w : Int} {Q : Bool → Hp → Prop} (h0 : σ[i]? = some (some (.int w))) (q : Q true H) : tTest (tOp rEq (tVar i) (tC (.int w))) σ H Q := ⟨_, h0, rfl, _, rfl, by rw [decide_eq_true rfl]; exact q⟩
theorem pick_W {K : PySem.W.Frag} {σ : St} {H : Hp} {Q : VK} {s : Nat} {so f1 : Addr} {xs : List V} {j : Int} {W : List Str} {ti : TE} (h3 : σ[s]? = some (some (.ref so))) (hso : H so = some (.lst xs)) (hj : atI xs j = some (.ref f1)) (hf : H f1 = some (.lst (W.map V.str)))
    (hi : ∀ Q' : VK, (∀ i : Int, 0 ≤ i → i < (W.length : Int) → Q' (.int i) H) → ti σ H Q') (q : ∀ y ∈ W, Q (.str y) H) : tOp (rIxL K) (tOp (rIxL K) (tVar s) (tC (.int j))) ti σ H Q := by
  refine ⟨_, h3, so, _, _, _, rfl, rfl, SqL.of hso, hj, hi _ fun i i0 i1 => ?_⟩
  obtain ⟨v, hv, hm, _⟩ := atI_some (xs := W.map V.str) i0 (by rw [List.length_map]; exact i1)
  obtain ⟨y, hy, rfl⟩ := List.mem_map.mp hm
  exact ⟨f1, _, _, _, rfl, rfl, SqL.of hf, hv, q y hy⟩
theorem mod_ix {σ : St} {H : Hp} {Q : VK} {i : Nat} {n m : Int} {L : Nat} (h : σ[i]? = some (some (.int n))) (hm : 0 < m) (hl : (L : Int) = m) (q : ∀ j : Int, 0 ≤ j → j < (L : Int) → Q (.int j) H) : tOp (rI (fun _ j => 0 < j) fun i j => .int (i % j)) (tVar i) (tC (.int m)) σ H Q :=
  ⟨_, h, _, _, rfl, rfl, hm, q _ (Int.emod_nonneg _ (by omega)) (by rw [hl]; exact Int.emod_lt_of_pos _ hm)⟩
theorem divmod_ix {σ : St} {H : Hp} {Q : VK} {i : Nat} {n d m : Int} {L : Nat} (h : σ[i]? = some (some (.int n))) (hd : CDiv n d) (hm : 0 < m) (hl : (L : Int) = m) (q : ∀ j : Int, 0 ≤ j → j < (L : Int) → Q (.int j) H) :
    tOp (rI (fun _ j => 0 < j) fun i j => .int (i % j)) (tOp (rI CDiv fun i j => .int (i / j)) (tVar i) (tC (.int d))) (tC (.int m)) σ H Q :=
  ⟨_, h, _, _, rfl, rfl, hd, _, _, rfl, rfl, hm, q _ (Int.emod_nonneg _ (by omega)) (by rw [hl]; exact Int.emod_lt_of_pos _ hm)⟩
/-- is it refused? -/
def Refs (bx : Rows) (w : Int) (y : V) : Prop := (OddN bx y ∧ (w = 1 ∨ w = 2 ∨ w = 3 ∨ w = 4 ∨ w = 5 ∨ w = 7)) ∨ ∃ nm fo, y = .str nm ∧ up bx nm = some fo ∧ (w = 0 ∨ w = 6)
inductive spAskedX_I (a : Adr) (vs : List V) (H : Hp) (E : XK) : Prop
  | mk : ∀ (x so n1 f1 m1 : Addr) (bx : Rows) (mk : Str → List Str) (W0 M0 ns W M : List Str) (n : Nat) (F : List Addr) (w num : Int) (y : V), vs = [.ref x, .int w, y, .ref so, .int num] → FO a H x bx mk W0 M0 n F → SmAt H so n1 f1 m1 ns W M → Refs bx w y → (∀ H', Same H H' → E (.ref a.C_NoName) none H') → spAskedX_I a vs H E
def spAskedX (a : Adr) : Sp := fun vs H _ E => spAskedX_I a vs H E
/-- does it go? -/
def GoesW (bx : Rows) (w : Int) (nm : Str) : Prop := (nm ∈ bx.map (·.1) ∧ (w = 1 ∨ w = 2 ∨ w = 3 ∨ w = 4 ∨ w = 5 ∨ w = 7)) ∨ (up bx nm = none ∧ (w = 0 ∨ w = 6))
def Left (bx bx' : Rows) (w : Int) (nm : Str) : Prop := ∀ t, t ∈ bx'.map (·.1) ↔ (if w = 1 then t ∈ bx.map (·.1) ∧ t ≠ nm else t ∈ bx.map (·.1) ∨ t = nm)
inductive spAsked_I (a : Adr) (vs : List V) (H : Hp) (Q : VK) : Prop
  | mk : ∀ (x so n1 f1 m1 : Addr) (bx : Rows) (mk : Str → List Str) (W0 M0 ns W M : List Str) (n : Nat) (F : List Addr) (w num : Int) (nm : Str), vs = [.ref x, .int w, .str nm, .ref so, .int num] → FO a H x bx mk W0 M0 n F → n < 40 → SmAt H so n1 f1 m1 ns W M → ("inbox" : Str) ∈ W0 → (∀ y ∈ W, y ∈ W0) → (∀ y ∈ M, y ∈ M0) → GoesW bx w nm →
    (∀ v H' bx' mk' F', FO a H' x bx' mk' W0 M0 (n + 1) F' → Left bx bx' w nm → KpF F H H' → (∀ c ∈ F', c ∈ F ∨ H c = none) → Q v H') → spAsked_I a vs H Q
def spAsked (a : Adr) : Sp := fun vs H Q _ => spAsked_I a vs H Q
section
variable {P : Program} {w : World} {K : PySem.W.Frag} {mg : Str → Option Value} {base : Heap} {a : Adr}
theorem ok_askedX {fd : FuncData} (F : Fun K "_law_asked" "_law_asked" sl_asked a.f_l_asked fd) (T : Txt K mg a) (FF : Funs K a) : FnOk P w K mg base (CXF P w) 3 a.f_l_asked fd ["_law_folders", "_law_way", "_law_name", "_law_some_here", "_law_number"] (spAskedX a) := by
  obtain ⟨fdA, F_A, b_A0, ⟨dsA0, vA0, b_A2⟩, ⟨dsA1, vA1, b_A1⟩⟩ := FF.F_Folders_add
  obtain ⟨fdT, F_T, b_T⟩ := FF.F_Folders_take_out
  obtain ⟨fdP, F_P, b_P⟩ := FF.F_Folders_place
  obtain ⟨fdM, F_M, b_M⟩ := FF.F_Folders_mark
  obtain ⟨fdU, F_U, b_U⟩ := FF.F_Folders_unmark
  obtain ⟨fdF, F_F, b_F⟩ := FF.F_Folders_folder
  obtain ⟨fdS, F_S, b_S⟩ := FF.F_Folders_marks
  have G_A : FnOk P w K mg base (CXF P w) 2 a.f_Folders_add fdA ["self", "name", "folder", "marks"] (spFAddX a) := ok_faddX F_A T FF
  have G_T : FnOk P w K mg base (CXF P w) 2 a.f_Folders_take_out fdT ["self", "name"] (spF2V a) := ok_vtake F_T T FF
  have G_P : FnOk P w K mg base (CXF P w) 2 a.f_Folders_place fdP ["self", "name", "folder"] (spF3V a) := ok_vplace F_P T FF
  have G_M : FnOk P w K mg base (CXF P w) 2 a.f_Folders_mark fdM ["self", "name", "word"] (spF3V a) := ok_vmark F_M T FF
  have G_U : FnOk P w K mg base (CXF P w) 2 a.f_Folders_unmark fdU ["self", "name", "word"] (spF3V a) := ok_vunmark F_U T FF
  have G_F : FnOk P w K mg base (CXF P w) 2 a.f_Folders_folder fdF ["self", "name"] (spF2V a) := ok_vfolder F_F T FF
  have G_S : FnOk P w K mg base (CXF P w) 2 a.f_Folders_marks fdS ["self", "name"] (spF2V a) := ok_vmarks F_S T FF
  refine F.okX sc_l_asked (fun vs H Q E h => ?_) (fun cdv A outer s H vs Q E hr h => ?_)
  · obtain ⟨x, so, n1, f1, m1, bx, mk, W0, M0, ns, W, M, n, F, wy, num, y, rfl, _⟩ := h; rfl
  · obtain ⟨x, so, n1, f1, m1, bx, mk, W0, M0, ns, W, M, n, F, wy, num, y, rfl, hf, s_, hR, k⟩ := h
    obtain ⟨dx, X1, T1, N1, obj⟩ := hf.obj
    have hr2 : Room 2 _ := hr
    rcases hR with ⟨hy, rfl | rfl | rfl | rfl | rfl | rfl⟩ | ⟨nm, fo, rfl, hn, rfl | rfl⟩
    · refine ⟨_, (pss_cons (ps_if (pt_cmpR op_eq (pv 1) pe_int (nomark _)) pss_never pss_nil)
        (pss_cons (ps_if (pt_cmpR op_eq (pv 1) pe_int (nomark _)) (pss_one (ps_ret (pe_methX (R := fun _ => E) (pv 0) T.c_Folders T.M_Folders_take_out G_T hr2 b_T .nil passF (pac (pv 2) pa_nil)))) pss_nil) pss_never)), ?_⟩
      refine int_no (w := 1) rfl (by decide) (iteF ?_)
      refine int_yes rfl (iteT ?_)
      exact ⟨_, rfl, x, dx, _, rfl, obj, rfl, _, rfl, x, bx, mk, W0, M0, n, F, y, rfl, hf, hy, k _ (Same.refl _)⟩
    · refine ⟨_, (pss_cons (ps_if (pt_cmpR op_eq (pv 1) pe_int (nomark _)) pss_never pss_nil)
        (pss_cons (ps_if (pt_cmpR op_eq (pv 1) pe_int (nomark _)) pss_never pss_nil)
        (pss_cons (ps_if (pt_cmpR op_eq (pv 1) pe_int (nomark _)) (pss_one (ps_ret (pe_methX (R := fun _ => E) (pv 0) T.c_Folders T.M_Folders_place G_P hr2 b_P .nil passF (pac (pv 2) (pac (pe_ix ix_list (pe_ix ix_list (pv 3) pe_int (fun _ _ => rfl)) (pe_op op_mod (pv 4) pe_int) (fun _ _ => rfl)) pa_nil))))) pss_nil) pss_never))), ?_⟩
      refine int_no (w := 2) rfl (by decide) (iteF ?_)
      refine int_no (w := 2) rfl (by decide) (iteF ?_)
      refine int_yes rfl (iteT ?_)
      exact ⟨_, rfl, x, dx, _, rfl, obj, rfl, _, rfl, (pick_W rfl (s_.so_) rfl s_.f_ (fun Q' h => mod_ix rfl (by decide) (by rw [s_.wl]; rfl) h) fun yW hyW => ⟨x, bx, mk, W0, M0, n, F, y, _, rfl, hf, hy, k _ (Same.refl _)⟩)⟩
    · refine ⟨_, (pss_cons (ps_if (pt_cmpR op_eq (pv 1) pe_int (nomark _)) pss_never pss_nil)
        (pss_cons (ps_if (pt_cmpR op_eq (pv 1) pe_int (nomark _)) pss_never pss_nil)
        (pss_cons (ps_if (pt_cmpR op_eq (pv 1) pe_int (nomark _)) pss_never pss_nil)
        (pss_cons (ps_if (pt_cmpR op_eq (pv 1) pe_int (nomark _)) (pss_one (ps_ret (pe_methX (R := fun _ => E) (pv 0) T.c_Folders T.M_Folders_mark G_M hr2 b_M .nil passF (pac (pv 2) (pac (pe_ix ix_list (pe_ix ix_list (pv 3) pe_int (fun _ _ => rfl)) (pe_op op_mod (pv 4) pe_int) (fun _ _ => rfl)) pa_nil))))) pss_nil) pss_never)))), ?_⟩
      refine int_no (w := 3) rfl (by decide) (iteF ?_)
      refine int_no (w := 3) rfl (by decide) (iteF ?_)
      refine int_no (w := 3) rfl (by decide) (iteF ?_)
      refine int_yes rfl (iteT ?_)
      exact ⟨_, rfl, x, dx, _, rfl, obj, rfl, _, rfl, (pick_W rfl (s_.so_) rfl s_.m_ (fun Q' h => mod_ix rfl (by decide) (by rw [s_.ml]; rfl) h) fun yW hyW => ⟨x, bx, mk, W0, M0, n, F, y, _, rfl, hf, hy, k _ (Same.refl _)⟩)⟩
    · refine ⟨_, (pss_cons (ps_if (pt_cmpR op_eq (pv 1) pe_int (nomark _)) pss_never pss_nil)
        (pss_cons (ps_if (pt_cmpR op_eq (pv 1) pe_int (nomark _)) pss_never pss_nil)
        (pss_cons (ps_if (pt_cmpR op_eq (pv 1) pe_int (nomark _)) pss_never pss_nil)
        (pss_cons (ps_if (pt_cmpR op_eq (pv 1) pe_int (nomark _)) pss_never pss_nil)
        (pss_cons (ps_if (pt_cmpR op_eq (pv 1) pe_int (nomark _)) (pss_one (ps_ret (pe_methX (R := fun _ => E) (pv 0) T.c_Folders T.M_Folders_unmark G_U hr2 b_U .nil passF (pac (pv 2) (pac (pe_ix ix_list (pe_ix ix_list (pv 3) pe_int (fun _ _ => rfl)) (pe_op op_mod (pv 4) pe_int) (fun _ _ => rfl)) pa_nil))))) pss_nil) pss_never))))), ?_⟩
      refine int_no (w := 4) rfl (by decide) (iteF ?_)
      refine int_no (w := 4) rfl (by decide) (iteF ?_)
      refine int_no (w := 4) rfl (by decide) (iteF ?_)
      refine int_no (w := 4) rfl (by decide) (iteF ?_)
      refine int_yes rfl (iteT ?_)
      exact ⟨_, rfl, x, dx, _, rfl, obj, rfl, _, rfl, (pick_W rfl (s_.so_) rfl s_.m_ (fun Q' h => mod_ix rfl (by decide) (by rw [s_.ml]; rfl) h) fun yW hyW => ⟨x, bx, mk, W0, M0, n, F, y, _, rfl, hf, hy, k _ (Same.refl _)⟩)⟩
    · refine ⟨_, (pss_cons (ps_if (pt_cmpR op_eq (pv 1) pe_int (nomark _)) pss_never pss_nil)
        (pss_cons (ps_if (pt_cmpR op_eq (pv 1) pe_int (nomark _)) pss_never pss_nil)
        (pss_cons (ps_if (pt_cmpR op_eq (pv 1) pe_int (nomark _)) pss_never pss_nil)
        (pss_cons (ps_if (pt_cmpR op_eq (pv 1) pe_int (nomark _)) pss_never pss_nil)
        (pss_cons (ps_if (pt_cmpR op_eq (pv 1) pe_int (nomark _)) pss_never pss_nil)
        (pss_cons (ps_if (pt_cmpR op_eq (pv 1) pe_int (nomark _)) (pss_one (ps_ret (pe_methX (R := fun _ => E) (pv 0) T.c_Folders T.M_Folders_folder G_F hr2 b_F .nil passF (pac (pv 2) pa_nil)))) pss_nil) pss_never)))))), ?_⟩
      refine int_no (w := 5) rfl (by decide) (iteF ?_)
      refine int_no (w := 5) rfl (by decide) (iteF ?_)
      refine int_no (w := 5) rfl (by decide) (iteF ?_)
      refine int_no (w := 5) rfl (by decide) (iteF ?_)
      refine int_no (w := 5) rfl (by decide) (iteF ?_)
      refine int_yes rfl (iteT ?_)
      exact ⟨_, rfl, x, dx, _, rfl, obj, rfl, _, rfl, x, bx, mk, W0, M0, n, F, y, rfl, hf, hy, k _ (Same.refl _)⟩
    · refine ⟨_, (pss_cons (ps_if (pt_cmpR op_eq (pv 1) pe_int (nomark _)) pss_never pss_nil)
        (pss_cons (ps_if (pt_cmpR op_eq (pv 1) pe_int (nomark _)) pss_never pss_nil)
        (pss_cons (ps_if (pt_cmpR op_eq (pv 1) pe_int (nomark _)) pss_never pss_nil)
        (pss_cons (ps_if (pt_cmpR op_eq (pv 1) pe_int (nomark _)) pss_never pss_nil)
        (pss_cons (ps_if (pt_cmpR op_eq (pv 1) pe_int (nomark _)) pss_never pss_nil)
        (pss_cons (ps_if (pt_cmpR op_eq (pv 1) pe_int (nomark _)) pss_never pss_nil)
        (pss_cons (ps_if (pt_cmpR op_eq (pv 1) pe_int (nomark _)) pss_never pss_nil)
        (pss_one (ps_ret (pe_methX (R := fun _ => E) (pv 0) T.c_Folders T.M_Folders_marks G_S hr2 b_S .nil passF (pac (pv 2) pa_nil))))))))))), ?_⟩
      refine int_no (w := 7) rfl (by decide) (iteF ?_)
      refine int_no (w := 7) rfl (by decide) (iteF ?_)
      refine int_no (w := 7) rfl (by decide) (iteF ?_)
      refine int_no (w := 7) rfl (by decide) (iteF ?_)
      refine int_no (w := 7) rfl (by decide) (iteF ?_)
      refine int_no (w := 7) rfl (by decide) (iteF ?_)
      refine int_no (w := 7) rfl (by decide) (iteF ?_)
      exact ⟨_, rfl, x, dx, _, rfl, obj, rfl, _, rfl, x, bx, mk, W0, M0, n, F, y, rfl, hf, hy, k _ (Same.refl _)⟩
    · refine ⟨_, (pss_cons (ps_if (pt_cmpR op_eq (pv 1) pe_int (nomark _)) (pss_one (ps_ret (pe_methX (R := fun _ => E) (pv 0) T.c_Folders T.M_Folders_add G_A hr2 b_A0 .nil passF (pac (pv 2) (pac (pe_ix ix_list (pe_ix ix_list (pv 3) pe_int (fun _ _ => rfl)) (pe_op op_mod (pv 4) pe_int) (fun _ _ => rfl)) (pac (pe_lstS (pas_cons (pe_ix ix_list (pe_ix ix_list (pv 3) pe_int (fun _ _ => rfl)) (pe_op op_mod (pe_op op_fdiv (pv 4) pe_int) pe_int) (fun _ _ => rfl)) pas_nil)) pa_nil)))))) pss_nil) pss_never), ?_⟩
      refine int_yes rfl (iteT ?_)
      refine ⟨_, rfl, x, dx, _, rfl, obj, rfl, _, rfl, (pick_W rfl (s_.so_) rfl s_.f_ (fun Q' h => mod_ix rfl (by decide) (by rw [s_.wl]; rfl) h) fun yW hyW => (pick_W rfl (s_.so_) rfl s_.m_ (fun Q' h => divmod_ix rfl ⟨by decide, by decide⟩ (by decide) (by rw [s_.ml]; rfl) h) fun yM hyM => ⟨(by show 1 ≤ sizeLine; decide), fun l hl => ?_⟩))⟩
      exact ⟨x, bx, mk, W0, M0, n, F, nm, fo, _, _, rfl, hf.same (Same.upd_new hl), hn, k _ (Same.upd_new hl)⟩
    · refine ⟨_, (pss_cons (ps_if (pt_cmpR op_eq (pv 1) pe_int (nomark _)) pss_never pss_nil)
        (pss_cons (ps_if (pt_cmpR op_eq (pv 1) pe_int (nomark _)) pss_never pss_nil)
        (pss_cons (ps_if (pt_cmpR op_eq (pv 1) pe_int (nomark _)) pss_never pss_nil)
        (pss_cons (ps_if (pt_cmpR op_eq (pv 1) pe_int (nomark _)) pss_never pss_nil)
        (pss_cons (ps_if (pt_cmpR op_eq (pv 1) pe_int (nomark _)) pss_never pss_nil)
        (pss_cons (ps_if (pt_cmpR op_eq (pv 1) pe_int (nomark _)) pss_never pss_nil)
        (pss_cons (ps_if (pt_cmpR op_eq (pv 1) pe_int (nomark _)) (pss_one (ps_ret (pe_methX (R := fun _ => E) (pv 0) T.c_Folders T.M_Folders_add G_A hr2 b_A2 vA0 passF (pac (pv 2) pa_nil)))) pss_nil) pss_never))))))), ?_⟩
      refine int_no (w := 6) rfl (by decide) (iteF ?_)
      refine int_no (w := 6) rfl (by decide) (iteF ?_)
      refine int_no (w := 6) rfl (by decide) (iteF ?_)
      refine int_no (w := 6) rfl (by decide) (iteF ?_)
      refine int_no (w := 6) rfl (by decide) (iteF ?_)
      refine int_no (w := 6) rfl (by decide) (iteF ?_)
      refine int_yes rfl (iteT ?_)
      exact ⟨_, rfl, x, dx, _, rfl, obj, rfl, _, rfl, x, bx, mk, W0, M0, n, F, nm, fo, _, _, rfl, hf, hn, k _ (Same.refl _)⟩
end
theorem left_add {bx : Rows} {w : Int} {nm fo : Str} (hw : w ≠ 1) : Left bx (bx ++ [(nm, fo)]) w nm := fun t => by rw [if_neg hw, List.map_append]; simp
theorem mem_without {bx : Rows} {nm t : Str} : t ∈ (without bx nm).map (·.1) ↔ t ∈ bx.map (·.1) ∧ t ≠ nm := by
  unfold L2.without
  simp only [List.mem_map, List.mem_filter, decide_eq_true_eq]
  constructor
  · rintro ⟨r, ⟨hr, h⟩, rfl⟩; exact ⟨⟨r, hr, rfl⟩, h⟩
  · rintro ⟨⟨r, hr, rfl⟩, h⟩; exact ⟨r, ⟨hr, h⟩, rfl⟩
theorem left_take {bx : Rows} {nm : Str} : Left bx (without bx nm) 1 nm := fun t => by rw [if_pos rfl]; exact mem_without
theorem left_place {bx : Rows} {nm fo : Str} {w : Int} (hw : w ≠ 1) : Left bx (without bx nm ++ [(nm, fo)]) w nm := fun t => by
  rw [if_neg hw, List.map_append, List.mem_append, mem_without]
  by_cases e : t = nm
  · simp [e]
  · simp [e]
theorem left_same {bx : Rows} {nm : Str} {w : Int} (hw : w ≠ 1) (h : nm ∈ bx.map (·.1)) : Left bx bx w nm := fun t => by
  rw [if_neg hw]
  constructor
  · exact .inl
  · rintro (z | rfl)
    · exact z
    · exact h
theorem Same.kpf {F : List Addr} {H H' : Hp} (s : Same H H') : KpF F H H' := fun c o _ e => s c o e
section
variable {P : Program} {w : World} {K : PySem.W.Frag} {mg : Str → Option Value} {base : Heap} {a : Adr}
theorem ok_asked {fd : FuncData} (F : Fun K "_law_asked" "_law_asked" sl_asked a.f_l_asked fd) (T : Txt K mg a) (FF : Funs K a) : FnOk P w K mg base CX0 3 a.f_l_asked fd ["_law_folders", "_law_way", "_law_name", "_law_some_here", "_law_number"] (spAsked a) := by
  obtain ⟨fdA, F_A, b_A0, ⟨dsA0, vA0, b_A2⟩, ⟨dsA1, vA1, b_A1⟩⟩ := FF.F_Folders_add
  obtain ⟨fdT, F_T, b_T⟩ := FF.F_Folders_take_out
  obtain ⟨fdP, F_P, b_P⟩ := FF.F_Folders_place
  obtain ⟨fdM, F_M, b_M⟩ := FF.F_Folders_mark
  obtain ⟨fdU, F_U, b_U⟩ := FF.F_Folders_unmark
  obtain ⟨fdF, F_F, b_F⟩ := FF.F_Folders_folder
  obtain ⟨fdS, F_S, b_S⟩ := FF.F_Folders_marks
  have G_A : FnOk P w K mg base CX0 2 a.f_Folders_add fdA ["self", "name", "folder", "marks"] (spFAdd a) := ok_fadd F_A T FF
  have G_N : FnOk P w K mg base CX0 2 a.f_Folders_add fdA ["self", "name", "folder", "marks"] (spFAddN a) := ok_faddN F_A T FF
  have G_T : FnOk P w K mg base CX0 2 a.f_Folders_take_out fdT ["self", "name"] (spFTake a) := ok_ftake F_T T FF
  have G_P : FnOk P w K mg base CX0 2 a.f_Folders_place fdP ["self", "name", "folder"] (spFPlace a) := ok_fplace F_P T FF
  have G_M : FnOk P w K mg base CX0 2 a.f_Folders_mark fdM ["self", "name", "word"] (spFMark a) := ok_fmark F_M T FF
  have G_U : FnOk P w K mg base CX0 2 a.f_Folders_unmark fdU ["self", "name", "word"] (spFUnmark a) := ok_funmark F_U T FF
  have G_F : FnOk P w K mg base CX0 2 a.f_Folders_folder fdF ["self", "name"] (spFFolder a) := ok_ffolder F_F T FF
  have G_S : FnOk P w K mg base CX0 2 a.f_Folders_marks fdS ["self", "name"] (spFMarks a) := ok_fmarks F_S T FF
  refine F.ok sc_l_asked (fun vs H Q E h => ?_) (fun cdv A outer s H vs Q E hr h => ?_)
  · obtain ⟨x, so, n1, f1, m1, bx, mk, W0, M0, ns, W, M, n, F, wy, num, nm, rfl, _⟩ := h; rfl
  · obtain ⟨x, so, n1, f1, m1, bx, mk, W0, M0, ns, W, M, n, F, wy, num, nm, rfl, hf, hn40, s_, hib, hW, hM, hR, k⟩ := h
    obtain ⟨dx, X1, T1, N1, obj⟩ := hf.obj
    rcases hR with ⟨hn, rfl | rfl | rfl | rfl | rfl | rfl⟩ | ⟨hn, rfl | rfl⟩
    · refine ⟨_, (pss_cons (ps_if (pt_cmpR op_eq (pv 1) pe_int (nomark _)) pss_never pss_nil)
        (pss_cons (ps_if (pt_cmpR op_eq (pv 1) pe_int (nomark _)) (pss_one (ps_ret (pe_meth (pv 0) T.c_Folders T.M_Folders_take_out G_T (hr.mono (by decide)) b_T .nil pass0 (pac (pv 2) pa_nil)))) pss_nil) pss_never)), ?_⟩
      refine int_no (w := 1) rfl (by decide) (iteF ?_)
      refine int_yes rfl (iteT ?_)
      exact ⟨_, rfl, x, dx, _, rfl, obj, rfl, _, rfl, x, bx, mk, W0, M0, n, F, nm, rfl, hf, hn, fun H' F' h1 h2 h3 => k _ _ _ _ _ h1.up left_take h2 fun c hc => .inl (h3 c hc)⟩
    · refine ⟨_, (pss_cons (ps_if (pt_cmpR op_eq (pv 1) pe_int (nomark _)) pss_never pss_nil)
        (pss_cons (ps_if (pt_cmpR op_eq (pv 1) pe_int (nomark _)) pss_never pss_nil)
        (pss_cons (ps_if (pt_cmpR op_eq (pv 1) pe_int (nomark _)) (pss_one (ps_ret (pe_meth (pv 0) T.c_Folders T.M_Folders_place G_P (hr.mono (by decide)) b_P .nil pass0 (pac (pv 2) (pac (pe_ix ix_list (pe_ix ix_list (pv 3) pe_int (fun _ _ => rfl)) (pe_op op_mod (pv 4) pe_int) (fun _ _ => rfl)) pa_nil))))) pss_nil) pss_never))), ?_⟩
      refine int_no (w := 2) rfl (by decide) (iteF ?_)
      refine int_no (w := 2) rfl (by decide) (iteF ?_)
      refine int_yes rfl (iteT ?_)
      exact ⟨_, rfl, x, dx, _, rfl, obj, rfl, _, rfl, (pick_W rfl (s_.so_) rfl s_.f_ (fun Q' h => mod_ix rfl (by decide) (by rw [s_.wl]; rfl) h) fun yW hyW => ⟨x, bx, mk, W0, M0, n, F, nm, _, rfl, hf, hn, hW _ hyW, fun H' F' h1 h2 h3 => k _ _ _ _ _ h1.up (left_place (by decide)) h2 h3⟩)⟩
    · refine ⟨_, (pss_cons (ps_if (pt_cmpR op_eq (pv 1) pe_int (nomark _)) pss_never pss_nil)
        (pss_cons (ps_if (pt_cmpR op_eq (pv 1) pe_int (nomark _)) pss_never pss_nil)
        (pss_cons (ps_if (pt_cmpR op_eq (pv 1) pe_int (nomark _)) pss_never pss_nil)
        (pss_cons (ps_if (pt_cmpR op_eq (pv 1) pe_int (nomark _)) (pss_one (ps_ret (pe_meth (pv 0) T.c_Folders T.M_Folders_mark G_M (hr.mono (by decide)) b_M .nil pass0 (pac (pv 2) (pac (pe_ix ix_list (pe_ix ix_list (pv 3) pe_int (fun _ _ => rfl)) (pe_op op_mod (pv 4) pe_int) (fun _ _ => rfl)) pa_nil))))) pss_nil) pss_never)))), ?_⟩
      refine int_no (w := 3) rfl (by decide) (iteF ?_)
      refine int_no (w := 3) rfl (by decide) (iteF ?_)
      refine int_no (w := 3) rfl (by decide) (iteF ?_)
      refine int_yes rfl (iteT ?_)
      exact ⟨_, rfl, x, dx, _, rfl, obj, rfl, _, rfl, (pick_W rfl (s_.so_) rfl s_.m_ (fun Q' h => mod_ix rfl (by decide) (by rw [s_.ml]; rfl) h) fun yW hyW => ⟨x, bx, mk, W0, M0, n, F, nm, _, rfl, hf, hn, hM _ hyW, fun H' h1 h2 => k _ _ _ _ _ h1.up (left_same (by decide) hn) h2 fun c hc => .inl hc⟩)⟩
    · refine ⟨_, (pss_cons (ps_if (pt_cmpR op_eq (pv 1) pe_int (nomark _)) pss_never pss_nil)
        (pss_cons (ps_if (pt_cmpR op_eq (pv 1) pe_int (nomark _)) pss_never pss_nil)
        (pss_cons (ps_if (pt_cmpR op_eq (pv 1) pe_int (nomark _)) pss_never pss_nil)
        (pss_cons (ps_if (pt_cmpR op_eq (pv 1) pe_int (nomark _)) pss_never pss_nil)
        (pss_cons (ps_if (pt_cmpR op_eq (pv 1) pe_int (nomark _)) (pss_one (ps_ret (pe_meth (pv 0) T.c_Folders T.M_Folders_unmark G_U (hr.mono (by decide)) b_U .nil pass0 (pac (pv 2) (pac (pe_ix ix_list (pe_ix ix_list (pv 3) pe_int (fun _ _ => rfl)) (pe_op op_mod (pv 4) pe_int) (fun _ _ => rfl)) pa_nil))))) pss_nil) pss_never))))), ?_⟩
      refine int_no (w := 4) rfl (by decide) (iteF ?_)
      refine int_no (w := 4) rfl (by decide) (iteF ?_)
      refine int_no (w := 4) rfl (by decide) (iteF ?_)
      refine int_no (w := 4) rfl (by decide) (iteF ?_)
      refine int_yes rfl (iteT ?_)
      exact ⟨_, rfl, x, dx, _, rfl, obj, rfl, _, rfl, (pick_W rfl (s_.so_) rfl s_.m_ (fun Q' h => mod_ix rfl (by decide) (by rw [s_.ml]; rfl) h) fun yW hyW => ⟨x, bx, mk, W0, M0, n, F, nm, _, rfl, hf, hn, fun H' h1 h2 => k _ _ _ _ _ h1.up (left_same (by decide) hn) h2 fun c hc => .inl hc⟩)⟩
    · refine ⟨_, (pss_cons (ps_if (pt_cmpR op_eq (pv 1) pe_int (nomark _)) pss_never pss_nil)
        (pss_cons (ps_if (pt_cmpR op_eq (pv 1) pe_int (nomark _)) pss_never pss_nil)
        (pss_cons (ps_if (pt_cmpR op_eq (pv 1) pe_int (nomark _)) pss_never pss_nil)
        (pss_cons (ps_if (pt_cmpR op_eq (pv 1) pe_int (nomark _)) pss_never pss_nil)
        (pss_cons (ps_if (pt_cmpR op_eq (pv 1) pe_int (nomark _)) pss_never pss_nil)
        (pss_cons (ps_if (pt_cmpR op_eq (pv 1) pe_int (nomark _)) (pss_one (ps_ret (pe_meth (pv 0) T.c_Folders T.M_Folders_folder G_F (hr.mono (by decide)) b_F .nil pass0 (pac (pv 2) pa_nil)))) pss_nil) pss_never)))))), ?_⟩
      refine int_no (w := 5) rfl (by decide) (iteF ?_)
      refine int_no (w := 5) rfl (by decide) (iteF ?_)
      refine int_no (w := 5) rfl (by decide) (iteF ?_)
      refine int_no (w := 5) rfl (by decide) (iteF ?_)
      refine int_no (w := 5) rfl (by decide) (iteF ?_)
      refine int_yes rfl (iteT ?_)
      obtain ⟨fo, eu⟩ := up_some hn
      exact ⟨_, rfl, x, dx, _, rfl, obj, rfl, _, rfl, x, bx, mk, W0, M0, n, F, nm, fo, rfl, hf, eu, k _ _ _ _ _ hf.up (left_same (by decide) hn) (fun c o _ e => e) fun c hc => .inl hc⟩
    · refine ⟨_, (pss_cons (ps_if (pt_cmpR op_eq (pv 1) pe_int (nomark _)) pss_never pss_nil)
        (pss_cons (ps_if (pt_cmpR op_eq (pv 1) pe_int (nomark _)) pss_never pss_nil)
        (pss_cons (ps_if (pt_cmpR op_eq (pv 1) pe_int (nomark _)) pss_never pss_nil)
        (pss_cons (ps_if (pt_cmpR op_eq (pv 1) pe_int (nomark _)) pss_never pss_nil)
        (pss_cons (ps_if (pt_cmpR op_eq (pv 1) pe_int (nomark _)) pss_never pss_nil)
        (pss_cons (ps_if (pt_cmpR op_eq (pv 1) pe_int (nomark _)) pss_never pss_nil)
        (pss_cons (ps_if (pt_cmpR op_eq (pv 1) pe_int (nomark _)) pss_never pss_nil)
        (pss_one (ps_ret (pe_meth (pv 0) T.c_Folders T.M_Folders_marks G_S (hr.mono (by decide)) b_S .nil pass0 (pac (pv 2) pa_nil))))))))))), ?_⟩
      refine int_no (w := 7) rfl (by decide) (iteF ?_)
      refine int_no (w := 7) rfl (by decide) (iteF ?_)
      refine int_no (w := 7) rfl (by decide) (iteF ?_)
      refine int_no (w := 7) rfl (by decide) (iteF ?_)
      refine int_no (w := 7) rfl (by decide) (iteF ?_)
      refine int_no (w := 7) rfl (by decide) (iteF ?_)
      refine int_no (w := 7) rfl (by decide) (iteF ?_)
      exact ⟨_, rfl, x, dx, _, rfl, obj, rfl, _, rfl, x, bx, mk, W0, M0, n, F, nm, rfl, hf, hn, fun l H' _ sH _ => k _ _ _ _ _ (hf.same sH).up (left_same (by decide) hn) (Same.kpf sH) fun c hc => .inl hc⟩
    · refine ⟨_, (pss_cons (ps_if (pt_cmpR op_eq (pv 1) pe_int (nomark _)) (pss_one (ps_ret (pe_meth (pv 0) T.c_Folders T.M_Folders_add G_A (hr.mono (by decide)) b_A0 .nil pass0 (pac (pv 2) (pac (pe_ix ix_list (pe_ix ix_list (pv 3) pe_int (fun _ _ => rfl)) (pe_op op_mod (pv 4) pe_int) (fun _ _ => rfl)) (pac (pe_lstS (pas_cons (pe_ix ix_list (pe_ix ix_list (pv 3) pe_int (fun _ _ => rfl)) (pe_op op_mod (pe_op op_fdiv (pv 4) pe_int) pe_int) (fun _ _ => rfl)) pas_nil)) pa_nil)))))) pss_nil) pss_never), ?_⟩
      refine int_yes rfl (iteT ?_)
      refine ⟨_, rfl, x, dx, _, rfl, obj, rfl, _, rfl, (pick_W rfl (s_.so_) rfl s_.f_ (fun Q' h => mod_ix rfl (by decide) (by rw [s_.wl]; rfl) h) fun yW hyW => (pick_W rfl (s_.so_) rfl s_.m_ (fun Q' h => divmod_ix rfl ⟨by decide, by decide⟩ (by decide) (by rw [s_.ml]; rfl) h) fun yM hyM => ⟨(by show 1 ≤ sizeLine; decide), fun l hl => ?_⟩))⟩
      have s1 : Same H (upd H l (.lst [.str yM])) := Same.upd_new hl
      refine ⟨x, l, bx, mk, W0, M0, n, F, nm, _, [yM], rfl, hf.same s1, hn40, hn, hW _ hyW, upd_same, (fun y hy => by rw [List.mem_singleton.mp hy]; exact hM _ hyM), fun H' F' h1 h2 h3 => k _ _ _ _ _ h1 (left_add (by decide)) (fun c o hc e => h2 c o hc (s1 c o e)) fun c hc => (h3 c hc).imp (fun z => z) fun z => s1.free z⟩
    · refine ⟨_, (pss_cons (ps_if (pt_cmpR op_eq (pv 1) pe_int (nomark _)) pss_never pss_nil)
        (pss_cons (ps_if (pt_cmpR op_eq (pv 1) pe_int (nomark _)) pss_never pss_nil)
        (pss_cons (ps_if (pt_cmpR op_eq (pv 1) pe_int (nomark _)) pss_never pss_nil)
        (pss_cons (ps_if (pt_cmpR op_eq (pv 1) pe_int (nomark _)) pss_never pss_nil)
        (pss_cons (ps_if (pt_cmpR op_eq (pv 1) pe_int (nomark _)) pss_never pss_nil)
        (pss_cons (ps_if (pt_cmpR op_eq (pv 1) pe_int (nomark _)) pss_never pss_nil)
        (pss_cons (ps_if (pt_cmpR op_eq (pv 1) pe_int (nomark _)) (pss_one (ps_ret (pe_meth (pv 0) T.c_Folders T.M_Folders_add G_N (hr.mono (by decide)) b_A2 vA0 pass0 (pac (pv 2) pa_nil)))) pss_nil) pss_never))))))), ?_⟩
      refine int_no (w := 6) rfl (by decide) (iteF ?_)
      refine int_no (w := 6) rfl (by decide) (iteF ?_)
      refine int_no (w := 6) rfl (by decide) (iteF ?_)
      refine int_no (w := 6) rfl (by decide) (iteF ?_)
      refine int_no (w := 6) rfl (by decide) (iteF ?_)
      refine int_no (w := 6) rfl (by decide) (iteF ?_)
      refine int_yes rfl (iteT ?_)
      exact ⟨_, rfl, x, dx, _, rfl, obj, rfl, _, rfl, x, bx, mk, W0, M0, n, F, nm, _, rfl, hf, hn40, hn, hib, fun H' F' h1 h2 h3 => k _ _ _ _ _ h1 (left_add (by decide)) h2 h3⟩
end
inductive spRefused_I (a : Adr) (vs : List V) (H : Hp) (Q : VK) : Prop
  | mk : ∀ (x so n1 f1 m1 : Addr) (bx : Rows) (mk : Str → List Str) (W0 M0 ns W M : List Str) (n : Nat) (F : List Addr) (w num : Int) (y : V), vs = [.ref x, .int w, y, .ref so, .int num] → FO a H x bx mk W0 M0 n F → SmAt H so n1 f1 m1 ns W M → Refs bx w y → (∀ H', Same H H' → Q (.bl true) H') → spRefused_I a vs H Q
def spRefused (a : Adr) : Sp := fun vs H Q _ => spRefused_I a vs H Q
inductive spOdd_I (a : Adr) (vs : List V) (H : Hp) (Q : VK) : Prop
  | mk : ∀ (x so n1 f1 m1 : Addr) (bx : Rows) (mk : Str → List Str) (W0 M0 ns W M : List Str) (n : Nat) (F : List Addr) (num : Int), vs = [.ref x, .ref so, .int num] → FO a H x bx mk W0 M0 n F → SmAt H so n1 f1 m1 ns W M → (∀ H', Same H H' → Q (.bl true) H') → spOdd_I a vs H Q
def spOdd (a : Adr) : Sp := fun vs H Q _ => spOdd_I a vs H Q
section
variable {P : Program} {w : World} {K : PySem.W.Frag} {mg : Str → Option Value} {base : Heap} {a : Adr}
theorem ok_refused {fd : FuncData} (F : Fun K "_law_refused" "_law_refused" sl_refused a.f_l_refused fd) (T : Txt K mg a) (FF : Funs K a) : FnOk P w K mg base CX0 4 a.f_l_refused fd ["_law_folders", "_law_way", "_law_name", "_law_some_here", "_law_number"] (spRefused a) := by
  obtain ⟨fdA, F_l_asked, b_l_asked⟩ := FF.F_l_asked
  obtain ⟨fdO, F_l_one, b_l_one⟩ := FF.F_l_of_one_class
  have G_l_asked : FnOk P w K mg base (CXF P w) 3 a.f_l_asked fdA ["_law_folders", "_law_way", "_law_name", "_law_some_here", "_law_number"] (spAskedX a) := ok_askedX F_l_asked T FF
  have G_l_one : FnOkU P w K mg base 1 a.f_l_of_one_class fdO ["_law_e"] (spOneClass a) := ok_oneclass F_l_one T
  refine F.ok sc_l_refused (fun vs H Q E h => ?_) (fun cdv A outer s H vs Q E hr h => ?_)
  · obtain ⟨x, so, n1, f1, m1, bx, mk, W0, M0, ns, W, M, n, F, wy, num, y, rfl, _⟩ := h; rfl
  · obtain ⟨x, so, n1, f1, m1, bx, mk, W0, M0, ns, W, M, n, F, wy, num, y, rfl, hf, s_, hR, k⟩ := h
    have hr3 : Room 3 _ := hr
    refine ⟨_, (pss_cons (ps_tryAs (i := 5) (R := fun σ c _ H' => c = .ref a.C_NoName ∧ σ = L2.start n_l_refused [.ref x, .int wy, y, .ref so, .int num] ∧ Same H H') rfl T.mx_MailError T.x_MailError rfl rfl rfl sc_l_refused.nd rfl rfl (fun σ C H' q => by obtain ⟨e, _⟩ := q; cases e; exact ⟨T.x_NoName, T.s_NoName_MailError⟩)
        (fun pn => pss_one (ps_expr (pe_callX (R := fun σ c _ H' => c = .ref a.C_NoName ∧ σ = L2.start n_l_refused [.ref x, .int wy, y, .ref so, .int num] ∧ Same H H') G_l_asked hr3 rfl T.m_l_asked F_l_asked.kp b_l_asked .nil passT (pac (pv 0) (pac (pv 1) (pac (pv 2) (pac (pv 3) (pac (pv 4) pa_nil))))))))
        (fun ev => pss_one (ps_ret (pe_and (pe_callB (call_isexcK K) rfl T.b_isinstance PyProof.Rows.boot_isinstance (pac (pv 5) (pac (pe_gl (v := .ref a.C_NoName) rfl ⟨_, T.mx_NoName, rfl⟩) pa_nil))) (pe_one (pe_callU (E := E) G_l_one ((hr.mono (by decide)).toU.mark _) rfl T.m_l_of_one_class F_l_one.kp b_l_one .nil (pac (pv 5) pa_nil))))))) pss_never), ?_⟩
    refine ⟨fun σ' C H' e hq he => ?_, ?_⟩
    · obtain ⟨hC, rfl, sH⟩ := hq
      cases hC
      exact ⟨_, rfl, e, _, _, _, _, rfl, upd_same, T.xg_NoName, rfl, T.ki_NoName_NoName, _, rfl, iteT ⟨_, rfl, e, rfl, upd_same, fun H2 s2 => k _ (sH.trans ((Same.upd_new he).trans s2))⟩⟩
    · exact ⟨_, rfl, _, rfl, _, rfl, _, rfl, _, rfl, x, so, n1, f1, m1, bx, mk, W0, M0, ns, W, M, n, F, wy, num, y, rfl, hf, s_, hR, fun H' sH => ⟨rfl, rfl, sH⟩⟩
theorem odd_three (bx : Rows) (z : Int) : ∃ y, atI [V.non, V.int 7, V.int 0] (z % 3) = some y ∧ OddN bx y := by
  have h0 := Int.emod_nonneg z (b := 3) (by decide)
  have h1 := Int.emod_lt_of_pos z (b := 3) (by decide)
  obtain h | h | h : z % 3 = 0 ∨ z % 3 = 1 ∨ z % 3 = 2 := by omega
  · rw [h]; exact ⟨_, rfl, oddN_non⟩
  · rw [h]; exact ⟨_, rfl, oddN_int⟩
  · rw [h]; exact ⟨_, rfl, oddN_int⟩
theorem ok_odd {fd : FuncData} (F : Fun K "_law_odd_refused" "_law_odd_refused" sl_odd_refused a.f_l_odd_refused fd) (T : Txt K mg a) (FF : Funs K a) : FnOk P w K mg base CX0 6 a.f_l_odd_refused fd ["_law_folders", "_law_some_here", "_law_number"] (spOdd a) := by
  obtain ⟨fdR, F_l_refused, b_l_refused⟩ := FF.F_l_refused
  have G_l_refused : FnOk P w K mg base CX0 4 a.f_l_refused fdR ["_law_folders", "_law_way", "_law_name", "_law_some_here", "_law_number"] (spRefused a) := ok_refused F_l_refused T FF
  refine F.ok sc_l_odd_refused (fun vs H Q E h => ?_) (fun cdv A outer s H vs Q E hr h => ?_)
  · obtain ⟨x, so, n1, f1, m1, bx, mk, W0, M0, ns, W, M, n, F, num, rfl, _⟩ := h; rfl
  · obtain ⟨x, so, n1, f1, m1, bx, mk, W0, M0, ns, W, M, n, F, num, rfl, hf, s_, k⟩ := h
    have hu64 := hr.units
    have hr_l_refused : Room 4 _ := hr.mono (by decide)
    refine ⟨_, (pss_cons (ps_if (pt_cmpR op_ne (pe_op op_mod (pe_op op_fdiv (pv 2) pe_int) pe_int) pe_int (nomark _)) (pss_one (ps_ret pe_bl)) pss_nil)
        (pss_cons (ps_set (i := 3) sc_l_odd_refused.nd rfl (Or.inr rfl) (pe_ix ix_list (pe_lstS (pas_cons pe_non (pas_cons pe_int (pas_cons pe_int pas_nil)))) (pe_op op_mod (pe_op op_fdiv (pv 2) pe_int) pe_int) (fun _ _ => rfl)))
        (pss_one (ps_ret (pe_cmpR (op_eqD hu64) (pe_comp (sc := defScope sl_odd_refused) (N := n_l_odd_refused) (fr := [(0, "_law_folders"), (3, "_law_odd"), (1, "_law_some_here"), (2, "_law_number")]) ⟨rfl, rfl, by decide +kernel, by decide +kernel, by decide +kernel, by decide +kernel, by decide +kernel⟩ rfl rfl rfl (pi_list (pe_lstS (pas_cons pe_int (pas_cons pe_int (pas_cons pe_int (pas_cons pe_int (pas_cons pe_int (pas_cons pe_int pas_nil)))))))) (fun _ _ _ _ => pts_one (pt_not (pt_val (pe_call G_l_refused hr_l_refused rfl T.m_l_refused F_l_refused.kp b_l_refused .nil pass0 (pac (pv 1) (pac (pv 0) (pac (pv 2) (pac (pv 3) (pac (pv 4) pa_nil))))))))) (fun _ _ _ _ => (pv 0))) (pe_lstS pas_nil) (nomark _)))))), ?_⟩
    refine ⟨_, rfl, _, _, rfl, rfl, ⟨by decide, by decide⟩, _, _, rfl, rfl, by decide, rfl, _, rfl, ?_⟩
    by_cases hq : num / 2592 % 4 = 1
    · rw [show (!decide (V.int (num / 2592 % 4) = V.int 1)) = false by rw [hq]; rfl]
      refine iteF ?_
      refine ⟨(by show 3 ≤ sizeLine; decide), fun l hl => ?_⟩
      have s1 : Same H (upd H l (.lst [.non, .int 7, .int 0])) := Same.upd_new hl
      have e1 : (upd H l (.lst [.non, .int 7, .int 0])) l = some (.lst [.non, .int 7, .int 0]) := upd_same
      generalize upd H l (.lst [.non, .int 7, .int 0]) = H1 at s1 e1
      obtain ⟨y, hy, ho⟩ := odd_three bx (num / 864)
      refine ⟨_, rfl, _, _, rfl, rfl, ⟨by decide, by decide⟩, _, _, rfl, rfl, by decide, l, _, _, y, rfl, rfl, SqL.of e1, hy, ?_⟩
      refine ⟨(by show 6 ≤ sizeLine; decide), fun m hm => ?_⟩
      have s2 : Same H1 (upd H1 m (.lst ([1, 2, 3, 4, 5, 7].map V.int))) := Same.upd_new hm
      have e2 : (upd H1 m (.lst ([1, 2, 3, 4, 5, 7].map V.int))) m = some (.lst ([1, 2, 3, 4, 5, 7].map V.int)) := upd_same
      refine ⟨m, rfl, ⟨_, SqL.of e2⟩, comp_listFG (K := K) (xs := [1, 2, 3, 4, 5, 7]) V.int (fun _ => false) V.int (by show 6 ≤ sizeLine; decide) (SqL.of e2) ?_ ?_ ?_⟩
      · intro z H4 Q' hz s4 q'
        have s04 := s1.trans (s2.trans s4)
        exact ⟨_, rfl, _, rfl, _, rfl, _, rfl, _, rfl, x, so, n1, f1, m1, bx, mk, W0, M0, ns, W, M, n, F, z, num, y, rfl, hf.same s04, s_.same s04, .inl ⟨ho, by simpa using hz⟩, fun H5 s5 => ⟨_, rfl, q' H5 s5⟩⟩
      · intro z H4 Q' hz s4 hf4
        cases hf4
      · intro D H4 hD s4 eD
        refine ⟨Nat.zero_le _, fun d hd => ?_⟩
        have s5 : Same H4 (upd H4 d (.lst [])) := Same.upd_new hd
        exact ⟨.list [], .list [], .lst (SqL.of (s5 _ _ eD)) .nil, .lst (SqL.of upd_same) .nil, rfl, rfl, k _ (s1.trans (s2.trans (s4.trans s5)))⟩
    · rw [show (!decide (V.int (num / 2592 % 4) = V.int 1)) = true by rw [decide_eq_false fun z => hq (V.int.inj z)]; rfl]
      exact iteT (k _ (Same.refl _))
end
inductive spGoes_I (a : Adr) (vs : List V) (H : Hp) (Q : VK) : Prop
  | mk : ∀ (x so n1 f1 m1 : Addr) (bx : Rows) (mk : Str → List Str) (W0 M0 ns W M : List Str) (n : Nat) (F : List Addr) (w num : Int) (nm : Str), vs = [.ref x, .int w, .str nm, .ref so, .int num] → FO a H x bx mk W0 M0 n F → n < 40 → SmAt H so n1 f1 m1 ns W M → ("inbox" : Str) ∈ W0 → (∀ y ∈ W, y ∈ W0) → (∀ y ∈ M, y ∈ M0) → GoesW bx w nm →
    (∀ H' bx' mk' F', FO a H' x bx' mk' W0 M0 (n + 1) F' → Left bx bx' w nm → KpF F H H' → (∀ c ∈ F', c ∈ F ∨ H c = none) → Q (.bl true) H') → spGoes_I a vs H Q
def spGoes (a : Adr) : Sp := fun vs H Q _ => spGoes_I a vs H Q
def AddAt (H : Hp) (d : Addr) (nm fo : Str) (ms : List Str) : Prop := ∃ t, H d = some (.tup [.str "add", .str nm, .str fo, .ref t]) ∧ H t = some (.tup (ms.map V.str)) ∧ ms.length ≤ 10
theorem AddAt.same {H H' : Hp} {d : Addr} {nm fo : Str} {ms : List Str} (h : AddAt H d nm fo ms) (s : Same H H') : AddAt H' d nm fo ms := by
  obtain ⟨t, h1, h2, h3⟩ := h; exact ⟨t, s _ _ h1, s _ _ h2, h3⟩
inductive spDoes_I (a : Adr) (vs : List V) (H : Hp) (Q : VK) : Prop
  | mk : ∀ (x d : Addr) (bx : Rows) (mk : Str → List Str) (W M : List Str) (n : Nat) (F : List Addr) (nm fo : Str) (ms : List Str), vs = [.ref x, .ref d, .bl false] → FO a H x bx mk W M n F → n < 40 → AddAt H d nm fo ms → up bx nm = none → fo ∈ W → (∀ y ∈ ms, y ∈ M) →
    (∀ H' F', FO a H' x (bx ++ [(nm, fo)]) (putB mk nm (dd ms)) W M (n + 1) F' → KpF F H H' → (∀ c ∈ F', c ∈ F ∨ H c = none) → Q .non H') → spDoes_I a vs H Q
def spDoes (a : Adr) : Sp := fun vs H Q _ => spDoes_I a vs H Q
inductive spDone_I (vs : List V) (H : Hp) (Q : VK) : Prop
  | mk : ∀ (E d : Addr) (nm fo : Str) (ms : List Str) (kvs : List (Key × V)), vs = [.ref E, .ref d] → H E = some (.dK kvs) → kvs.length ≤ 40 → AddAt H d nm fo ms →
    (∀ H' v, (∀ c o, c ≠ E → H c = some o → H' c = some o) → H' E = some (.dK (putK kvs (Sum.inr nm) v)) → Q (.ref d) H') → spDone_I vs H Q
def spDone : Sp := fun vs H Q _ => spDone_I vs H Q
theorem decY (a : Str) : decide (V.str a = V.str a) = true := decide_eq_true rfl
section
variable {P : Program} {w : World} {K : PySem.W.Frag} {mg : Str → Option Value} {base : Heap} {a : Adr}
theorem ok_goes {fd : FuncData} (F : Fun K "_law_goes" "_law_goes" sl_goes a.f_l_goes fd) (T : Txt K mg a) (FF : Funs K a) : FnOk P w K mg base CX0 4 a.f_l_goes fd ["_law_folders", "_law_way", "_law_name", "_law_some_here", "_law_number"] (spGoes a) := by
  obtain ⟨fdA, F_l_asked, b_l_asked⟩ := FF.F_l_asked
  have G_l_asked : FnOk P w K mg base CX0 3 a.f_l_asked fdA ["_law_folders", "_law_way", "_law_name", "_law_some_here", "_law_number"] (spAsked a) := ok_asked F_l_asked T FF
  refine F.ok sc_l_goes (fun vs H Q E h => ?_) (fun cdv A outer s H vs Q E hr h => ?_)
  · obtain ⟨x, so, n1, f1, m1, bx, mk, W0, M0, ns, W, M, n, F, wy, num, nm, rfl, _⟩ := h; rfl
  · obtain ⟨x, so, n1, f1, m1, bx, mk, W0, M0, ns, W, M, n, F, wy, num, nm, rfl, hf, hn40, s_, hib, hW, hM, hR, k⟩ := h
    have hr_l_asked : Room 3 _ := hr
    refine ⟨_, (pss_cons (ps_try (fun _ _ z => z) (pss_one (ps_expr (pe_call G_l_asked hr_l_asked rfl T.m_l_asked F_l_asked.kp b_l_asked .nil pass0 (pac (pv 0) (pac (pv 1) (pac (pv 2) (pac (pv 3) (pac (pv 4) pa_nil)))))))))
        (pss_one (ps_ret pe_bl))), ?_⟩
    exact ⟨_, rfl, _, rfl, _, rfl, _, rfl, _, rfl, x, so, n1, f1, m1, bx, mk, W0, M0, ns, W, M, n, F, wy, num, nm, rfl, hf, hn40, s_, hib, hW, hM, hR, fun v H' bx' mk' F' h1 h2 h3 h4 => k H' bx' mk' F' h1 h2 h3 h4⟩
theorem ok_does {fd : FuncData} (F : Fun K "_law_does" "_law_does" sl_does a.f_l_does fd) (T : Txt K mg a) (FF : Funs K a) : FnOk P w K mg base CX0 3 a.f_l_does fd ["_law_folders", "_law_deed_here", "_law_defaults"] (spDoes a) := by
  obtain ⟨fdA, F_A, b_A0, ⟨dsA0, vA0, b_A2⟩, ⟨dsA1, vA1, b_A1⟩⟩ := FF.F_Folders_add
  have G_A : FnOk P w K mg base CX0 2 a.f_Folders_add fdA ["self", "name", "folder", "marks"] (spFAdd a) := ok_fadd F_A T FF
  refine F.ok sc_l_does (fun vs H Q E h => ?_) (fun cdv A outer s H vs Q E hr h => ?_)
  · obtain ⟨x, d, bx, mk, W, M, n, F, nm, fo, ms, rfl, _⟩ := h; rfl
  · obtain ⟨x, d, bx, mk, W, M, n, F, nm, fo, ms, rfl, hf, hn40, ⟨t, hd, ht, hml⟩, hup, hfo, hms, k⟩ := h
    obtain ⟨dx, _, _, _, obj⟩ := hf.obj
    have hr2 : Room 2 _ := hr
    refine ⟨_, (pss_cons (ps_if (PW.pt (pw_and (pt_cmpR op_eq (pe_ix ix_tup (pv 1) pe_int (fun _ _ => rfl)) pe_str (nomark _)) (pw_and (pt_val (pv 2)) (pw_and1 (pt_cmpR (op_eqD hr.units) (pe_ix ix_tup (pv 1) pe_int (fun _ _ => rfl)) (pe_tupS pas_nil) (nomark _)))))) pss_never pss_nil)
        (pss_cons (ps_if (PW.pt (pw_and (pt_cmpR op_eq (pe_ix ix_tup (pv 1) pe_int (fun _ _ => rfl)) pe_str (nomark _)) (pw_and1 (pt_val (pv 2))))) pss_never pss_nil)
        (pss_cons (ps_if (pt_cmpR op_eq (pe_ix ix_tup (pv 1) pe_int (fun _ _ => rfl)) pe_str (nomark _)) (pss_cons (ps_set (i := 3) sc_l_does.nd rfl (Or.inl rfl) (pe_callTy call_list_of rfl T.b_list PyProof.Rows.boot_list (pac (pe_ix ix_tup (pv 1) pe_int (fun _ _ => rfl)) pa_nil)))
        (pss_cons (ps_set (i := 4) sc_l_does.nd rfl (Or.inl rfl) (pe_meth (pv 0) T.c_Folders T.M_Folders_add G_A hr2 b_A0 .nil pass0 (pac (pe_ix ix_tup (pv 1) pe_int (fun _ _ => rfl)) (pac (pe_ix ix_tup (pv 1) pe_int (fun _ _ => rfl)) (pac (pv 3) pa_nil)))))
        (pss_cons (ps_expr (pe_bm PySem.F.plainAttrs_list PySem.F.slot_list_append PySem.F.type_list_append mt_append (pv 3) (pac pe_str pa_nil)))
        (pss_one (ps_ret (pv 4)))))) pss_nil) pss_never))), ?_⟩
    refine ⟨_, rfl, d, _, _, _, rfl, rfl, SqT.of hd, rfl, rfl, _, rfl, ?_⟩
    rw [decY]
    refine iteT ⟨_, rfl, _, rfl, iteF (iteF ?_)⟩
    refine ⟨_, rfl, d, _, _, _, rfl, rfl, SqT.of hd, rfl, rfl, _, rfl, ?_⟩
    rw [decY]
    refine iteT ⟨_, rfl, _, rfl, iteF ?_⟩
    refine ⟨_, rfl, d, _, _, _, rfl, rfl, SqT.of hd, rfl, rfl, _, rfl, ?_⟩
    rw [decY]
    refine iteT ?_
    refine ⟨_, rfl, d, _, _, _, rfl, rfl, SqT.of hd, rfl, t, _, rfl, .inr (SqT.of ht), fun l hl => ?_⟩
    have s1 : Same H (upd H l (.lst (ms.map V.str))) := Same.upd_new hl
    have e1 : (upd H l (.lst (ms.map V.str))) l = some (.lst (ms.map V.str)) := upd_same
    show tSeq _ _ _ _ (upd H l (.lst (ms.map V.str)))
    generalize upd H l (.lst (ms.map V.str)) = H1 at s1 e1
    refine ⟨_, rfl, x, dx, _, rfl, s1 _ _ obj, rfl, _, rfl, d, _, _, _, rfl, rfl, SqT.of (s1 _ _ hd), rfl, _, rfl, d, _, _, _, rfl, rfl, SqT.of (s1 _ _ hd), rfl, _, rfl, ?_⟩
    refine ⟨x, l, bx, mk, W, M, n, F, nm, fo, ms, rfl, hf.same s1, hn40, hup, hfo, e1, hms, fun H' F' f kp sb => ?_⟩
    have e2 := kp _ _ ((hf.same s1).other e1 fun _ z => nomatch z) e1
    refine ⟨_, rfl, .inl ⟨rfl, _, SqL.of e2⟩, l, _, _, rfl, rfl, e2, (by rw [List.length_map]; exact small1000 (by omega)), ?_⟩
    have lF' : ¬ l ∈ F' := f.other e2 fun _ z => nomatch z
    obtain ⟨dx2, _, _, _, obj2⟩ := f.obj
    have xl : x ≠ l := ne_of obj2 e2 fun z => nomatch z
    refine ⟨_, rfl, k _ F' (f.keep fun c o hc e => by rw [upd_ne (hc.elim (fun z => by rw [z]; exact xl) fun z q => lF' (by rw [← q]; exact z))]; exact e) (fun c o nc e => ?_) fun c hc => (sb c hc).imp id s1.free⟩
    rw [upd_ne (ne_of_none e hl)]
    exact kp c o nc (s1 _ _ e)
theorem ok_done {fd : FuncData} (F : Fun K "_law_done" "_law_done" sl_done a.f_l_done fd) (T : Txt K mg a) : FnOk P w K mg base CX0 2 a.f_l_done fd ["_law_own", "_law_deed_here"] spDone := by
  refine F.ok sc_l_done (fun vs H Q E h => ?_) (fun cdv A outer s H vs Q E0 hr h => ?_)
  · obtain ⟨E, d, nm, fo, ms, kvs, rfl, _⟩ := h; rfl
  · obtain ⟨E, d, nm, fo, ms, kvs, rfl, hE, hkl, ⟨t, hd, ht, hml⟩, k⟩ := h
    have hu := hu_of hr
    refine ⟨_, (pss_cons (ps_if (pt_cmpR op_eq (pe_ix ix_tup (pv 1) pe_int (fun _ _ => rfl)) pe_str (nomark _)) (pss_one (ps_dput hu (pv 0) (pe_ix ix_tup (pv 1) pe_int (fun _ _ => rfl)) (pe_lstS (pas_cons (pe_ix ix_tup (pv 1) pe_int (fun _ _ => rfl)) (pas_cons (pe_callB (call_sorted_set rfl) rfl T.b_sorted PyProof.Rows.boot_sorted (pac (pe_callTy (call_setAny rfl) rfl T.b_set PyProof.Rows.boot_set (pac (pe_ix ix_tup (pv 1) pe_int (fun _ _ => rfl)) pa_nil)) pa_nil)) pas_nil))) rfl)) pss_never)
        (pss_one (ps_ret (pv 1)))), ?_⟩
    refine ⟨_, rfl, d, _, _, _, rfl, rfl, SqT.of hd, rfl, rfl, _, rfl, ?_⟩
    rw [decY]
    refine iteT ⟨_, rfl, d, _, _, _, rfl, rfl, SqT.of hd, rfl, _, rfl, d, _, _, _, rfl, rfl, SqT.of hd, rfl, t, ms, rfl, .inr (SqT.of ht), by omega, fun u hu0 => ⟨u, dd ms, rfl, upd_same, Nat.lt_of_le_of_lt (dd_len ms) (by omega), fun m hm => ⟨(by show 2 ≤ sizeLine; decide), fun l hl => ?_⟩⟩⟩
    have s1 : Same H (upd H u (SetO P w u (dd ms))) := Same.upd_new hu0
    have s2 : Same (upd H u (SetO P w u (dd ms))) (upd (upd H u (SetO P w u (dd ms))) m (.lst ((SS ms).map V.str))) := Same.upd_new hm
    have s3 : Same (upd (upd H u (SetO P w u (dd ms))) m (.lst ((SS ms).map V.str))) (upd (upd (upd H u (SetO P w u (dd ms))) m (.lst ((SS ms).map V.str))) l (.lst [.str fo, .ref m])) := Same.upd_new hl
    have s03 := s1.trans (s2.trans s3)
    refine ⟨_, rfl, _, rfl, d, _, _, _, rfl, rfl, SqT.of (s03 _ _ hd), rfl, E, _, rfl, DPut.k (k := Sum.inr nm) (s03 _ _ hE) (small1000 (by omega)), ?_⟩
    exact ⟨_, rfl, k _ _ (fun c o ne e => by rw [upd_ne ne]; exact s03 _ _ e) upd_same⟩
end
/-- the heap without one thing -/
def delA (l : Addr) (H : Hp) : Hp := fun c => if c = l then none else H c
theorem delA_ne {l c : Addr} {H : Hp} (h : c ≠ l) : delA l H c = H c := if_neg h
theorem delA_same {l : Addr} {H H' : Hp} (s : Same H H') : Same (delA l H) (delA l H') := fun c o e => by
  by_cases z : c = l
  · unfold delA at e; rw [if_pos z] at e; cases e
  · rw [delA_ne z] at e ⊢; exact s c o e
theorem delA_in (l : Addr) (H : Hp) : Same (delA l H) H := fun c o e => by
  by_cases z : c = l
  · unfold delA at e; rw [if_pos z] at e; cases e
  · rw [delA_ne z] at e; exact e
theorem delA_upd (l : Addr) (H : Hp) (o : HO) : delA l (upd H l o) = delA l H := by
  funext c
  by_cases z : c = l
  · unfold delA; rw [if_pos z, if_pos z]
  · rw [delA_ne z, delA_ne z, upd_ne z]
def folD (bx : Rows) (mk : Str → List Str) (f : Str) : PyData := .tuple [.str f, .int (cN bx f), .int (cU bx mk f)]
def namD (bx : Rows) (mk : Str → List Str) (nm : Str) : PyData := .tuple [.str ((up bx nm).getD ""), .list ((sortS (mk nm)).map PyData.str)]
def boxD (bx : Rows) (mk : Str → List Str) (M : List Str) (bo : Str) : List PyData := [.tuple [dPair (cN bx bo) (cU bx mk bo), .list ((sortS (reps bx bo)).map PyData.str)], .list (M.map fun y => PyData.int (nMk bx mk bo y : Nat))]
def seenD (bx : Rows) (mk : Str → List Str) (ns W M fl : List Str) : List PyData := .list (fl.map (folD bx mk)) :: ns.map (namD bx mk) ++ W.flatMap (boxD bx mk M)
theorem boxD_len (bx : Rows) (mk : Str → List Str) (M : List Str) : ∀ W : List Str, (W.flatMap (boxD bx mk M)).length = 2 * W.length
  | [] => rfl
  | b :: W => by
    rw [List.flatMap_cons, List.length_append, boxD_len bx mk M W, List.length_cons]
    show 2 + _ = _
    omega
theorem flat_snoc {α β : Type} (f : α → List β) (xs : List α) (x : α) : (xs ++ [x]).flatMap f = xs.flatMap f ++ f x := by
  rw [List.flatMap_append]
  simp
inductive spSeen_I (K : PySem.W.Frag) (a : Adr) (vs : List V) (H : Hp) (Q : VK) : Prop
  | mk : ∀ (x E sp n1 f1 m1 : Addr) (bx : Rows) (mk : Str → List Str) (W0 M0 W M : List Str) (n : Nat) (F : List Addr) (kvs : List (Key × V)) (ks : List Str), vs = [.ref x, .ref E, .ref sp] → FO a H x bx mk W0 M0 n F → H E = some (.dK kvs) → kvs.map (fun kv => kV kv.1) = ks.map V.str → ks.length ≤ 40 → (∀ nm ∈ ks, nm ∈ bx.map (·.1)) → H sp = some (.lst [.ref n1, .ref f1, .ref m1]) → H f1 = some (.lst (W.map V.str)) → H m1 = some (.lst (M.map V.str)) → W.length ≤ 20 → M.length ≤ 20 → (∀ l H' kf, kf.Nodup → (∀ t, t ∈ kf ↔ reps bx t ≠ []) → Same H H' → RD K H' (.ref l) (.list (seenD bx mk (sortS ks) W M (sortS kf))) → Q (.ref l) H') → spSeen_I K a vs H Q
def spSeen (K : PySem.W.Frag) (a : Adr) : Sp := fun vs H Q _ => spSeen_I K a vs H Q
section
variable {P : Program} {w : World} {K : PySem.W.Frag} {mg : Str → Option Value} {base : Heap} {a : Adr}
theorem ok_seen {fd : FuncData} (F : Fun K "_law_seen" "_law_seen" sl_seen a.f_l_seen fd) (T : Txt K mg a) (FF : Funs K a) : FnOk P w K mg base CX0 4 a.f_l_seen fd ["_law_folders", "_law_own", "_law_some_here"] (spSeen K a) := by
  obtain ⟨fdN, F_nam, b_Folders_names⟩ := FF.F_Folders_names
  obtain ⟨fdM, F_mar, b_Folders_marked⟩ := FF.F_Folders_marked
  obtain ⟨fdS, F_mks, b_Folders_marks⟩ := FF.F_Folders_marks
  obtain ⟨fdF, F_fol, b_Folders_folder⟩ := FF.F_Folders_folder
  obtain ⟨fdC, F_cou, b_Folders_counts⟩ := FF.F_Folders_counts
  obtain ⟨fdO, F_fos, b_Folders_folders⟩ := FF.F_Folders_folders
  have G_Folders_names : FnOk P w K mg base CX0 1 a.f_Folders_names fdN ["self", "folder"] (spFNames a) := ok_fnames F_nam T
  have G_Folders_marked : FnOk P w K mg base CX0 1 a.f_Folders_marked fdM ["self", "folder", "word"] (spFMarked a) := ok_fmarked F_mar T
  have G_Folders_marks : FnOk P w K mg base CX0 2 a.f_Folders_marks fdS ["self", "name"] (spFMarks a) := ok_fmarks F_mks T FF
  have G_Folders_folder : FnOk P w K mg base CX0 2 a.f_Folders_folder fdF ["self", "name"] (spFFolder a) := ok_ffolder F_fol T FF
  have G_Folders_counts : FnOk P w K mg base CX0 2 a.f_Folders_counts fdC ["self", "folder"] (spFCounts a) := ok_fcounts F_cou T FF
  have G_Folders_folders : FnOk P w K mg base CX0 3 a.f_Folders_folders fdO ["self"] (spFFolders a) := ok_ffolders F_fos T FF
  refine F.ok sc_l_seen (fun vs H Q E h => ?_) (fun cdv A outer s H vs Q E hr h => ?_)
  · obtain ⟨x, E, sp, n1, f1, m1, bx, mk, W0, M0, W, M, n, F, kvs, ks, rfl, _⟩ := h; rfl
  · obtain ⟨x, E, sp, n1, f1, m1, bx, mk, W0, M0, W, M, n, F, kvs, ks, rfl, hf, hE, hks, hkl, hin, hsp, hf1, hm1, hWl, hMl, k⟩ := h
    have hr_Folders_names : Room 1 _ := hr.mono (by decide)
    have hr_Folders_marked : Room 1 _ := hr.mono (by decide)
    have hr_Folders_marks : Room 2 _ := hr.mono (by decide)
    have hr_Folders_folder : Room 2 _ := hr.mono (by decide)
    have hr_Folders_counts : Room 2 _ := hr.mono (by decide)
    have hr_Folders_folders : Room 3 _ := hr
    obtain ⟨dx, _, _, _, obj⟩ := hf.obj
    have hsl : (sortS ks).length = ks.length := sortS_len _
    refine ⟨_, (pss_cons (ps_set (i := 3) sc_l_seen.nd rfl (Or.inl rfl) (pe_lstS (pas_cons (pe_meth0 (pv 0) T.c_Folders T.M_Folders_folders G_Folders_folders hr_Folders_folders b_Folders_folders .nil pass0) pas_nil)))
        (pss_cons (ps_for PassesOwn.never rfl (pi_list (pe_callB (call_sorted_dict rfl) rfl T.b_sorted PyProof.Rows.boot_sorted (pac (pv 1) pa_nil))) (pg_name (i := 4) sc_l_seen.nd rfl (Or.inl rfl)) (pss_one (ps_expr (pe_bm PySem.F.plainAttrs_list PySem.F.slot_list_append PySem.F.type_list_append mt_append (pv 3) (pac (pe_tupS (pas_cons (pe_meth (pv 0) T.c_Folders T.M_Folders_folder G_Folders_folder hr_Folders_folder b_Folders_folder .nil pass0 (pac (pv 4) pa_nil)) (pas_cons (pe_meth (pv 0) T.c_Folders T.M_Folders_marks G_Folders_marks hr_Folders_marks b_Folders_marks .nil pass0 (pac (pv 4) pa_nil)) pas_nil))) pa_nil)))))
        (pss_cons (ps_for PassesOwn.never rfl (pi_list (pe_ix ix_list (pv 2) pe_int (fun _ _ => rfl))) (pg_name (i := 5) sc_l_seen.nd rfl (Or.inr rfl)) (pss_cons (ps_expr (pe_bm PySem.F.plainAttrs_list PySem.F.slot_list_append PySem.F.type_list_append mt_append (pv 3) (pac (pe_tupS (pas_cons (pe_meth (pv 0) T.c_Folders T.M_Folders_counts G_Folders_counts hr_Folders_counts b_Folders_counts .nil pass0 (pac (pv 5) pa_nil)) (pas_cons (pe_meth (pv 0) T.c_Folders T.M_Folders_names G_Folders_names hr_Folders_names b_Folders_names .nil pass0 (pac (pv 5) pa_nil)) pas_nil))) pa_nil)))
        (pss_one (ps_expr (pe_bm PySem.F.plainAttrs_list PySem.F.slot_list_append PySem.F.type_list_append mt_append (pv 3) (pac (pe_comp (sc := defScope sl_seen) (N := n_l_seen) (fr := [(5, "_law_box"), (0, "_law_folders")]) ⟨rfl, rfl, by decide +kernel, by decide +kernel, by decide +kernel, by decide +kernel, by decide +kernel⟩ rfl rfl rfl (pi_list (pe_ix ix_list (pv 2) pe_int (fun _ _ => rfl))) (fun _ _ _ _ => pts_nil) (fun _ _ _ _ => (pe_meth (pv 2) T.c_Folders T.M_Folders_marked G_Folders_marked hr_Folders_marked b_Folders_marked .nil pass0 (pac (pv 1) (pac (pv 0) pa_nil))))) pa_nil))))))
        (pss_one (ps_ret (pv 3)))))), ?_⟩
    refine ⟨_, rfl, x, dx, _, rfl, obj, rfl, x, bx, mk, W0, M0, n, F, rfl, hf, fun q H1 fs kf nd kl km ef nq s1 fol => ?_⟩
    refine ⟨(by show 1 ≤ sizeLine; decide), fun l hl => ?_⟩
    have ln : H l = none := s1.free hl
    have s2 : Same H (upd H1 l (.lst [.ref q])) := s1.upd_of ln
    have e2 : (upd H1 l (.lst [.ref q])) l = some (.lst [.ref q]) := upd_same
    have r2 : RDs K (delA l (upd H1 l (.lst [.ref q]))) [.ref q] [.list ((sortS kf).map (folD bx mk))] := by
      rw [delA_upd]
      have s12 : Same H1 (delA l H1) := fun c o e => by rw [delA_ne (ne_of_none e hl)]; exact e
      refine .cons (RD.mono s12 ?_) .nil
      rw [← ef, List.map_map]
      exact .lst (SqL.of fol.1) (rds_map fun z hz => .tup (SqT.of (fol.2 z hz)) (.cons (.str _) (.cons (.int _) (.cons (.int _) .nil))))
    show tSeq _ _ _ _ (upd H1 l (.lst [.ref q]))
    generalize upd H1 l (.lst [.ref q]) = H2 at s2 e2 r2
    refine ⟨_, rfl, E, kvs, ks, rfl, s2 _ _ hE, hks, by omega, fun m hm => ?_⟩
    have s3 : Same H2 (upd H2 m (.lst ((sortS ks).map V.str))) := Same.upd_new hm
    have m3 : (upd H2 m (.lst ((sortS ks).map V.str))) m = some (.lst ((sortS ks).map V.str)) := upd_same
    have e3 := s3 _ _ e2
    have r3 := RDs.mono (delA_same (l := l) s3) r2
    have s03 := s2.trans s3
    have lm : l ≠ m := ne_of_none e2 hm
    generalize upd H2 m (.lst ((sortS ks).map V.str)) = H3 at s3 m3 e3 r3 s03
    refine ⟨m, rfl, ⟨_, SqL.of m3⟩, for_list (K := K) (a := m) (xs := (sortS ks).map V.str) (fun i σ H4 => ∃ (o4 : Option V) (vs : List V), σ = [some (.ref x), some (.ref E), some (.ref sp), some (.ref l), o4, none] ∧ Same H H4 ∧ H4 l = some (.lst vs) ∧ RDs K (delA l H4) vs (.list ((sortS kf).map (folD bx mk)) :: ((sortS ks).take i).map (namD bx mk)) ∧ H4 m = some (.lst ((sortS ks).map V.str)))
      ⟨none, _, rfl, s03, e3, by rw [List.take_zero]; exact r3, m3⟩ ?_ ?_ ?_⟩
    · rintro i σ H4 _ ⟨o4, vs, rfl, s4, e4, r4, m4⟩
      exact SqL.of m4
    · rintro i v σ H4 hv ⟨o4, vs, rfl, s4, e4, r4, m4⟩
      obtain ⟨nm, hnm, rfl⟩ : ∃ y, (sortS ks)[i]? = some y ∧ V.str y = v := by
        rw [List.getElem?_map] at hv
        cases e : (sortS ks)[i]? with
        | none => rw [e] at hv; cases hv
        | some t => rw [e] at hv; exact ⟨t, rfl, Option.some.inj hv⟩
      have et : (sortS ks).take (i + 1) = (sortS ks).take i ++ [nm] := by rw [List.take_add_one, hnm]; rfl
      have hn : nm ∈ bx.map (·.1) := hin nm (sortS_mem.mp (List.mem_of_getElem? hnm))
      obtain ⟨fo, eu⟩ := up_some hn
      have hvl : vs.length ≤ 100 := by
        have := RDs.len r4
        rw [List.length_cons, List.length_map, List.length_take] at this
        omega
      refine ⟨_, rfl, .inl ⟨rfl, _, SqL.of e4⟩, _, rfl, x, dx, _, rfl, s4 _ _ obj, rfl, _, rfl, x, bx, mk, W0, M0, n, F, nm, fo, rfl, hf.same s4, eu, ?_⟩
      refine ⟨_, rfl, x, dx, _, rfl, s4 _ _ obj, rfl, _, rfl, x, bx, mk, W0, M0, n, F, nm, rfl, hf.same s4, hn, fun c H5 nc s5 ec => ?_⟩
      refine ⟨(by show 2 ≤ sizeLine; decide), fun t ht => ?_⟩
      have s6 : Same H5 (upd H5 t (.tup [.str fo, .ref c])) := Same.upd_new ht
      have t6 : (upd H5 t (.tup [.str fo, .ref c])) t = some (.tup [.str fo, .ref c]) := upd_same
      have tl : t ≠ l := (ne_of_none (s5 _ _ e4) ht).symm
      have cl : c ≠ l := (ne_of_none e4 nc).symm
      generalize upd H5 t (.tup [.str fo, .ref c]) = H6 at s6 t6
      refine ⟨l, _, _, rfl, rfl, s6 _ _ (s5 _ _ e4), small1000 (by omega), ?_⟩
      refine ⟨_, vs ++ [.ref t], rfl, ((s4.trans s5).trans s6).upd_of ln, upd_same, ?_, by rw [upd_ne lm.symm]; exact s6 _ _ (s5 _ _ m4)⟩
      rw [delA_upd, et, List.map_append]
      refine RDs.snoc (d := namD bx mk nm) ?_ (RDs.mono (delA_same (l := l) (s5.trans s6)) r4)
      unfold namD
      rw [eu]
      exact .tup (SqT.of (by rw [delA_ne tl]; exact t6)) (.cons (.str _) (.cons (rd_strs (SqL.of (by rw [delA_ne cl]; exact s6 _ _ ec))) .nil))
    · rintro σ H4 ⟨o4, vs, rfl, s4, e4, r4, m4⟩
      rw [List.length_map, List.take_length] at r4
      refine ⟨_, rfl, sp, _, _, _, rfl, rfl, SqL.of (s4 _ _ hsp), rfl, f1, rfl, ⟨_, SqL.of (s4 _ _ hf1)⟩, for_list (K := K) (a := f1) (xs := W.map V.str) (fun i σ H5 => ∃ (o4 o5 : Option V) (vs : List V), σ = [some (.ref x), some (.ref E), some (.ref sp), some (.ref l), o4, o5] ∧ Same H H5 ∧ H5 l = some (.lst vs) ∧ RDs K (delA l H5) vs (.list ((sortS kf).map (folD bx mk)) :: (sortS ks).map (namD bx mk) ++ (W.take i).flatMap (boxD bx mk M)))
        ⟨_, none, vs, rfl, s4, e4, by rw [List.take_zero, List.flatMap_nil, List.append_nil]; exact r4⟩ ?_ ?_ ?_⟩
      · rintro i σ H5 _ ⟨o4, o5, vs, rfl, s5, e5, r5⟩
        exact SqL.of (s5 _ _ hf1)
      · rintro i v σ H5 hv ⟨o4, o5, vs, rfl, s5, e5, r5⟩
        obtain ⟨bo, hbo, rfl⟩ : ∃ y, W[i]? = some y ∧ V.str y = v := by
          rw [List.getElem?_map] at hv
          cases e : W[i]? with
          | none => rw [e] at hv; cases hv
          | some t => rw [e] at hv; exact ⟨t, rfl, Option.some.inj hv⟩
        have et : W.take (i + 1) = W.take i ++ [bo] := by rw [List.take_add_one, hbo]; rfl
        have hvl : vs.length ≤ 200 := by
          have := RDs.len r5
          rw [List.cons_append, List.length_cons, List.length_append, List.length_map, boxD_len, List.length_take] at this
          omega
        refine ⟨_, rfl, .inl ⟨rfl, _, SqL.of e5⟩, _, rfl, x, dx, _, rfl, s5 _ _ obj, rfl, _, rfl, x, bx, mk, W0, M0, n, F, bo, rfl, hf.same s5, fun c H6 nc s6 ec => ?_⟩
        refine ⟨_, rfl, x, dx, _, rfl, s6 _ _ (s5 _ _ obj), rfl, _, rfl, x, bx, mk, W0, M0, n, F, bo, rfl, (hf.same s5).same s6, fun u H7 nu s7 eu => ?_⟩
        refine ⟨(by show 2 ≤ sizeLine; decide), fun t ht => ?_⟩
        have s8 : Same H7 (upd H7 t (.tup [.ref c, .ref u])) := Same.upd_new ht
        have t8 : (upd H7 t (.tup [.ref c, .ref u])) t = some (.tup [.ref c, .ref u]) := upd_same
        have cl : c ≠ l := (ne_of_none e5 nc).symm
        have ul : u ≠ l := (ne_of_none (s6 _ _ e5) nu).symm
        have tl : t ≠ l := (ne_of_none (s7 _ _ (s6 _ _ e5)) ht).symm
        generalize upd H7 t (.tup [.ref c, .ref u]) = H8 at s8 t8
        have s58 := s6.trans (s7.trans s8)
        refine ⟨l, _, _, rfl, rfl, s58 _ _ e5, small1000 (by omega), ?_⟩
        have s9 : Same H (upd H8 l (.lst (vs ++ [.ref t]))) := (s5.trans s58).upd_of ln
        have e9 : (upd H8 l (.lst (vs ++ [.ref t]))) l = some (.lst (vs ++ [.ref t])) := upd_same
        have r9 : RDs K (delA l (upd H8 l (.lst (vs ++ [.ref t])))) (vs ++ [.ref t]) ((.list ((sortS kf).map (folD bx mk)) :: (sortS ks).map (namD bx mk) ++ (W.take i).flatMap (boxD bx mk M)) ++ [.tuple [dPair (cN bx bo) (cU bx mk bo), .list ((sortS (reps bx bo)).map PyData.str)]]) := by
          rw [delA_upd]
          refine RDs.snoc ?_ (RDs.mono (delA_same (l := l) s58) r5)
          exact .tup (SqT.of (by rw [delA_ne tl]; exact t8)) (.cons (rd_pair (by rw [delA_ne cl]; exact s8 _ _ (s7 _ _ ec))) (.cons (rd_strs (SqL.of (by rw [delA_ne ul]; exact s8 _ _ eu))) .nil))
        show tSeq _ _ _ _ (upd H8 l (.lst (vs ++ [.ref t])))
        generalize upd H8 l (.lst (vs ++ [.ref t])) = H9 at s9 e9 r9
        refine ⟨_, rfl, .inl ⟨rfl, _, SqL.of e9⟩, _, rfl, sp, _, _, _, rfl, rfl, SqL.of (s9 _ _ hsp), rfl, m1, rfl, ⟨_, SqL.of (s9 _ _ hm1)⟩, comp_listG (K := K) (xs := M.map V.str) (fun j ys => j ≤ M.length ∧ ys = (M.take j).map fun y => V.int (nMk bx mk bo y : Nat)) (by rw [List.length_map]; exact Nat.le_of_lt (small1000 (by omega))) (SqL.of (s9 _ _ hm1)) ⟨Nat.zero_le _, by rw [List.take_zero]; rfl⟩ (fun j ys e => by rw [e.2, List.length_map, List.length_take]; omega) ?_ ?_⟩
        · rintro j v ys H10 Q' hv ⟨hj, rfl⟩ s10 q'
          obtain ⟨y, hy, rfl⟩ : ∃ y, M[j]? = some y ∧ V.str y = v := by
            rw [List.getElem?_map] at hv
            cases e : M[j]? with
            | none => rw [e] at hv; cases hv
            | some t => rw [e] at hv; exact ⟨t, rfl, Option.some.inj hv⟩
          have ej : M.take (j + 1) = M.take j ++ [y] := by rw [List.take_add_one, hy]; rfl
          refine ⟨_, rfl, x, dx, _, rfl, s10 _ _ (s9 _ _ obj), rfl, _, rfl, _, rfl, x, bx, mk, W0, M0, n, F, bo, y, rfl, (hf.same s9).same s10, fun H11 s11 => q' _ H11 ⟨?_, ?_⟩ s11⟩
          · exact (List.getElem?_eq_some_iff.mp hy).1
          · rw [ej, List.map_append]
            rfl
        · rintro D ys H10 hD ⟨_, rfl⟩ s10 eD
          rw [List.length_map, List.take_length] at eD
          have Dl : D ≠ l := (ne_of_none e9 hD).symm
          refine ⟨l, _, _, rfl, rfl, s10 _ _ e9, small1000 (by rw [List.length_append, List.length_singleton]; omega), ?_⟩
          refine ⟨_, _, (vs ++ [.ref t]) ++ [.ref D], rfl, (s9.trans s10).upd_of ln, upd_same, ?_⟩
          rw [delA_upd, et, flat_snoc, ← List.append_assoc]
          have eb : boxD bx mk M bo = [.tuple [dPair (cN bx bo) (cU bx mk bo), .list ((sortS (reps bx bo)).map PyData.str)]] ++ [.list (M.map fun y => PyData.int (nMk bx mk bo y : Nat))] := rfl
          rw [eb, ← List.append_assoc]
          refine RDs.snoc ?_ (RDs.mono (delA_same (l := l) s10) r9)
          exact .lst (SqL.of (by rw [delA_ne Dl]; exact eD)) (rds_map fun y _ => .int _)
      · rintro σ H5 ⟨o4, o5, vs, rfl, s5, e5, r5⟩
        rw [List.length_map, List.take_length] at r5
        exact ⟨_, rfl, k l H5 kf nd km s5 (.lst (SqL.of e5) (RDs.mono (delA_in l H5) r5))⟩
end
theorem namD_ly {bx : Rows} {mk : Str → List Str} {nm : Str} (h1 : Asc ((up bx nm).getD "")) (h2 : ∀ y ∈ mk nm, Asc y) : Ly 2 (namD bx mk nm) := ly_pair ((ly_str h1).up (by decide)) (ly_strs fun x hx => h2 x (sortS_mem.mp hx))
theorem seenD_ly {bx : Rows} {mk : Str → List Str} {ks W M kf : List Str} (h1 : ∀ f ∈ kf, Asc f) (h2 : ∀ nm ∈ ks, Asc ((up bx nm).getD "") ∧ ∀ y ∈ mk nm, Asc y) (h3 : ∀ f, ∀ y ∈ reps bx f, Asc y) : Ly 4 (.list (seenD bx mk ks W M kf)) := by
  refine ly_list fun d hd => ?_
  unfold seenD at hd
  rcases List.mem_append.mp hd with z | z
  · rcases List.mem_cons.mp z with rfl | z
    · refine Ly.up (ly_list (m := 1) fun d hd => ?_) (by decide)
      obtain ⟨f, hf, rfl⟩ := List.mem_map.mp hd
      refine ly_tup fun e he => ?_
      rcases List.mem_cons.mp he with rfl | he
      · exact ly_str (h1 f hf)
      · rcases List.mem_cons.mp he with rfl | he
        · exact ly_int _
        · rw [List.mem_singleton.mp he]; exact ly_int _
    · obtain ⟨nm, hn, rfl⟩ := List.mem_map.mp z
      exact (namD_ly (h2 nm hn).1 (h2 nm hn).2).up (by decide)
  · obtain ⟨bo, _, hb⟩ := List.mem_flatMap.mp z
    unfold boxD at hb
    rcases List.mem_cons.mp hb with rfl | hb
    · exact (ly_pair (m := 1) (ly_pair (ly_int _) (ly_int _)) (ly_strs fun x hx => h3 bo x (sortS_mem.mp hx))).up (by decide)
    · rw [List.mem_singleton.mp hb]
      refine Ly.up (ly_list (m := 0) fun d hd => ?_) (by decide)
      obtain ⟨y, _, rfl⟩ := List.mem_map.mp hd
      exact ly_int _
theorem FO.at {a : Adr} {H : Hp} {x : Addr} {bx : Rows} {mk : Str → List Str} {W M : List Str} {n m : Nat} {F : List Addr} (h : FO a H x bx mk W M n F) (k : bx.length ≤ m) : FO a H x bx mk W M m F := by
  obtain ⟨dx, X1, T1, N1, bs, tg, obj, fi, ft, dj, nm, l, e⟩ := h
  exact ⟨dx, X1, T1, N1, bs, tg, obj, fi, ft, dj, nm, k, e⟩
theorem FO.inW {a : Adr} {H : Hp} {x : Addr} {bx : Rows} {mk : Str → List Str} {W M : List Str} {n : Nat} {F : List Addr} (h : FO a H x bx mk W M n F) {t f : Str} (e : t ∈ reps bx f) : f ∈ W := by
  obtain ⟨dx, X1, T1, N1, bs, tg, obj, fi, ft, dj, nm, l, _⟩ := h
  refine Classical.byContradiction fun hf => ?_
  have : ¬ f ∈ bs.map (·.1) := fun z => by
    obtain ⟨p, hp, rfl⟩ := List.mem_map.mp z
    exact hf (fi.bd.at_ p hp).2.2.2.2
  rw [fi.bd.no_ f this] at e
  cases e
theorem cut_sub (M : List Str) (lo hi : Option Int) : ∃ ms : List Str, cutV (M.map V.str) lo hi = ms.map V.str ∧ (∀ y ∈ ms, y ∈ M) ∧ ms.length ≤ M.length := by
  refine ⟨(M.drop (HT.sIx (M.map V.str).length 0 lo)).take (HT.sIx (M.map V.str).length (M.map V.str).length hi - HT.sIx (M.map V.str).length 0 lo), ?_, fun y hy => List.mem_of_mem_drop (List.mem_of_mem_take hy), ?_⟩
  · unfold cutV
    rw [List.map_take, List.map_drop]
  · rw [List.length_take, List.length_drop]; omega
structure LW (K : PySem.W.Frag) (a : Adr) (H : Hp) (q D so n1 f1 m1 x E : Addr) (ls rs : List Int) (ns W M : List Str) (bx : Rows) (mk : Str → List Str) (n : Nat) (F : List Addr) (kvs : List (Key × V)) (ks : List Str) : Prop where
  sc : SqL K H q (ls.map V.int)
  rw_ : H D = some (.lst (rs.map V.int))
  sm : SmAt H so n1 f1 m1 ns W M
  fo : FO a H x bx mk W M n F
  own : H E = some (.dK kvs)
  keys : kvs.map (·.1) = ks.map Sum.inr
  nd : ks.Nodup
  sub : ∀ t ∈ ks, t ∈ ns
  eF : ¬ E ∈ F
theorem own_len {kvs : List (Key × V)} {ks : List Str} (h : kvs.map (·.1) = ks.map Sum.inr) : kvs.length = ks.length := by
  have := congrArg List.length h
  rwa [List.length_map, List.length_map] at this
theorem own_mem {kvs : List (Key × V)} {ks : List Str} (h : kvs.map (·.1) = ks.map Sum.inr) {t : Str} : (Sum.inr t : Key) ∈ kvs.map (·.1) ↔ t ∈ ks := by
  rw [h]
  constructor
  · intro z
    obtain ⟨y, hy, e⟩ := List.mem_map.mp z
    cases e; exact hy
  · intro z; exact List.mem_map.mpr ⟨t, z, rfl⟩
theorem own_some {kvs : List (Key × V)} {ks : List Str} (h : kvs.map (·.1) = ks.map Sum.inr) (t : Str) : (valV kvs (Sum.inr t)).isSome = decide (t ∈ ks) := by
  cases e : valV kvs (Sum.inr t) with
  | none => exact (decide_eq_false fun z => valV_not e ((own_mem h).mpr z)).symm
  | some v => exact (decide_eq_true ((own_mem h).mp (valV_in e))).symm
theorem own_put_new {kvs : List (Key × V)} {ks : List Str} (h : kvs.map (·.1) = ks.map Sum.inr) {t : Str} (v : V) (n : ¬ t ∈ ks) : (putK kvs (Sum.inr t) v).map (·.1) = (ks ++ [t]).map Sum.inr := by
  rw [keys_putK.2 (fun z => n ((own_mem h).mp z)), h, List.map_append]; rfl
theorem own_drop {ks : List Str} {t : Str} : ∀ {kvs : List (Key × V)}, kvs.map (·.1) = ks.map Sum.inr → (dropK kvs (Sum.inr t)).map (·.1) = (ks.filter fun z => decide (z ≠ t)).map Sum.inr := by
  induction ks with
  | nil => intro kvs h; cases kvs with
    | nil => rfl
    | cons p r => cases h
  | cons y ks ih => intro kvs h; cases kvs with
    | nil => cases h
    | cons p r =>
      rw [List.map_cons, List.map_cons] at h
      obtain ⟨h1, h2⟩ := List.cons.inj h
      by_cases e : y = t
      · rw [dropK_pos (by rw [h1, e]), List.filter_cons_of_neg (by simp [e])]
        exact ih h2
      · rw [dropK_neg (by rw [h1]; exact fun z => e (Sum.inr.inj z)), List.filter_cons_of_pos (by simp [e]), List.map_cons, List.map_cons, ih h2, h1]
theorem own_kV {kvs : List (Key × V)} {ks : List Str} (h : kvs.map (·.1) = ks.map Sum.inr) : kvs.map (fun kv => kV kv.1) = ks.map V.str := by
  have := congrArg (List.map kV) h
  rw [List.map_map, List.map_map] at this
  exact this
section
variable {K : PySem.W.Frag} {a : Adr} {H H' : Hp} {q D so n1 f1 m1 x E : Addr} {ls rs : List Int} {ns W M : List Str} {bx : Rows} {mk : Str → List Str} {n : Nat} {F : List Addr} {kvs : List (Key × V)} {ks : List Str}
theorem LW.same (l : LW K a H q D so n1 f1 m1 x E ls rs ns W M bx mk n F kvs ks) (s : Same H H') : LW K a H' q D so n1 f1 m1 x E ls rs ns W M bx mk n F kvs ks :=
  ⟨s.seq l.sc, s _ _ l.rw_, l.sm.same s, l.fo.same s, s _ _ l.own, l.keys, l.nd, l.sub, l.eF⟩
theorem LW.len (l : LW K a H q D so n1 f1 m1 x E ls rs ns W M bx mk n F kvs ks) : ks.length ≤ 9 := by
  have := nodup_le l.nd l.sub
  rw [l.sm.nl] at this
  exact this
theorem seq_kp {F : List Addr} {xs : List V} (k : KpF F H H') (hF : ∀ c ∈ F, ∃ kvs, H c = some (.dK kvs)) (h : SqL K H q xs) : SqL K H' q xs := by
  rcases h with (h | ⟨o, h⟩) | h
  · exact .inl (.inl (k _ _ (fun z => by obtain ⟨_, e⟩ := hF _ z; rw [h] at e; cases e) h))
  · exact .inl (.inr ⟨o, k _ _ (fun z => by obtain ⟨_, e⟩ := hF _ z; rw [h] at e; cases e) h⟩)
  · exact .inr h
theorem LW.step {bx' : Rows} {mk' : Str → List Str} {n' : Nat} {F' : List Addr} (l : LW K a H q D so n1 f1 m1 x E ls rs ns W M bx mk n F kvs ks) (fo : FO a H' x bx' mk' W M n' F') (k : KpF F H H') (sb : ∀ c ∈ F', c ∈ F ∨ H c = none) : LW K a H' q D so n1 f1 m1 x E ls rs ns W M bx' mk' n' F' kvs ks :=
  ⟨seq_kp k (fun c hc => l.fo.kind hc) l.sc, k _ _ (l.fo.other l.rw_ fun _ z => nomatch z) l.rw_, l.sm.kp k (fun c hc => l.fo.kind hc), fo, k _ _ l.eF l.own, l.keys, l.nd, l.sub, fun z => (sb _ z).elim l.eF fun e => by rw [l.own] at e; cases e⟩
theorem LW.own_to {kvs' : List (Key × V)} {ks' : List Str} (l : LW K a H q D so n1 f1 m1 x E ls rs ns W M bx mk n F kvs ks) (k : ∀ c o, c ≠ E → H c = some o → H' c = some o) (e : H' E = some (.dK kvs')) (hk : kvs'.map (·.1) = ks'.map Sum.inr) (nd : ks'.Nodup) (sub : ∀ t ∈ ks', t ∈ ns) : LW K a H' q D so n1 f1 m1 x E ls rs ns W M bx mk n F kvs' ks' := by
  have kp : KpF [E] H H' := fun c o hc e => k c o (fun z => hc (by rw [z]; exact List.mem_singleton.mpr rfl)) e
  have hF : ∀ c ∈ [E], ∃ kvs, H c = some (.dK kvs) := fun c hc => by rw [List.mem_singleton.mp hc]; exact ⟨_, l.own⟩
  obtain ⟨_, _, _, _, obj⟩ := l.fo.obj
  exact ⟨seq_kp kp hF l.sc, k _ _ (ne_of l.rw_ l.own fun z => nomatch z) l.rw_, l.sm.kp kp hF, l.fo.keep fun c o hc e => k c o (hc.elim (fun z => by rw [z]; exact ne_of obj l.own fun z => nomatch z) fun z q => l.eF (by rw [← q]; exact z)) e, e, hk, nd, sub, l.eF⟩
/-- the folders' names and the law's own are the same -/
def Eqs (bx : Rows) (ks : List Str) : Prop := ∀ t, t ∈ ks ↔ t ∈ bx.map (·.1)
theorem LW.nine (l : LW K a H q D so n1 f1 m1 x E ls rs ns W M bx mk n F kvs ks) (e : Eqs bx ks) : LW K a H q D so n1 f1 m1 x E ls rs ns W M bx mk 9 F kvs ks := by
  have := nodup_le l.fo.nd fun m hm => l.sub m ((e m).mpr hm)
  rw [l.sm.nl, List.length_map] at this
  exact ⟨l.sc, l.rw_, l.sm, l.fo.at this, l.own, l.keys, l.nd, l.sub, l.eF⟩
theorem LW.ly (l : LW K a H q D so n1 f1 m1 x E ls rs ns W M bx mk n F kvs ks) (e : Eqs bx ks) (aw : (∀ y ∈ ns, WordS y) ∧ (∀ y ∈ W, WordS y) ∧ ∀ y ∈ M, WordS y) {kf : List Str} (h : ∀ t, t ∈ kf ↔ reps bx t ≠ []) : SeqAt.shaped (.list (seenD bx mk (sortS ks) W M (sortS kf))) = true := by
  have ha : ∀ t ∈ bx.map (·.1), Asc t := fun t ht => (aw.1 _ (l.sub _ ((e t).mpr ht))).asc
  refine (seenD_ly (fun f hf => ?_) (fun nm hn => ?_) (fun f y hy => ha _ (reps_sub hy))).shaped (by decide)
  · obtain ⟨z, hz⟩ := List.exists_mem_of_ne_nil _ ((h f).mp (sortS_mem.mp hf))
    exact (aw.2.1 _ (l.fo.inW hz)).asc
  · have hb := (e nm).mp (sortS_mem.mp hn)
    obtain ⟨fo, eu⟩ := up_some hb
    refine ⟨?_, fun y hy => (aw.2.2 _ ((l.fo.mk_ok hb).2.1 y hy)).asc⟩
    rw [eu]
    exact (aw.2.1 _ (l.fo.inW (in_reps eu))).asc
end
theorem kf_congr {bx : Rows} {kf kf2 : List Str} (d1 : kf.Nodup) (d2 : kf2.Nodup) (h1 : ∀ t, t ∈ kf ↔ reps bx t ≠ []) (h2 : ∀ t, t ∈ kf2 ↔ reps bx t ≠ []) : sortS kf2 = sortS kf := sortS_congr ((List.perm_ext_iff_of_nodup d2 d1).mpr fun t => by rw [h1, h2])
def WayOk (p : Bool) (w : Int) : Prop := (p = true ∧ (w = 0 ∨ w = 6)) ∨ (p = false ∧ (w = 1 ∨ w = 2 ∨ w = 3 ∨ w = 4 ∨ w = 5 ∨ w = 7))
theorem way_kept {p : Bool} {z : Int} (h : p = decide (z % 8 % 6 = 0)) : WayOk p (z % 8) := by
  have h0 := Int.emod_nonneg z (b := 8) (by decide)
  have h1 := Int.emod_lt_of_pos z (b := 8) (by decide)
  generalize z % 8 = y at *
  by_cases e : y % 6 = 0
  · exact .inl ⟨by rw [h, decide_eq_true e], by omega⟩
  · exact .inr ⟨by rw [h, decide_eq_false e], by omega⟩
theorem way_new (p : Bool) (z : Int) : ∃ w, atI [V.int 0, V.int 6, V.int 1, V.int 2, V.int 3, V.int 4, V.int 5, V.int 7] (if p = true then z % 2 else 2 + z % 6) = some (.int w) ∧ WayOk p w := by
  cases p with
  | true =>
    rw [if_pos rfl]
    have h0 := Int.emod_nonneg z (b := 2) (by decide)
    have h1 := Int.emod_lt_of_pos z (b := 2) (by decide)
    obtain h | h : z % 2 = 0 ∨ z % 2 = 1 := by omega
    · rw [h]; exact ⟨0, rfl, .inl ⟨rfl, .inl rfl⟩⟩
    · rw [h]; exact ⟨6, rfl, .inl ⟨rfl, .inr rfl⟩⟩
  | false =>
    rw [if_neg Bool.false_ne_true]
    have h0 := Int.emod_nonneg z (b := 6) (by decide)
    have h1 := Int.emod_lt_of_pos z (b := 6) (by decide)
    obtain h | h | h | h | h | h : z % 6 = 0 ∨ z % 6 = 1 ∨ z % 6 = 2 ∨ z % 6 = 3 ∨ z % 6 = 4 ∨ z % 6 = 5 := by omega
    all_goals rw [h]
    · exact ⟨1, rfl, .inr ⟨rfl, by simp⟩⟩
    · exact ⟨2, rfl, .inr ⟨rfl, by simp⟩⟩
    · exact ⟨3, rfl, .inr ⟨rfl, by simp⟩⟩
    · exact ⟨4, rfl, .inr ⟨rfl, by simp⟩⟩
    · exact ⟨5, rfl, .inr ⟨rfl, by simp⟩⟩
    · exact ⟨7, rfl, .inr ⟨rfl, by simp⟩⟩
theorem way_refs {bx : Rows} {ks : List Str} {nm : Str} {w : Int} (e : Eqs bx ks) (h : WayOk (decide (nm ∈ ks)) w) : Refs bx w (.str nm) := by
  rcases h with ⟨hp, hw⟩ | ⟨hp, hw⟩
  · obtain ⟨fo, eu⟩ := up_some ((e nm).mp (of_decide_eq_true hp))
    exact .inr ⟨nm, fo, rfl, eu, hw⟩
  · exact .inl ⟨oddN_str (up_none.mpr fun z => of_decide_eq_false hp ((e nm).mpr z)), hw⟩
section
variable {P : Program} {w : World} {K : PySem.W.Frag} {mg : Str → Option Value} {base : Heap} {a : Adr}
theorem vint {i j : Int} : decide (V.int i = V.int j) = decide (i = j) := by
  by_cases e : i = j
  · rw [e, decide_eq_true rfl, decide_eq_true rfl]
  · rw [decide_eq_false e, decide_eq_false fun z => e (V.int.inj z)]
theorem vbl {p r : Bool} : decide (V.bl p = V.bl r) = decide (p = r) := by cases p <;> cases r <;> rfl
theorem blk5 (T : Txt K mg a) (FF : Funs K a) {cdv : Value} {A : Around} {outer : List Env} {s : Shared} {H : Hp} {Q : VK} {E0 : XK} (hr : Room 13 (A.deeper (PyProof.Rows.envOfC "law" (defScope slaw) s.heap.objs.size a.f_law cdv))) (k : ∀ H', Q (.bl true) H') :
    ∃ tt, PSs (cxOf CX0 P w K mg base n_law "law" (defScope slaw) a.f_law cdv A outer s H E0).nox ((defBody slaw).drop 5) tt ∧
      ∀ (G : Hp) (q D so n1 f1 m1 x E : Addr) (ls rs : List Int) (ns W M : List Str) (bx : Rows) (mk : Str → List Str) (F : List Addr) (kvs : List (Key × V)) (ks : List Str) (o5 o6 : Option V), ls.length ≤ 63 → rs.length = 60 → (∀ r ∈ rs, 0 ≤ r ∧ r < 2147483629) → ("inbox" : Str) ∈ W → ((∀ y ∈ ns, WordS y) ∧ (∀ y ∈ W, WordS y) ∧ ∀ y ∈ M, WordS y) → LW K a G q D so n1 f1 m1 x E ls rs ns W M bx mk 9 F kvs ks → Eqs bx ks →
        tt { nx := fun _ H' => Q .non H', rt := Q } [some (.ref q), some (.ref D), some (.ref so), some (.ref x), some (.ref E), o5, o6, none, none, none, none, none, none] G := by
  obtain ⟨fdS, F_l_seen, b_l_seen⟩ := FF.F_l_seen
  obtain ⟨fdO, F_l_odd_refused, b_l_odd_refused⟩ := FF.F_l_odd_refused
  obtain ⟨fdR, F_l_refused, b_l_refused⟩ := FF.F_l_refused
  obtain ⟨fdG, F_l_goes, b_l_goes⟩ := FF.F_l_goes
  obtain ⟨fdT, F_tak, b_Folders_take_out⟩ := FF.F_Folders_take_out
  obtain ⟨fdA, F_A, b_A0, ⟨dsA0, vA0, b_A2⟩, ⟨dsA1, vA1, b_A1⟩⟩ := FF.F_Folders_add
  have G_l_seen : FnOk P w K mg base CX0 4 a.f_l_seen fdS ["_law_folders", "_law_own", "_law_some_here"] (spSeen K a) := ok_seen F_l_seen T FF
  have G_l_odd_refused : FnOk P w K mg base CX0 6 a.f_l_odd_refused fdO ["_law_folders", "_law_some_here", "_law_number"] (spOdd a) := ok_odd F_l_odd_refused T FF
  have G_l_refused : FnOk P w K mg base CX0 4 a.f_l_refused fdR ["_law_folders", "_law_way", "_law_name", "_law_some_here", "_law_number"] (spRefused a) := ok_refused F_l_refused T FF
  have G_l_goes : FnOk P w K mg base CX0 4 a.f_l_goes fdG ["_law_folders", "_law_way", "_law_name", "_law_some_here", "_law_number"] (spGoes a) := ok_goes F_l_goes T FF
  have G_Folders_take_out : FnOk P w K mg base CX0 2 a.f_Folders_take_out fdT ["self", "name"] (spFTake a) := ok_ftake F_tak T FF
  have G_Folders_add : FnOk P w K mg base CX0 2 a.f_Folders_add fdA ["self", "name", "folder", "marks"] (spFAddN a) := ok_faddN F_A T FF
  have hr_l_seen : Room 4 _ := hr.mono (by decide)
  have hr_l_odd_refused : Room 6 _ := hr.mono (by decide)
  have hr_l_refused : Room 4 _ := hr.mono (by decide)
  have hr_l_goes : Room 4 _ := hr.mono (by decide)
  have hr_Folders_take_out : Room 2 _ := hr.mono (by decide)
  have hr_Folders_add : Room 2 _ := hr.mono (by decide)
  have hu := hu_of hr
  have hu64 := hr.units
  refine ⟨_, (pss_cons (ps_for PassesOwn.never rfl (pi_range1 rfl T.b_range (pac (pe_callB (call_min2 rfl) rfl T.b_min PyProof.Rows.boot_min (pac pe_int (pac (pe_callB call_len_seq rfl T.b_len PySem.boot_len (pac (pv 0) pa_nil)) pa_nil))) pa_nil)) (pg_name (i := 5) sc_law.nd rfl (Or.inl rfl)) (pss_cons (ps_set (i := 7) sc_law.nd rfl (Or.inl rfl) (pe_ix ix_list (pv 1) (pe_op op_add pe_int (pv 5)) (fun _ _ => rfl)))
        (pss_cons (ps_set (i := 8) sc_law.nd rfl (Or.inl rfl) (pe_ix ix_list (pe_ix ix_list (pv 2) pe_int (fun _ _ => rfl)) (pe_op op_mod (pe_op op_fdiv (pv 7) pe_int) pe_int) (fun _ _ => rfl)))
        (pss_cons (ps_set (i := 9) sc_law.nd rfl (Or.inl rfl) (pe_op op_mod (pv 7) pe_int))
        (pss_cons (ps_if (pt_cmpR op_ne (pe_cmp (pc_din hu (pv 8) (pv 4))) (pe_cmpR op_eq (pe_op op_mod (pv 9) pe_int) pe_int (nomark _)) (nomark _)) (pss_one (ps_set (i := 9) sc_law.nd rfl (Or.inl rfl) (pe_ix ix_list (pe_lstS (pas_cons pe_int (pas_cons pe_int (pas_cons pe_int (pas_cons pe_int (pas_cons pe_int (pas_cons pe_int (pas_cons pe_int (pas_cons pe_int pas_nil))))))))) (pe_ifExp (pt_cmp (pc_din hu (pv 8) (pv 4))) (pe_op op_mod (pe_op op_fdiv (pv 7) pe_int) pe_int) (pe_op op_add pe_int (pe_op op_mod (pe_op op_fdiv (pv 7) pe_int) pe_int))) (fun _ _ => rfl)))) pss_nil)
        (pss_cons (ps_set (i := 10) sc_law.nd rfl (Or.inl rfl) (pe_call G_l_seen hr_l_seen rfl T.m_l_seen F_l_seen.kp b_l_seen .nil pass0 (pac (pv 3) (pac (pv 4) (pac (pv 2) pa_nil)))))
        (pss_cons (ps_set (i := 11) sc_law.nd rfl (Or.inl rfl) (pe_call G_l_odd_refused hr_l_odd_refused rfl T.m_l_odd_refused F_l_odd_refused.kp b_l_odd_refused .nil pass0 (pac (pv 3) (pac (pv 2) (pac (pv 7) pa_nil)))))
        (pss_cons (ps_for PassesOwn.never rfl (pi_range1 rfl T.b_range (pac pe_int pa_nil)) (pg_name (i := 12) sc_law.nd rfl (Or.inl rfl)) (pss_one (ps_set (i := 11) sc_law.nd rfl (Or.inl rfl) (pe_and (pv 11) (pe_one (pe_call G_l_refused hr_l_refused rfl T.m_l_refused F_l_refused.kp b_l_refused .nil pass0 (pac (pv 3) (pac (pv 9) (pac (pv 8) (pac (pv 2) (pac (pv 7) pa_nil)))))))))))
        (pss_cons (ps_if (PW.pt (pw_or (pt_not (pt_val (pv 11))) (pw_or1 (pt_cmpR (op_neD hu64) (pe_call G_l_seen hr_l_seen rfl T.m_l_seen F_l_seen.kp b_l_seen .nil pass0 (pac (pv 3) (pac (pv 4) (pac (pv 2) pa_nil)))) (pv 10) (nomark _))))) (pss_one (ps_ret pe_bl)) pss_nil)
        (pss_cons (ps_if (pt_cmpR op_eq (pe_op op_mod (pv 9) pe_int) pe_int (nomark _)) (pss_cons (ps_expr (pe_meth (pv 3) T.c_Folders T.M_Folders_take_out G_Folders_take_out hr_Folders_take_out b_Folders_take_out .nil pass0 (pac (pv 8) pa_nil)))
        (pss_one (ps_expr (pe_dpop1 (pv 4) (pv 8) ⟨rfl, rfl, rfl, rfl⟩)))) (pss_one (ps_if (pt_cmpR op_eq (pe_op op_mod (pe_op op_fdiv (pv 7) pe_int) pe_int) pe_int (nomark _)) (pss_cons (ps_expr (pe_meth (pv 3) T.c_Folders T.M_Folders_add G_Folders_add hr_Folders_add b_A2 vA0 pass0 (pac (pv 8) pa_nil)))
        (pss_one (ps_dput hu (pv 4) (pv 8) (pe_lstS (pas_cons pe_str (pas_cons (pe_lstS pas_nil) pas_nil))) rfl))) pss_nil)))
        (pss_one (ps_if (PW.pt (pw_or (pt_cmpR op_eq (pe_op op_mod (pv 9) pe_int) pe_int (nomark _)) (pw_or1 (pt_cmpR op_eq (pe_op op_mod (pe_op op_fdiv (pv 7) pe_int) pe_int) pe_int (nomark _))))) (pss_cons (ps_if (pt_not (pt_val (pe_call G_l_goes hr_l_goes rfl T.m_l_goes F_l_goes.kp b_l_goes .nil pass0 (pac (pv 3) (pac (pv 9) (pac (pv 8) (pac (pv 2) (pac (pv 7) pa_nil)))))))) (pss_one (ps_ret pe_bl)) pss_nil)
        (pss_cons (ps_if (pt_cmpR op_eq (pe_op op_mod (pv 9) pe_int) pe_int (nomark _)) (pss_one (ps_dput hu (pv 4) (pv 8) (pe_lstS (pas_cons pe_str (pas_cons (pe_lstS pas_nil) pas_nil))) rfl)) pss_nil)
        (pss_one (ps_if (pt_cmpR op_eq (pv 9) pe_int (nomark _)) (pss_one (ps_expr (pe_dpop1 (pv 4) (pv 8) ⟨rfl, rfl, rfl, rfl⟩))) pss_nil)))) pss_nil))))))))))))
        (pss_one (ps_ret pe_bl))), ?_⟩
  intro G q D so n1 f1 m1 x E ls rs ns W M bx mk F kvs ks o5 o6 hlen hrl hrb hib aw lw eqs
  have hlm : (ls.map V.int).length ≤ 63 := by rw [List.length_map]; exact hlen
  refine ⟨_, rfl, q, _, rfl, .inl lw.sc, _, _, rfl, ?_⟩
  have hb : ∃ v : Int, (if ((ls.map V.int).length : Int) < 20 then ((ls.map V.int).length : Int) else 20) = v ∧ 0 ≤ v ∧ v ≤ 20 := ⟨_, rfl, by split <;> omega, by split <;> omega⟩
  obtain ⟨v, ev, v0, v1⟩ := hb
  rw [ev]
  refine ⟨_, rfl, by omega, by omega, for_range (n := v.toNat) (fun i σ G1 => ∃ (o5 o6 o7 o8 o9 o10 o11 o12 : Option V) (bx : Rows) (mk : Str → List Str) (F : List Addr) (kvs : List (Key × V)) (ks : List Str), σ = [some (.ref q), some (.ref D), some (.ref so), some (.ref x), some (.ref E), o5, o6, o7, o8, o9, o10, o11, o12] ∧ LW K a G1 q D so n1 f1 m1 x E ls rs ns W M bx mk 9 F kvs ks ∧ Eqs bx ks)
    ⟨o5, o6, none, none, none, none, none, none, bx, mk, F, kvs, ks, rfl, lw, eqs⟩ ?_ ?_⟩
  · clear lw eqs kvs ks bx mk F o5 o6
    rintro i σ G1 hi ⟨o5, o6, o7, o8, o9, o10, o11, o12, bx, mk, F, kvs, ks, rfl, lw, eqs⟩
    obtain ⟨z, ez, z0, z1⟩ := row_pick hrb (30 + (0 + (i : Int))) (by omega) (by omega)
    refine ⟨_, rfl, _, rfl, _, _, rfl, rfl, D, _, _, _, rfl, rfl, SqL.of lw.rw_, ez, ?_⟩
    refine pick_W (K := K) rfl lw.sm.so_ rfl lw.sm.n_ (fun Q' h => divmod_ix rfl ⟨by decide, by decide⟩ (by decide) (by rw [lw.sm.nl]; rfl) h) fun nm hnm => ?_
    refine ⟨_, rfl, _, _, rfl, rfl, (by show (0 : Int) < 8; decide), ?_⟩
    dsimp only [gName]
    refine seq_open fun N hN => ?_
    have rest : ∀ wy G2, Same G1 G2 → WayOk (decide (nm ∈ ks)) wy → N [some (.ref q), some (.ref D), some (.ref so), some (.ref x), some (.ref E), some (.int (0 + (i : Int))), o6, some (.int z), some (.str nm), some (.int wy), o10, o11, o12] G2 := by
      subst hN
      intro wy G2 s2 hw
      have l2 := lw.same s2
      refine ⟨_, rfl, _, rfl, _, rfl, x, E, so, n1, f1, m1, bx, mk, W, M, W, M, 9, F, kvs, ks, rfl, l2.fo, l2.own, own_kV l2.keys, (by have := lw.len; omega), (fun t ht => (eqs t).mp ht), l2.sm.so_, l2.sm.f_, l2.sm.m_, (by rw [l2.sm.wl]; decide), (by rw [l2.sm.ml]; decide), fun p3 G3 kf3 nd3 km3 s3 rd3 => ?_⟩
      have l3 := l2.same s3
      refine ⟨_, rfl, _, rfl, _, rfl, x, so, n1, f1, m1, bx, mk, W, M, ns, W, M, 9, F, z, rfl, l3.fo, l3.sm, fun G4 s4 => ?_⟩
      refine ⟨_, rfl, by decide, by decide, for_range (n := 2) (fun j σ G5 => ∃ o12 : Option V, σ = [some (.ref q), some (.ref D), some (.ref so), some (.ref x), some (.ref E), some (.int (0 + (i : Int))), o6, some (.int z), some (.str nm), some (.int wy), some (.ref p3), some (.bl true), o12] ∧ Same G3 G5) ⟨o12, rfl, s4⟩ ?_ ?_⟩
      · rintro j σ G5 hj ⟨o12, rfl, s5⟩
        have l5 := l3.same s5
        exact ⟨_, rfl, _, rfl, iteT ⟨_, rfl, _, rfl, _, rfl, _, rfl, _, rfl, x, so, n1, f1, m1, bx, mk, W, M, ns, W, M, 9, F, wy, z, .str nm, rfl, l5.fo, l5.sm, way_refs eqs hw, fun G6 s6 => ⟨_, rfl, s5.trans s6⟩⟩⟩
      rintro σ G5 ⟨o12, rfl, s5⟩
      have l5 := l3.same s5
      refine ⟨_, rfl, _, rfl, iteF ?_⟩
      refine ⟨_, rfl, _, rfl, _, rfl, x, E, so, n1, f1, m1, bx, mk, W, M, W, M, 9, F, kvs, ks, rfl, l5.fo, l5.own, own_kV l5.keys, (by have := lw.len; omega), (fun t ht => (eqs t).mp ht), l5.sm.so_, l5.sm.f_, l5.sm.m_, (by rw [l5.sm.wl]; decide), (by rw [l5.sm.ml]; decide), fun p6 G6 kf6 nd6 km6 s6 rd6 => ?_⟩
      have l6 := l5.same s6
      rw [kf_congr nd3 nd6 km3 km6] at rd6
      refine ⟨_, rfl, _, _, rd6, RD.mono (s5.trans s6) rd3, l6.ly eqs aw km3, l6.ly eqs aw km3, _, rfl, ?_⟩
      rw [SeqAt.eqv_refl _ (SeqAt.canLay_of_shaped (l6.ly eqs aw km3))]
      refine iteF ?_
      obtain ⟨dx, _, _, _, obj⟩ := l6.fo.obj
      rcases hw with ⟨hp, hw⟩ | ⟨hp, hw⟩
      · have hin : nm ∈ ks := of_decide_eq_true hp
        have h6 : wy % 6 = 0 := by omega
        have h1 : wy ≠ 1 := by omega
        have d6 : decide (V.int (wy % 6) = V.int 0) = true := by rw [vint]; exact decide_eq_true h6
        refine ⟨_, rfl, _, _, rfl, rfl, (by show (0 : Int) < 6; decide), rfl, _, rfl, ?_⟩
        rw [d6]
        refine iteT ⟨_, rfl, x, dx, _, rfl, obj, rfl, _, rfl, x, bx, mk, W, M, 9, F, nm, rfl, l6.fo, (eqs nm).mp hin, fun G7 F7 fo7 kp7 sb7 => ?_⟩
        have l7 := l6.step fo7 kp7 fun c hc => .inl (sb7 c hc)
        obtain ⟨vv, evv⟩ : ∃ vv, valV kvs (Sum.inr nm) = some vv := Option.isSome_iff_exists.mp (by rw [own_some lw.keys]; exact decide_eq_true hin)
        refine ⟨_, rfl, E, rfl, .inl ⟨_, .inl l7.own⟩, _, rfl, _, Sum.inr nm, vv, l7.own, rfl, evv, ?_⟩
        have l8 := l7.own_to (H' := upd G7 E (.dK (dropK kvs (Sum.inr nm)))) (ks' := ks.filter fun t => decide (t ≠ nm)) (fun c o ne e => by rw [upd_ne ne]; exact e) upd_same (own_drop lw.keys) (lw.nd.filter _) fun t ht => lw.sub t (List.mem_filter.mp ht).1
        generalize upd G7 E (.dK (dropK kvs (Sum.inr nm))) = G8 at l8
        refine ⟨_, rfl, _, _, rfl, rfl, (by show (0 : Int) < 6; decide), rfl, _, rfl, ?_⟩
        rw [d6]
        refine iteT (iteT ?_)
        refine ⟨_, rfl, _, rfl, _, rfl, _, rfl, _, rfl, x, so, n1, f1, m1, _, mk, W, M, ns, W, M, 9, F7, wy, z, nm, rfl, l8.fo, by decide, l8.sm, hib, (fun _ h => h), (fun _ h => h), .inr ⟨up_none.mpr fun t => (mem_without.mp t).2 rfl, hw⟩, fun G9 bx9 mk9 F9 fo9 lf9 kp9 sb9 => ⟨_, rfl, iteF ?_⟩⟩
        have l9 := l8.step fo9 kp9 sb9
        refine ⟨_, rfl, _, _, rfl, rfl, (by show (0 : Int) < 6; decide), rfl, _, rfl, ?_⟩
        rw [d6]
        refine iteT ⟨Nat.zero_le _, fun u1 hu1 => ⟨(by show 2 ≤ sizeLine; decide), fun u2 hu2 => ?_⟩⟩
        have s10 : Same G9 (upd (upd G9 u1 (.lst [])) u2 (.lst [.str "", .ref u1])) := (Same.upd_new hu1).trans (Same.upd_new hu2)
        have l10 := l9.same s10
        have hln := own_len l10.keys
        have hl9 := l10.len
        refine ⟨_, rfl, _, rfl, E, _, rfl, DPut.k (k := Sum.inr nm) l10.own (small1000 (by omega)), ?_⟩
        have nn : ¬ nm ∈ ks.filter fun t => decide (t ≠ nm) := fun t => of_decide_eq_true (List.mem_filter.mp t).2 rfl
        have l11 := l10.own_to (H' := upd (upd (upd G9 u1 (.lst [])) u2 (.lst [.str "", .ref u1])) E (.dK (putK (dropK kvs (Sum.inr nm)) (Sum.inr nm) (.ref u2)))) (ks' := (ks.filter fun t => decide (t ≠ nm)) ++ [nm]) (fun c o ne e => by rw [upd_ne ne]; exact e) upd_same (own_put_new l10.keys _ nn) (snoc_nodup l10.nd nn) (fun t ht => (List.mem_append.mp ht).elim (l10.sub t) fun h => by rw [List.mem_singleton.mp h]; exact hnm)
        refine int_no (w := wy) rfl h1 (iteF ?_)
        have eq11 : Eqs bx9 ((ks.filter fun t => decide (t ≠ nm)) ++ [nm]) := fun t => by
          rw [lf9 t, if_neg h1, List.mem_append, List.mem_singleton, mem_without, List.mem_filter, decide_eq_true_eq, eqs t]
        exact ⟨_, _, _, _, _, _, _, _, bx9, mk9, F9, _, _, rfl, l11.nine eq11, eq11⟩
      · have hin : ¬ nm ∈ ks := of_decide_eq_false hp
        have h6 : ¬ wy % 6 = 0 := by omega
        have d6 : decide (V.int (wy % 6) = V.int 0) = false := by rw [vint]; exact decide_eq_false h6
        have hup : up bx nm = none := up_none.mpr fun t => hin ((eqs nm).mpr t)
        refine ⟨_, rfl, _, _, rfl, rfl, (by show (0 : Int) < 6; decide), rfl, _, rfl, ?_⟩
        rw [d6]
        refine iteF ⟨_, rfl, _, _, rfl, rfl, ⟨by decide, by decide⟩, _, _, rfl, rfl, (by show (0 : Int) < 2; decide), rfl, _, rfl, ?_⟩
        rw [vint]
        by_cases hz : z / 432 % 2 = 0
        · rw [decide_eq_true hz]
          refine iteT ⟨_, rfl, x, dx, _, rfl, obj, rfl, _, rfl, x, bx, mk, W, M, 9, F, nm, _, rfl, l6.fo, by decide, hup, hib, fun G7 F7 fo7 kp7 sb7 => ?_⟩
          have l7 := l6.step fo7 kp7 sb7
          refine ⟨Nat.zero_le _, fun u1 hu1 => ⟨(by show 2 ≤ sizeLine; decide), fun u2 hu2 => ?_⟩⟩
          have s8 : Same G7 (upd (upd G7 u1 (.lst [])) u2 (.lst [.str "inbox", .ref u1])) := (Same.upd_new hu1).trans (Same.upd_new hu2)
          have l8 := l7.same s8
          have hln := own_len l8.keys
          have hl8 := l8.len
          refine ⟨_, rfl, _, rfl, E, _, rfl, DPut.k (k := Sum.inr nm) l8.own (small1000 (by omega)), ?_⟩
          have l9 := l8.own_to (H' := upd (upd (upd G7 u1 (.lst [])) u2 (.lst [.str "inbox", .ref u1])) E (.dK (putK kvs (Sum.inr nm) (.ref u2)))) (ks' := ks ++ [nm]) (fun c o ne e => by rw [upd_ne ne]; exact e) upd_same (own_put_new l8.keys _ hin) (snoc_nodup l8.nd hin) (fun t ht => (List.mem_append.mp ht).elim (l8.sub t) fun h => by rw [List.mem_singleton.mp h]; exact hnm)
          generalize upd (upd (upd G7 u1 (.lst [])) u2 (.lst [.str "inbox", .ref u1])) E (.dK (putK kvs (Sum.inr nm) (.ref u2))) = G9 at l9
          refine ⟨_, rfl, _, _, rfl, rfl, (by show (0 : Int) < 6; decide), rfl, _, rfl, ?_⟩
          rw [d6]
          refine iteF ⟨_, rfl, _, _, rfl, rfl, ⟨by decide, by decide⟩, _, _, rfl, rfl, (by show (0 : Int) < 2; decide), rfl, _, rfl, ?_⟩
          rw [vint, decide_eq_true hz]
          refine iteT ?_
          have hn9 : nm ∈ (bx ++ [(nm, ("inbox" : Str))]).map (·.1) := by rw [List.map_append]; exact List.mem_append_right _ (List.mem_singleton.mpr rfl)
          refine ⟨_, rfl, _, rfl, _, rfl, _, rfl, _, rfl, x, so, n1, f1, m1, _, _, W, M, ns, W, M, 10, F7, wy, z, nm, rfl, l9.fo, by decide, l9.sm, hib, (fun _ h => h), (fun _ h => h), .inl ⟨hn9, hw⟩, fun G10 bx10 mk10 F10 fo10 lf10 kp10 sb10 => ⟨_, rfl, iteF ?_⟩⟩
          have l10 := l9.step fo10 kp10 sb10
          refine ⟨_, rfl, _, _, rfl, rfl, (by show (0 : Int) < 6; decide), rfl, _, rfl, ?_⟩
          rw [d6]
          refine iteF ?_
          by_cases h1 : wy = 1
          · subst h1
            refine int_yes rfl (iteT ?_)
            obtain ⟨vv, evv⟩ : ∃ vv, valV (putK kvs (Sum.inr nm) (.ref u2)) (Sum.inr nm) = some vv := Option.isSome_iff_exists.mp (by rw [own_some l10.keys]; exact decide_eq_true (List.mem_append_right _ (List.mem_singleton.mpr rfl)))
            refine ⟨_, rfl, E, rfl, .inl ⟨_, .inl l10.own⟩, _, rfl, _, Sum.inr nm, vv, l10.own, rfl, evv, ?_⟩
            have l11 := l10.own_to (H' := upd G10 E (.dK (dropK (putK kvs (Sum.inr nm) (.ref u2)) (Sum.inr nm)))) (ks' := (ks ++ [nm]).filter fun t => decide (t ≠ nm)) (fun c o ne e => by rw [upd_ne ne]; exact e) upd_same (own_drop l10.keys) (l10.nd.filter _) fun t ht => l10.sub t (List.mem_filter.mp ht).1
            have eq11 : Eqs bx10 ((ks ++ [nm]).filter fun t => decide (t ≠ nm)) := fun t => by
              rw [lf10 t, if_pos rfl, List.map_append, List.mem_append, List.mem_filter, decide_eq_true_eq, List.mem_append, eqs t]
              rfl
            exact ⟨_, _, _, _, _, _, _, _, bx10, mk10, F10, _, _, rfl, l11.nine eq11, eq11⟩
          · refine int_no (w := wy) rfl h1 (iteF ?_)
            have eq10 : Eqs bx10 (ks ++ [nm]) := fun t => by
              rw [lf10 t, if_neg h1, List.map_append, List.mem_append, List.mem_append, eqs t]
              constructor
              · exact .inl
              · rintro (h | h)
                · exact h
                · exact .inr (List.mem_singleton.mpr h)
            exact ⟨_, _, _, _, _, _, _, _, bx10, mk10, F10, _, _, rfl, l10.nine eq10, eq10⟩
        · rw [decide_eq_false hz]
          refine iteF ?_
          refine ⟨_, rfl, _, _, rfl, rfl, (by show (0 : Int) < 6; decide), rfl, _, rfl, ?_⟩
          rw [d6]
          refine iteF ⟨_, rfl, _, _, rfl, rfl, ⟨by decide, by decide⟩, _, _, rfl, rfl, (by show (0 : Int) < 2; decide), rfl, _, rfl, ?_⟩
          rw [vint, decide_eq_false hz]
          exact iteF ⟨_, _, _, _, _, _, _, _, bx, mk, F, kvs, ks, rfl, l6, eqs⟩
    refine ⟨_, rfl, _, rfl, E, _, rfl, DGet.k (k := Sum.inr nm) lw.own, _, rfl, _, _, rfl, rfl, (by show (0 : Int) < 6; decide), rfl, rfl, _, rfl, ?_⟩
    rw [own_some lw.keys, vint, vbl]
    by_cases hq : decide (nm ∈ ks) = decide (z % 8 % 6 = 0)
    · rw [decide_eq_true hq]
      exact iteF (rest _ _ (Same.refl _) (way_kept hq))
    · rw [decide_eq_false hq]
      refine iteT ⟨(by show 8 ≤ sizeLine; decide), fun u hu0 => ?_⟩
      have s2 : Same G1 (upd G1 u (.lst [.int 0, .int 6, .int 1, .int 2, .int 3, .int 4, .int 5, .int 7])) := Same.upd_new hu0
      have e2 : (upd G1 u (.lst [.int 0, .int 6, .int 1, .int 2, .int 3, .int 4, .int 5, .int 7])) u = some (.lst [.int 0, .int 6, .int 1, .int 2, .int 3, .int 4, .int 5, .int 7]) := upd_same
      generalize upd G1 u (.lst [.int 0, .int 6, .int 1, .int 2, .int 3, .int 4, .int 5, .int 7]) = G2 at s2 e2
      refine ⟨_, rfl, _, rfl, E, _, rfl, DGet.k (k := Sum.inr nm) (s2 _ _ lw.own), _, rfl, ?_⟩
      rw [own_some lw.keys]
      obtain ⟨wy, ew, hwy⟩ := way_new (decide (nm ∈ ks)) (z / 72)
      cases hd : decide (nm ∈ ks) with
      | true =>
        rw [hd, if_pos rfl] at ew
        exact iteT ⟨_, rfl, _, _, rfl, rfl, ⟨by decide, by decide⟩, _, _, rfl, rfl, (by show (0 : Int) < 2; decide), u, _, _, _, rfl, rfl, SqL.of e2, ew, rest _ _ s2 hwy⟩
      | false =>
        rw [hd, if_neg Bool.false_ne_true] at ew
        exact iteF ⟨_, rfl, _, _, rfl, rfl, ⟨by decide, by decide⟩, _, _, rfl, rfl, (by show (0 : Int) < 6; decide), _, _, rfl, rfl, u, _, _, _, rfl, rfl, SqL.of e2, ew, rest _ _ s2 hwy⟩
  · rintro σ G1 ⟨o5, o6, o7, o8, o9, o10, o11, o12, bx, mk, F, kvs, ks, rfl, lw, eqs⟩
    exact k _
end
section
variable {P : Program} {w : World} {K : PySem.W.Frag} {mg : Str → Option Value} {base : Heap} {a : Adr}
theorem pick_R {K : PySem.W.Frag} {σ : St} {H : Hp} {Q : VK} {s i : Nat} {D : Addr} {rs : List Int} {c m : Int} {j : Int} (h1 : σ[s]? = some (some (.ref D))) (hi : σ[i]? = some (some (.int j))) (hD : H D = some (.lst (rs.map V.int))) (h0 : 0 ≤ c + j) (hl : c + j < (rs.length : Int)) (hm : 0 < m) (q : ∀ z : Int, 0 ≤ z → z < m → Q (.int z) H) :
    tOp (rI (fun _ j => 0 < j) fun i j => .int (i % j)) (tOp (rIxL K) (tVar s) (tOp (rI0 fun i j => .int (i + j)) (tC (.int c)) (tVar i))) (tC (.int m)) σ H Q := by
  obtain ⟨v, hv, hvm, _⟩ := atI_some (xs := rs.map V.int) h0 (by rw [List.length_map]; exact hl)
  obtain ⟨r, _, rfl⟩ := List.mem_map.mp hvm
  exact ⟨_, h1, _, hi, _, _, rfl, rfl, D, _, _, _, rfl, rfl, SqL.of hD, hv, _, _, rfl, rfl, hm, q _ (Int.emod_nonneg _ (by omega)) (Int.emod_lt_of_pos _ hm)⟩
theorem ok_law {fd : FuncData} (F : Fun K "law" "law" slaw a.f_law fd) (T : Txt K mg a) (FF : Funs K a) : FnOk P w K mg base CX0 14 a.f_law fd ["_law_script"] (spLaw K) := by
  obtain ⟨fdR, F_l_row, b_l_row⟩ := FF.F_l_row
  obtain ⟨fdS, F_l_some, b_l_some⟩ := FF.F_l_some
  obtain ⟨fdI, F_ini, b_Folders_init⟩ := FF.F_Folders_init
  obtain ⟨fdD, F_l_does, b_l_does⟩ := FF.F_l_does
  obtain ⟨fdN, F_l_done, b_l_done⟩ := FF.F_l_done
  have G_l_row : FnOk P w K mg base CX0 1 a.f_l_row fdR ["_law_script", "_law_many"] (spRow K) := ok_row F_l_row T
  have G_l_some : FnOk P w K mg base CX0 2 a.f_l_some fdS ["_law_base"] spSome := ok_some F_l_some T FF
  have G_Folders_init : FnOk P w K mg base CX0 1 a.f_Folders_init fdI ["self"] (spFInit a) := ok_finit F_ini T
  have G_l_does : FnOk P w K mg base CX0 3 a.f_l_does fdD ["_law_folders", "_law_deed_here", "_law_defaults"] (spDoes a) := ok_does F_l_does T FF
  have G_l_done : FnOk P w K mg base CX0 2 a.f_l_done fdN ["_law_own", "_law_deed_here"] spDone := ok_done F_l_done T
  refine F.ok sc_law (fun vs H Q E h => ?_) (fun cdv A outer s H vs Q E0 hr h => ?_)
  · obtain ⟨x, ns, rfl, _⟩ := h; rfl
  · obtain ⟨q, ls, rfl, hS, hlen, k⟩ := h
    obtain ⟨t5, h5, sp5⟩ := blk5 (P := P) (w := w) (base := base) (outer := outer) (H := H) (E0 := E0) T FF hr k
    have hr_l_row : Room 1 _ := hr.mono (by decide)
    have hr_l_some : Room 2 _ := hr.mono (by decide)
    have hr_Folders_mk : Room 2 _ := hr.mono (by decide)
    have hr_l_does : Room 3 _ := hr.mono (by decide)
    have hr_l_done : Room 2 _ := hr.mono (by decide)
    have hu := hu_of hr
    refine ⟨_, (pss_cons (ps_set (i := 1) sc_law.nd rfl (Or.inl rfl) (pe_call G_l_row hr_l_row rfl T.m_l_row F_l_row.kp b_l_row .nil pass0 (pac (pv 0) (pac pe_int pa_nil))))
        (pss_cons (ps_set (i := 2) sc_law.nd rfl (Or.inl rfl) (pe_call G_l_some hr_l_some rfl T.m_l_some F_l_some.kp b_l_some .nil pass0 (pac (pe_ix ix_list (pv 1) pe_int (fun _ _ => rfl)) pa_nil)))
        (pss_cons (ps_set (i := 3) sc_law.nd rfl (Or.inl rfl) (pe_make0 T.k_Folders G_Folders_init hr_Folders_mk rfl T.mc_Folders b_Folders_init .nil pass0))
        (pss_cons (ps_set (i := 4) sc_law.nd rfl (Or.inl rfl) pe_dnewK)
        (pss_cons (ps_for PassesOwn.never rfl (pi_range1 rfl T.b_range (pac (pe_op op_mod (pe_ix ix_list (pv 1) pe_int (fun _ _ => rfl)) pe_int) pa_nil)) (pg_name (i := 5) sc_law.nd rfl (Or.inl rfl)) (pss_cons (ps_set (i := 6) sc_law.nd rfl (Or.inl rfl) (pe_tupS (pas_cons pe_str (pas_cons (pe_ix ix_list (pe_ix ix_list (pv 2) pe_int (fun _ _ => rfl)) (pe_op op_mod (pe_ix ix_list (pv 1) (pe_op op_add pe_int (pv 5)) (fun _ _ => rfl)) pe_int) (fun _ _ => rfl)) (pas_cons (pe_ix ix_list (pe_ix ix_list (pv 2) pe_int (fun _ _ => rfl)) (pe_op op_mod (pe_ix ix_list (pv 1) (pe_op op_add pe_int (pv 5)) (fun _ _ => rfl)) pe_int) (fun _ _ => rfl)) (pas_cons (pe_callTy call_tuple_of rfl T.b_tuple PyProof.Rows.boot_tuple (pac (pe_slice sl_list (pe_ix ix_list (pv 2) pe_int (fun _ _ => rfl)) po_none (po_some (pe_op op_mod (pe_ix ix_list (pv 1) (pe_op op_add pe_int (pv 5)) (fun _ _ => rfl)) pe_int))) pa_nil)) pas_nil))))))
        (pss_one (ps_if (pt_cmp (pc_dnotin hu (pe_ix ix_tup (pv 6) pe_int (fun _ _ => rfl)) (pv 4))) (pss_cons (ps_expr (pe_call G_l_does hr_l_does rfl T.m_l_does F_l_does.kp b_l_does .nil pass0 (pac (pv 3) (pac (pv 6) (pac pe_bl pa_nil)))))
        (pss_one (ps_expr (pe_call G_l_done hr_l_done rfl T.m_l_done F_l_done.kp b_l_done .nil pass0 (pac (pv 4) (pac (pv 6) pa_nil)))))) pss_nil))))
        h5))))), ?_⟩
    refine ⟨_, rfl, q, ls, 60, rfl, hS, by decide, fun D rs H1 hrl hrb s1 hD => ?_⟩
    obtain ⟨z0, e0, z00, z01⟩ := row_pick hrb 0 (by decide) (by omega)
    obtain ⟨z1, e1, z10, z11⟩ := row_pick hrb 1 (by decide) (by omega)
    refine ⟨_, rfl, D, _, _, _, rfl, rfl, SqL.of hD, e0, z0, rfl, z00, z01, fun so n1 f1 m1 ns W M H2 nl wl ml hns hW hM hse hib s2 hsp hn1 hf1 hm1 => ?_⟩
    intro x dx nx nd ne
    refine ⟨x, dx, (fun _ => []), W, M, rfl, (by omega), (by omega), upd_same, fun H3 F1 hs3 hf3 fo3 => ⟨rfl, ?_⟩⟩
    have s3 : Same H2 H3 := fun c o e => hs3 c o (ne_of_none e nx) (by rw [upd_ne (ne_of_none e nx), upd_ne (ne_of_none e nd)]; exact e)
    intro E hE
    have s4 : Same H3 (upd H3 E (.dK [])) := Same.upd_new hE
    have e4 : (upd H3 E (.dK [])) E = some (.dK []) := upd_same
    generalize upd H3 E (.dK []) = H4 at s4 e4
    have s24 := s3.trans s4
    have s04 := s1.trans (s2.trans s24)
    have aw : (∀ y ∈ ns, WordS y) ∧ (∀ y ∈ W, WordS y) ∧ ∀ y ∈ M, WordS y := ⟨hns, hW, hM⟩
    have l4 : LW K a H4 q D so n1 f1 m1 x E ls rs ns W M [] (fun _ => []) 9 F1 [] [] := ⟨s04.seq hS, s24 _ _ (s2 _ _ hD), ⟨s24 _ _ hsp, s24 _ _ hn1, s24 _ _ hf1, s24 _ _ hm1, nl, wl, ml⟩, (fo3.same s4).at (Nat.zero_le _), e4, rfl, List.nodup_nil, (fun _ h => nomatch h), fun h => by
      obtain ⟨_, e⟩ := fo3.kind h
      rw [hE] at e; cases e⟩
    have hb1 := Int.emod_nonneg z1 (b := 9) (by decide)
    have hb2 := Int.emod_lt_of_pos z1 (b := 9) (by decide)
    refine ⟨_, rfl, D, _, _, _, rfl, rfl, SqL.of l4.rw_, e1, _, _, rfl, rfl, (by show (0 : Int) < 9; decide), _, rfl, by omega, by omega, for_range (n := (z1 % 9).toNat) (fun i σ G1 => ∃ (o5 o6 : Option V) (bx : Rows) (mk : Str → List Str) (F : List Addr) (kvs : List (Key × V)) (ks : List Str), σ = [some (.ref q), some (.ref D), some (.ref so), some (.ref x), some (.ref E), o5, o6, none, none, none, none, none, none] ∧ LW K a G1 q D so n1 f1 m1 x E ls rs ns W M bx mk 9 F kvs ks ∧ Eqs bx ks)
      ⟨none, none, _, _, F1, _, _, rfl, l4, fun t => Iff.rfl⟩ ?_ ?_⟩
    · rintro i σ G1 hi ⟨o5, o6, bx, mk, F, kvs, ks, rfl, lw, eqs⟩
      refine pick_W (K := K) rfl lw.sm.so_ rfl lw.sm.n_ (fun Q' h => pick_R (K := K) rfl rfl lw.rw_ (by omega) (by omega) (by decide) fun y h1 h2 => h y h1 (by rw [lw.sm.nl]; exact h2)) fun nm hnm => ?_
      refine pick_W (K := K) rfl lw.sm.so_ rfl lw.sm.f_ (fun Q' h => pick_R (K := K) rfl rfl lw.rw_ (by omega) (by omega) (by decide) fun y h1 h2 => h y h1 (by rw [lw.sm.wl]; exact h2)) fun fo hfo => ?_
      refine ⟨_, rfl, so, _, _, _, rfl, rfl, SqL.of lw.sm.so_, rfl, pick_R (K := K) rfl rfl lw.rw_ (by omega) (by omega) (by decide) fun y h1 h2 => ?_⟩
      obtain ⟨ms, ems, hms, hml⟩ := cut_sub M none (some y)
      refine ⟨_, rfl, m1, _, rfl, SqL.of lw.sm.m_, fun p hp => ?_⟩
      have s5 : Same G1 (upd G1 p (.lst (cutV (M.map V.str) none (some y)))) := Same.upd_new hp
      refine ⟨p, cutV (M.map V.str) none (some y), rfl, .inl ⟨SqL.of upd_same, fun t ht => ?_⟩⟩
      have s6 : Same (upd G1 p (.lst (cutV (M.map V.str) none (some y)))) (upd (upd G1 p (.lst (cutV (M.map V.str) none (some y)))) t (.tup (cutV (M.map V.str) none (some y)))) := Same.upd_new ht
      have e6 : (upd (upd G1 p (.lst (cutV (M.map V.str) none (some y)))) t (.tup (cutV (M.map V.str) none (some y)))) t = some (.tup (ms.map V.str)) := by rw [upd_same, ems]
      refine ⟨(by show 4 ≤ sizeLine; decide), fun d hd => ?_⟩
      have s7 : Same (upd (upd G1 p (.lst (cutV (M.map V.str) none (some y)))) t (.tup (cutV (M.map V.str) none (some y)))) (upd (upd (upd G1 p (.lst (cutV (M.map V.str) none (some y)))) t (.tup (cutV (M.map V.str) none (some y)))) d (.tup [.str "add", .str nm, .str fo, .ref t])) := Same.upd_new hd
      have e7 : (upd (upd (upd G1 p (.lst (cutV (M.map V.str) none (some y)))) t (.tup (cutV (M.map V.str) none (some y)))) d (.tup [.str "add", .str nm, .str fo, .ref t])) d = some (.tup [.str "add", .str nm, .str fo, .ref t]) := upd_same
      have t7 := s7 _ _ e6
      have s17 := s5.trans (s6.trans s7)
      generalize (upd (upd (upd G1 p (.lst (cutV (M.map V.str) none (some y)))) t (.tup (cutV (M.map V.str) none (some y)))) d (.tup [.str "add", .str nm, .str fo, .ref t])) = G7 at e7 t7 s17
      have l7 := lw.same s17
      have ad7 : AddAt G7 d nm fo ms := ⟨t, e7, t7, by have := lw.sm.ml; omega⟩
      refine ⟨_, rfl, d, _, _, _, rfl, rfl, SqT.of e7, rfl, _, rfl, E, _, rfl, DGet.k (k := Sum.inr nm) l7.own, _, rfl, ?_⟩
      rw [own_some lw.keys]
      by_cases hin : nm ∈ ks
      · rw [decide_eq_true hin]
        exact iteF ⟨_, _, bx, mk, F, kvs, ks, rfl, l7, eqs⟩
      · rw [decide_eq_false hin]
        refine iteT ⟨_, rfl, _, rfl, x, d, bx, mk, W, M, 9, F, nm, fo, ms, rfl, l7.fo, by decide, ad7, up_none.mpr (fun z => hin ((eqs nm).mpr z)), hfo, hms, fun G8 F8 fo8 kp8 sb8 => ?_⟩
        have l8 := l7.step fo8 kp8 sb8
        have ad8 : AddAt G8 d nm fo ms := ⟨t, kp8 _ _ (l7.fo.other e7 fun _ z => nomatch z) e7, kp8 _ _ (l7.fo.other t7 fun _ z => nomatch z) t7, by have := lw.sm.ml; omega⟩
        have hln := own_len l8.keys
        have hl8 := l8.len
        refine ⟨_, rfl, _, rfl, E, d, nm, fo, ms, kvs, rfl, l8.own, by omega, ad8, fun G9 v k9 e9 => ?_⟩
        have l9 := l8.own_to (ks' := ks ++ [nm]) k9 e9 (own_put_new l8.keys _ hin) (snoc_nodup l8.nd hin) (fun t ht => (List.mem_append.mp ht).elim (l8.sub t) fun h => by rw [List.mem_singleton.mp h]; exact hnm)
        have eq9 : Eqs (bx ++ [(nm, fo)]) (ks ++ [nm]) := fun t => by rw [List.map_append, List.mem_append, List.mem_append, eqs t]; rfl
        exact ⟨_, _, _, _, _, _, _, rfl, l9.nine eq9, eq9⟩
    · rintro σ G1 ⟨o5, o6, bx, mk, F, kvs, ks, rfl, lw, eqs⟩
      exact sp5 G1 q D so n1 f1 m1 x E ls rs ns W M bx mk F kvs ks o5 o6 hlen hrl hrb hib aw lw eqs
end
/-- what the walk asks of the things behind the top -/
def obs (K : PySem.W.Frag) : List (Option (FuncData × Option (List Value)) × Bool) × Bool :=
  ([Hd.see K (Hd.gl K "_wall") "_wall",
    Hd.see K (Hd.gl K "check_there") "check_there",
    Hd.see K (Hd.gl K "check_new") "check_new",
    Hd.see K (Hd.gl K "_law_row") "_law_row",
    Hd.see K (Hd.gl K "_law_word") "_law_word",
    Hd.see K (Hd.gl K "_law_done") "_law_done",
    Hd.see K (Hd.gl K "_law_does") "_law_does",
    Hd.see K (Hd.gl K "_law_some") "_law_some",
    Hd.see K (Hd.gl K "_law_of_one_class") "_law_of_one_class",
    Hd.see K (Hd.gl K "_law_asked") "_law_asked",
    Hd.see K (Hd.gl K "_law_refused") "_law_refused",
    Hd.see K (Hd.gl K "_law_odd_refused") "_law_odd_refused",
    Hd.see K (Hd.gl K "_law_goes") "_law_goes",
    Hd.see K (Hd.gl K "_law_seen") "_law_seen",
    Hd.see K (Hd.gl K "law") "law",
    Hd.see K (PySem.W.findIn K (.ref (Hd.cl K "Folders")) "__init__") "Folders.__init__",
    Hd.see K (PySem.W.findIn K (.ref (Hd.cl K "Folders")) "add") "Folders.add",
    Hd.see K (PySem.W.findIn K (.ref (Hd.cl K "Folders")) "take_out") "Folders.take_out",
    Hd.see K (PySem.W.findIn K (.ref (Hd.cl K "Folders")) "put_in") "Folders.put_in",
    Hd.see K (PySem.W.findIn K (.ref (Hd.cl K "Folders")) "put_out") "Folders.put_out",
    Hd.see K (PySem.W.findIn K (.ref (Hd.cl K "Folders")) "place") "Folders.place",
    Hd.see K (PySem.W.findIn K (.ref (Hd.cl K "Folders")) "mark") "Folders.mark",
    Hd.see K (PySem.W.findIn K (.ref (Hd.cl K "Folders")) "unmark") "Folders.unmark",
    Hd.see K (PySem.W.findIn K (.ref (Hd.cl K "Folders")) "folder") "Folders.folder",
    Hd.see K (PySem.W.findIn K (.ref (Hd.cl K "Folders")) "marks") "Folders.marks",
    Hd.see K (PySem.W.findIn K (.ref (Hd.cl K "Folders")) "counts") "Folders.counts",
    Hd.see K (PySem.W.findIn K (.ref (Hd.cl K "Folders")) "marked") "Folders.marked",
    Hd.see K (PySem.W.findIn K (.ref (Hd.cl K "Folders")) "names") "Folders.names",
    Hd.see K (PySem.W.findIn K (.ref (Hd.cl K "Folders")) "folders") "Folders.folders"],
   [decide (Hd.gl K "Folders" = some (some (.ref (Hd.cl K "Folders")))),
    decide (Hd.gl K "MailError" = some (some (.ref (Hd.cl K "MailError")))),
    decide (Hd.gl K "NoName" = some (some (.ref (Hd.cl K "NoName")))),
    decide (Hd.gl K "NoWord" = some (some (.ref (Hd.cl K "NoWord")))),
    decide (Hd.gl K "NoLetter" = some (some (.ref (Hd.cl K "NoLetter")))),
    decide (Hd.gl K "NoRule" = some (some (.ref (Hd.cl K "NoRule")))),
    decide (Hd.gl K "NoParcel" = some (some (.ref (Hd.cl K "NoParcel")))),
    decide (Hd.gl K "NoRow" = some (some (.ref (Hd.cl K "NoRow")))),
    decide ((Hd.gl K "SEEN").map (Option.map Hd.bareV) = some (some (Hd.bv (.str "seen")))),
    PySem.W.plainGet K (Hd.cl K "Folders") Str.empty,
    PySem.W.hasDictIn K (Hd.cl K "Folders"),
    PySem.W.plainOver K (Hd.cl K "Folders"),
    decide (PySem.W.findIn K (.ref (Hd.cl K "Folders")) "__setattr__" = some (some (.builtin "object.__setattr__"))),
    PySem.W.keepIn K (.ref (Hd.cl K "Folders")),
    PySem.W.makesIn K (Hd.cl K "Folders"),
    decide (PySem.W.findIn K (.ref (Hd.cl K "Folders")) "boxes" = some none),
    decide (PySem.W.findIn K (.ref (Hd.cl K "Folders")) "tags" = some none),
    decide (PySem.W.findIn K (.ref (Hd.cl K "Folders")) "inside" = some none),
    PySem.W.excIn K (Hd.cl K "MailError") mroVE "ValueError.__new__",
    PySem.W.excIn K (Hd.cl K "NoName") mroVE "ValueError.__new__",
    decide (PySem.W.mroIn K (Hd.cl K "NoName") (.ref (Hd.cl K "MailError")) = some true),
    decide (PySem.W.specialIn K (.builtin "object.__class__") "__get__" = some (some (.builtin "getset_descriptor.__get__"))),
    decide (PySem.W.takesIn K (.builtin "object.__class__") = some true),
    decide (PySem.W.findIn K (.ref (Hd.cl K "NoName")) "__getattribute__" = some (some (.builtin "BaseException.__getattribute__"))),
    decide (PySem.W.findIn K (.ref (Hd.cl K "NoName")) "__getattr__" = some none),
    PySem.W.hasDictIn K (Hd.cl K "NoName"),
    decide (PySem.W.findIn K (.ref (Hd.cl K "NoName")) "__class__" = some (some (.builtin "object.__class__"))),
    decide (PySem.W.mroIn K (Hd.cl K "NoName") (.type "object") = some true),
    decide (PySem.W.mroIn K (Hd.cl K "NoName") (.type "BaseException") = some true),
    decide (PySem.W.kitOne K (.ref (Hd.cl K "NoName")) (.ref (Hd.cl K "NoWord")) = some false),
    decide (PySem.W.kitOne K (.ref (Hd.cl K "NoName")) (.ref (Hd.cl K "NoLetter")) = some false),
    decide (PySem.W.kitOne K (.ref (Hd.cl K "NoName")) (.ref (Hd.cl K "NoRule")) = some false),
    decide (PySem.W.kitOne K (.ref (Hd.cl K "NoName")) (.ref (Hd.cl K "NoName")) = some true),
    decide (PySem.W.kitOne K (.ref (Hd.cl K "NoName")) (.type "ValueError") = some true),
    decide (PySem.W.kitOne K (.ref (Hd.cl K "NoName")) (.ref (Hd.cl K "NoParcel")) = some false),
    decide (PySem.W.kitOne K (.ref (Hd.cl K "NoName")) (.ref (Hd.cl K "NoRow")) = some false),
    decide (Hd.gl K "len" = some none),
    decide (Hd.gl K "range" = some none),
    decide (Hd.gl K "isinstance" = some none),
    decide (Hd.gl K "str" = some none),
    decide (Hd.gl K "list" = some none),
    decide (Hd.gl K "tuple" = some none),
    decide (Hd.gl K "set" = some none),
    decide (Hd.gl K "min" = some none),
    decide (Hd.gl K "sorted" = some none),
    decide (Hd.gl K "ValueError" = some none)].all id)
def good : List (Option (FuncData × Option (List Value)) × Bool) × Bool :=
  ([(some (Hd.bareFn "_wall" "_wall" swall, none), true),
    (some (Hd.bareFn "check_there" "check_there" scheck_there, none), true),
    (some (Hd.bareFn "check_new" "check_new" scheck_new, none), true),
    (some (Hd.bareFn "_law_row" "_law_row" sl_row, none), true),
    (some (Hd.bareFn "_law_word" "_law_word" sl_word, none), true),
    (some (Hd.bareFn "_law_done" "_law_done" sl_done, none), true),
    (some (Hd.bareFn "_law_does" "_law_does" sl_does, none), true),
    (some (Hd.bareFn "_law_some" "_law_some" sl_some, none), true),
    (some (Hd.bareFn "_law_of_one_class" "_law_of_one_class" sl_of_one_class, none), true),
    (some (Hd.bareFn "_law_asked" "_law_asked" sl_asked, none), true),
    (some (Hd.bareFn "_law_refused" "_law_refused" sl_refused, none), true),
    (some (Hd.bareFn "_law_odd_refused" "_law_odd_refused" sl_odd_refused, none), true),
    (some (Hd.bareFn "_law_goes" "_law_goes" sl_goes, none), true),
    (some (Hd.bareFn "_law_seen" "_law_seen" sl_seen, none), true),
    (some (Hd.bareFn "law" "law" slaw, none), true),
    (some (Hd.bareFn "__init__" "Folders.__init__" sFolders_init, none), true),
    (some (Hd.bareFn "add" "Folders.add" sFolders_add, some [Hd.bv (.str "inbox"), Hd.bv (.non)]), true),
    (some (Hd.bareFn "take_out" "Folders.take_out" sFolders_take_out, none), true),
    (some (Hd.bareFn "put_in" "Folders.put_in" sFolders_put_in, none), true),
    (some (Hd.bareFn "put_out" "Folders.put_out" sFolders_put_out, none), true),
    (some (Hd.bareFn "place" "Folders.place" sFolders_place, none), true),
    (some (Hd.bareFn "mark" "Folders.mark" sFolders_mark, none), true),
    (some (Hd.bareFn "unmark" "Folders.unmark" sFolders_unmark, none), true),
    (some (Hd.bareFn "folder" "Folders.folder" sFolders_folder, none), true),
    (some (Hd.bareFn "marks" "Folders.marks" sFolders_marks, none), true),
    (some (Hd.bareFn "counts" "Folders.counts" sFolders_counts, none), true),
    (some (Hd.bareFn "marked" "Folders.marked" sFolders_marked, none), true),
    (some (Hd.bareFn "names" "Folders.names" sFolders_names, none), true),
    (some (Hd.bareFn "folders" "Folders.folders" sFolders_folders, none), true)], true)
theorem all_mk {l : PySem.W.OpenLaw} {w : World} {K : PySem.W.Frag} {h : Heap} {mg : Str → Option Value} {fa : Addr} (X : K.In h) (E : obs K = good) (G : h.Ns mainGlobals mg) (hfa : mg "law" = some (.ref fa)) :
    ∃ fd : FuncData, (∀ (s : Shared) (v : Value), BindsTo s fd ⟨[v], []⟩ [("_law_script", v)]) ∧ ∀ base : Heap, K.In base → base.Ns mainGlobals mg → FnOk l.prog w K mg base CX0 14 fa fd ["_law_script"] (spLaw K) := by
  have e1 := congrArg Prod.fst E
  have e2 := congrArg Prod.snd E
  obtain ⟨a1, k1, i1, _, F1⟩ := Hd.see_fun (st := swall) (Hd.eq_at e1 0 rfl rfl)
  have b1 := F1.binds (ps := ["k"]) fun _ _ _ _ _ _ => by refine us_1 ?_; intros; rfl
  obtain ⟨a2, k2, i2, _, F2⟩ := Hd.see_fun (st := scheck_there) (Hd.eq_at e1 1 rfl rfl)
  have b2 := F2.binds (ps := ["name", "there"]) fun _ _ _ _ _ _ => by refine us_2 ?_; intros; rfl
  obtain ⟨a3, k3, i3, _, F3⟩ := Hd.see_fun (st := scheck_new) (Hd.eq_at e1 2 rfl rfl)
  have b3 := F3.binds (ps := ["name", "there"]) fun _ _ _ _ _ _ => by refine us_2 ?_; intros; rfl
  obtain ⟨a4, k4, i4, _, F4⟩ := Hd.see_fun (st := sl_row) (Hd.eq_at e1 3 rfl rfl)
  have b4 := F4.binds (ps := ["_law_script", "_law_many"]) fun _ _ _ _ _ _ => by refine us_2 ?_; intros; rfl
  obtain ⟨a5, k5, i5, _, F5⟩ := Hd.see_fun (st := sl_word) (Hd.eq_at e1 4 rfl rfl)
  have b5 := F5.binds (ps := ["_law_base", "_law_turn"]) fun _ _ _ _ _ _ => by refine us_2 ?_; intros; rfl
  obtain ⟨a6, k6, i6, _, F6⟩ := Hd.see_fun (st := sl_done) (Hd.eq_at e1 5 rfl rfl)
  have b6 := F6.binds (ps := ["_law_own", "_law_deed_here"]) fun _ _ _ _ _ _ => by refine us_2 ?_; intros; rfl
  obtain ⟨a7, k7, i7, _, F7⟩ := Hd.see_fun (st := sl_does) (Hd.eq_at e1 6 rfl rfl)
  have b7 := F7.binds (ps := ["_law_folders", "_law_deed_here", "_law_defaults"]) fun _ _ _ _ _ _ => by refine us_3 ?_; intros; rfl
  obtain ⟨a8, k8, i8, _, F8⟩ := Hd.see_fun (st := sl_some) (Hd.eq_at e1 7 rfl rfl)
  have b8 := F8.binds (ps := ["_law_base"]) fun _ _ _ _ _ _ => by refine us_1 ?_; intros; rfl
  obtain ⟨a9, k9, i9, _, F9⟩ := Hd.see_fun (st := sl_of_one_class) (Hd.eq_at e1 8 rfl rfl)
  have b9 := F9.binds (ps := ["_law_e"]) fun _ _ _ _ _ _ => by refine us_1 ?_; intros; rfl
  obtain ⟨a10, k10, i10, _, F10⟩ := Hd.see_fun (st := sl_asked) (Hd.eq_at e1 9 rfl rfl)
  have b10 := F10.binds (ps := ["_law_folders", "_law_way", "_law_name", "_law_some_here", "_law_number"]) fun _ _ _ _ _ _ => by refine us_5 ?_; intros; rfl
  obtain ⟨a11, k11, i11, _, F11⟩ := Hd.see_fun (st := sl_refused) (Hd.eq_at e1 10 rfl rfl)
  have b11 := F11.binds (ps := ["_law_folders", "_law_way", "_law_name", "_law_some_here", "_law_number"]) fun _ _ _ _ _ _ => by refine us_5 ?_; intros; rfl
  obtain ⟨a12, k12, i12, _, F12⟩ := Hd.see_fun (st := sl_odd_refused) (Hd.eq_at e1 11 rfl rfl)
  have b12 := F12.binds (ps := ["_law_folders", "_law_some_here", "_law_number"]) fun _ _ _ _ _ _ => by refine us_3 ?_; intros; rfl
  obtain ⟨a13, k13, i13, _, F13⟩ := Hd.see_fun (st := sl_goes) (Hd.eq_at e1 12 rfl rfl)
  have b13 := F13.binds (ps := ["_law_folders", "_law_way", "_law_name", "_law_some_here", "_law_number"]) fun _ _ _ _ _ _ => by refine us_5 ?_; intros; rfl
  obtain ⟨a14, k14, i14, _, F14⟩ := Hd.see_fun (st := sl_seen) (Hd.eq_at e1 13 rfl rfl)
  have b14 := F14.binds (ps := ["_law_folders", "_law_own", "_law_some_here"]) fun _ _ _ _ _ _ => by refine us_3 ?_; intros; rfl
  obtain ⟨a15, k15, i15, _, F15⟩ := Hd.see_fun (st := slaw) (Hd.eq_at e1 14 rfl rfl)
  have b15 := F15.binds (ps := ["_law_script"]) fun _ _ _ _ _ _ => by refine us_1 ?_; intros; rfl
  obtain ⟨a16, k16, i16, _, F16⟩ := Hd.see_fun (st := sFolders_init) (Hd.eq_at e1 15 rfl rfl)
  have b16 := F16.binds (ps := ["self"]) fun _ _ _ _ _ _ => by refine us_1 ?_; intros; rfl
  obtain ⟨a17, k17, i17, D17, kV17, dc17, pm17, an17, cd17, ct17, o17, it17, Dn17, F17, t17, s17, m17⟩ := Hd.see_funD (st := sFolders_add) (Hd.eq_at e1 16 rfl rfl)
  obtain ⟨dv17_0, dv17_1, rfl, rd17_0, rd17_1⟩ := Hd.map2 m17
  have b17_0 : Binds K (PySem.W.fnOf "add" "Folders.add" (defArgs sFolders_add) (defBody sFolders_add) (defScope sFolders_add) (.ref D17) kV17 dc17 pm17 an17 cd17 ct17) ["self", "name", "folder", "marks"] [dv17_0, dv17_1] := fun s us X' hl => have hl' : us.length = 2 := (by simpa using hl); (by clear hl; revert hl'; revert us; refine us_2 ?_; intros; exact PySem.W.binds_K (fd := PySem.W.fnOf "add" "Folders.add" (defArgs sFolders_add) (defBody sFolders_add) (defScope sFolders_add) (.ref D17) kV17 dc17 pm17 an17 cd17 ct17) X' rfl t17 s17 rfl rfl)
  have b17_1 : Binds K (PySem.W.fnOf "add" "Folders.add" (defArgs sFolders_add) (defBody sFolders_add) (defScope sFolders_add) (.ref D17) kV17 dc17 pm17 an17 cd17 ct17) ["self", "name", "folder", "marks"] [dv17_1] := fun s us X' hl => have hl' : us.length = 3 := (by simpa using hl); (by clear hl; revert hl'; revert us; refine us_3 ?_; intros; exact PySem.W.binds_K (fd := PySem.W.fnOf "add" "Folders.add" (defArgs sFolders_add) (defBody sFolders_add) (defScope sFolders_add) (.ref D17) kV17 dc17 pm17 an17 cd17 ct17) X' rfl t17 s17 rfl rfl)
  have b17_2 : Binds K (PySem.W.fnOf "add" "Folders.add" (defArgs sFolders_add) (defBody sFolders_add) (defScope sFolders_add) (.ref D17) kV17 dc17 pm17 an17 cd17 ct17) ["self", "name", "folder", "marks"] [] := fun s us X' hl => have hl' : us.length = 4 := (by simpa using hl); (by clear hl; revert hl'; revert us; refine us_4 ?_; intros; exact PySem.W.binds_K (fd := PySem.W.fnOf "add" "Folders.add" (defArgs sFolders_add) (defBody sFolders_add) (defScope sFolders_add) (.ref D17) kV17 dc17 pm17 an17 cd17 ct17) X' rfl t17 s17 rfl rfl)
  obtain ⟨a18, k18, i18, _, F18⟩ := Hd.see_fun (st := sFolders_take_out) (Hd.eq_at e1 17 rfl rfl)
  have b18 := F18.binds (ps := ["self", "name"]) fun _ _ _ _ _ _ => by refine us_2 ?_; intros; rfl
  obtain ⟨a19, k19, i19, _, F19⟩ := Hd.see_fun (st := sFolders_put_in) (Hd.eq_at e1 18 rfl rfl)
  have b19 := F19.binds (ps := ["self", "name", "folder"]) fun _ _ _ _ _ _ => by refine us_3 ?_; intros; rfl
  obtain ⟨a20, k20, i20, _, F20⟩ := Hd.see_fun (st := sFolders_put_out) (Hd.eq_at e1 19 rfl rfl)
  have b20 := F20.binds (ps := ["self", "name"]) fun _ _ _ _ _ _ => by refine us_2 ?_; intros; rfl
  obtain ⟨a21, k21, i21, _, F21⟩ := Hd.see_fun (st := sFolders_place) (Hd.eq_at e1 20 rfl rfl)
  have b21 := F21.binds (ps := ["self", "name", "folder"]) fun _ _ _ _ _ _ => by refine us_3 ?_; intros; rfl
  obtain ⟨a22, k22, i22, _, F22⟩ := Hd.see_fun (st := sFolders_mark) (Hd.eq_at e1 21 rfl rfl)
  have b22 := F22.binds (ps := ["self", "name", "word"]) fun _ _ _ _ _ _ => by refine us_3 ?_; intros; rfl
  obtain ⟨a23, k23, i23, _, F23⟩ := Hd.see_fun (st := sFolders_unmark) (Hd.eq_at e1 22 rfl rfl)
  have b23 := F23.binds (ps := ["self", "name", "word"]) fun _ _ _ _ _ _ => by refine us_3 ?_; intros; rfl
  obtain ⟨a24, k24, i24, _, F24⟩ := Hd.see_fun (st := sFolders_folder) (Hd.eq_at e1 23 rfl rfl)
  have b24 := F24.binds (ps := ["self", "name"]) fun _ _ _ _ _ _ => by refine us_2 ?_; intros; rfl
  obtain ⟨a25, k25, i25, _, F25⟩ := Hd.see_fun (st := sFolders_marks) (Hd.eq_at e1 24 rfl rfl)
  have b25 := F25.binds (ps := ["self", "name"]) fun _ _ _ _ _ _ => by refine us_2 ?_; intros; rfl
  obtain ⟨a26, k26, i26, _, F26⟩ := Hd.see_fun (st := sFolders_counts) (Hd.eq_at e1 25 rfl rfl)
  have b26 := F26.binds (ps := ["self", "folder"]) fun _ _ _ _ _ _ => by refine us_2 ?_; intros; rfl
  obtain ⟨a27, k27, i27, _, F27⟩ := Hd.see_fun (st := sFolders_marked) (Hd.eq_at e1 26 rfl rfl)
  have b27 := F27.binds (ps := ["self", "folder", "word"]) fun _ _ _ _ _ _ => by refine us_3 ?_; intros; rfl
  obtain ⟨a28, k28, i28, _, F28⟩ := Hd.see_fun (st := sFolders_names) (Hd.eq_at e1 27 rfl rfl)
  have b28 := F28.binds (ps := ["self", "folder"]) fun _ _ _ _ _ _ => by refine us_2 ?_; intros; rfl
  obtain ⟨a29, k29, i29, _, F29⟩ := Hd.see_fun (st := sFolders_folders) (Hd.eq_at e1 28 rfl rfl)
  have b29 := F29.binds (ps := ["self"]) fun _ _ _ _ _ _ => by refine us_1 ?_; intros; rfl
  have e : Value.ref fa = .ref (Hd.adOf (Hd.gl K "law")) := Option.some.inj (hfa.symm.trans (PySem.W.mg_of X G a15))
  injection e with e
  subst e
  let A : Adr := { f_wall := Hd.adOf (Hd.gl K "_wall"), f_check_there := Hd.adOf (Hd.gl K "check_there"), f_check_new := Hd.adOf (Hd.gl K "check_new"), f_l_row := Hd.adOf (Hd.gl K "_law_row"), f_l_word := Hd.adOf (Hd.gl K "_law_word"), f_l_done := Hd.adOf (Hd.gl K "_law_done"), f_l_does := Hd.adOf (Hd.gl K "_law_does"), f_l_some := Hd.adOf (Hd.gl K "_law_some"), f_l_of_one_class := Hd.adOf (Hd.gl K "_law_of_one_class"), f_l_asked := Hd.adOf (Hd.gl K "_law_asked"), f_l_refused := Hd.adOf (Hd.gl K "_law_refused"), f_l_odd_refused := Hd.adOf (Hd.gl K "_law_odd_refused"), f_l_goes := Hd.adOf (Hd.gl K "_law_goes"), f_l_seen := Hd.adOf (Hd.gl K "_law_seen"), f_law := Hd.adOf (Hd.gl K "law"), f_Folders_init := Hd.adOf (PySem.W.findIn K (.ref (Hd.cl K "Folders")) "__init__"), f_Folders_add := Hd.adOf (PySem.W.findIn K (.ref (Hd.cl K "Folders")) "add"), f_Folders_take_out := Hd.adOf (PySem.W.findIn K (.ref (Hd.cl K "Folders")) "take_out"), f_Folders_put_in := Hd.adOf (PySem.W.findIn K (.ref (Hd.cl K "Folders")) "put_in"), f_Folders_put_out := Hd.adOf (PySem.W.findIn K (.ref (Hd.cl K "Folders")) "put_out"), f_Folders_place := Hd.adOf (PySem.W.findIn K (.ref (Hd.cl K "Folders")) "place"), f_Folders_mark := Hd.adOf (PySem.W.findIn K (.ref (Hd.cl K "Folders")) "mark"), f_Folders_unmark := Hd.adOf (PySem.W.findIn K (.ref (Hd.cl K "Folders")) "unmark"), f_Folders_folder := Hd.adOf (PySem.W.findIn K (.ref (Hd.cl K "Folders")) "folder"), f_Folders_marks := Hd.adOf (PySem.W.findIn K (.ref (Hd.cl K "Folders")) "marks"), f_Folders_counts := Hd.adOf (PySem.W.findIn K (.ref (Hd.cl K "Folders")) "counts"), f_Folders_marked := Hd.adOf (PySem.W.findIn K (.ref (Hd.cl K "Folders")) "marked"), f_Folders_names := Hd.adOf (PySem.W.findIn K (.ref (Hd.cl K "Folders")) "names"), f_Folders_folders := Hd.adOf (PySem.W.findIn K (.ref (Hd.cl K "Folders")) "folders"), C_Folders := Hd.cl K "Folders", C_MailError := Hd.cl K "MailError", C_NoName := Hd.cl K "NoName", C_NoWord := Hd.cl K "NoWord", C_NoLetter := Hd.cl K "NoLetter", C_NoRule := Hd.cl K "NoRule", C_NoParcel := Hd.cl K "NoParcel", C_NoRow := Hd.cl K "NoRow" }
  have T : Txt K mg A := ⟨PySem.W.mg_of X G a1,
    PySem.W.mg_of X G a2,
    PySem.W.mg_of X G a3,
    PySem.W.mg_of X G a4,
    PySem.W.mg_of X G a5,
    PySem.W.mg_of X G a6,
    PySem.W.mg_of X G a7,
    PySem.W.mg_of X G a8,
    PySem.W.mg_of X G a9,
    PySem.W.mg_of X G a10,
    PySem.W.mg_of X G a11,
    PySem.W.mg_of X G a12,
    PySem.W.mg_of X G a13,
    PySem.W.mg_of X G a14,
    PySem.W.mg_of X G a15,
    Hd.const_at X G (of_decide_eq_true (Hd.all_at e2 8 rfl)),
    PySem.W.mg_none_of X G (of_decide_eq_true (Hd.all_at e2 36 rfl)),
    PySem.W.mg_none_of X G (of_decide_eq_true (Hd.all_at e2 37 rfl)),
    PySem.W.mg_none_of X G (of_decide_eq_true (Hd.all_at e2 38 rfl)),
    PySem.W.mg_none_of X G (of_decide_eq_true (Hd.all_at e2 39 rfl)),
    PySem.W.mg_none_of X G (of_decide_eq_true (Hd.all_at e2 40 rfl)),
    PySem.W.mg_none_of X G (of_decide_eq_true (Hd.all_at e2 41 rfl)),
    PySem.W.mg_none_of X G (of_decide_eq_true (Hd.all_at e2 42 rfl)),
    PySem.W.mg_none_of X G (of_decide_eq_true (Hd.all_at e2 43 rfl)),
    PySem.W.mg_none_of X G (of_decide_eq_true (Hd.all_at e2 44 rfl)),
    PySem.W.mg_of X G (of_decide_eq_true (Hd.all_at e2 0 rfl)),
    ⟨(Hd.all_at e2 9 rfl), (Hd.all_at e2 10 rfl), (Hd.all_at e2 11 rfl), (of_decide_eq_true (Hd.all_at e2 12 rfl))⟩,
    ⟨(Hd.all_at e2 14 rfl), a16, i16, (Hd.all_at e2 13 rfl)⟩,
    ⟨a17, i17, k17⟩,
    ⟨a18, i18, k18⟩,
    ⟨a19, i19, k19⟩,
    ⟨a20, i20, k20⟩,
    ⟨a21, i21, k21⟩,
    ⟨a22, i22, k22⟩,
    ⟨a23, i23, k23⟩,
    ⟨a24, i24, k24⟩,
    ⟨a25, i25, k25⟩,
    ⟨a26, i26, k26⟩,
    ⟨a27, i27, k27⟩,
    ⟨a28, i28, k28⟩,
    ⟨a29, i29, k29⟩,
    (Hd.no_at (Hd.all_at e2 15 rfl)),
    (Hd.no_at (Hd.all_at e2 16 rfl)),
    (Hd.no_at (Hd.all_at e2 17 rfl)),
    PySem.W.mg_of X G (of_decide_eq_true (Hd.all_at e2 1 rfl)),
    ⟨(Hd.all_at e2 18 rfl)⟩,
    PySem.W.mg_of X G (of_decide_eq_true (Hd.all_at e2 2 rfl)),
    ⟨(Hd.all_at e2 19 rfl)⟩,
    mro_of (of_decide_eq_true (Hd.all_at e2 20 rfl)),
    PySem.W.mg_of X G (of_decide_eq_true (Hd.all_at e2 3 rfl)),
    PySem.W.mg_of X G (of_decide_eq_true (Hd.all_at e2 4 rfl)),
    PySem.W.mg_of X G (of_decide_eq_true (Hd.all_at e2 5 rfl)),
    PySem.W.mg_of X G (of_decide_eq_true (Hd.all_at e2 6 rfl)),
    PySem.W.mg_of X G (of_decide_eq_true (Hd.all_at e2 7 rfl)),
    ⟨(of_decide_eq_true (Hd.all_at e2 23 rfl)), (of_decide_eq_true (Hd.all_at e2 24 rfl)), (Hd.all_at e2 25 rfl), (of_decide_eq_true (Hd.all_at e2 26 rfl)), (of_decide_eq_true (Hd.all_at e2 21 rfl)), (of_decide_eq_true (Hd.all_at e2 22 rfl)), (of_decide_eq_true (Hd.all_at e2 27 rfl)), (of_decide_eq_true (Hd.all_at e2 28 rfl))⟩,
    (of_decide_eq_true (Hd.all_at e2 29 rfl)),
    (of_decide_eq_true (Hd.all_at e2 30 rfl)),
    (of_decide_eq_true (Hd.all_at e2 31 rfl)),
    (of_decide_eq_true (Hd.all_at e2 32 rfl)),
    (of_decide_eq_true (Hd.all_at e2 33 rfl)),
    (of_decide_eq_true (Hd.all_at e2 34 rfl)),
    (of_decide_eq_true (Hd.all_at e2 35 rfl)),
    PySem.W.mg_none_of X G (of_decide_eq_true (Hd.all_at e2 45 rfl)),
    trivial⟩
  have FF : Funs K A := ⟨⟨_, F1, b1⟩, ⟨_, F2, b2⟩, ⟨_, F3, b3⟩, ⟨_, F4, b4⟩, ⟨_, F5, b5⟩, ⟨_, F6, b6⟩, ⟨_, F7, b7⟩, ⟨_, F8, b8⟩, ⟨_, F9, b9⟩, ⟨_, F10, b10⟩, ⟨_, F11, b11⟩, ⟨_, F12, b12⟩, ⟨_, F13, b13⟩, ⟨_, F14, b14⟩, ⟨_, F15, b15⟩, ⟨_, F16, b16⟩, ⟨_, F17, b17_2, ⟨_, (.cons (Hd.bare_rel rd17_0) (.cons (Hd.bare_rel rd17_1) .nil)), b17_0⟩, ⟨_, (.cons (Hd.bare_rel rd17_1) .nil), b17_1⟩⟩, ⟨_, F18, b18⟩, ⟨_, F19, b19⟩, ⟨_, F20, b20⟩, ⟨_, F21, b21⟩, ⟨_, F22, b22⟩, ⟨_, F23, b23⟩, ⟨_, F24, b24⟩, ⟨_, F25, b25⟩, ⟨_, F26, b26⟩, ⟨_, F27, b27⟩, ⟨_, F28, b28⟩, ⟨_, F29, b29⟩⟩
  obtain ⟨_, _, kV, doc, pm, an, cdv, ct, _, rfl, _, _⟩ := F15.ex
  exact ⟨_, fun s v => .of_eq rfl, fun base _ _ => ok_law F15 T FF⟩
abbrev PP : Program := PySem.Challenge.pw_mailroom_k32_folders_refused
def loose : List Str := (["_wall", "MailError", "NoWord", "NoLetter", "NoRule", "NoName", "NoParcel", "NoRow", "check_there", "check_new", "SEEN", "Folders", "_law_row", "_law_word", "_law_plain", "_law_done", "_law_does", "_law_deed", "_law_some", "_law_of_one_class", "_law_asked", "_law_refused", "_law_odd_refused", "_law_goes", "_law_seen"] : List String).map Str.ofString
theorem seen (w : World) (os : OsState) : (Hd.runT (Hd.stepQ Hd.denQ PP w) (Hd.okQ 11 (some (.ref 6))) 12000 (Hd.S0 w os) (PySem.W.topStub PP)).map (fun s => (Hd.chk PP w.params s.abs, Hd.seenQ (PySem.W.view PP [29]) loose (PySem.importedModules PP.main.body) (fun s => PySem.W.recOk [] s) true s.abs, obs (Hd.fragT s))) = some (true, PySem.W.openGood (PySem.W.view PP [29]) loose, good) := by kernel_rfl
theorem look : PySem.W.Fast.tw9446332074065402090 PySem.Challenge.rw_mailroom_k32_folders_refused = true := by kernel_rfl
theorem opens : PySem.W.opening PP = PySem.W.plainProg PP.main.scope.names := by kernel_rfl
theorem fence (s : Shared) : fenceModules? PP s = some s := by kernel_rfl
end K32
open PySem PySem.W PyProof.Rows
set_option maxRecDepth 100000 in
set_option maxHeartbeats 0 in
theorem PySem.Challenge.cw_mailroom_k32_folders_refused_holds : PySem.Challenge.rw_mailroom_k32_folders_refused.Holds := by
  refine Hd.close (q := view K32.PP [29]) (loose := K32.loose) (N := 12000) (obs := K32.obs) (good := K32.good) K32.look K32.opens rfl K32.fence K32.seen rfl rfl rfl rfl (by decide +kernel) ⟨rfl, rfl, rfl, rfl, rfl, by decide +kernel⟩ ?hw ?hc
  case hw => w_witness2
  case hc => exact Hd.walk (n := 63) (k := 14) (x := "_law_script") (sp := K32.spLaw) rfl (by decide) rfl ⟨rfl, by decide, by decide, rfl⟩ (fun w K mg fa h KX y G hmg => K32.all_mk KX y G hmg) (fun _ _ a ns hl _ hS => ⟨a, ns, rfl, hS, hl, fun _ => rfl⟩)
#print axioms PySem.Challenge.cw_mailroom_k32_folders_refused_holds
