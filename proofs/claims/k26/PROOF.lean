import PyProof.Rows.All
import Wide.All
import OpenK.AllK
import Wide.FinOn
import Lean
import PyProof.EqAt
import PyProof.EqKinds
import PyProof.TupleCall
import PyProof.P3In
import KE.KDictLaws
import PyProof.Rows.SetFrom
import KE.KRevSl
import KE.KIntText
import KE.KLcPair
import KE.KIsAll
import PyProof.ExcArgsOwn
import PyProof.ExcAttrAll.ValueError
import PyProof.NsDelKeeps
import PyProof.Rows.CountFlat
import KE.RegKIsAll
import PyProof.WalksMore
import PySem.Challenge.RW_mailroom_k26_whole_any_order
noncomputable section
set_option Elab.async false
set_option linter.all false
set_option maxRecDepth 100000
namespace L2
open PySem PySem.Spec PyProof.Rows
/-- a key: an int or a str -/
abbrev Key := Sum Int Str
def keyIs : Key → Value → Bool
  | .inl k, v => Value.isInt k v
  | .inr x, v => Value.isStrOf x v
def keyH (w : World) : Key → Int
  | .inl k => hashInt k
  | .inr x => hashStr w x
theorem keyIs_shape : ∀ {k : Key} {v : Value}, keyIs k v = true → (∃ i t, k = Sum.inl i ∧ v = Value.int i t) ∨ (∃ x t, k = Sum.inr x ∧ v = Value.str x t)
  | .inl i, v, h => by
    obtain ⟨t, e⟩ := Value.isInt_shape (k := i) (v := v) h
    exact .inl ⟨i, t, rfl, e⟩
  | .inr x, v, h => by
    obtain ⟨t, e⟩ := Value.isStrOf_shape (x := x) (v := v) h
    exact .inr ⟨x, t, rfl, e⟩
theorem keyIs_int (i : Int) (t : Tok) : keyIs (.inl i) (.int i t) = true := by simp [keyIs, Value.isInt]
theorem keyIs_str (x : Str) (t : Tok) : keyIs (.inr x) (.str x t) = true := by simp [keyIs, Value.isStrOf]
theorem key_ll (a b : Int) : decide ((Sum.inl a : Key) = Sum.inl b) = (a == b) := by
  by_cases e : a = b
  · subst e; simp
  · have h : ¬ (Sum.inl a : Key) = Sum.inl b := fun q => e (Sum.inl.inj q)
    rw [decide_eq_false h]
    exact (beq_eq_false_iff_ne.mpr e).symm
theorem key_rr (a b : Str) : decide ((Sum.inr a : Key) = Sum.inr b) = decide (a = b) := by
  by_cases e : a = b
  · subst e; simp
  · have h : ¬ (Sum.inr a : Key) = Sum.inr b := fun q => e (Sum.inr.inj q)
    rw [decide_eq_false h, decide_eq_false e]
theorem key_lr (a : Int) (b : Str) : decide ((Sum.inl a : Key) = Sum.inr b) = false := decide_eq_false (fun q => nomatch q)
theorem key_rl (a : Str) (b : Int) : decide ((Sum.inr a : Key) = Sum.inl b) = false := decide_eq_false (fun q => nomatch q)
def mixKind (prog : Program) (w : World) : PySem.KeyKind prog w Key where
  is := keyIs
  hash := keyH w
  inj := fun v a b ha hb => by
    rcases keyIs_shape ha with ⟨i, t, rfl, rfl⟩ | ⟨x, t, rfl, rfl⟩
    · rcases keyIs_shape hb with ⟨j, u, rfl, e⟩ | ⟨y, u, rfl, e⟩
      · injection e with e1 _; rw [e1]
      · exact nomatch e
    · rcases keyIs_shape hb with ⟨j, u, rfl, e⟩ | ⟨y, u, rfl, e⟩
      · exact nomatch e
      · injection e with e1 _; rw [e1]
  byValue := fun k v h => by
    rcases keyIs_shape h with ⟨i, t, rfl, rfl⟩ | ⟨x, t, rfl, rfl⟩ <;> rfl
  pyHash := fun hv h => by
    rcases keyIs_shape hv with ⟨i, t, rfl, rfl⟩ | ⟨x, t, rfl, rfl⟩
    · exact wpAny_pyHash_int h
    · exact wpAny_pyHash_str h
  eqBool := fun hu hv h => by
    rcases keyIs_shape hu with ⟨i, t, rfl, rfl⟩ | ⟨x, t, rfl, rfl⟩
    · rcases keyIs_shape hv with ⟨j, u, rfl, rfl⟩ | ⟨y, u, rfl, rfl⟩
      · rw [key_ll] at h; exact wpAny_eqBool_int h
      · rw [key_lr] at h; exact SeqAt.EqAt.int_str i t y u _ _ _ _ h
    · rcases keyIs_shape hv with ⟨j, u, rfl, rfl⟩ | ⟨y, u, rfl, rfl⟩
      · rw [key_rl] at h; exact SeqAt.EqAt.str_int x t j u _ _ _ _ h
      · rw [key_rr] at h; exact wpAny_eqBool_str h
  «strs» := fun k x t v h => by
    rcases keyIs_shape h with ⟨i, u, rfl, e⟩ | ⟨y, u, rfl, e⟩
    · exact nomatch e
    · injection e with e1 _
      subst e1
      cases v <;> rfl
theorem mixKind_int (prog : Program) (w : World) (i : Int) (t : Tok) : (mixKind prog w).is (.inl i) (.int i t) = true := keyIs_int i t
theorem mixKind_str (prog : Program) (w : World) (x : Str) (t : Tok) : (mixKind prog w).is (.inr x) (.str x t) = true := keyIs_str x t
end L2
namespace L2
open PySem PySem.Spec PyProof.Rows
/-- a value, without the heap -/
inductive V where
  | non | bl (b : Bool) | int (i : Int) | str (x : Str) | byt (b : Array UInt8) | flt (b : UInt64) | ref (a : Addr) | ty (n : String)
  deriving DecidableEq
def RelV : V → Value → Prop
  | .non, u => u = Value.none
  | .bl b, u => u = Value.bool b
  | .int i, u => ∃ t, u = Value.int i t
  | .str x, u => ∃ t, u = Value.str x t
  | .byt b, u => ∃ t, u = Value.bytes b t
  | .flt b, u => ∃ t, u = Value.float b t
  | .ref a, u => u = Value.ref a
  | .ty n, u => u = Value.type n
abbrev Vals : List V → List Value → Prop := Paired RelV
theorem Vals.length {xs : List V} {us : List Value} (r : Vals xs us) : xs.length = us.length := Paired.length r
theorem Vals.get : ∀ {xs : List V} {us : List Value} {i : Nat} {x : V}, Vals xs us → xs[i]? = some x → ∃ u, us[i]? = some u ∧ RelV x u
  | _, _, _, _, .nil, e => by simp at e
  | _, _, 0, _, .cons r _, e => by simp at e; subst e; exact ⟨_, rfl, r⟩
  | _, _, i + 1, x, .cons _ t, e => by
    obtain ⟨u, h1, h2⟩ := Vals.get (i := i) (x := x) t (by simpa using e)
    exact ⟨u, by simpa using h1, h2⟩
theorem Vals.set {x : V} {u : Value} (r : RelV x u) : ∀ {xs : List V} {us : List Value} (i : Nat), Vals xs us → Vals (xs.set i x) (us.set i u)
  | _, _, _, .nil => .nil
  | _, _, 0, .cons _ t => .cons r t
  | _, _, i + 1, .cons q t => .cons q (Vals.set r i t)
theorem Vals.append : ∀ {xs ys : List V} {us ws : List Value}, Vals xs us → Vals ys ws → Vals (xs ++ ys) (us ++ ws)
  | _, _, _, _, .nil, s => s
  | _, _, _, _, .cons r t, s => .cons r (Vals.append t s)
theorem Vals.take : ∀ {xs : List V} {us : List Value} (n : Nat), Vals xs us → Vals (xs.take n) (us.take n)
  | _, _, 0, _ => .nil
  | _, _, _ + 1, .nil => .nil
  | _, _, n + 1, .cons r t => .cons r (Vals.take n t)
theorem Vals.drop : ∀ {xs : List V} {us : List Value} (n : Nat), Vals xs us → Vals (xs.drop n) (us.drop n)
  | _, _, 0, r => r
  | _, _, _ + 1, .nil => .nil
  | _, _, n + 1, .cons _ t => Vals.drop n t
theorem Vals.none_of : ∀ {xs : List V} {us : List Value} {i : Nat}, Vals xs us → xs[i]? = none → us[i]? = none := fun {xs us i} r e => by
  have h1 := r.length
  have h2 : xs.length ≤ i := List.getElem?_eq_none_iff.mp e
  exact List.getElem?_eq_none_iff.mpr (by omega)
def RelO : Option V → Option Value → Prop
  | some v, some u => RelV v u
  | none, none => True
  | _, _ => False
def KV {κ : Type} : List (κ × V) → List (κ × Value) → Prop := Paired fun (p : κ × V) (q : κ × Value) => p.1 = q.1 ∧ RelV p.2 q.2
/-- a key of a dict (00_mix): an int or a text -/
def kV : Key → V
  | .inl i => .int i
  | .inr x => .str x
/-- what stands at a tracked address -/
inductive HO where
  /-- a list -/
  | lst (xs : List V)
  /-- a tuple (never changes) -/
  | tup (xs : List V)
  /-- a dict whose keys are ints and texts; one whose keys are tuples of ints and texts (the empty one is both) -/
  | dK (kvs : List (Key × V)) | dT (kvs : List (List Key × V))
  /-- a set of ints: its members, its size -/
  | set (S : Int → Bool) (n : Nat)
  /-- an instance of the class at C, its dict at dx, its attributes -/
  | ins (C dx : Addr) (fs : List (Str × V))
  /-- the dict of the instance at x -/
  | own (x : Addr)
  /-- the dict of an exception -/
  | xd (fs : List (Str × V))
  /-- a bound method, f of x -/
  | met (f x : Addr)
  /-- a range object lo, lo + 1, .. below hi -/
  | rng (lo hi : Int)
  /-- a thing that is known to the object (the script; a dict while a loop walks it): read, never written while it is so -/
  | frz (o : Obj) (u : HO)
  /-- a code object's table -/
  | tbl (ps : Array Value)
  /-- any other thing, by what is true of its one object (a def of one's own: SetO a S n := HO.ext fun h => ..) -/
  | ext (φ : Heap → Prop)
abbrev Hp := Addr → Option HO
def upd (H : Hp) (a : Addr) (o : HO) : Hp := fun b => if b = a then some o else H b
theorem upd_same {H : Hp} {a : Addr} {o : HO} : upd H a o a = some o := by unfold upd; rw [if_pos rfl]
theorem upd_ne {H : Hp} {a b : Addr} {o : HO} (h : b ≠ a) : upd H a o b = H b := by unfold upd; rw [if_neg h]
theorem upd_upd {H : Hp} {a : Addr} {o u : HO} : upd (upd H a o) a u = upd H a u := by
  funext b; unfold upd; split <;> rfl
/-- two objects of different content stand apart -/
theorem ne_of {H : Hp} {a b : Addr} {o u : HO} (h : H a = some o) (h' : H b = some u) (d : o ≠ u) : a ≠ b := by
  intro e; subst e; rw [h] at h'; exact d (Option.some.inj h')
theorem ne_of_none {H : Hp} {a b : Addr} {o : HO} (h : H a = some o) (h' : H b = none) : a ≠ b := by
  intro e; subst e; rw [h] at h'; cases h'
section
variable (P : Program) (w : World)
def ObjOk (H : Hp) (h : Heap) (a : Addr) : HO → Prop
  | .lst xs => xs.length ≤ sizeLine ∧ ∃ (its : List Value) (n : Nat), Vals xs its ∧ h.get? a = some { cls := .type "list", data := .seq its.toArray n }
  | .tup xs => xs.length ≤ sizeLine ∧ ∃ its : List Value, Vals xs its ∧ IsTup h a its.toArray
  | .dK kvs => kvs.length ≤ sizeLine ∧ (a == sysModules) = false ∧ ∃ vs, KV kvs vs ∧ h.DictOf (mixKind P w) a vs
  | .dT kvs => kvs.length ≤ sizeLine ∧ (a == sysModules) = false ∧ ∃ xs : List (List Key × Addr × Value),
      Paired (fun (p : List Key × V) (q : List Key × Addr × Value) => p.1 = q.1 ∧ H q.2.1 = some (.tup (p.1.map kV)) ∧ RelV p.2 q.2.2) kvs xs ∧
      ∃ o es ep, h.get? a = some o ∧ o.ExactDict ∧ o.data = .dict es ep ∧ es.toList = xs.map (entryOfKey (tupleKind (mixKind P w))) ∧ (xs.map (·.1)).Nodup
  | .set S n => h.SetOf (intKind P w) a S n
  | .ins C dx fs => H dx = some (.own a) ∧ fs.length ≤ 1000 ∧ dx ≠ a ∧ h.get? a = some (PySem.W.instObj C dx) ∧
      ∃ mA, h.Ns1 dx mA ∧ (∀ f, RelO (fs.lookup f) (mA f)) ∧ PySem.Within mA (fs.map (·.1))
  | .own _ => ∃ o, h.get? a = some o
  | .xd fs => ∃ mA, h.Ns1 a mA ∧ ∀ f, RelO (fs.lookup f) (mA f)
  | .rng lo hi => ∃ t u v, h.get? a = some { cls := .type "range", data := .fields #[.int lo t, .int hi u, .int 1 v] }
  | .frz o u => h.get? a = some o ∧ ObjOk H h a u
  | .tbl ps => h.get? a = some { cls := .none, data := .fields ps }
  | .met f x => h.get? a = some (PySem.W.methodObj (.ref f) (.ref x))
  | .ext φ => φ h ∧ (∃ o, h.get? a = some o) ∧ ∀ h1 h2 : Heap, φ h1 → (∀ o, h1.get? a = some o → h2.get? a = some o) → φ h2
/-- the abstract heap is held -/
def HOk (H : Hp) (h : Heap) : Prop := ∀ a o, H a = some o → ObjOk P w H h a o
end
section
variable {P : Program} {w : World} {H H' : Hp} {h h' : Heap} {a : Addr} {o : HO}
theorem ObjOk.lt (x : ObjOk P w H h a o) : a < h.objs.size := by
  cases o with
  | lst xs => obtain ⟨_, _, _, _, e⟩ := x; exact Heap.lt_size e
  | tup xs => obtain ⟨_, _, _, p⟩ := x; exact p.lt
  | dK kvs => obtain ⟨_, _, _, _, o, _, _, e, _⟩ := x; exact Heap.lt_size e
  | dT kvs => obtain ⟨_, _, _, _, o, _, _, e, _⟩ := x; exact Heap.lt_size e
  | set S n => obtain ⟨o, _, _, _, e, _⟩ := x; exact Heap.lt_size e
  | ins C dx fs => obtain ⟨_, _, _, e, _⟩ := x; exact Heap.lt_size e
  | own y => obtain ⟨_, e⟩ := x; exact Heap.lt_size e
  | xd fs => obtain ⟨_, ⟨_, _, _, e, _⟩, _⟩ := x; exact Heap.lt_size e
  | rng lo hi => obtain ⟨_, _, _, e⟩ := x; exact Heap.lt_size e
  | frz ob u => obtain ⟨e, _⟩ := x; exact Heap.lt_size e
  | tbl ps => exact Heap.lt_size (show h.get? a = some _ from x)
  | met f y => exact Heap.lt_size (show h.get? a = some _ from x)
  | ext φ => obtain ⟨_, ⟨_, e⟩, _⟩ := x; exact Heap.lt_size e
theorem Paired.mapP {α β : Type} {F G : α → β → Prop} : ∀ {l₁ : List α} {l₂ : List β}, Paired F l₁ l₂ → (∀ a b, F a b → G a b) → Paired G l₁ l₂
  | _, _, .nil, _ => .nil
  | _, _, .cons r t, f => .cons (f _ _ r) (Paired.mapP t f)
/-- what an object's description leans on: its own object, its own dict, the tuples -/
theorem ObjOk.stay (x : ObjOk P w H h a o) (k : ∀ b u, (b = a ∨ H b = some (.own a)) → h.get? b = some u → h'.get? b = some u)
    (ho : ∀ b, H b = some (.own a) → H' b = some (.own a)) (ht : ∀ b xs, H b = some (.tup xs) → H' b = some (.tup xs)) : ObjOk P w H' h' a o := by
  induction o with
  | lst xs => obtain ⟨z, its, n, r, e⟩ := x; exact ⟨z, its, n, r, k _ _ (.inl rfl) e⟩
  | tup xs => obtain ⟨z, its, r, ob, e, c⟩ := x; exact ⟨z, its, r, ob, k _ _ (.inl rfl) e, c⟩
  | dK kvs => obtain ⟨z, y, vs, r, ob, es, ep, e, c⟩ := x; exact ⟨z, y, vs, r, ob, es, ep, k _ _ (.inl rfl) e, c⟩
  | dT kvs =>
    obtain ⟨z, y, xs, r, ob, es, ep, e, c⟩ := x
    exact ⟨z, y, xs, Paired.mapP r fun p q z => ⟨z.1, ht _ _ z.2.1, z.2.2⟩, ob, es, ep, k _ _ (.inl rfl) e, c⟩
  | set S n => obtain ⟨ob, es, ep, t, e, c⟩ := x; exact ⟨ob, es, ep, t, k _ _ (.inl rfl) e, c⟩
  | ins C dx fs =>
    obtain ⟨d, z, ne, e, mA, ⟨od, es, ep, e2, c⟩, r⟩ := x
    exact ⟨ho _ d, z, ne, k _ _ (.inl rfl) e, mA, ⟨od, es, ep, k _ _ (.inr d) e2, c⟩, r⟩
  | own y => obtain ⟨ob, e⟩ := x; exact ⟨ob, k _ _ (.inl rfl) e⟩
  | xd fs => obtain ⟨mA, ⟨od, es, ep, e, c⟩, r⟩ := x; exact ⟨mA, ⟨od, es, ep, k _ _ (.inl rfl) e, c⟩, r⟩
  | rng lo hi => obtain ⟨t, u, v, e⟩ := x; exact ⟨t, u, v, k _ _ (.inl rfl) e⟩
  | frz ob u ih => obtain ⟨e, q⟩ := x; exact ⟨k _ _ (.inl rfl) e, ih q⟩
  | tbl ps =>
    have e : h.get? a = some { cls := .none, data := .fields ps } := x
    show h'.get? a = some { cls := .none, data := .fields ps }
    exact k a _ (.inl rfl) e
  | met f y =>
    have e : h.get? a = some (PySem.W.methodObj (.ref f) (.ref y)) := x
    show h'.get? a = some (PySem.W.methodObj (.ref f) (.ref y))
    exact k a _ (.inl rfl) e
  | ext φ => obtain ⟨p, ⟨o, e⟩, st⟩ := x; exact ⟨st _ _ p fun o q => k _ _ (.inl rfl) q, ⟨o, k _ _ (.inl rfl) e⟩, st⟩
theorem HOk.lt (x : HOk P w H h) (e : H a = some o) : a < h.objs.size := (x a o e).lt
theorem HOk.fresh (x : HOk P w H h) (e : h.objs.size ≤ a) : H a = none := by
  cases q : H a with
  | none => rfl
  | some u => exact absurd (Nat.lt_of_lt_of_le (x.lt q) e) (Nat.lt_irrefl _)
/-- every object of the heap is kept -/
theorem HOk.kept (x : HOk P w H h) (k : ∀ b u, h.get? b = some u → h'.get? b = some u) : HOk P w H h' := fun a o e =>
  (x a o e).stay (fun b u _ q => k b u q) (fun _ q => q) fun _ _ q => q
/-- a new object is laid and tracked -/
theorem HOk.laid (x : HOk P w H h) (k : ∀ b u, h.get? b = some u → h'.get? b = some u) (hp : h.objs.size ≤ a) (new : ObjOk P w (upd H a o) h' a o) : HOk P w (upd H a o) h' := fun b u e => by
  have hn := x.fresh hp
  by_cases hb : b = a
  · subst hb; rw [upd_same] at e; cases e; exact new
  · rw [upd_ne hb] at e
    exact (x b u e).stay (fun c v _ q => k c v q) (fun c q => by rw [upd_ne (ne_of_none q hn)]; exact q) fun c xs q => by rw [upd_ne (ne_of_none q hn)]; exact q
end
/-- what may be read as u: it is u, or a known u -/
def Rd (H : Hp) (a : Addr) (u : HO) : Prop := H a = some u ∨ ∃ o, H a = some (.frz o u)
theorem Rd.of {H : Hp} {a : Addr} {u : HO} (h : H a = some u) : Rd H a u := .inl h
theorem Rd.ok {P : Program} {w : World} {H : Hp} {h : Heap} {a : Addr} {u : HO} (r : Rd H a u) (x : HOk P w H h) : ObjOk P w H h a u := by
  rcases r with r | ⟨o, r⟩
  · exact x a u r
  · obtain ⟨_, q⟩ := x a _ r
    exact q
/-- what may be written -/
def Mut : Option HO → Prop
  | some (.lst _) => True
  | some (.dK _) => True
  | some (.dT _) => True
  | some (.set _ _) => True
  | some (.ins _ _ _) => True
  | some (.ext _) => True
  | _ => False
section
variable {P : Program} {w : World} {H : Hp} {h h' : Heap} {x e : Addr} {o' : HO}
/-- the object at e is changed: x itself, or the dict of the instance x -/
theorem HOk.write (ok : HOk P w H h) (mu : Mut (H x)) (he : e = x ∨ H e = some (.own x)) (k : ∀ b u, b ≠ e → h.get? b = some u → h'.get? b = some u) (heo : ∃ u, h'.get? e = some u)
    (new : ObjOk P w (upd H x o') h' x o') : HOk P w (upd H x o') h' := fun b u q => by
  have nown : ∀ c y, H c = some (.own y) → c ≠ x := fun c y r z => by subst z; rw [r] at mu; exact mu
  have ntup : ∀ c xs, H c = some (.tup xs) → c ≠ x := fun c xs r z => by subst z; rw [r] at mu; exact mu
  by_cases hb : b = x
  · subst hb; rw [upd_same] at q; cases q; exact new
  · rw [upd_ne hb] at q
    by_cases hbe : b = e
    · have q' : H b = some (.own x) := by
        rcases he with z | z
        · exact absurd (hbe.trans z) hb
        · rw [hbe]; exact z
      rw [q] at q'; cases q'
      obtain ⟨v, hv⟩ := heo
      exact ⟨v, by rw [hbe]; exact hv⟩
    · refine (ok b u q).stay (fun c v hc r => k c v ?_ r) (fun c r => by rw [upd_ne (nown c b r)]; exact r) fun c xs r => by rw [upd_ne (ntup c xs r)]; exact r
      rcases hc with rfl | hc
      · exact hbe
      · rintro rfl
        rcases he with z | z
        · exact nown c b hc z
        · rw [hc] at z; cases z; exact hb rfl
end
structure Un (fs ex : List Addr) (H H' : Hp) (h h' : Heap) : Prop where
  keep : ∀ b o, h.get? b = some o → H b = none → b ∉ fs → b ∉ ex → h'.get? b = some o
  slot : ∀ b o, h.get? b = some o → H b = none → b ∈ fs → b ∉ ex → ∃ sl, h'.get? b = some { o with slots := sl }
  free : ∀ b o, h.get? b = some o → H b = none → b ∉ ex → H' b = none
  there : ∀ b o, h.get? b = some o → b ∉ ex → ∃ o', h'.get? b = some o'
  tups : ∀ b xs, H b = some (.tup xs) → H' b = some (.tup xs)
  frzs : ∀ b o u, H b = some (.frz o u) → H' b = some (.frz o u)
  tbls : ∀ b ps, H b = some (.tbl ps) → ∃ more, H' b = some (.tbl (ps ++ more))
section
variable {fs fs' ex ex' : List Addr} {H H1 H2 : Hp} {h h1 h2 h' : Heap} {a x e : Addr} {o : HO}
theorem Un.any (u : Un fs ex H H1 h h1) {b : Addr} {ob : Obj} (q : h.get? b = some ob) (n : H b = none) (hx : b ∉ ex) : ∃ sl, h1.get? b = some { ob with slots := sl } := by
  by_cases hb : b ∈ fs
  · exact u.slot b ob q n hb hx
  · exact ⟨ob.slots, u.keep b ob q n hb hx⟩
theorem Un.trans (a : Un fs ex H H1 h h1) (b : Un fs ex H1 H2 h1 h2) : Un fs ex H H2 h h2 where
  keep := fun c ob q n hc hx => b.keep c ob (a.keep c ob q n hc hx) (a.free c ob q n hx) hc hx
  slot := fun c ob q n hc hx => by
    obtain ⟨sl, e1⟩ := a.slot c ob q n hc hx
    obtain ⟨sl', e2⟩ := b.slot c _ e1 (a.free c ob q n hx) hc hx
    exact ⟨sl', e2⟩
  free := fun c ob q n hx => by
    obtain ⟨o', e1⟩ := a.there c ob q hx
    exact b.free c o' e1 (a.free c ob q n hx) hx
  there := fun c ob q hx => by
    obtain ⟨o', e1⟩ := a.there c ob q hx
    exact b.there c o' e1 hx
  tups := fun c xs q => b.tups c xs (a.tups c xs q)
  frzs := fun c ob xs q => b.frzs c ob xs (a.frzs c ob xs q)
  tbls := fun c ps q => by
    obtain ⟨m1, e1⟩ := a.tbls c ps q
    obtain ⟨m2, e2⟩ := b.tbls c _ e1
    exact ⟨m1 ++ m2, by rw [e2, Array.append_assoc]⟩
theorem Un.kept (k : ∀ b u, h.get? b = some u → h'.get? b = some u) : Un fs ex H H h h' :=
  ⟨fun b ob q _ _ _ => k b ob q, fun b ob q _ _ _ => ⟨ob.slots, k b ob q⟩, fun _ _ _ n _ => n, fun b ob q _ => ⟨ob, k b ob q⟩, fun _ _ q => q, fun _ _ _ q => q, fun _ ps q => ⟨#[], by rw [q]; simp⟩⟩
theorem Un.refl : Un fs ex H H h h := Un.kept fun _ _ q => q
theorem Un.laid (k : ∀ b u, h.get? b = some u → h'.get? b = some u) (hp : h.objs.size ≤ a) (hn : H a = none) : Un fs ex H (upd H a o) h h' where
  keep := fun b u q _ _ _ => k b u q
  slot := fun b u q _ _ _ => ⟨u.slots, k b u q⟩
  free := fun b u q n _ => by rw [upd_ne (Nat.ne_of_lt (Nat.lt_of_lt_of_le (Heap.lt_size q) hp))]; exact n
  there := fun b u q _ => ⟨u, k b u q⟩
  tups := fun b xs q => by rw [upd_ne (ne_of_none q hn)]; exact q
  frzs := fun b u xs q => by rw [upd_ne (ne_of_none q hn)]; exact q
  tbls := fun b ps q => ⟨#[], by rw [upd_ne (ne_of_none q hn), q]; simp⟩
theorem Un.write (mu : Mut (H x)) (he : e = x ∨ H e = some (.own x)) (k : ∀ b u, b ≠ e → h.get? b = some u → h'.get? b = some u) (heo : ∃ u, h'.get? e = some u) : Un fs ex H (upd H x o) h h' := by
  have hx : ∀ b, H b = none → b ≠ x := fun b n z => by subst z; rw [n] at mu; exact mu
  have hb : ∀ b, H b = none → b ≠ e := fun b n z => by
    subst z
    rcases he with r | r
    · exact hx b n r
    · rw [n] at r; cases r
  have hm : ∀ b u, H b = some u → ¬ Mut (some u) → b ≠ x := fun b u q nm z => by subst z; rw [q] at mu; exact nm mu
  refine ⟨fun b u q n _ _ => k b u (hb b n) q, fun b u q n _ _ => ⟨u.slots, k b u (hb b n) q⟩, fun b u q n _ => by rw [upd_ne (hx b n)]; exact n, fun b u q _ => ?_,
    fun b xs q => by rw [upd_ne (hm b _ q fun z => z)]; exact q, fun b u xs q => by rw [upd_ne (hm b _ q fun z => z)]; exact q, fun b ps q => ⟨#[], by rw [upd_ne (hm b _ q fun z => z), q]; simp⟩⟩
  by_cases hbe : b = e
  · subst hbe; exact heo
  · exact ⟨u, k b u hbe q⟩
theorem Un.mono (u : Un fs ex H H1 h h1) (hs : ∀ b ∈ fs, b ∈ fs') (hx : ∀ b ∈ ex, b ∈ ex') : Un fs' ex' H H1 h h1 :=
  ⟨fun b ob q n hb he => u.keep b ob q n (fun z => hb (hs b z)) fun z => he (hx b z), fun _ _ q n _ he => u.any q n fun z => he (hx _ z), fun b ob q n he => u.free b ob q n fun z => he (hx b z), fun b ob q he => u.there b ob q fun z => he (hx b z), u.tups, u.frzs, u.tbls⟩
end
def trk (h : Heap) (H : Hp) : List Addr := (List.range h.objs.size).filter fun a => (H a).isSome
def hidT (h : Heap) (H : Hp) : Heap := PySem.W.hideAll h (trk h H)
theorem hidT_size (h : Heap) (H : Hp) : (hidT h H).objs.size = h.objs.size := PySem.W.hideAll_size _ _
theorem hidT_get {h : Heap} {H : Hp} {b : Addr} {o : Obj} (e : h.get? b = some o) (n : H b = none) : (hidT h H).get? b = some o :=
  PySem.W.hideAll_get _ e fun hm => by
    have q : (H b).isSome = true := (List.mem_filter.mp hm).2
    rw [n] at q; simp at q
theorem of_hidT {h : Heap} {H : Hp} {b : Addr} {o : Obj} (e : (hidT h H).get? b = some o) : h.get? b = some o ∧ H b = none := by
  have e' : h.get? b = some o := PySem.W.of_hideAll (trk h H) e
  refine ⟨e', ?_⟩
  cases q : H b with
  | none => rfl
  | some x =>
    have hm : b ∈ trk h H := List.mem_filter.mpr ⟨List.mem_range.mpr (Heap.lt_size e'), by simp [q]⟩
    have z : (hidT h H).get? b = none := PySem.W.hideAll_none (trk h H) hm
    rw [z] at e; cases e
def allNews (g h : Heap) (L : Addr) : List (Addr × Obj) := (List.range h.objs.size).filterMap fun a => if a = L ∨ (g.get? a).isSome = true then none else (h.get? a).map fun o => (a, o)
def rest (g h : Heap) (L d : Addr) : List (Addr × Obj) := (allNews g h L).filter fun p => decide (p.1 ≠ d)
end L2
namespace L2
open PySem PySem.Spec PyProof.Rows
/-- the module's facts, over the base: the heap at the law's entry without what is tracked there -/
structure Mod (K : PySem.W.Frag) (mg : Str → Option Value) (base : Heap) : Prop where
  kin : K.In base
  glob : base.Ns mainGlobals mg
  blt : ∃ mb, base.Ns builtinsNs mb ∧ ∀ x : Str, x ≠ "__name__" → mb x = bootBuiltins x
  nolimit : base.NoLimit
/-- the context: a def's body (or a comprehension's block) running. base: fixed through the whole law; s₀, H₀: the entry; outer: the frames whose slots others may change (a def's callers); stack: all frames that run;
   ex: iterators that were made ahead of the entry and are walked here (a comprehension's); fn: the names whose cells were made at the entry (a def: all; a comprehension's block: its own); calm: not within an except suite; pn: pins that every state bears; xe: what is wanted of an exception that leaves the code -/
structure Cx where
  prog : Program
  w : World
  K : PySem.W.Frag
  mg : Str → Option Value
  base : Heap
  A : Around
  N : List Str
  s₀ : Shared
  H₀ : Hp
  env : Env
  outer : List Env
  stack : List Env
  ex : List Addr
  fn : Str → Bool
  calm : Bool
  pn : List (Addr × Obj)
  xe : Value → Shared → Prop
/-- the callers' frames -/
def frs (l : List Env) : List Addr := l.filterMap (·.frame)
abbrev Cx.fs (X : Cx) : List Addr := frs X.outer
def Vis (sc : Scope) (x : Str) : Prop := sc.names.lookup x = some .local ∨ sc.names.lookup x = some .cell ∨ sc.names.lookup x = some .free
def Loc (sc : Scope) (x : Str) : Prop := sc.names.lookup x = some .local ∨ sc.names.lookup x = some .cell
def Look (env : Env) (h : Heap) (m : Str → Option Value) (x : Str) (u : Value) : Prop :=
  (env.kindOf x = some .local ∧ m x = some u) ∨ ((env.kindOf x = some .cell ∨ env.kindOf x = some .free) ∧ ∃ c, env.cells.lookup x = some c ∧ h.IsCell c (some u))
structure Cx.Ok (X : Cx) : Prop where
  mod : Mod X.K X.mg X.base
  kind : X.env.scope.kind = .function
  glob : X.env.globals = mainGlobals
  blt : X.env.builtins = builtinsNs
  above : X.s₀.heap.objs.size ≤ X.env.locals
  inj : ∀ x y c, X.env.cells.lookup x = some c → X.env.cells.lookup y = some c → x = y
  has : ∀ x, (X.env.kindOf x = some .cell ∨ X.env.kindOf x = some .free) → ∃ c, X.env.cells.lookup x = some c
  cab : ∀ x c, X.fn x = true → X.env.cells.lookup x = some c → X.s₀.heap.objs.size ≤ c
  hd : X.calm = true → X.A.handled = none
  frames : X.A.frames = some X.stack
  stk : X.stack = X.outer ∨ (X.stack = X.env :: X.outer ∧ X.env.frame = some X.env.locals)
  exf : ∀ b ∈ X.ex, b ≠ X.env.locals ∧ ∀ x c, X.env.cells.lookup x = some c → c ≠ b
  bs : ∀ b o, X.base.get? b = some o → X.s₀.heap.get? b = some o ∧ X.H₀ b = none
  bsz : X.base.objs.size ≤ X.s₀.heap.objs.size
  noex : ∀ b o, X.base.get? b = some o → b ∉ X.ex
  exfs : ∀ b ∈ X.ex, b ∉ X.fs
  funs : X.s₀.heap.FunFrames X.base X.outer
  frf : ∀ b ∈ X.fs, X.H₀ b = none
structure Inv (X : Cx) (pins : List (Addr × Obj)) (σ : List (Option V)) (H : Hp) (s : Shared) : Prop where
  ok : X.Ok
  os : s.os = X.s₀.os
  bare : AllBare s.gens
  base : Un X.fs X.ex X.H₀ H X.s₀.heap s.heap
  loc : ∃ m, s.heap.Ns X.env.locals m ∧ ∀ (i : Nat) (x : Str) (v : V), X.N[i]? = some x → σ[i]? = some (some v) → Vis X.env.scope x → ∃ u, RelV v u ∧ Look X.env s.heap m x u
  cell : ∀ x c, X.env.cells.lookup x = some c → ∃ v, s.heap.IsCell c v
  free : H X.env.locals = none
  freeC : ∀ x c, X.env.cells.lookup x = some c → H c = none
  pin : ∀ p ∈ X.pn ++ pins, s.heap.get? p.1 = some p.2 ∧ H p.1 = none ∧ p.1 ≠ X.env.locals ∧ p.1 ∉ X.fs ∧ ∀ v, p.2.data ≠ .cell v
  hok : HOk X.prog X.w H s.heap
  len : σ.length = X.N.length
section
variable {X : Cx} {pins : List (Addr × Obj)} {σ : List (Option V)} {H H' : Hp} {s : Shared} {h' : Heap}
theorem Cx.Ok.nofr (ok : X.Ok) {b : Addr} {o : Obj} (e : X.base.get? b = some o) : b ∉ X.fs := fun hb => by
  have := (ok.funs.mem hb).1
  rw [e] at this; cases this
theorem Inv.bs (I : Inv X pins σ H s) : ∀ b o, X.base.get? b = some o → s.heap.get? b = some o ∧ H b = none := fun b o e =>
  ⟨I.base.keep b o (I.ok.bs b o e).1 (I.ok.bs b o e).2 (I.ok.nofr e) (I.ok.noex b o e), I.base.free b o (I.ok.bs b o e).1 (I.ok.bs b o e).2 (I.ok.noex b o e)⟩
theorem Inv.bk (I : Inv X pins σ H s) : ∀ b o, X.base.get? b = some o → s.heap.get? b = some o := fun b o e => (I.bs b o e).1
theorem Inv.mod (I : Inv X pins σ H s) : Mod X.K X.mg X.base := I.ok.mod
theorem Inv.kIn (I : Inv X pins σ H s) : X.K.In s.heap := I.ok.mod.kin.keeps I.bk
theorem Inv.nolimit (I : Inv X pins σ H s) : s.heap.NoLimit := I.ok.mod.nolimit.keeps I.bk
/-- the frame over the base: for OpenK's rules (K.In X.base is I.mod.kin) -/
theorem Inv.fr (I : Inv X pins σ H s) : ∃ m, Fr X.base X.env.locals s.heap m :=
  let ⟨m, hn, _⟩ := I.loc
  ⟨m, hn, I.bk, Nat.le_trans I.ok.bsz I.ok.above⟩
theorem Inv.lt (I : Inv X pins σ H s) : X.env.locals < s.heap.objs.size := let ⟨_, hn, _⟩ := I.loc; hn.lt
theorem Inv.sz (I : Inv X pins σ H s) : X.s₀.heap.objs.size ≤ s.heap.objs.size := Nat.le_trans I.ok.above (Nat.le_of_lt I.lt)
theorem Inv.nofs (I : Inv X pins σ H s) {a : Addr} (h : s.heap.objs.size ≤ a) : a ∉ X.fs := fun hb => by
  obtain ⟨_, o, ho, _⟩ := I.ok.funs.mem hb
  exact absurd (Nat.lt_of_lt_of_le (Heap.lt_size ho) (Nat.le_trans I.sz h)) (Nat.lt_irrefl _)
theorem Inv.cne (I : Inv X pins σ H s) : ∀ x c, X.env.cells.lookup x = some c → c ≠ X.env.locals := fun x c e z => by
  obtain ⟨v, o, ho, hd⟩ := I.cell x c e
  obtain ⟨m, ⟨o', es, ep, ho', hd', _⟩, _⟩ := I.loc
  rw [z, ho'] at ho; cases ho; rw [hd'] at hd; cases hd
theorem Inv.funs (I : Inv X pins σ H s) : s.heap.FunFrames X.base X.outer := by
  have all : ∀ (l : List Env), (∀ b ∈ frs l, b ∈ X.fs) → X.s₀.heap.FunFrames X.base l → s.heap.FunFrames X.base l := by
    intro l
    induction l with
    | nil => intro _ _; trivial
    | cons env r ih =>
      intro hs hl
      obtain ⟨hk, ⟨L, o, hf, hn, ho, hd⟩, hr⟩ := hl
      have hL : L ∈ X.fs := hs L (by unfold frs; rw [List.filterMap_cons, hf]; exact List.mem_cons_self)
      obtain ⟨sl, e⟩ := I.base.slot L o ho (I.ok.frf L hL) hL fun z => I.ok.exfs L z hL
      exact ⟨hk, ⟨L, _, hf, hn, e, hd⟩, ih (fun b hb => hs b (by unfold frs; rw [List.filterMap_cons, hf]; exact List.mem_cons_of_mem _ hb)) hr⟩
  exact all X.outer (fun _ hb => hb) I.ok.funs
/-- the frames that run, for a call -/
theorem Inv.stack (I : Inv X pins σ H s) : s.heap.FunFrames X.base X.stack := by
  rcases I.ok.stk with e | ⟨e, hf⟩
  · rw [e]; exact I.funs
  · rw [e]
    obtain ⟨m, hn, _⟩ := I.loc
    refine .cons (by rw [I.ok.kind]; decide) hf hn ?_ I.funs
    exact Heap.get?_none_of_le (Nat.le_trans I.ok.bsz I.ok.above)
theorem Inv.stkSub (I : Inv X pins σ H s) : ∀ b ∈ frs X.stack, b ∈ X.env.locals :: X.fs := fun b hb => by
  rcases I.ok.stk with e | ⟨e, hf⟩
  · rw [e] at hb; exact List.mem_cons_of_mem _ hb
  · rw [e] at hb
    unfold frs at hb
    rw [List.filterMap_cons, hf] at hb
    exact hb
theorem Inv.stkFree (I : Inv X pins σ H s) : ∀ b ∈ frs X.stack, H b = none := fun b hb => by
  rcases List.mem_cons.mp (I.stkSub b hb) with e | hb
  · rw [e]; exact I.free
  · obtain ⟨_, o, ho, _⟩ := I.ok.funs.mem hb
    exact I.base.free b o ho (I.ok.frf b hb) fun z => I.ok.exfs b z hb
/-- THE STEP: the untracked objects but the frame and the records at ch are kept (the callers' frames up to slots), the frame's map is kept, the new abstract heap is held -/
theorem Inv.step {g' : Array GenState} {t' : Nat} {d' : Drawn} {ch : List Addr} (I : Inv X pins σ H s)
    (hch : ∀ b ∈ ch, (b ∈ X.ex ∨ X.s₀.heap.objs.size ≤ b) ∧ b ≠ X.env.locals ∧ (∀ x c, X.env.cells.lookup x = some c → c ≠ b) ∧ ∀ p ∈ X.pn ++ pins, p.1 ≠ b)
    (keep : ∀ b o, b ≠ X.env.locals → b ∉ X.fs → b ∉ ch → s.heap.get? b = some o → H b = none → h'.get? b = some o)
    (slot : ∀ b o, b ≠ X.env.locals → b ∈ X.fs → b ∉ ch → s.heap.get? b = some o → H b = none → ∃ sl, h'.get? b = some { o with slots := sl }) (free : ∀ b o, b ∉ ch → s.heap.get? b = some o → H b = none → H' b = none)
    (there : ∀ b o, b ∉ ch → s.heap.get? b = some o → ∃ o', h'.get? b = some o')
    (tups : ∀ b xs, H b = some (.tup xs) → H' b = some (.tup xs)) (frzs : ∀ b o u, H b = some (.frz o u) → H' b = some (.frz o u)) (tbls : ∀ b ps, H b = some (.tbl ps) → ∃ more, H' b = some (.tbl (ps ++ more)))
    (ns : ∀ m, s.heap.Ns X.env.locals m → h'.Ns X.env.locals m) (hok : HOk X.prog X.w H' h') (hg : AllBare g') :
    Inv X pins σ H' { s with heap := h', gens := g', drawn := d', toks := t' } := by
  have neL : ∀ b o, X.s₀.heap.get? b = some o → b ≠ X.env.locals := fun b o e => Nat.ne_of_lt (Nat.lt_of_lt_of_le (Heap.lt_size e) I.ok.above)
  have neC : ∀ b o, X.s₀.heap.get? b = some o → b ∉ X.ex → b ∉ ch := fun b o e hx hb => by
    rcases (hch b hb).1 with z | z
    · exact hx z
    · exact absurd (Nat.lt_of_lt_of_le (Heap.lt_size e) z) (Nat.lt_irrefl _)
  have cellK : ∀ x c, X.env.cells.lookup x = some c → ∀ v, s.heap.IsCell c v → h'.IsCell c v := fun x c e v ⟨o, ho, hd⟩ => by
    have nch : c ∉ ch := fun z => (hch c z).2.2.1 x c e rfl
    by_cases hc : c ∈ X.fs
    · obtain ⟨sl, q⟩ := slot c o (I.cne x c e) hc nch ho (I.freeC x c e)
      exact ⟨_, q, hd⟩
    · exact ⟨o, keep c o (I.cne x c e) hc nch ho (I.freeC x c e), hd⟩
  refine ⟨I.ok, I.os, hg, ⟨fun b o e n hb hx => ?_, fun b o e n hb hx => ?_, fun b o e n hx => ?_, fun b o e hx => ?_, fun b xs e => tups b xs (I.base.tups b xs e), fun b o xs e => frzs b o xs (I.base.frzs b o xs e), fun b ps e => ?_⟩, ?_, fun x c e => ?_, ?_, fun x c e => ?_, fun p hp => ?_, hok, I.len⟩
  · exact keep b o (neL b o e) hb (neC b o e hx) (I.base.keep b o e n hb hx) (I.base.free b o e n hx)
  · obtain ⟨sl, e1⟩ := I.base.slot b o e n hb hx
    obtain ⟨sl', e2⟩ := slot b _ (neL b o e) hb (neC b o e hx) e1 (I.base.free b o e n hx)
    exact ⟨sl', e2⟩
  · obtain ⟨o', e1⟩ := I.base.there b o e hx
    exact free b o' (neC b o e hx) e1 (I.base.free b o e n hx)
  · obtain ⟨o', e1⟩ := I.base.there b o e hx
    exact there b o' (neC b o e hx) e1
  · obtain ⟨m1, e1⟩ := I.base.tbls b ps e
    obtain ⟨m2, e2⟩ := tbls b _ e1
    exact ⟨m1 ++ m2, by rw [e2, Array.append_assoc]⟩
  · obtain ⟨m, hn, hl⟩ := I.loc
    refine ⟨m, ns m hn, fun i x v e1 e2 e3 => ?_⟩
    obtain ⟨u, r, l⟩ := hl i x v e1 e2 e3
    refine ⟨u, r, ?_⟩
    rcases l with l | ⟨k, c, e, z⟩
    · exact .inl l
    · exact .inr ⟨k, c, e, cellK x c e _ z⟩
  · obtain ⟨v, z⟩ := I.cell x c e
    exact ⟨v, cellK x c e v z⟩
  · obtain ⟨m, ⟨o, _, _, ho, _⟩, _⟩ := I.loc
    exact free _ o (fun z => (hch _ z).2.1 rfl) ho I.free
  · obtain ⟨v, o, ho, hd⟩ := I.cell x c e
    exact free c o (fun z => (hch c z).2.2.1 x c e rfl) ho (I.freeC x c e)
  · obtain ⟨e, n, ne, nf, d⟩ := I.pin p hp
    have nch : p.1 ∉ ch := fun z => (hch p.1 z).2.2.2 p hp rfl
    exact ⟨keep p.1 p.2 ne nf nch e n, free p.1 p.2 nch e n, ne, nf, d⟩
/-- .. where the frame's own object is kept too -/
theorem Inv.un {t' : Nat} (I : Inv X pins σ H s) (u : Un X.fs [] H H' s.heap h') (hok : HOk X.prog X.w H' h') : Inv X pins σ H' { s with heap := h', toks := t' } := by
  obtain ⟨m, ⟨o, es, ep, ho, r⟩, _⟩ := id I.loc
  obtain ⟨sl, hL⟩ := u.any ho I.free (by simp)
  exact I.step (g' := s.gens) (d' := s.drawn) (ch := []) (fun _ z => nomatch z) (fun b o _ hb _ e n => u.keep b o e n hb (by simp)) (fun b o _ hb _ e n => u.slot b o e n hb (by simp)) (fun b o _ e n => u.free b o e n (by simp)) (fun b o _ e => u.there b o e (by simp)) u.tups u.frzs u.tbls (fun m' hm => by
    obtain ⟨o', es', ep', ho', r'⟩ := hm
    rw [ho] at ho'; cases ho'
    exact ⟨_, es', ep', hL, r'⟩) hok I.bare
/-- behind a call (or a comprehension's block): the slots of this frame may have changed too, the records at ch may have turned -/
theorem Inv.call {g' : Array GenState} {t' : Nat} {d' : Drawn} {ch : List Addr} (I : Inv X pins σ H s) (u : Un (frs X.stack) ch H H' s.heap h') (hok : HOk X.prog X.w H' h') (hg : AllBare g')
    (hch : ∀ b ∈ ch, (b ∈ X.ex ∨ X.s₀.heap.objs.size ≤ b) ∧ b ≠ X.env.locals ∧ (∀ x c, X.env.cells.lookup x = some c → c ≠ b) ∧ ∀ p ∈ X.pn ++ pins, p.1 ≠ b) :
    Inv X pins σ H' { s with heap := h', gens := g', drawn := d', toks := t' } := by
  obtain ⟨m, ⟨o, es, ep, ho, r⟩, _⟩ := id I.loc
  obtain ⟨sl, hL⟩ := u.any ho I.free fun z => (hch _ z).2.1 rfl
  exact I.step (ch := ch) hch (fun b o hL hb hc e n => u.keep b o e n (fun z => (List.mem_cons.mp (I.stkSub b z)).elim hL hb) hc) (fun b o _ _ hc e n => u.any e n hc) (fun b o hc e n => u.free b o e n hc) (fun b o hc e => u.there b o e hc) u.tups u.frzs u.tbls (fun m' hm => by
    obtain ⟨o', es', ep', ho', r'⟩ := hm
    rw [ho] at ho'; cases ho'
    exact ⟨_, es', ep', hL, r'⟩) hok hg
/-- an untracked record of ours (an iterator) has turned -/
theorem Inv.turned {t' : Nat} {it : Addr} (I : Inv X pins σ H s) (k : ∀ b o, b ≠ it → s.heap.get? b = some o → h'.get? b = some o) (hn : H it = none) (hL : it ≠ X.env.locals)
    (h1 : it ∈ X.ex ∨ X.s₀.heap.objs.size ≤ it) (h2 : ∀ x c, X.env.cells.lookup x = some c → c ≠ it) (h3 : ∀ p ∈ X.pn ++ pins, p.1 ≠ it) : Inv X pins σ H { s with heap := h', toks := t' } := by
  have nit : ∀ b u, H b = some u → b ≠ it := fun b u e z => by rw [z, hn] at e; cases e
  refine I.step (g' := s.gens) (d' := s.drawn) (ch := [it]) (fun b hb => ?_) (fun b o _ _ hc e _ => k b o (fun z => hc (by simp [z])) e) (fun b o _ _ hc e _ => ⟨o.slots, k b o (fun z => hc (by simp [z])) e⟩) (fun _ _ _ _ n => n)
    (fun b o hc e => ⟨o, k b o (fun z => hc (by simp [z])) e⟩) (fun _ _ e => e) (fun _ _ _ e => e) (fun b ps e => ⟨#[], by rw [e]; simp⟩) (fun m hm => ?_) (fun b u e => ?_) I.bare
  · have e : b = it := by simpa using hb
    subst e
    exact ⟨h1, hL, h2, h3⟩
  · obtain ⟨o, es, ep, ho, r⟩ := hm
    exact ⟨o, es, ep, k _ o (Ne.symm hL) ho, r⟩
  · refine (I.hok b u e).stay (fun c v hc q => k c v ?_ q) (fun _ q => q) fun _ _ q => q
    rcases hc with z | z
    · rw [z]; exact nit b u e
    · exact nit c _ z
theorem Inv.tok (I : Inv X pins σ H s) (t : Nat) : Inv X pins σ H { s with toks := t } := I.un (h' := s.heap) (t' := t) Un.refl I.hok
/-- all objects kept -/
theorem Inv.kept {t' : Nat} (I : Inv X pins σ H s) (k : ∀ b u, s.heap.get? b = some u → h'.get? b = some u) : Inv X pins σ H { s with heap := h', toks := t' } := I.un (Un.kept k) (I.hok.kept k)
/-- a new object laid and tracked -/
theorem Inv.laid {a : Addr} {o : HO} {t' : Nat} (I : Inv X pins σ H s) (k : ∀ b u, s.heap.get? b = some u → h'.get? b = some u) (hp : s.heap.objs.size ≤ a) (new : ObjOk X.prog X.w (upd H a o) h' a o) :
    Inv X pins σ (upd H a o) { s with heap := h', toks := t' } := I.un (Un.laid k hp (I.hok.fresh hp)) (I.hok.laid k hp new)
/-- an object written -/
theorem Inv.write {x e : Addr} {o : HO} {t' : Nat} (I : Inv X pins σ H s) (mu : Mut (H x)) (he : e = x ∨ H e = some (.own x)) (k : ∀ b u, b ≠ e → s.heap.get? b = some u → h'.get? b = some u) (heo : ∃ u, h'.get? e = some u)
    (new : ObjOk X.prog X.w (upd H x o) h' x o) : Inv X pins σ (upd H x o) { s with heap := h', toks := t' } := I.un (Un.write mu he k heo) (I.hok.write mu he k heo new)
theorem Inv.pins_of {pins' : List (Addr × Obj)} (I : Inv X pins σ H s) (h : ∀ p ∈ pins', s.heap.get? p.1 = some p.2 ∧ H p.1 = none ∧ p.1 ≠ X.env.locals ∧ p.1 ∉ X.fs ∧ ∀ v, p.2.data ≠ .cell v) : Inv X pins' σ H s :=
  ⟨I.ok, I.os, I.bare, I.base, I.loc, I.cell, I.free, I.freeC, fun p hp => (List.mem_append.mp hp).elim (fun z => I.pin p (List.mem_append_left _ z)) (h p), I.hok, I.len⟩
theorem nodup_ix {N : List Str} (hN : N.Nodup) {i j : Nat} {x : Str} (a : N[i]? = some x) (b : N[j]? = some x) : i = j := by
  obtain ⟨h1, e1⟩ := List.getElem?_eq_some_iff.mp a
  obtain ⟨h2, e2⟩ := List.getElem?_eq_some_iff.mp b
  exact (List.getElem_inj hN).mp (e1.trans e2.symm)
/-- a name is stored; what changed -/
theorem store_ok2 {M : Model} {A : Around} {E : Value → Shared → Prop} {i : Nat} {x : Str} {v : V} {u : Value} {Q : Unit → Shared → Prop} (I : Inv X pins σ H s) (hN : X.N.Nodup) (hi : X.N[i]? = some x) (hx : Loc X.env.scope x) (r : RelV v u)
    (h : ∀ s', Inv X pins (σ.set i (some v)) H s' → (∃ a, Heap.SameBut a s.heap s'.heap ∧ (a = X.env.locals ∨ X.env.cells.lookup x = some a)) → Q () s') (hf : X.fn x = true ∨ X.env.scope.names.lookup x = some .local := by first | exact .inl rfl | exact .inr rfl | assumption) : wpAny M A (storeName X.env x u) Q E s := by
  obtain ⟨m, hn, hl⟩ := id I.loc
  have hcls : (X.env.scope.kind == .class || (X.env.scope.kind == .module && X.env.locals != X.env.globals)) = false := by rw [I.ok.kind]; rfl
  have hiσ : i < σ.length := by rw [I.len]; exact (List.getElem?_eq_some_iff.mp hi).1
  have cne := I.cne
  have tracked : ∀ {a : Addr} {h' : Heap}, (∃ o, s.heap.get? a = some o ∧ H a = none) → Heap.SameBut a s.heap h' → HOk X.prog X.w H h' := fun {a h'} ha hs b ob e => by
    obtain ⟨_, _, hfree⟩ := ha
    refine (I.hok b ob e).stay (fun c w' hc q => (hs.2 c ?_).trans q) (fun _ q => q) fun _ _ q => q
    rintro rfl
    rcases hc with rfl | hc
    · rw [hfree] at e; cases e
    · rw [hfree] at hc; cases hc
  rcases hx with hk | hk
  · refine wpAny_storeName_local hk hn (fun h' hn' hs => ?_) hcls
    obtain ⟨oL, _, _, hoL, _⟩ := id hn
    refine h _ ⟨I.ok, I.os, I.bare, ⟨fun b o e n hb hx => ?_, fun b o e n hb hx => ?_, I.base.free, fun b o e hx => ?_, I.base.tups, I.base.frzs, I.base.tbls⟩, ⟨_, hn', fun j y v' e1 e2 e3 => ?_⟩, fun y c e => ?_, I.free, I.freeC, fun p hp => ?_, tracked ⟨oL, hoL, I.free⟩ hs, by simpa using I.len⟩ ⟨_, hs, .inl rfl⟩
    · exact (hs.2 b (Nat.ne_of_lt (Nat.lt_of_lt_of_le (Heap.lt_size e) I.ok.above))).trans (I.base.keep b o e n hb hx)
    · obtain ⟨sl, e1⟩ := I.base.slot b o e n hb hx
      exact ⟨sl, (hs.2 b (Nat.ne_of_lt (Nat.lt_of_lt_of_le (Heap.lt_size e) I.ok.above))).trans e1⟩
    · obtain ⟨o', e1⟩ := I.base.there b o e hx
      exact ⟨o', (hs.2 b (Nat.ne_of_lt (Nat.lt_of_lt_of_le (Heap.lt_size e) I.ok.above))).trans e1⟩
    · by_cases hj : j = i
      · subst hj
        rw [hi] at e1; cases e1
        rw [List.getElem?_set_self hiσ] at e2
        cases e2
        exact ⟨u, r, .inl ⟨hk, by simp⟩⟩
      · rw [List.getElem?_set_ne (Ne.symm hj)] at e2
        obtain ⟨u', r', q⟩ := hl j y v' e1 e2 e3
        refine ⟨u', r', ?_⟩
        rcases q with ⟨k, e⟩ | ⟨k, c, e, z⟩
        · refine .inl ⟨k, ?_⟩
          have : y ≠ x := fun e => hj (nodup_ix hN e1 (e ▸ hi))
          simp [this, e]
        · exact .inr ⟨k, c, e, z.sameBut hs (cne y c e)⟩
    · obtain ⟨w', z⟩ := I.cell y c e
      exact ⟨w', z.sameBut hs (cne y c e)⟩
    · obtain ⟨e, n, ne, nf, d⟩ := I.pin p hp
      exact ⟨(hs.2 p.1 ne).trans e, n, ne, nf, d⟩
  · have hfn : X.fn x = true := by
      rcases hf with z | z
      · exact z
      · rw [z] at hk; cases hk
    obtain ⟨c, hc⟩ := I.ok.has x (.inl hk)
    obtain ⟨w', z⟩ := I.cell x c hc
    refine wpAny_storeName_cell I.ok.kind hk hc z (fun h' hc' hs => ?_)
    obtain ⟨oc, hoc, hocd⟩ := id z
    refine h { s with heap := h' } ⟨I.ok, I.os, I.bare, ⟨fun b o e n hb hx => ?_, fun b o e n hb hx => ?_, I.base.free, fun b o e hx => ?_, I.base.tups, I.base.frzs, I.base.tbls⟩, ⟨m, hn.sameBut hs (Ne.symm (cne x c hc)), fun j y v' e1 e2 e3 => ?_⟩, fun y c' e => ?_, I.free, I.freeC, fun p hp => ?_, tracked ⟨oc, hoc, I.freeC x c hc⟩ hs, by simpa using I.len⟩ ⟨c, hs, .inr hc⟩
    · exact (hs.2 b (Nat.ne_of_lt (Nat.lt_of_lt_of_le (Heap.lt_size e) (I.ok.cab x c hfn hc)))).trans (I.base.keep b o e n hb hx)
    · obtain ⟨sl, e1⟩ := I.base.slot b o e n hb hx
      exact ⟨sl, (hs.2 b (Nat.ne_of_lt (Nat.lt_of_lt_of_le (Heap.lt_size e) (I.ok.cab x c hfn hc)))).trans e1⟩
    · obtain ⟨o', e1⟩ := I.base.there b o e hx
      exact ⟨o', (hs.2 b (Nat.ne_of_lt (Nat.lt_of_lt_of_le (Heap.lt_size e) (I.ok.cab x c hfn hc)))).trans e1⟩
    · by_cases hj : j = i
      · subst hj
        rw [hi] at e1; cases e1
        rw [List.getElem?_set_self hiσ] at e2
        cases e2
        exact ⟨u, r, .inr ⟨.inl hk, c, hc, hc'⟩⟩
      · rw [List.getElem?_set_ne (Ne.symm hj)] at e2
        obtain ⟨u', r', q⟩ := hl j y v' e1 e2 e3
        refine ⟨u', r', ?_⟩
        rcases q with q | ⟨k, c', e, z'⟩
        · exact .inl q
        · refine .inr ⟨k, c', e, z'.sameBut hs ?_⟩
          rintro rfl
          exact hj (nodup_ix hN e1 (I.ok.inj _ _ _ e hc ▸ hi))
    · by_cases hcc : c' = c
      · subst hcc; exact ⟨_, hc'⟩
      · obtain ⟨w2, z2⟩ := I.cell y c' e
        exact ⟨w2, z2.sameBut hs hcc⟩
    · obtain ⟨e, n, ne, nf, d⟩ := I.pin p hp
      refine ⟨(hs.2 p.1 ?_).trans e, n, ne, nf, d⟩
      intro q
      rw [q, hoc] at e
      have q' : oc = p.2 := Option.some.inj e
      exact d w' (by rw [← q']; exact hocd)
theorem store_ok {M : Model} {A : Around} {E : Value → Shared → Prop} {i : Nat} {x : Str} {v : V} {u : Value} {Q : Unit → Shared → Prop} (I : Inv X pins σ H s) (hN : X.N.Nodup) (hi : X.N[i]? = some x) (hx : Loc X.env.scope x) (r : RelV v u)
    (h : ∀ s', Inv X pins (σ.set i (some v)) H s' → Q () s') (hf : X.fn x = true ∨ X.env.scope.names.lookup x = some .local := by first | exact .inl rfl | exact .inr rfl | assumption) : wpAny M A (storeName X.env x u) Q E s :=
  store_ok2 I hN hi hx r (fun s' I' _ => h s' I') hf
/-- behind a call or a block, the state as it is -/
theorem Inv.call' {s' : Shared} {ch : List Addr} (I : Inv X pins σ H s) (ho : s'.os = s.os) (u : Un (frs X.stack) ch H H' s.heap s'.heap) (hok : HOk X.prog X.w H' s'.heap) (hg : AllBare s'.gens)
    (hch : ∀ b ∈ ch, (b ∈ X.ex ∨ X.s₀.heap.objs.size ≤ b) ∧ b ≠ X.env.locals ∧ (∀ x c, X.env.cells.lookup x = some c → c ≠ b) ∧ ∀ p ∈ X.pn ++ pins, p.1 ≠ b) : Inv X pins σ H' s' := by
  obtain ⟨h', g', d', t', o'⟩ := s'
  have e : o' = s.os := ho
  subst e
  exact I.call (g' := g') (t' := t') (d' := d') u hok hg hch
end
/-- an exception: its class, its own dict's address (where it has one), the abstract heap behind it -/
abbrev XK := Value → Option Addr → Hp → Prop
abbrev St := List (Option V)
abbrev VK := V → Hp → Prop
/-- an expression's reading; a test's; an argument list's -/
abbrev TE := St → Hp → VK → Prop
abbrev TT := St → Hp → (Bool → Hp → Prop) → Prop
abbrev TA := St → Hp → (List V → Hp → Prop) → Prop
/-- what is wanted behind a statement -/
structure Ends where
  nx : St → Hp → Prop
  rt : VK
  bk : St → Hp → Prop := fun _ _ => False
  ct : St → Hp → Prop := fun _ _ => False
abbrev TS := Ends → St → Hp → Prop
inductive EP (X : Cx) (pins : List (Addr × Obj)) (σ : St) (Q : VK) (u : Value) (s' : Shared) : Prop
  | mk : ∀ v H', Inv X pins σ H' s' → RelV v u → Q v H' → EP X pins σ Q u s'
inductive TP (X : Cx) (pins : List (Addr × Obj)) (σ : St) (Q : Bool → Hp → Prop) (b : Bool) (s' : Shared) : Prop
  | mk : ∀ H', Inv X pins σ H' s' → Q b H' → TP X pins σ Q b s'
inductive AP (X : Cx) (pins : List (Addr × Obj)) (σ : St) (Q : List V → Hp → Prop) (us : List Value) (s' : Shared) : Prop
  | mk : ∀ vs H', Inv X pins σ H' s' → Vals vs us → Q vs H' → AP X pins σ Q us s'
inductive SPn (X : Cx) (pins : List (Addr × Obj)) (N : St → Hp → Prop) (s' : Shared) : Prop
  | mk : ∀ σ' H', Inv X pins σ' H' s' → N σ' H' → SPn X pins N s'
inductive SPr (X : Cx) (pins : List (Addr × Obj)) (N : VK) (u : Value) (s' : Shared) : Prop
  | mk : ∀ v σ' H', Inv X pins σ' H' s' → RelV v u → N v H' → SPr X pins N u s'
def SP (X : Cx) (pins : List (Addr × Obj)) (D : Ends) (f : Flow) (s' : Shared) : Prop :=
  match f with
  | .next => SPn X pins D.nx s'
  | .brk => SPn X pins D.bk s'
  | .cont => SPn X pins D.ct s'
  | .ret u => SPr X pins D.rt u s'
def PE (X : Cx) (e : Expr) (t : TE) : Prop :=
  ∀ (pins : List (Addr × Obj)) (s : Shared) (σ : St) (H : Hp) (Q : VK), Inv X pins σ H s → t σ H Q → wpAny (model X.prog X.w) X.A (eval e X.env) (EP X pins σ Q) X.xe s
def PT (X : Cx) (e : Expr) (t : TT) : Prop :=
  ∀ (pins : List (Addr × Obj)) (s : Shared) (σ : St) (H : Hp) (Q : Bool → Hp → Prop), Inv X pins σ H s → t σ H Q → wpAny (model X.prog X.w) X.A (isTrue e X.env (eval e X.env)) (TP X pins σ Q) X.xe s
/-- a test whatever its 'whole' is (and, or) -/
def PW (X : Cx) (e : Expr) (t : TT) : Prop :=
  ∀ (whole : Sem Value) (pins : List (Addr × Obj)) (s : Shared) (σ : St) (H : Hp) (Q : Bool → Hp → Prop), Inv X pins σ H s → t σ H Q → wpAny (model X.prog X.w) X.A (isTrue e X.env whole) (TP X pins σ Q) X.xe s
theorem PW.pt {X : Cx} {e : Expr} {t : TT} (h : PW X e t) : PT X e t := h _
/-- an argument list (no star), from the left -/
def PA (X : Cx) (es : List Expr) (t : TA) : Prop :=
  ∀ (pos : Pos) (pins : List (Addr × Obj)) (s : Shared) (σ : St) (H : Hp) (Q : List V → Hp → Prop), Inv X pins σ H s → t σ H Q → wpAny (model X.prog X.w) X.A (spliced (backTo pos (starEach es X.env))) (AP X pins σ Q) X.xe s
def PS (X : Cx) (st : Stmt) (t : TS) : Prop :=
  ∀ (pins : List (Addr × Obj)) (s : Shared) (σ : St) (H : Hp) (D : Ends), Inv X pins σ H s → t D σ H → wpAny (model X.prog X.w) X.A (exec st X.env) (SP X pins D) X.xe s
def PSs (X : Cx) (st : List Stmt) (t : TS) : Prop :=
  ∀ (pins : List (Addr × Obj)) (s : Shared) (σ : St) (H : Hp) (D : Ends), Inv X pins σ H s → t D σ H → wpAny (model X.prog X.w) X.A (execs st X.env) (SP X pins D) X.xe s
/-- weaken the end -/
theorem thn {α : Type} {t : Sem α} {Q Q' : α → Shared → Prop} {M : Model} {A : Around} {E : Value → Shared → Prop} {s : Shared} (h : wpAny M A t Q E s) (hQ : ∀ a s, Q a s → Q' a s) : wpAny M A t Q' E s := wpAny_mono h hQ fun _ _ x => x
end L2
namespace L2
open PySem PySem.Spec PyProof.Rows
section
variable {X : Cx}
inductive tVar_I (i : Nat) (σ : St) (H : Hp) (Q : VK) : Prop
  | mk : ∀ v, σ[i]? = some (some v) → Q v H → tVar_I i σ H Q
def tVar (i : Nat) : TE := fun σ H Q => tVar_I i σ H Q
def tC (v : V) : TE := fun _ H Q => Q v H
theorem pe_var {i : Nat} {x : Str} {pos : Pos} (hN : X.N[i]? = some x) (hv : Vis X.env.scope x) (hd : (x == ("__debug__" : Str)) = false := by decide) (hcd : (x == ("__classdict__" : Str)) = false := by decide) : PE X (.Name x pos) (tVar i) := by
  intro pins s σ H Q I h
  obtain ⟨v, e, h⟩ := h
  obtain ⟨m, hn, hl⟩ := I.loc
  obtain ⟨u, r, l⟩ := hl i x v hN e hv
  have fin : EP X pins σ Q u s := ⟨v, H, I, r, h⟩
  rcases l with ⟨hk, hm⟩ | ⟨hk, c, hc, hcell⟩
  · exact wpAny_Name (wpAny_loadName_local I.ok.kind hk hn hm fin) hd
  · rcases hk with hk | hk
    · exact wpAny_Name (wpAny_loadName_cell I.ok.kind hk hc hcell fin) hd
    · exact wpAny_Name (wpAny_loadName_free I.ok.kind hk hc hcell fin hcd) hd
theorem pe_int {i j pos} : PE X (.Constant (.int i) j pos) (tC (.int i)) := fun _ _ _ H _ I h => wpAny_Constant_int ⟨.int i, H, I.tok _, ⟨_, rfl⟩, h⟩
theorem pe_bl {b j pos} : PE X (.Constant (.bool b) j pos) (tC (.bl b)) := fun _ _ _ H _ I h => Constant_bool ⟨.bl b, H, I, rfl, h⟩
theorem pe_str {x j pos} : PE X (.Constant (.str x) j pos) (tC (.str x)) := fun _ _ _ H _ I h => Calls.Constant_str ⟨.str x, H, I.tok _, ⟨_, rfl⟩, h⟩
/-- a global name of the def -/
def Gl (X : Cx) (x : Str) : Prop := X.env.kindOf x = some .globalImplicit
theorem ld_glob {E : Value → Shared → Prop} {pins : List (Addr × Obj)} {s : Shared} {σ : St} {H : Hp} {x : Str} {u : Value} {pos : Pos} {Q : Value → Shared → Prop} (I : Inv X pins σ H s) (hg : Gl X x) (hm : X.mg x = some u) (h : Q u s)
    (hd : (x == ("__debug__" : Str)) = false := by decide) : wpAny (model X.prog X.w) X.A (eval (.Name x pos) X.env) Q E s :=
  Calls.Name_function_global I.ok.kind hg (Calls.loadGlobal_global (by rw [I.ok.glob]; exact I.mod.glob.keeps I.bk) hm h) hd
theorem ld_blt {E : Value → Shared → Prop} {pins : List (Addr × Obj)} {s : Shared} {σ : St} {H : Hp} {x : Str} {u : Value} {pos : Pos} {Q : Value → Shared → Prop} (I : Inv X pins σ H s) (hg : Gl X x) (hm : X.mg x = none) (hv : bootBuiltins x = some u) (h : Q u s)
    (hn : x ≠ "__name__" := by decide) (hd : (x == ("__debug__" : Str)) = false := by decide) : wpAny (model X.prog X.w) X.A (eval (.Name x pos) X.env) Q E s := by
  obtain ⟨mb, h1, h2⟩ := I.mod.blt
  exact Calls.Name_function_global I.ok.kind hg (Calls.loadGlobal_builtin (by rw [I.ok.glob]; exact I.mod.glob.keeps I.bk) hm (by rw [I.ok.blt]; exact h1.keeps I.bk) ((h2 x hn).trans hv) h) hd
theorem pe_bltn {x : Str} {v : V} {u : Value} {pos : Pos} (hg : Gl X x) (hm : X.mg x = none) (hv : bootBuiltins x = some u) (r : RelV v u) (hn : x ≠ "__name__" := by decide) (hd : (x == ("__debug__" : Str)) = false := by decide) : PE X (.Name x pos) (tC v) :=
  fun _ _ _ H _ I h => ld_blt I hg hm hv ⟨v, H, I, r, h⟩ hn hd
variable {a b : Expr} {ta tb : TE} {pos : Pos}
def PC (X : Cx) (op : CmpOp) (a b : Expr) (t : TE) : Prop :=
  ∀ (pins : List (Addr × Obj)) (s : Shared) (σ : St) (H : Hp) (Q : VK), Inv X pins σ H s → t σ H Q →
    wpAny (model X.prog X.w) X.A (eval a X.env) (fun v s₁ => wpAny (model X.prog X.w) X.A (eval b X.env) (fun u s₂ => wpAny (model X.prog X.w) X.A (compareOp op v u) (EP X pins σ Q) X.xe s₂) X.xe s₁) X.xe s
theorem nobehind (b : Expr) {op : CmpOp} (h : op ≠ .In) (h2 : op ≠ .NotIn) : behindInMarks op b = false := by
  have e1 : (op == CmpOp.In) = false := by cases op <;> first | rfl | exact absurd rfl h
  have e2 : (op == CmpOp.NotIn) = false := by cases op <;> first | rfl | exact absurd rfl h2
  cases b <;> simp [behindInMarks, e1, e2]
/-- a comparison as a value, as a test -/
inductive tB_I (Q : (Bool → Hp → Prop)) (x : V) (H1 : Hp) : Prop
  | mk : ∀ c, x = .bl c → Q c H1 → tB_I Q x H1
def tB (t : TE) : TT := fun σ H Q => t σ H fun x H1 => tB_I Q x H1
theorem pt_cmp {op : CmpOp} {t : TE} (h : PC X op a b t) (h1 : behindInMarks op b = false := by first | exact nobehind _ (by decide) (by decide) | rfl) : PT X (.Compare a [op] [b] pos) (tB t) := by
  intro pins s σ H Q I hw
  refine wpAny_isTrue_Compare1 (thn (h pins s σ H _ I hw) fun v s1 h1 => thn h1 fun u s2 h2 => thn h2 fun c s3 ⟨x, H1, I1, r1, q1⟩ => ?_) h1
  obtain ⟨d, rfl, q⟩ := q1
  cases r1
  exact wpAny_truthy_bool ⟨H1, I1, q⟩
/-- an expression whose value is a bool, as a test -/
theorem pt_val {e : Expr} {t : TE} (h : PE X e t) (he : ∀ whole, isTrue e X.env whole = (do let v ← whole; standAt e.pos; holding [v] (truthy v)) := by intro _; rfl) : PT X e (tB t) := by
  intro pins s σ H Q I hw
  refine isTrue_plain (thn (h pins s σ H _ I hw) fun v s1 ⟨x, H1, I1, r1, q1⟩ => ?_) (he _)
  obtain ⟨d, rfl, q⟩ := q1
  cases r1
  exact wpAny_truthy_bool ⟨H1, I1, q⟩
variable {tA tB' : TT} {rest : List Expr}
def tAnd (t u : TT) : TT := fun σ H Q => t σ H fun c H1 => if c = true then u σ H1 Q else Q false H1
def tOr (t u : TT) : TT := fun σ H Q => t σ H fun c H1 => if c = true then Q true H1 else u σ H1 Q
def tNot (t : TT) : TT := fun σ H Q => t σ H fun c H1 => Q (!c) H1
theorem pw_and1 (ha : PT X a tA) : PW X (.BoolOp .And [a] pos) tA := by
  intro wh pins s σ H Q I h
  refine isTrue_and (thn (ha pins s σ H Q I h) fun c s1 e => ?_)
  cases c with
  | true => exact isTrue_and_nil e
  | false => exact e
theorem pw_or1 (ha : PT X a tA) : PW X (.BoolOp .Or [a] pos) tA := by
  intro wh pins s σ H Q I h
  refine isTrue_or (thn (ha pins s σ H Q I h) fun c s1 e => ?_)
  cases c with
  | false => exact isTrue_or_nil e
  | true => exact e
theorem pw_and (ha : PT X a tA) (hb : PW X (.BoolOp .And (b :: rest) pos) tB') : PW X (.BoolOp .And (a :: b :: rest) pos) (tAnd tA tB') := by
  intro wh pins s σ H Q I h
  refine isTrue_and (thn (ha pins s σ H _ I h) fun c s1 ⟨H1, I1, q1⟩ => ?_)
  cases c with
  | true => exact hb wh pins s1 σ H1 Q I1 q1
  | false => exact ⟨H1, I1, q1⟩
theorem pw_or (ha : PT X a tA) (hb : PW X (.BoolOp .Or (b :: rest) pos) tB') : PW X (.BoolOp .Or (a :: b :: rest) pos) (tOr tA tB') := by
  intro wh pins s σ H Q I h
  refine isTrue_or (thn (ha pins s σ H _ I h) fun c s1 ⟨H1, I1, q1⟩ => ?_)
  cases c with
  | true => exact ⟨H1, I1, q1⟩
  | false => exact hb wh pins s1 σ H1 Q I1 q1
theorem pt_not (ha : PT X a tA) : PT X (.UnaryOp .Not a pos) (tNot tA) := by
  intro pins s σ H Q I h
  exact isTrue_not (thn (ha pins s σ H (fun c H1 => Q (!c) H1) I h) fun c s1 ⟨H1, I1, q1⟩ => ⟨H1, I1, q1⟩)
/-- .. as values (bools) -/
inductive tAndV_I (tb : TE) (σ : St) (Q : VK) (x : V) (H1 : Hp) : Prop
  | mk : ∀ c, x = .bl c → (if c = true then tb σ H1 Q else Q (.bl false) H1) → tAndV_I tb σ Q x H1
def tAndV (ta tb : TE) : TE := fun σ H Q => ta σ H fun x H1 => tAndV_I tb σ Q x H1
inductive tOrV_I (tb : TE) (σ : St) (Q : VK) (x : V) (H1 : Hp) : Prop
  | mk : ∀ c, x = .bl c → (if c = true then Q (.bl true) H1 else tb σ H1 Q) → tOrV_I tb σ Q x H1
def tOrV (ta tb : TE) : TE := fun σ H Q => ta σ H fun x H1 => tOrV_I tb σ Q x H1
theorem pe_one {op} {t : TE} (h : PE X a t) : PE X (.BoolOp op [a] pos) t := fun pins s σ H Q I hw => BoolOp_one (h pins s σ H Q I hw)
theorem pe_and (ha : PE X a ta) (hb : PE X (.BoolOp .And (b :: rest) pos) tb) : PE X (.BoolOp .And (a :: b :: rest) pos) (tAndV ta tb) := by
  intro pins s σ H Q I h
  refine BoolOp_and (thn (ha pins s σ H _ I h) fun v s1 ⟨x, H1, I1, r1, q1⟩ => ?_)
  obtain ⟨c, rfl, q1⟩ := q1
  cases r1
  refine wpAny_truthy_bool ?_
  cases c with
  | true => exact hb pins s1 σ H1 Q I1 q1
  | false => exact ⟨.bl false, H1, I1, rfl, q1⟩
theorem pe_or (ha : PE X a ta) (hb : PE X (.BoolOp .Or (b :: rest) pos) tb) : PE X (.BoolOp .Or (a :: b :: rest) pos) (tOrV ta tb) := by
  intro pins s σ H Q I h
  refine BoolOp_or (thn (ha pins s σ H _ I h) fun v s1 ⟨x, H1, I1, r1, q1⟩ => ?_)
  obtain ⟨c, rfl, q1⟩ := q1
  cases r1
  refine wpAny_truthy_bool ?_
  cases c with
  | false => exact hb pins s1 σ H1 Q I1 q1
  | true => exact ⟨.bl true, H1, I1, rfl, q1⟩
end
end L2
namespace L2
open PySem PySem.Spec PyProof.Rows
def SqL (K : PySem.W.Frag) (H : Hp) (a : Addr) (xs : List V) : Prop :=
  Rd H a (.lst xs) ∨
    ∃ (o : Obj) (its : Array Value) (n : Nat), K.lookup a = some o ∧ o.cls = .type "list" ∧ o.dict = none ∧ o.data = .seq its n ∧ its.size ≤ sizeLine ∧ Vals xs its.toList
def SqT (K : PySem.W.Frag) (H : Hp) (a : Addr) (xs : List V) : Prop :=
  Rd H a (.tup xs) ∨
    ∃ (o : Obj) (its : Array Value) (n : Nat), K.lookup a = some o ∧ o.cls = .type "tuple" ∧ o.data = .seq its n ∧ its.size ≤ sizeLine ∧ Vals xs its.toList
def absV : Value → Option V
  | .none => some .non
  | .bool b => some (.bl b)
  | .int i _ => some (.int i)
  | .str x _ => some (.str x)
  | .bytes b _ => some (.byt b)
  | .float b _ => some (.flt b)
  | .ref a => some (.ref a)
  | .type n => some (.ty n)
  | _ => none
theorem RelV.abs {x : V} {u : Value} (r : RelV x u) : absV u = some x := by
  cases x with
  | non => cases r; rfl
  | bl _ => cases r; rfl
  | int _ => obtain ⟨t, rfl⟩ := r; rfl
  | str _ => obtain ⟨t, rfl⟩ := r; rfl
  | byt _ => obtain ⟨t, rfl⟩ := r; rfl
  | flt _ => obtain ⟨t, rfl⟩ := r; rfl
  | ref _ => cases r; rfl
  | ty _ => cases r; rfl
theorem RelV.inj {x y : V} {u : Value} (r : RelV x u) (q : RelV y u) : x = y := Option.some.inj (r.abs.symm.trans q.abs)
theorem Vals.inj : ∀ {xs ys : List V} {us : List Value}, Vals xs us → Vals ys us → xs = ys
  | _, _, _, .nil, .nil => rfl
  | _, _, _, .cons r t, .cons r' t' => by rw [r.inj r', Vals.inj t t']
section
variable {X : Cx} {pins : List (Addr × Obj)} {σ : St} {H : Hp} {s : Shared} {a : Addr} {xs ys : List V}
theorem SqL.of {K : PySem.W.Frag} (h : H a = some (.lst xs)) : SqL K H a xs := .inl (.inl h)
theorem SqT.of {K : PySem.W.Frag} (h : H a = some (.tup xs)) : SqT K H a xs := .inl (.inl h)
theorem Inv.list (I : Inv X pins σ H s) (h : SqL X.K H a xs) : ∃ its : List Value, Vals xs its ∧ PlainL s.heap a its.toArray ∧ xs.length ≤ sizeLine := by
  rcases h with h | ⟨o, its, n, hk, hc, hd, hs, hz, r⟩
  · obtain ⟨z, its, n, r, e⟩ := h.ok I.hok
    exact ⟨its, r, ⟨_, n, e, rfl, rfl, rfl⟩, z⟩
  · refine ⟨its.toList, r, ⟨o, n, I.kIn a o hk, hc, hd, by simpa using hs⟩, ?_⟩
    have e := r.length
    simp only [Array.length_toList] at e
    omega
theorem Inv.tuple (I : Inv X pins σ H s) (h : SqT X.K H a xs) : ∃ its : List Value, Vals xs its ∧ IsTup s.heap a its.toArray ∧ xs.length ≤ sizeLine := by
  rcases h with h | ⟨o, its, n, hk, hc, hs, hz, r⟩
  · obtain ⟨z, its, r, p⟩ := h.ok I.hok
    exact ⟨its, r, p, z⟩
  · refine ⟨its.toList, r, ⟨o, I.kIn a o hk, hc, n, by simpa using hs⟩, ?_⟩
    have e := r.length
    simp only [Array.length_toList] at e
    omega
theorem Inv.list_inj (I : Inv X pins σ H s) (h : SqL X.K H a xs) (h' : SqL X.K H a ys) : xs = ys := by
  obtain ⟨its, r, ⟨o, n, e, _, _, d⟩, _⟩ := I.list h
  obtain ⟨its', r', ⟨o', n', e', _, _, d'⟩, _⟩ := I.list h'
  rw [e] at e'; cases e'
  rw [d] at d'
  injection d' with d1 _
  have : its = its' := by simpa using congrArg Array.toList d1
  subst this
  exact r.inj r'
end
abbrev Cx.wish (X : Cx) (E : Value → Shared → Prop) : Cx := { X with xe := E }
/-- no exception leaves -/
abbrev Cx.nox (X : Cx) : Cx := X.wish fun _ _ => False
theorem Cx.Ok.wish {X : Cx} (ok : X.Ok) (E : Value → Shared → Prop) : (X.wish E).Ok :=
  ⟨ok.mod, ok.kind, ok.glob, ok.blt, ok.above, ok.inj, ok.has, ok.cab, ok.hd, ok.frames, ok.stk, ok.exf, ok.bs, ok.bsz, ok.noex, ok.exfs, ok.funs, ok.frf⟩
theorem Cx.Ok.unwish {X : Cx} {E : Value → Shared → Prop} (ok : (X.wish E).Ok) : X.Ok :=
  ⟨ok.mod, ok.kind, ok.glob, ok.blt, ok.above, ok.inj, ok.has, ok.cab, ok.hd, ok.frames, ok.stk, ok.exf, ok.bs, ok.bsz, ok.noex, ok.exfs, ok.funs, ok.frf⟩
section
variable {X : Cx} {pins : List (Addr × Obj)} {σ : St} {H : Hp} {s : Shared} {E : Value → Shared → Prop}
theorem Inv.wish (I : Inv X pins σ H s) (E : Value → Shared → Prop) : Inv (X.wish E) pins σ H s := ⟨I.ok.wish E, I.os, I.bare, I.base, I.loc, I.cell, I.free, I.freeC, I.pin, I.hok, I.len⟩
theorem Inv.unwish (I : Inv (X.wish E) pins σ H s) : Inv X pins σ H s := ⟨I.ok.unwish, I.os, I.bare, I.base, I.loc, I.cell, I.free, I.freeC, I.pin, I.hok, I.len⟩
theorem SP.unwish {D : Ends} {f : Flow} {s' : Shared} (h : SP (X.wish E) pins D f s') : SP X pins D f s' := by
  cases f with
  | next => obtain ⟨σ', H', I, q⟩ := h; exact ⟨σ', H', I.unwish, q⟩
  | brk => obtain ⟨σ', H', I, q⟩ := h; exact ⟨σ', H', I.unwish, q⟩
  | cont => obtain ⟨σ', H', I, q⟩ := h; exact ⟨σ', H', I.unwish, q⟩
  | ret u => obtain ⟨v, σ', H', I, r, q⟩ := h; exact ⟨v, σ', H', I.unwish, r, q⟩
theorem PE.nox {e : Expr} {t : TE} (h : PE X.nox e t) : PE X e t := fun pins s σ H Q I hw =>
  wpAny_mono (h pins s σ H Q (I.wish _) hw) (fun _ _ ⟨v, H', I', r, q⟩ => ⟨v, H', I'.unwish, r, q⟩) fun _ _ z => False.elim z
theorem PT.nox {e : Expr} {t : TT} (h : PT X.nox e t) : PT X e t := fun pins s σ H Q I hw =>
  wpAny_mono (h pins s σ H Q (I.wish _) hw) (fun _ _ ⟨H', I', q⟩ => ⟨H', I'.unwish, q⟩) fun _ _ z => False.elim z
theorem PSs.nox {st : List Stmt} {t : TS} (h : PSs X.nox st t) : PSs X st t := fun pins s σ H D I hw =>
  wpAny_mono (h pins s σ H D (I.wish _) hw) (fun _ _ q => q.unwish) fun _ _ z => False.elim z
end
section
variable {X : Cx} {st : Stmt} {rest : List Stmt} {t u : TS} {e : Expr} {te : TE} {pos : Pos}
def tNext : TS := fun D σ H => D.nx σ H
def tSeq (t u : TS) : TS := fun D σ H => t { D with nx := u D } σ H
theorem pss_nil : PSs X [] tNext := fun _ _ σ H _ I h => wpAny_execs_nil ⟨σ, H, I, h⟩
theorem pss_cons (h1 : PS X st t) (h2 : PSs X rest u) : PSs X (st :: rest) (tSeq t u) := by
  intro pins s σ H D I h
  refine wpAny_execs_cons (thn (h1 pins s σ H { D with nx := u D } I h) fun f s1 q => ?_)
  cases f with
  | next =>
    obtain ⟨σ', H', I', q⟩ := q
    exact h2 pins s1 σ' H' D I' q
  | ret v => exact q
  | brk => exact q
  | cont => exact q
theorem pss_one (h1 : PS X st t) : PSs X [st] t := by
  intro pins s σ H D I h
  refine wpAny_execs_cons (thn (h1 pins s σ H D I h) fun f s1 q => ?_)
  cases f with
  | next => exact wpAny_execs_nil q
  | ret v => exact q
  | brk => exact q
  | cont => exact q
/-- in a def's body nothing is shown -/
theorem Inv.quiet {pins : List (Addr × Obj)} {σ : St} {H : Hp} {s : Shared} (I : Inv X pins σ H s) : interactive X.env = false := by simp [interactive, I.ok.kind]
/-- an expression whose value is dropped -/
def tDrop (te : TE) : TS := fun D σ H => te σ H fun _ H1 => D.nx σ H1
theorem ps_expr (he : PE X e te) (hs : swapsWith e none pos.line X.env = pure false := by rfl) : PS X (.Expr e pos) (tDrop te) := by
  intro pins s σ H D I h
  exact wpAny_Expr_any (thn (he pins s σ H _ I h) fun v s1 ⟨x, H1, I1, r1, q1⟩ => ⟨σ, H1, I1, q1⟩) I.quiet hs
def tRet (te : TE) : TS := fun D σ H => te σ H D.rt
theorem ps_ret (he : PE X e te) : PS X (.Return (some e) pos) (tRet te) := by
  intro pins s σ H D I h
  exact wpAny_Return_some (thn (he pins s σ H _ I h) fun v s1 ⟨x, H1, I1, r1, q1⟩ => ⟨x, σ, H1, I1, r1, q1⟩)
def tIfS (c : TT) (t u : TS) : TS := fun D σ H => c σ H fun b H1 => if b = true then t D σ H1 else u D σ H1
theorem ps_if {c : Expr} {a b : List Stmt} {tc : TT} (hc : PT X c tc) (ha : PSs X a t) (hb : PSs X b u) : PS X (.If c a b pos) (tIfS tc t u) := by
  intro pins s σ H D I h
  refine wpAny_If (thn (hc pins s σ H _ I h) fun d s1 ⟨H1, I1, q1⟩ => ?_)
  cases d with
  | true => exact ha pins s1 σ H1 D I1 q1
  | false => exact hb pins s1 σ H1 D I1 q1
/-- code that the proof never comes to -/
def tNever : TS := fun _ _ _ => False
theorem ps_never : PS X st tNever := fun _ _ _ _ _ _ h => h.elim
end
abbrev TG := V → St → Hp → (St → Hp → Prop) → Prop
abbrev TGs := List V → St → Hp → (St → Hp → Prop) → Prop
def PG (X : Cx) (target : Expr) (t : TG) : Prop :=
  ∀ (pins : List (Addr × Obj)) (s : Shared) (σ : St) (H : Hp) (v : V) (u : Value) (Q : St → Hp → Prop), Inv X pins σ H s → RelV v u → t v σ H Q →
    wpAny (model X.prog X.w) X.A (assign target X.env u) (fun _ s' => ∃ σ' H', Inv X pins σ' H' s' ∧ Q σ' H') X.xe s
/-- several targets, one after another -/
def PGs (X : Cx) (ts : List Expr) (t : TGs) : Prop :=
  ∀ (pins : List (Addr × Obj)) (s : Shared) (σ : St) (H : Hp) (vs : List V) (us : List Value) (Q : St → Hp → Prop), Inv X pins σ H s → Vals vs us → t vs σ H Q →
    wpAny (model X.prog X.w) X.A (assignInOrder ((assignEach ts X.env).map (·.2)) us) (fun _ s' => ∃ σ' H', Inv X pins σ' H' s' ∧ Q σ' H') X.xe s
section
variable {X : Cx} {pos : Pos}
def gName (i : Nat) : TG := fun v σ H Q => Q (σ.set i (some v)) H
theorem pg_name {i : Nat} {x : Str} (hN : X.N.Nodup) (hi : X.N[i]? = some x) (hx : Loc X.env.scope x) (hf : X.fn x = true ∨ X.env.scope.names.lookup x = some .local := by first | exact .inl rfl | exact .inr rfl | assumption) : PG X (.Name x pos) (gName i) := by
  intro pins s σ H v u Q I r h
  exact wpAny_assign_Name (store_ok I hN hi hx r (fun s' I' => ⟨_, H, I', h⟩) hf)
def gNil : TGs := fun vs σ H Q => vs = [] ∧ Q σ H
def gCons (t : TG) (u : TGs) : TGs := fun vs σ H Q => ∃ v r, vs = v :: r ∧ t v σ H fun σ' H' => u r σ' H' Q
theorem pgs_nil : PGs X [] gNil := by
  intro pins s σ H vs us Q I r h
  obtain ⟨e, h⟩ := h
  subst e
  cases r
  exact assignInOrder_nil ⟨σ, H, I, h⟩
theorem pgs_cons {e : Expr} {es : List Expr} {t : TG} {u : TGs} (h1 : PG X e t) (h2 : PGs X es u)
    (hs : (assignEach (e :: es) X.env).map (·.2) = assign e X.env :: (assignEach es X.env).map (·.2) := by rfl) : PGs X (e :: es) (gCons t u) := by
  intro pins s σ H vs us Q I r h
  obtain ⟨v, vr, e1, h⟩ := h
  subst e1
  cases r with
  | cons r rr =>
    rw [hs]
    refine assignInOrder_cons (thn (h1 pins s σ H _ _ _ I r h) fun _ s1 ⟨σ1, H1, I1, q1⟩ => ?_)
    exact h2 pins s1 σ1 H1 _ _ Q I1 rr q1
/-- (a, b, ..) = a tuple of that length -/
def gTup (K : PySem.W.Frag) (n : Nat) (t : TGs) : TG := fun v σ H Q => ∃ a xs, v = .ref a ∧ SqT K H a xs ∧ xs.length = n ∧ t xs σ H Q
theorem pg_tup {es : List Expr} {k : Nat} {t : TGs} {n : Nat} (hc : X.calm = true) (h : PGs X es t)
    (hn : (assignEach es X.env).length = n := by rfl) (hst : (assignEach es X.env).findIdx? (·.1) = none := by rfl) : PG X (.Tuple es k pos) (gTup X.K n t) := by
  intro pins s σ H v u Q I r hw
  obtain ⟨a, xs, e1, hq, hl, hw⟩ := hw
  subst e1
  cases r
  obtain ⟨its, rv, ht, hz⟩ := I.tuple hq
  refine assign_Tuple_tuple (I.ok.hd hc) ht (by simp [hn, ← hl, rv.length]) hst fun h' hx => ?_
  have I1 : Inv X pins σ H { s with heap := h' } := I.kept (t' := s.toks) fun b o e => hx b o (Nat.ne_of_lt (Heap.lt_size e)) e
  exact h pins _ σ H xs _ Q I1 (by simpa using rv) hw
/-- target = value -/
def tAsg (te : TE) (g : TG) : TS := fun D σ H => te σ H fun x H1 => g x σ H1 D.nx
/-- name = value -/
theorem ps_set {i : Nat} {x : Str} {e : Expr} {te : TE} {pos' : Pos} (hN : X.N.Nodup) (hi : X.N[i]? = some x) (hx : Loc X.env.scope x) (he : PE X e te) (hs : swapsWith e (some (.Name x pos')) pos.line X.env = pure false := by rfl) (hf : X.fn x = true ∨ X.env.scope.names.lookup x = some .local := by first | exact .inl rfl | exact .inr rfl | assumption) :
    PS X (.Assign [.Name x pos'] e pos) (tAsg te (gName i)) := by
  intro pins s σ H D I h
  refine wpAny_Assign_Name (thn (he pins s σ H _ I h) fun v s1 ⟨y, H1, I1, r1, q1⟩ => ?_) hs
  exact store_ok I1 hN hi hx r1 (fun s2 I2 => ⟨_, H1, I2, q1⟩) hf
end
section
variable {X : Cx} {pos : Pos}
/-- the invariant W with its measure -/
inductive tWhile_I (c : TT) (tb : TS) (D : Ends) (σ : St) (H : Hp) : Prop
  | mk : ∀ W : Nat → St → Hp → Prop, (∃ m, W m σ H) → (∀ m σ H, W m σ H → c σ H fun b H1 => if b = true then ∃ N : St → Hp → Prop, (∀ σ' H', N σ' H' → ∃ m', m' < m ∧ W m' σ' H') ∧ tb { D with nx := N, ct := N, bk := D.nx } σ H1 else D.nx σ H1) → tWhile_I c tb D σ H
def tWhile (c : TT) (tb : TS) : TS := fun D σ H => tWhile_I c tb D σ H
theorem ps_while {c : Expr} {body : List Stmt} {tc : TT} {tb : TS} (hp : PassesOwn (model X.prog X.w) X.A X.env X.xe) (hc : PT X c tc) (hb : PSs X body tb) : PS X (.While c body [] pos) (tWhile tc tb) := by
  intro pins s σ H D I h
  obtain ⟨W, ⟨m0, w0⟩, turn⟩ := h
  refine wpAny_While (codeAny_whileLoop (fun n s' => ∃ σ' H', Inv X pins σ' H' s' ∧ W n σ' H') ?_ m0 ⟨σ, H, I, w0⟩)
  rintro n s1 ⟨σ1, H1, I1, w1⟩
  refine wpAny_passesOwn hp (thn (hc pins s1 σ1 H1 _ I1 (turn n σ1 H1 w1)) fun b s2 ⟨H2, I2, q2⟩ => ?_)
  cases b with
  | true =>
    obtain ⟨N, hN, q2⟩ := q2
    rw [if_pos rfl]
    refine wpAny_passesOwn hp (thn (hb pins s2 σ1 H2 _ I2 q2) fun f s3 q3 => ?_)
    cases f with
    | next =>
      obtain ⟨σ3, H3, I3, n3⟩ := q3
      obtain ⟨m', hm, w3⟩ := hN σ3 H3 n3
      exact ⟨m', hm, σ3, H3, I3, w3⟩
    | cont =>
      obtain ⟨σ3, H3, I3, n3⟩ := q3
      obtain ⟨m', hm, w3⟩ := hN σ3 H3 n3
      exact ⟨m', hm, σ3, H3, I3, w3⟩
    | brk => exact q3
    | ret v => exact q3
  | false =>
    rw [if_neg Bool.false_ne_true]
    exact wpAny_execs_nil ⟨σ1, H2, I2, q2⟩
end
/-- at turn i: it yields x (the heap may grow), or it stops -/
structure It where
  go : Nat → Hp → Prop
  yld : Nat → Hp → V → Hp → Prop
  stop : Nat → Hp → Prop
/-- the iterator's own objects may turn: they are not the frame's, not pinned, younger than the entry (or a comprehension's own) -/
def FpOk (X : Cx) (pins : List (Addr × Obj)) (H : Hp) (b : Addr) : Prop :=
  H b = none ∧ b ≠ X.env.locals ∧ b ∉ X.fs ∧ (b ∈ X.ex ∨ X.s₀.heap.objs.size ≤ b) ∧ (∀ x c, X.env.cells.lookup x = some c → c ≠ b) ∧ ∀ p ∈ X.pn ++ pins, p.1 ≠ b
theorem Inv.fpOk {X : Cx} {pins : List (Addr × Obj)} {σ : St} {H H' : Hp} {s : Shared} {b : Addr} (I : Inv X pins σ H s) (hb : s.heap.objs.size ≤ b) (hn : H' b = none) : FpOk X pins H' b := by
  refine ⟨hn, Nat.ne_of_gt (Nat.lt_of_lt_of_le I.lt hb), I.nofs hb, .inr (Nat.le_trans I.sz hb), fun x c e z => ?_, fun p hp z => ?_⟩
  · obtain ⟨v, q⟩ := I.cell x c e
    exact absurd (Nat.lt_of_lt_of_le q.lt (by rw [z]; exact hb)) (Nat.lt_irrefl _)
  · exact absurd (Nat.lt_of_lt_of_le (Heap.lt_size (I.pin p hp).1) (by rw [z]; exact hb)) (Nat.lt_irrefl _)
structure Turn (P : Program) (w : World) (K : PySem.W.Frag) (tg : Expr) (J : It) (fp : List Addr) (it : Addr) (tn : Nat → Heap → Prop) : Prop where
  mem : it ∈ fp
  obj : ∀ i h, tn i h → ∀ b ∈ fp, ∃ o, h.get? b = some o ∧ ∀ v, o.data ≠ .cell v
  keep : ∀ i h h', tn i h → (∀ b ∈ fp, ∀ o, h.get? b = some o → h'.get? b = some o) → tn i h'
  item : ∀ (X : Cx), X.prog = P → X.w = w → X.K = K → X.calm = true → ∀ (i : Nat) (pins : List (Addr × Obj)) (s : Shared) (σ : St) (H : Hp) (E : Value → Shared → Prop), Inv X pins σ H s → (∀ b ∈ fp, FpOk X pins H b) → tn i s.heap → J.go i H →
    wpAny (model P w) X.A (pyNext (.ref it)) (fun r s1 => ∃ u, r = some u ∧
      wpAny (model P w) X.A (letOwnedTupleGo tg (.ref it) u) (fun _ s2 => ∃ x H', Inv X pins σ H' s2 ∧ RelV x u ∧ J.yld i H x H' ∧ tn (i + 1) s2.heap ∧ ∀ b ∈ fp, H' b = none) E s1) E s
  done : ∀ (X : Cx), X.prog = P → X.w = w → X.K = K → X.calm = true → ∀ (i : Nat) (pins : List (Addr × Obj)) (s : Shared) (σ : St) (H : Hp) (E : Value → Shared → Prop), Inv X pins σ H s → (∀ b ∈ fp, FpOk X pins H b) → tn i s.heap → J.stop i H →
    wpAny (model P w) X.A (pyNext (.ref it)) (fun r s1 => r = none ∧ Inv X pins σ H s1) E s
  self : ∀ (A : Around) (i : Nat) (s : Shared) (Q : Value → Shared → Prop) (E : Value → Shared → Prop), tn i s.heap → Q (.ref it) s → wpAny (model P w) A (pyIter (.ref it)) Q E s
abbrev TI := St → Hp → (It → Hp → Prop) → Prop
/-- an iterator has come -/
def PIE (X : Cx) (pins : List (Addr × Obj)) (σ : St) (tg : Expr) (R : It → Hp → Prop) (itv : Value) (s2 : Shared) : Prop :=
  ∃ (it : Addr) (fp : List Addr) (tn : Nat → Heap → Prop) (J : It) (H' : Hp), itv = .ref it ∧ Inv X pins σ H' s2 ∧ Turn X.prog X.w X.K tg J fp it tn ∧ tn 0 s2.heap ∧ (∀ b ∈ fp, FpOk X pins H' b) ∧ R J H'
def PI (X : Cx) (tg iter : Expr) (wi : TI) : Prop :=
  ∀ (pins : List (Addr × Obj)) (s : Shared) (σ : St) (H : Hp) (R : It → Hp → Prop), Inv X pins σ H s → wi σ H R →
    wpAny (model X.prog X.w) X.A (eval iter X.env) (fun v s1 => wpAny (model X.prog X.w) X.A (pyIter v) (PIE X pins σ tg R) X.xe s1) X.xe s
/-- the step ahead of the store is nothing for an iterator that keeps no tuple -/
theorem go_of {M : Model} {A : Around} {E : Value → Shared → Prop} {s : Shared} {tg : Expr} {it : Addr} {u : Value} {o : Obj} {n : String} {vs : Array Value} {Q : Unit → Shared → Prop} (ho : s.heap.get? it = some o) (hc : o.cls = .type n) (hd : o.data = .fields vs)
    (hn : ["enumerate", "zip", "dict_itemiterator", "dict_reverseitemiterator", "odict_iterator", "itertools.zip_longest", "itertools.pairwise"].contains n = false) (hQ : Q () s) : wpAny M A (letOwnedTupleGo tg (.ref it) u) Q E s := by
  unfold letOwnedTupleGo
  cases tg <;> first
    | exact wpAny_pure hQ
    | (cases u <;> first
        | exact wpAny_pure hQ
        | (refine wpAny_bind (wpAny_load ho ?_)
           rw [hc, hd]
           show wpAny M A (if (["enumerate", "zip", "dict_itemiterator", "dict_reverseitemiterator", "odict_iterator", "itertools.zip_longest", "itertools.pairwise"].contains n && vs[0]? == some (rawInt _)) = true then _ else _) Q E s
           rw [if_neg (by intro h; rw [hn, Bool.false_and] at h; cases h)]
           exact wpAny_pure hQ))
/-- the list at a, as it stands at each turn (a loop may append to it) -/
def Itl (K : PySem.W.Frag) (a : Addr) : It :=
  ⟨fun i H => ∃ xs x, SqL K H a xs ∧ xs[i]? = some x, fun i H x H' => H' = H ∧ ∀ xs, SqL K H a xs → xs[i]? = some x, fun i H => ∃ xs, SqL K H a xs ∧ xs.length ≤ i⟩
/-- lo, lo + 1, .. (n of them) -/
def Itr (lo : Int) (n : Nat) : It := ⟨fun i _ => i < n, fun i H x H' => H' = H ∧ x = .int (lo + i), fun i _ => n ≤ i⟩
theorem turn_list {P : Program} {w : World} {K : PySem.W.Frag} {tg : Expr} (a it : Addr) : Turn P w K tg (Itl K a) [it] it (fun i h => h.IsListIter it a i) where
  mem := by simp
  obj := fun i h st b hb => by
    have e : b = it := by simpa using hb
    subst e
    obtain ⟨o, e, c, d⟩ := st
    exact ⟨o, e, fun v z => by rw [d] at z; cases z⟩
  keep := fun i h h' st k => st.at fun o e => k it (by simp) o e
  item := by
    intro X hP hw hK hc i pins s σ H E I hf st hg
    subst hP hw hK
    obtain ⟨xs, x, hq, hx⟩ := hg
    obtain ⟨its, rv, p, hz⟩ := I.list hq
    obtain ⟨u, hu, ru⟩ := rv.get hx
    obtain ⟨f0, f1, f2, f3, f4, f5⟩ := hf it (by simp)
    refine wpAny_pyNext_list_item st p.isList (x := u) (by simpa using hu) fun h' st' sb => ?_
    have I1 : Inv X pins σ H { s with heap := h' } := I.turned (t' := s.toks) (fun b o hb e => (sb.2 b hb).trans e) f0 f1 f3 f4 f5
    obtain ⟨o, e, c, d⟩ := id st'
    exact ⟨u, rfl, go_of (s := { s with heap := h' }) e c d (by decide) ⟨x, H, I1, ru, ⟨rfl, fun ys hy => by rw [I.list_inj hy hq]; exact hx⟩, st', fun b hb => (hf b hb).1⟩⟩
  done := by
    intro X hP hw hK hc i pins s σ H E I hf st hg
    subst hP hw hK
    obtain ⟨xs, hq, hx⟩ := hg
    obtain ⟨its, rv, p, hz⟩ := I.list hq
    obtain ⟨f0, f1, f2, f3, f4, f5⟩ := hf it (by simp)
    have hl := rv.length
    exact wpAny_pyNext_list_end (I.ok.hd hc) st p.isList (by simp; omega) fun h' eb => ⟨rfl, I.turned (t' := s.toks) (fun b o hb e => eb b o hb e) f0 f1 f3 f4 f5⟩
  self := fun _ _ _ _ _ st h => wpAny_pyIter_listiter st h
theorem turn_range {P : Program} {w : World} {K : PySem.W.Frag} {tg : Expr} (it : Addr) (lo : Int) (n : Nat) : Turn P w K tg (Itr lo n) [it] it (fun i h => IsRangeIter h it (lo + (i : Nat) * 1) ((n : Int) - (i : Nat)) 1) where
  mem := by simp
  obj := fun i h st b hb => by
    have e : b = it := by simpa using hb
    subst e
    exact ⟨_, st, fun v z => by
      have z' : Data.fields _ = Data.cell v := z
      cases z'⟩
  keep := fun i h h' st k => k it (by simp) _ st
  item := by
    intro X hP hw hK hc i pins s σ H E I hf st hg
    subst hP hw hK
    obtain ⟨f0, f1, f2, f3, f4, f5⟩ := hf it (by simp)
    have W := Walks.range (prog := X.prog) (w := X.w) (I.ok.hd hc) it lo 1 n
    refine W.item i s _ _ hg st fun v h' tk hv st' kk => ?_
    obtain ⟨t, rfl⟩ := hv
    have I1 : Inv X pins σ H { s with heap := h', toks := tk } := I.turned (fun b o hb e => kk b o (by simpa using hb) e) f0 f1 f3 f4 f5
    refine ⟨_, rfl, go_of (s := { s with heap := h', toks := tk }) (n := "range_iterator") st' rfl rfl (by decide) ⟨.int (lo + i), H, I1, ⟨t, ?_⟩, ⟨rfl, rfl⟩, st', fun b hb => (hf b hb).1⟩⟩
    rw [Int.mul_one]
  done := by
    intro X hP hw hK hc i pins s σ H E I hf st hg
    subst hP hw hK
    obtain ⟨f0, f1, f2, f3, f4, f5⟩ := hf it (by simp)
    exact wpAny_pyNext_range_end (I.ok.hd hc) st (by have : n ≤ i := hg; omega) fun h' eb => ⟨rfl, I.turned (t' := s.toks) (fun b o hb e => eb b o hb e) f0 f1 f3 f4 f5⟩
  self := fun _ _ _ _ _ st h => wpAny_pyIter_rangeiter st h
end L2
namespace L2
open PySem PySem.Spec PyProof.Rows
section
variable {X : Cx} {tg : Expr}
inductive iList_I (K : PySem.W.Frag) (R : (It → Hp → Prop)) (x : V) (H1 : Hp) : Prop
  | mk : ∀ a, x = .ref a → (∃ xs, SqL K H1 a xs) → R (Itl K a) H1 → iList_I K R x H1
def iList (K : PySem.W.Frag) (tl : TE) : TI := fun σ H R => tl σ H fun x H1 => iList_I K R x H1
theorem pi_list {l : Expr} {tl : TE} (hl : PE X l tl) : PI X tg l (iList X.K tl) := by
  intro pins s σ H R I h
  refine thn (hl pins s σ H _ I h) fun v s1 ⟨x, H1, I1, r1, q1⟩ => ?_
  obtain ⟨a, e, ⟨xs, hq⟩, q⟩ := q1
  subst e
  cases r1
  obtain ⟨its, rv, p, hz⟩ := I1.list hq
  refine wpAny_pyIter_list p.isList ?_
  refine ⟨s1.heap.objs.size, [s1.heap.objs.size], _, _, H1, rfl, I1.kept (t' := s1.toks) fun b o e => Heap.get?_push_of_some _ e, turn_list a _, ⟨_, Heap.get?_push_size _ rfl, rfl, rfl⟩, fun b hb => ?_, q⟩
  have e : b = s1.heap.objs.size := by simpa using hb
  subst e
  exact I1.fpOk (Nat.le_refl _) (I1.hok.fresh (Nat.le_refl _))
/-- a range object just made, walked -/
theorem range_it {pins : List (Addr × Obj)} {σ : St} {H : Hp} {s : Shared} {R : It → Hp → Prop} {E : Value → Shared → Prop} {lo hi : Int} {t u v : Tok} {tk : Nat} (I : Inv X pins σ H s) (h1 : -(2 ^ 62) ≤ lo) (h2 : lo < 2 ^ 62) (h3 : -(2 ^ 62) ≤ hi) (h4 : hi < 2 ^ 62)
    (q : R (Itr lo (hi - lo).toNat) H) : wpAny (model X.prog X.w) X.A (pyIter (.ref s.heap.objs.size)) (PIE X pins σ tg R) E { s with heap := s.heap.push { cls := .type "range", data := .fields #[.int lo t, .int hi u, .int 1 v] }, toks := tk } := by
  refine wpAny_pyIter_range (IsRange.new ..) (small_one h1 h2 h3 h4) ?_
  have I1 : Inv X pins σ H { s with heap := s.heap.push { cls := .type "range", data := .fields #[.int lo t, .int hi u, .int 1 v] }, toks := tk } := I.kept fun b o e => Heap.get?_push_of_some _ e
  refine ⟨(s.heap.push { cls := .type "range", data := .fields #[.int lo t, .int hi u, .int 1 v] }).objs.size, [(s.heap.push { cls := .type "range", data := .fields #[.int lo t, .int hi u, .int 1 v] }).objs.size], _, _, H, rfl,
    I1.kept (t' := tk) fun b o e => Heap.get?_push_of_some _ e, turn_range _ lo (hi - lo).toNat, ?_, fun b hb => ?_, q⟩
  · have e1 : lo + ((0 : Nat) : Int) * 1 = lo := by simp
    have e2 : (((hi - lo).toNat : Nat) : Int) - ((0 : Nat) : Int) = Builtin.Range.rangeSize lo hi 1 := by rw [rangeSize_one]; split <;> omega
    show IsRangeIter _ _ (lo + ((0 : Nat) : Int) * 1) ((((hi - lo).toNat : Nat) : Int) - ((0 : Nat) : Int)) 1
    rw [e1, e2]
    exact Heap.get?_push_size _ rfl
  · have e : b = (s.heap.push { cls := .type "range", data := .fields #[.int lo t, .int hi u, .int 1 v] }).objs.size := by simpa using hb
    subst e
    exact I1.fpOk (Nat.le_refl _) (I1.hok.fresh (Nat.le_refl _))
inductive iRng1_I (R : (It → Hp → Prop)) (vs : List V) (H1 : Hp) : Prop
  | mk : ∀ j : Int, vs = [.int j] → -(2 ^ 62) ≤ j → j < 2 ^ 62 → R (Itr 0 j.toNat) H1 → iRng1_I R vs H1
def iRng1 (ta : TA) : TI := fun σ H R => ta σ H fun vs H1 => iRng1_I R vs H1
theorem pi_range1 {a : Expr} {ta : TA} {p pos : Pos} (hg : Gl X "range") (hm : X.mg "range" = none) (ha : PA X [a] ta) (hs : starEach [a] X.env = [(false, eval a X.env)] := by rfl) : PI X tg (.Call (.Name "range" p) [a] [] pos) (iRng1 ta) := by
  intro pins s σ H R I h
  refine Call_ (ld_blt I hg hm boot_range (PyProof.Rows.callWith_type1 (thn (ha pos pins s σ H _ I h) fun us s1 ⟨vs, H1, I1, r1, q1⟩ => ?_) hs rfl))
  obtain ⟨j, e, q1, q2, q⟩ := q1
  subst e
  cases r1 with
  | cons r rr =>
    cases rr
    obtain ⟨t, rfl⟩ := r
    exact call_range_1 (range_it I1 (by omega) (by omega) q1 q2 (by simpa using q))
/-- W: the invariant by the turn and a measure; N: what the body is to reach -/
inductive tFor_I (g : TG) (tb : TS) (D : Ends) (σ : St) (J : It) (H1 : Hp) : Prop
  | mk : ∀ W : Nat → Nat → St → Hp → Prop, (∃ m, W 0 m σ H1) → (∀ i m σ H, W i m σ H → (J.stop i H ∧ D.nx σ H) ∨ (J.go i H ∧ ∃ N : St → Hp → Prop, (∀ σ' H', N σ' H' → ∃ m', m' < m ∧ W (i + 1) m' σ' H') ∧ ∀ x H', J.yld i H x H' → g x σ H' fun σ2 H2 => tb { D with nx := N, ct := N, bk := D.nx } σ2 H2)) → tFor_I g tb D σ J H1
def tFor (wi : TI) (g : TG) (tb : TS) : TS := fun D σ H => wi σ H fun J H1 => tFor_I g tb D σ J H1
/-- the records at fp as they stand -/
def pinsAt (fp : List Addr) (h : Heap) : List (Addr × Obj) := fp.filterMap fun b => (h.get? b).map fun o => (b, o)
theorem mem_pinsAt {fp : List Addr} {h : Heap} {b : Addr} {o : Obj} (hb : b ∈ fp) (e : h.get? b = some o) : (b, o) ∈ pinsAt fp h := List.mem_filterMap.mpr ⟨b, hb, by rw [e]; rfl⟩
theorem of_pinsAt {fp : List Addr} {h : Heap} {p : Addr × Obj} (hp : p ∈ pinsAt fp h) : p.1 ∈ fp ∧ h.get? p.1 = some p.2 := by
  obtain ⟨b, hb, e⟩ := List.mem_filterMap.mp hp
  cases q : h.get? b with
  | none => rw [q] at e; cases e
  | some o =>
    rw [q] at e
    have e' : (b, o) = p := Option.some.inj e
    subst e'
    exact ⟨hb, q⟩
theorem Inv.pinned {pins : List (Addr × Obj)} {σ : St} {H : Hp} {s : Shared} {fp : List Addr} (I : Inv X pins σ H s) (hf : ∀ b ∈ fp, FpOk X pins H b) (ho : ∀ b ∈ fp, ∃ o, s.heap.get? b = some o ∧ ∀ v, o.data ≠ .cell v) : Inv X (pins ++ pinsAt fp s.heap) σ H s :=
  I.pins_of fun p hp => (List.mem_append.mp hp).elim (fun z => I.pin p (List.mem_append_right _ z)) fun z => by
    obtain ⟨hb, e⟩ := of_pinsAt z
    obtain ⟨f0, f1, f2, _⟩ := hf p.1 hb
    obtain ⟨o, e', d⟩ := ho p.1 hb
    rw [e] at e'; cases e'
    exact ⟨e, f0, f1, f2, d⟩
theorem Inv.unpinned {pins pl : List (Addr × Obj)} {σ : St} {H : Hp} {s : Shared} (I : Inv X (pins ++ pl) σ H s) : Inv X pins σ H s := I.pins_of fun p hp => I.pin p (List.mem_append_right _ (List.mem_append_left _ hp))
theorem ps_for {iter : Expr} {body : List Stmt} {wi : TI} {g : TG} {tb : TS} {pos : Pos} (hp : PassesOwn (model X.prog X.w) X.A X.env X.xe) (hc : X.calm = true) (hi : PI X tg iter wi) (hg : PG X tg g) (hb : PSs X body tb)
    (hs : ∀ x, foldedSetIterable iter X.env x = pure x := by intro _; rfl) : PS X (.For tg iter body [] pos) (tFor wi g tb) := by
  intro pins s σ H D I h
  refine wpAny_For (thn (hi pins s σ H _ I h) fun v s1 h1 => thn h1 fun itv s2 h2 => ?_) hs
  obtain ⟨it, fp, tn, J, H2, e, I2, T, st2, f2, W, ⟨m0, w0⟩, turn⟩ := h2
  subst e
  -- what stays true of the iterator's objects through the loop
  have stat : ∀ {H' : Hp}, (∀ b ∈ fp, H' b = none) → ∀ b ∈ fp, FpOk X pins H' b := fun hn b hb => ⟨hn b hb, (f2 b hb).2⟩
  refine codeAny_forLoop_any (fun n s' => ∃ i σ' H', Inv X pins σ' H' s' ∧ tn i s'.heap ∧ (∀ b ∈ fp, H' b = none) ∧ W i n σ' H') ?_ m0 ⟨0, σ, H2, I2, st2, fun b hb => (f2 b hb).1, w0⟩
  rintro n s3 ⟨i, σ3, H3, I3, st3, fr3, w3⟩
  rcases turn i n σ3 H3 w3 with ⟨stop, qn⟩ | ⟨go, N, hN, step⟩
  · refine wpAny_passesOwn hp (thn (T.done X rfl rfl rfl hc i pins s3 σ3 H3 X.xe I3 (stat fr3) st3 stop) fun r s4 ⟨hr, I4⟩ => ?_)
    subst hr
    exact wpAny_execs_nil ⟨σ3, H3, I4, qn⟩
  · refine wpAny_passesOwn hp (thn (T.item X rfl rfl rfl hc i pins s3 σ3 H3 X.xe I3 (stat fr3) st3 go) fun r s4 ⟨u, hr, h4⟩ => ?_)
    subst hr
    refine wpAny_passesOwn hp (thn h4 fun _ s5 ⟨x, H5, I5, r5, y5, st5, fr5⟩ => ?_)
    have I5' := I5.pinned (stat fr5) (T.obj _ _ st5)
    refine wpAny_passesOwn hp (thn (hg _ s5 σ3 H5 x u _ I5' r5 (step x H5 y5)) fun _ s6 ⟨σ6, H6, I6, q6⟩ => ?_)
    refine wpAny_passesOwn hp (thn (hb _ s6 σ6 H6 _ I6 q6) fun f s7 q7 => ?_)
    have again : ∀ {σ7 : St} {H7 : Hp}, Inv X (pins ++ pinsAt fp s5.heap) σ7 H7 s7 → N σ7 H7 → ∃ m, m < n ∧ ∃ i σ' H', Inv X pins σ' H' s7 ∧ tn i s7.heap ∧ (∀ b ∈ fp, H' b = none) ∧ W i m σ' H' := fun {σ7 H7} I7 n7 => by
      obtain ⟨m', hm, w7⟩ := hN σ7 H7 n7
      refine ⟨m', hm, i + 1, σ7, H7, I7.unpinned, T.keep _ _ _ st5 fun b hb o e => (I7.pin (b, o) (List.mem_append_right _ (List.mem_append_right _ (mem_pinsAt hb e)))).1, fun b hb => ?_, w7⟩
      obtain ⟨o, e, d⟩ := T.obj _ _ st5 b hb
      exact (I7.pin (b, o) (List.mem_append_right _ (List.mem_append_right _ (mem_pinsAt hb e)))).2.1
    cases f with
    | next => obtain ⟨σ7, H7, I7, n7⟩ := q7; exact again I7 n7
    | cont => obtain ⟨σ7, H7, I7, n7⟩ := q7; exact again I7 n7
    | brk => obtain ⟨σ7, H7, I7, q7⟩ := q7; exact ⟨σ7, H7, I7.unpinned, q7⟩
    | ret v => obtain ⟨x7, σ7, H7, I7, r7, q7⟩ := q7; exact ⟨x7, σ7, H7, I7.unpinned, r7, q7⟩
end
/-- over a list that the body leaves as it is -/
theorem for_list {K : PySem.W.Frag} {a : Addr} {xs : List V} {g : TG} {tb : TS} {D : Ends} {σ : St} {H : Hp} (Pv : Nat → St → Hp → Prop) (h0 : Pv 0 σ H) (hl : ∀ i σ H, i ≤ xs.length → Pv i σ H → SqL K H a xs)
    (hs : ∀ i x σ H, xs[i]? = some x → Pv i σ H → g x σ H fun σ2 H2 => tb { D with nx := Pv (i + 1), ct := Pv (i + 1), bk := D.nx } σ2 H2) (hd : ∀ σ H, Pv xs.length σ H → D.nx σ H) :
    tFor_I g tb D σ (Itl K a) H := by
  refine ⟨fun i m σ H => m = xs.length - i ∧ i ≤ xs.length ∧ Pv i σ H, ⟨xs.length, by simp, Nat.zero_le _, h0⟩, ?_⟩
  rintro i m σ H ⟨rfl, hi, p⟩
  have q := hl i σ H hi p
  by_cases hlt : i < xs.length
  · refine .inr ⟨⟨xs, xs[i], q, by simp [hlt]⟩, Pv (i + 1), fun σ' H' p' => ⟨xs.length - (i + 1), by omega, rfl, hlt, p'⟩, fun x H' y => ?_⟩
    obtain ⟨e, y⟩ := y
    subst e
    exact hs i x σ _ (y xs q) p
  · have e : i = xs.length := by omega
    subst e
    exact .inl ⟨⟨xs, q, Nat.le_refl _⟩, hd σ H p⟩
theorem for_range {lo : Int} {n : Nat} {g : TG} {tb : TS} {D : Ends} {σ : St} {H : Hp} (Pv : Nat → St → Hp → Prop) (h0 : Pv 0 σ H)
    (hs : ∀ i σ H, i < n → Pv i σ H → g (.int (lo + i)) σ H fun σ2 H2 => tb { D with nx := Pv (i + 1), ct := Pv (i + 1), bk := D.nx } σ2 H2) (hd : ∀ σ H, Pv n σ H → D.nx σ H) :
    tFor_I g tb D σ (Itr lo n) H := by
  refine ⟨fun i m σ H => m = n - i ∧ i ≤ n ∧ Pv i σ H, ⟨n, by simp, Nat.zero_le _, h0⟩, ?_⟩
  rintro i m σ H ⟨rfl, hi, p⟩
  by_cases hlt : i < n
  · refine .inr ⟨hlt, Pv (i + 1), fun σ' H' p' => ⟨n - (i + 1), by omega, rfl, hlt, p'⟩, fun x H' y => ?_⟩
    obtain ⟨e, y⟩ := y
    subst e y
    exact hs i σ _ hlt p
  · have e : i = n := by omega
    subst e
    exact .inl ⟨Nat.le_refl _, hd σ H p⟩
end L2
namespace L2
open PySem PySem.Spec PyProof.Rows
abbrev R2 := V → V → Hp → VK → Prop
/-- a two-place operation on values: f is binaryOp op, inplaceOp op or compareOp op -/
def OpR (X : Cx) (f : Value → Value → Sem Value) (r : R2) : Prop :=
  ∀ (pins : List (Addr × Obj)) (s : Shared) (σ : St) (H : Hp) (x y : V) (v u : Value) (Q : VK), Inv X pins σ H s → RelV x v → RelV y u → r x y H Q →
    wpAny (model X.prog X.w) X.A (f v u) (EP X pins σ Q) X.xe s
/-- a one-place operation -/
def UnR (X : Cx) (f : Value → Sem Value) (r : V → Hp → VK → Prop) : Prop :=
  ∀ (pins : List (Addr × Obj)) (s : Shared) (σ : St) (H : Hp) (x : V) (v : Value) (Q : VK), Inv X pins σ H s → RelV x v → r x H Q →
    wpAny (model X.prog X.w) X.A (f v) (EP X pins σ Q) X.xe s
/-- a call of a value that is known (a builtin, a type) with values -/
def CallR (X : Cx) (f : Value) (r : List V → Hp → VK → Prop) : Prop :=
  ∀ (pins : List (Addr × Obj)) (s : Shared) (σ : St) (H : Hp) (xs : List V) (us : List Value) (Q : VK), Inv X pins σ H s → Vals xs us → r xs H Q →
    wpAny (model X.prog X.w) X.A (call f us) (EP X pins σ Q) X.xe s
/-- a value's truth -/
def TruR (X : Cx) (r : V → Hp → (Bool → Hp → Prop) → Prop) : Prop :=
  ∀ (pins : List (Addr × Obj)) (s : Shared) (σ : St) (H : Hp) (x : V) (v : Value) (Q : Bool → Hp → Prop), Inv X pins σ H s → RelV x v → r x H Q →
    wpAny (model X.prog X.w) X.A (truthy v) (TP X pins σ Q) X.xe s
def tOp (r : R2) (ta tb : TE) : TE := fun σ H Q => ta σ H fun x H1 => tb σ H1 fun y H2 => r x y H2 Q
def tUn (r : V → Hp → VK → Prop) (ta : TE) : TE := fun σ H Q => ta σ H fun x H1 => r x H1 Q
/-- ints in, under C, and a value out -/
inductive rI_I (C : Int → Int → Prop) (g : Int → Int → V) (x : V) (y : V) (H : Hp) (Q : VK) : Prop
  | mk : ∀ i j, x = .int i → y = .int j → C i j → Q (g i j) H → rI_I C g x y H Q
def rI (C : Int → Int → Prop) (g : Int → Int → V) : R2 := fun x y H Q => rI_I C g x y H Q
inductive rI0_I (g : Int → Int → V) (x : V) (y : V) (H : Hp) (Q : VK) : Prop
  | mk : ∀ i j, x = .int i → y = .int j → Q (g i j) H → rI0_I g x y H Q
def rI0 (g : Int → Int → V) : R2 := fun x y H Q => rI0_I g x y H Q
inductive rU_I (g : Int → V) (x : V) (H : Hp) (Q : VK) : Prop
  | mk : ∀ i, x = .int i → Q (g i) H → rU_I g x H Q
def rU (g : Int → V) : V → Hp → VK → Prop := fun x H Q => rU_I g x H Q
section
variable {X : Cx} {a b c : Expr} {ta tb tc : TE} {pos : Pos}
theorem binT (ha : PE X a ta) (hb : PE X b tb) {pins : List (Addr × Obj)} {s : Shared} {σ : St} {H : Hp} {R : V → V → Hp → Prop} (I : Inv X pins σ H s)
    (h : ta σ H fun x H1 => tb σ H1 fun y H2 => R x y H2) {Q : Value → Shared → Prop} {f : Value → Value → Sem Value}
    (hf : ∀ v u s2 x y H2, Inv X pins σ H2 s2 → RelV x v → RelV y u → R x y H2 → wpAny (model X.prog X.w) X.A (f v u) Q X.xe s2) :
    wpAny (model X.prog X.w) X.A (eval a X.env) (fun v s₁ => wpAny (model X.prog X.w) X.A (eval b X.env) (fun u s₂ => wpAny (model X.prog X.w) X.A (f v u) Q X.xe s₂) X.xe s₁) X.xe s := by
  refine thn (ha pins s σ H _ I h) fun v s1 ⟨x, H1, I1, r1, q1⟩ => ?_
  refine thn (hb pins s1 σ H1 _ I1 q1) fun u s2 ⟨y, H2, I2, r2, q2⟩ => ?_
  exact hf v u s2 x y H2 I2 r1 r2 q2
theorem pe_op {op : Operator} {r : R2} (ho : OpR X (binaryOp op) r) (ha : PE X a ta) (hb : PE X b tb) : PE X (.BinOp a op b pos) (tOp r ta tb) := by
  intro pins s σ H Q I h
  exact wpAny_BinOp (binT ha hb I h fun v u s2 x y H2 I2 rx ry q => ho pins s2 σ H2 x y v u Q I2 rx ry q)
theorem pe_un {op : UnaryOp} {r : V → Hp → VK → Prop} (ho : UnR X (unaryOp op) r) (ha : PE X a ta) : PE X (.UnaryOp op a pos) (tUn r ta) := by
  intro pins s σ H Q I h
  exact UnaryOp_ (thn (ha pins s σ H _ I h) fun v s1 ⟨x, H1, I1, r1, q1⟩ => ho pins s1 σ H1 x v Q I1 r1 q1)
theorem opI {f : Value → Value → Sem Value} {C : Int → Int → Prop} {g : Int → Int → Int}
    (rule : ∀ (i j : Int) (t u : Tok) (s : Shared) (Q : Value → Shared → Prop) (E : Value → Shared → Prop), C i j → Q (.int (g i j) s.toks) { s with toks := s.toks + 1 } → wpAny (model X.prog X.w) X.A (f (.int i t) (.int j u)) Q E s) :
    OpR X f (rI C fun i j => .int (g i j)) := by
  intro pins s σ H x y v u Q I rx ry h
  obtain ⟨i, j, rfl, rfl, hc, q⟩ := h
  obtain ⟨t, rfl⟩ := rx
  obtain ⟨t', rfl⟩ := ry
  exact rule i j t t' s _ _ hc ⟨.int (g i j), H, I.tok _, ⟨_, rfl⟩, q⟩
theorem opI0 {f : Value → Value → Sem Value} {g : Int → Int → Int}
    (rule : ∀ (i j : Int) (t u : Tok) (s : Shared) (Q : Value → Shared → Prop) (E : Value → Shared → Prop), Q (.int (g i j) s.toks) { s with toks := s.toks + 1 } → wpAny (model X.prog X.w) X.A (f (.int i t) (.int j u)) Q E s) :
    OpR X f (rI0 fun i j => .int (g i j)) := by
  intro pins s σ H x y v u Q I rx ry h
  obtain ⟨i, j, rfl, rfl, q⟩ := h
  obtain ⟨t, rfl⟩ := rx
  obtain ⟨t', rfl⟩ := ry
  exact rule i j t t' s _ _ ⟨.int (g i j), H, I.tok _, ⟨_, rfl⟩, q⟩
theorem opB0 {f : Value → Value → Sem Value} {g : Int → Int → Bool}
    (rule : ∀ (i j : Int) (t u : Tok) (s : Shared) (Q : Value → Shared → Prop) (E : Value → Shared → Prop), Q (.bool (g i j)) s → wpAny (model X.prog X.w) X.A (f (.int i t) (.int j u)) Q E s) :
    OpR X f (rI0 fun i j => .bl (g i j)) := by
  intro pins s σ H x y v u Q I rx ry h
  obtain ⟨i, j, rfl, rfl, q⟩ := h
  obtain ⟨t, rfl⟩ := rx
  obtain ⟨t', rfl⟩ := ry
  exact rule i j t t' s _ _ ⟨.bl (g i j), H, I, rfl, q⟩
def CDiv (i j : Int) : Prop := 0 < j ∧ j < 1073741824
def CMul (i j : Int) : Prop := (-(2 ^ 64) < i ∧ i < 2 ^ 64) ∨ (-(2 ^ 64) < j ∧ j < 2 ^ 64)
theorem CMul.ok {i j : Int} (h : CMul i j) : IntMulOk i j := by
  rcases h with ⟨h1, h2⟩ | ⟨h1, h2⟩
  · exact .of_left (intBits_le_64 h1 h2)
  · exact .of_right (intBits_le_64 h1 h2)
theorem op_add : OpR X (binaryOp .Add) (rI0 fun i j => .int (i + j)) := opI0 fun _ _ _ _ _ _ _ q => add_int q
theorem op_sub : OpR X (binaryOp .Sub) (rI0 fun i j => .int (i - j)) := opI0 fun _ _ _ _ _ _ _ q => sub_int q
theorem op_mul : OpR X (binaryOp .Mult) (rI CMul fun i j => .int (i * j)) := opI fun _ _ _ _ _ _ _ hc q => mul_int q hc.ok
/-- // by a positive divisor -/
theorem op_fdiv : OpR X (binaryOp .FloorDiv) (rI CDiv fun i j => .int (i / j)) := opI fun i j _ _ _ _ _ hc q => by
  have h1 : (0 : Int) < j := hc.1
  have h2 : j < 1073741824 := hc.2
  exact floordiv_int (by omega) (by rw [Int.fdiv_eq_ediv_of_nonneg i (by omega)]; exact q) (.inl (PyProof.noPylong_small (by omega)))
/-- % by a positive divisor of any size -/
theorem op_mod : OpR X (binaryOp .Mod) (rI (fun _ j => 0 < j) fun i j => .int (i % j)) := opI fun i j _ _ _ _ _ hc q => by
  have h1 : (0 : Int) < j := hc
  exact mod_int' (by omega) (by rw [Int.fmod_eq_emod_of_nonneg i (by omega)]; exact q)
theorem unI {f : Value → Sem Value} {g : Int → Int}
    (rule : ∀ (i : Int) (t : Tok) (s : Shared) (Q : Value → Shared → Prop) (E : Value → Shared → Prop), Q (.int (g i) s.toks) { s with toks := s.toks + 1 } → wpAny (model X.prog X.w) X.A (f (.int i t)) Q E s) :
    UnR X f (rU fun i => .int (g i)) := by
  intro pins s σ H x v Q I rx h
  obtain ⟨i, rfl, q⟩ := h
  obtain ⟨t, rfl⟩ := rx
  exact rule i t s _ _ ⟨.int (g i), H, I.tok _, ⟨_, rfl⟩, q⟩
theorem un_neg : UnR X (unaryOp .USub) (rU fun i => .int (-i)) := unI fun _ _ _ _ _ q => neg_int q
end
/-- the scalars that == tells apart as data does -/
def scal : V → V → Bool
  | .non, .non => true | .non, .int _ => true | .int _, .non => true | .non, .bl _ => true | .bl _, .non => true | .non, .str _ => true | .str _, .non => true
  | .int _, .int _ => true | .bl _, .bl _ => true | .str _, .str _ => true | .byt _, .byt _ => true
  | .int _, .str _ => true | .str _, .int _ => true | .bl _, .str _ => true | .str _, .bl _ => true
  | _, _ => false
def rEq : R2 := fun x y H Q => scal x y = true ∧ Q (.bl (decide (x = y))) H
def rNe : R2 := fun x y H Q => scal x y = true ∧ Q (.bl (!decide (x = y))) H
theorem dec_int {i j : Int} : decide (V.int i = V.int j) = (i == j) := by
  rw [Bool.eq_iff_iff]
  simp
theorem dec_bl {i j : Bool} : decide (V.bl i = V.bl j) = (i == j) := by
  rw [Bool.eq_iff_iff]
  simp
theorem dec_str {i j : Str} : decide (V.str i = V.str j) = (i == j) := by
  rw [Bool.eq_iff_iff]
  simp
theorem dec_byt {i j : Array UInt8} : decide (V.byt i = V.byt j) = (i.toList == j.toList) := by
  rw [Bool.eq_iff_iff]
  cases i
  cases j
  simp
section
variable {X : Cx} {a b c : Expr} {ta tb tc : TE} {pos : Pos}
theorem fin_bl {pins : List (Addr × Obj)} {σ : St} {H : Hp} {s : Shared} {Q : VK} {k k' : Bool} (I : Inv X pins σ H s) (q : Q (.bl k) H) (e : k = k') : EP X pins σ Q (.bool k') s := by
  subst e
  exact ⟨.bl k, H, I, rfl, q⟩
theorem op_eq : OpR X (compareOp .Eq) rEq := by
  intro pins s σ H x y v u Q I rx ry h
  obtain ⟨hs, q⟩ := h
  cases x with
  | non =>
    cases rx
    cases y with
    | non => cases ry; exact PySem.EqNone.eq_none_none (fin_bl I q (by simp))
    | bl j => cases ry; exact PySem.EqNone.eq_none_bool (fin_bl I q (by simp))
    | int j => obtain ⟨t', rfl⟩ := ry; exact PySem.EqNone.eq_none_int (fin_bl I q (by simp))
    | str j => obtain ⟨t', rfl⟩ := ry; exact PySem.EqNone.eq_none_str (fin_bl I q (by simp))
    | _ => exact absurd (show false = true from hs) Bool.false_ne_true
  | bl i =>
    cases rx
    cases y with
    | non => cases ry; exact PySem.EqNone.eq_bool_none (fin_bl I q (by simp))
    | bl j => cases ry; exact eq_bool (fin_bl I q dec_bl)
    | str j => obtain ⟨t', rfl⟩ := ry; exact PySem.EqMixed.eq_bool_str (fin_bl I q (by simp))
    | _ => exact absurd (show false = true from hs) Bool.false_ne_true
  | int i =>
    obtain ⟨t, rfl⟩ := rx
    cases y with
    | non => cases ry; exact PySem.EqNone.eq_int_none (fin_bl I q (by simp))
    | int j => obtain ⟨t', rfl⟩ := ry; exact eq_int (fin_bl I q dec_int)
    | str j => obtain ⟨t', rfl⟩ := ry; exact PySem.EqMixed.eq_int_str (fin_bl I q (by simp))
    | _ => exact absurd (show false = true from hs) Bool.false_ne_true
  | str i =>
    obtain ⟨t, rfl⟩ := rx
    cases y with
    | non => cases ry; exact PySem.EqNone.eq_str_none (fin_bl I q (by simp))
    | bl j => cases ry; exact PySem.EqMixed.eq_str_bool (fin_bl I q (by simp))
    | int j => obtain ⟨t', rfl⟩ := ry; exact PySem.EqMixed.eq_str_int (fin_bl I q (by simp))
    | str j => obtain ⟨t', rfl⟩ := ry; exact eq_str (fin_bl I q dec_str)
    | _ => exact absurd (show false = true from hs) Bool.false_ne_true
  | byt i =>
    obtain ⟨t, rfl⟩ := rx
    cases y with
    | byt j => obtain ⟨t', rfl⟩ := ry; exact PySem.W.eq_bytes (fin_bl I q dec_byt)
    | _ => exact absurd (show false = true from hs) Bool.false_ne_true
  | _ => cases y <;> exact absurd (show false = true from hs) Bool.false_ne_true
theorem op_ne : OpR X (compareOp .NotEq) rNe := by
  intro pins s σ H x y v u Q I rx ry h
  obtain ⟨hs, q⟩ := h
  cases x with
  | non =>
    cases rx
    cases y with
    | non => cases ry; exact PySem.EqNone.ne_none_none (fin_bl I q (by simp))
    | bl j => cases ry; exact PySem.EqNone.ne_none_bool (fin_bl I q (by simp))
    | int j => obtain ⟨t', rfl⟩ := ry; exact PySem.EqNone.ne_none_int (fin_bl I q (by simp))
    | str j => obtain ⟨t', rfl⟩ := ry; exact PySem.EqNone.ne_none_str (fin_bl I q (by simp))
    | _ => exact absurd (show false = true from hs) Bool.false_ne_true
  | bl i =>
    cases rx
    cases y with
    | non => cases ry; exact PySem.EqNone.ne_bool_none (fin_bl I q (by simp))
    | bl j => cases ry; exact ne_bool (fin_bl I q (congrArg not dec_bl))
    | str j => obtain ⟨t', rfl⟩ := ry; exact PySem.EqMixed.ne_bool_str (fin_bl I q (by simp))
    | _ => exact absurd (show false = true from hs) Bool.false_ne_true
  | int i =>
    obtain ⟨t, rfl⟩ := rx
    cases y with
    | non => cases ry; exact PySem.EqNone.ne_int_none (fin_bl I q (by simp))
    | int j => obtain ⟨t', rfl⟩ := ry; exact ne_int (fin_bl I q (congrArg not dec_int))
    | str j => obtain ⟨t', rfl⟩ := ry; exact PySem.EqMixed.ne_int_str (fin_bl I q (by simp))
    | _ => exact absurd (show false = true from hs) Bool.false_ne_true
  | str i =>
    obtain ⟨t, rfl⟩ := rx
    cases y with
    | non => cases ry; exact PySem.EqNone.ne_str_none (fin_bl I q (by simp))
    | bl j => cases ry; exact PySem.EqMixed.ne_str_bool (fin_bl I q (by simp))
    | int j => obtain ⟨t', rfl⟩ := ry; exact PySem.EqMixed.ne_str_int (fin_bl I q (by simp))
    | str j => obtain ⟨t', rfl⟩ := ry; exact ne_str (fin_bl I q (congrArg not dec_str))
    | _ => exact absurd (show false = true from hs) Bool.false_ne_true
  | byt i =>
    obtain ⟨t, rfl⟩ := rx
    cases y with
    | byt j => obtain ⟨t', rfl⟩ := ry; exact PySem.W.ne_bytes (fin_bl I q (congrArg not dec_byt))
    | _ => exact absurd (show false = true from hs) Bool.false_ne_true
  | _ => cases y <;> exact absurd (show false = true from hs) Bool.false_ne_true
theorem op_lt : OpR X (compareOp .Lt) (rI0 fun i j => .bl (decide (i < j))) := opB0 fun _ _ _ _ _ _ _ q => lt_int q
theorem op_gt : OpR X (compareOp .Gt) (rI0 fun i j => .bl (decide (j < i))) := opB0 fun _ _ _ _ _ _ _ q => gt_int q
theorem nomark (b : Expr) {op : CmpOp} (h : op ≠ .In := by decide) (h2 : op ≠ .NotIn := by decide) : behindInMarks op b = false := by
  have e1 : (op == CmpOp.In) = false := by cases op <;> first | rfl | exact absurd rfl h
  have e2 : (op == CmpOp.NotIn) = false := by cases op <;> first | rfl | exact absurd rfl h2
  cases b <;> simp [behindInMarks, e1, e2]
/-- a comparison as a value; hm: nomark b, or (for in, not in) by with_unfolding_all rfl -/
theorem pe_cmpR {op : CmpOp} {r : R2} (ho : OpR X (compareOp op) r) (ha : PE X a ta) (hb : PE X b tb) (hm : behindInMarks op b = false) : PE X (.Compare a [op] [b] pos) (tOp r ta tb) := by
  intro pins s σ H Q I h
  exact wpAny_Compare1 (binT ha hb I h fun v u s2 x y H2 I2 rx ry q => ho pins s2 σ H2 x y v u Q I2 rx ry q) hm
/-- a reading of a value as a test -/
inductive tTest_I (Q : (Bool → Hp → Prop)) (x : V) (H' : Hp) : Prop
  | mk : ∀ k, x = .bl k → Q k H' → tTest_I Q x H'
def tTest (t : TE) : TT := fun σ H Q => t σ H fun x H' => tTest_I Q x H'
theorem pt_cmpR {op : CmpOp} {r : R2} (ho : OpR X (compareOp op) r) (ha : PE X a ta) (hb : PE X b tb) (hm : behindInMarks op b = false) : PT X (.Compare a [op] [b] pos) (tTest (tOp r ta tb)) := by
  intro pins s σ H Q I h
  refine wpAny_isTrue_Compare1 (thn (ha pins s σ H _ I h) fun v s1 ⟨x, H1, I1, r1, q1⟩ => thn (hb pins s1 σ H1 _ I1 q1) fun u s2 ⟨y, H2, I2, r2, q2⟩ =>
    thn (ho pins s2 σ H2 x y v u _ I2 r1 r2 q2) fun c s3 ⟨z, H3, I3, r3, k, e, q3⟩ => ?_) hm
  subst e
  cases r3
  exact wpAny_truthy_bool ⟨H3, I3, q3⟩
/-- a value's truth by the abstract heap -/
def TruV (K : PySem.W.Frag) (x : V) (H : Hp) (k : Bool) : Prop :=
  match x with
  | .non => k = false
  | .bl b => k = b
  | .int i => k = (i != 0)
  | .str y => y.length ≤ sizeLine ∧ k = ((y.length : Int) != 0)
  | .byt y => y.size ≤ sizeLine ∧ k = ((y.size : Int) != 0)
  | .ref p => (∃ xs, SqL K H p xs ∧ k = !xs.isEmpty) ∨ (∃ xs, SqT K H p xs ∧ k = !xs.isEmpty) ∨ ∃ kvs, H p = some (.dK kvs) ∧ k = !kvs.isEmpty
  | _ => False
theorem isEmpty_kv {κ : Type} {kvs : List (κ × V)} {vs : List (κ × Value)} (r : KV kvs vs) : (!vs.isEmpty) = !kvs.isEmpty := by
  cases r <;> rfl
theorem isEmpty_of {xs : List V} {its : List Value} (r : Vals xs its) : (!its.toArray.isEmpty) = !xs.isEmpty := by
  cases r <;> simp
theorem line63 : (sizeLine : Nat) < 2 ^ 63 := by rw [sizeLine_eq]; decide
theorem tru_ok : TruR X (fun x H Q => ∃ k, TruV X.K x H k ∧ Q k H) := by
  intro pins s σ H x v Q I rx h
  obtain ⟨k, e, q⟩ := h
  have hl := line63
  have hs : sizeLine = 16777216 := sizeLine_eq
  cases x with
  | non =>
    cases rx
    have e' : k = false := e
    subst e'
    exact truthy_none ⟨H, I, q⟩
  | bl b =>
    cases rx
    have e' : k = b := e
    subst e'
    exact wpAny_truthy_bool ⟨H, I, q⟩
  | int i =>
    obtain ⟨t, rfl⟩ := rx
    have e' : k = (i != 0) := e
    subst e'
    exact PySem.P.truthy_int ⟨H, I, q⟩
  | str y =>
    obtain ⟨t, rfl⟩ := rx
    obtain ⟨hy, e'⟩ : y.length ≤ sizeLine ∧ k = ((y.length : Int) != 0) := e
    subst e'
    exact PySem.P.truthy_str (by omega) ⟨H, I.tok _, q⟩
  | byt y =>
    obtain ⟨t, rfl⟩ := rx
    obtain ⟨hy, e'⟩ : y.size ≤ sizeLine ∧ k = ((y.size : Int) != 0) := e
    subst e'
    exact PySem.W.truthy_bytes (by omega) ⟨H, I.tok _, q⟩
  | ref p =>
    cases rx
    have e' : (∃ xs, SqL X.K H p xs ∧ k = !xs.isEmpty) ∨ (∃ xs, SqT X.K H p xs ∧ k = !xs.isEmpty) ∨ ∃ kvs, H p = some (.dK kvs) ∧ k = !kvs.isEmpty := e
    rcases e' with ⟨xs, hx, e'⟩ | ⟨xs, hx, e'⟩ | ⟨kvs, hx, e'⟩
    · subst e'
      obtain ⟨its, r, pl, hz⟩ := I.list hx
      have hlen := r.length
      exact wpAny_truthy_list pl.isList (by simp only [List.size_toArray]; omega) ⟨H, I.tok _, by rw [isEmpty_of r]; exact q⟩
    · subst e'
      obtain ⟨its, r, pl, hz⟩ := I.tuple hx
      have hlen := r.length
      exact truthy_tuple pl (by simp only [List.size_toArray]; omega) ⟨H, I.tok _, by rw [isEmpty_of r]; exact q⟩
    · subst e'
      obtain ⟨hz, hS, vs, r, m⟩ : kvs.length ≤ sizeLine ∧ (p == sysModules) = false ∧ ∃ vs, KV kvs vs ∧ s.heap.DictOf (mixKind X.prog X.w) p vs := I.hok p _ hx
      have hlen : kvs.length = vs.length := Paired.length r
      exact wpAny_truthy_dict hS m (by omega) ⟨H, I.tok _, by rw [isEmpty_kv r]; exact q⟩
  | _ => exact (show False from e).elim
/-- any expression whose test is its value's truth (a name, a call, a subscript, a field ..: he by fun _ => rfl) -/
theorem pt_truth (ha : PE X a ta) (he : ∀ whole, isTrue a X.env whole = (do let v ← whole; standAt a.pos; holding [v] (truthy v))) :
    PT X a (fun σ H Q => ta σ H fun x H' => ∃ k, TruV X.K x H' k ∧ Q k H') := by
  intro pins s σ H Q I h
  exact isTrue_plain (thn (ha pins s σ H _ I h) fun v s1 ⟨x, H1, I1, r1, q1⟩ => tru_ok pins s1 σ H1 x v Q I1 r1 q1) (he _)
theorem op_add_str : OpR X (binaryOp .Add) (fun x y H Q => ∃ i j, x = .str i ∧ y = .str j ∧ i.length + j.length ≤ sizeLine ∧ Q (.str (i ++ j)) H) := by
  intro pins s σ H x y v u Q I rx ry h
  obtain ⟨i, j, rfl, rfl, hz, q⟩ := h
  obtain ⟨t, rfl⟩ := rx
  obtain ⟨t', rfl⟩ := ry
  exact add_str (fun t' tk => ⟨.str (i ++ j), H, I.tok _, ⟨_, rfl⟩, q⟩) hz
theorem vals1 {x : V} {us : List Value} (r : Vals [x] us) : ∃ u, us = [u] ∧ RelV x u := by
  cases r with
  | cons r1 r2 => cases r2; exact ⟨_, rfl, r1⟩
theorem vals2 {x y : V} {us : List Value} (r : Vals [x, y] us) : ∃ u w', us = [u, w'] ∧ RelV x u ∧ RelV y w' := by
  cases r with
  | cons r1 r2 =>
    cases r2 with
    | cons r3 r4 => cases r4; exact ⟨_, _, rfl, r1, r3⟩
theorem call_int1 : CallR X (.type "int") (fun xs H Q => (∃ i, xs = [.int i] ∧ Q (.int i) H) ∨ ∃ k, xs = [.bl k] ∧ Q (.int (if k then 1 else 0)) H) := by
  intro pins s σ H xs us Q I r h
  rcases h with ⟨i, rfl, q⟩ | ⟨k, rfl, q⟩
  · obtain ⟨u, rfl, t, rfl⟩ := vals1 r
    exact call_int_int ⟨.int i, H, I, ⟨_, rfl⟩, q⟩
  · obtain ⟨u, rfl, r1⟩ := vals1 r
    cases r1
    exact call_int_bool ⟨.int (if k then 1 else 0), H, I.tok _, ⟨_, rfl⟩, q⟩
end
end L2
namespace L2
open PySem PySem.Spec PyProof.Rows
structure ObjM (h : Heap) (x dx C : Addr) (mA : Str → Option Value) : Prop where
  obj : h.get? x = some (PySem.W.instObj C dx)
  ns : h.Ns1 dx mA
  ne : dx ≠ x
theorem lookIn_ns {h : Heap} {dx : Addr} {mA : Str → Option Value} (n : h.Ns1 dx mA) : ∃ od, h.get? dx = some od ∧ ∀ name, PySem.W.lookIn name od = some (mA name) := by
  obtain ⟨o, es, ep, ho, hd, hk, _, hm⟩ := n
  refine ⟨o, ho, fun name => ?_⟩
  have e := hm name
  unfold nsFind findBy at e
  rw [← Array.find?_toList] at e
  unfold PySem.W.lookIn
  rw [hd]
  dsimp only
  split
  · rename_i y q
    rw [q] at e
    exact congrArg some e
  · rename_i q
    rw [q] at e
    have a : es.toList.any (·.refKey) = false := by
      rw [List.any_eq_false]
      intro y hy
      obtain ⟨z, t, hkey⟩ := hk y (Array.mem_toList_iff.mp hy)
      simp [DictEntry.refKey, hkey]
    have a' : ¬ es.toList.any (·.refKey) = true := by rw [a]; exact Bool.false_ne_true
    rw [if_neg a']
    exact congrArg some e
theorem ObjM.look {h : Heap} {x dx C : Addr} {mA : Str → Option Value} (I : ObjM h x dx C mA) : ∃ od, PySem.W.InstAt h x (PySem.W.instObj C dx) C (some od) ∧ ∀ name, PySem.W.lookIn name od = some (mA name) :=
  let ⟨od, ho, hl⟩ := lookIn_ns I.ns
  ⟨od, ⟨I.obj, rfl, rfl, ho⟩, hl⟩
section
variable {prog : Program} {w : World} {A : Around} {E : Value → Shared → Prop} {s : Shared} {K : PySem.W.Frag} {x dx C f : Addr} {mA : Str → Option Value} {name : Str} {v : Value}
theorem get_map {expr : Bool} {Q : Value → Shared → Prop} (X : K.In s.heap) (I : ObjM s.heap x dx C mA) (hg : PySem.W.plainGet K C name = true) (hh : PySem.W.hasDictIn K C = true)
    (ha : PySem.W.findIn K (.ref C) name = some none) (hv : mA name = some v) (hv' : PySem.W.handedIn v = true) (h : Q v { s with toks := s.toks + 1 }) :
    wpAny (model prog w) A (getAttr (.ref x) name expr) Q E s := by
  obtain ⟨od, J, hl⟩ := I.look
  exact PySem.W.get_value X J (PySem.W.plainGet_of hg).1 (PySem.W.findObj_own hh ha rfl (by rw [hl, hv])) hv' h
theorem get_meth {pl : Sem Bool} {Q : Value × List Value → Shared → Prop} (X : K.In s.heap) (I : ObjM s.heap x dx C mA) (hg : PySem.W.plainGet K C name = true)
    (hf : PySem.W.findIn K (.ref C) name = some (some (.ref f))) (ht : PySem.W.isFn K (.ref f) = true) (hv : mA name = none) (h : Q (.ref f, [.ref x]) s) :
    wpAny (model prog w) A (getMethod (.ref x) name pl) Q E s := by
  obtain ⟨od, J, hl⟩ := I.look
  exact PySem.W.method_fn X J (PySem.W.plainGet_of hg).1 (PySem.W.plainGet_of hg).2 hf (beq_iff_eq.mp ht) (by show (PySem.W.lookIn name od).map (·.isSome) = some false; rw [hl, hv]; rfl) h
theorem set_map {ns : List Str} {Q : Unit → Shared → Prop} (X : K.In s.heap) (I : ObjM s.heap x dx C mA)
    (hs : PySem.W.findIn K (.ref C) "__setattr__" = some (some (.builtin "object.__setattr__"))) (hp : PySem.W.plainOver K C = true) (ht : PySem.W.takerIn K C name = some none) (hh : PySem.W.hasDictIn K C = true)
    (hw : PySem.Within mA ns) (hsz : ns.length ≤ sizeLine)
    (h : ∀ h', ObjM h' x dx C (fun y => if y = name then some v else mA y) → Heap.SameBut dx s.heap h' → Q () { s with heap := h', toks := s.toks + 2 }) :
    wpAny (model prog w) A (setAttr (.ref x) name v) Q E s := by
  obtain ⟨od, J, hl⟩ := I.look
  refine PySem.W.set_plain X J hs (PySem.W.osa_open (s := { s with toks := s.toks + 1 }) (r := none) X J hp ht fun b => ?_)
  obtain ⟨cd, hc, hd'⟩ := PySem.W.any_some hh
  have hx : s.heap.get? x = some ⟨.ref C, some dx, .plain, #[]⟩ := I.obj
  refine wpAny_bind (wpAny_pure (wpAny_bind (wpAny_bind (wpAny_loadPart hx (wpAny_bind (PySem.W.Looks.here (s := { s with toks := s.toks + 1 }) (PySem.W.looks_clsIn X hc) ?_))))))
  rw [hd']
  refine wpAny_pure (a := some dx) (wpAny_bind (wpAny_pure (wpAny_bind ?_)))
  refine wpAny_nsSet1 (s := { s with toks := s.toks + 1 }) I.ns fun h' hn2 hs2 => ?_
  obtain ⟨oD, esD, epD, hoD, hdD, hcD⟩ := hn2.count (PySem.Within.cons name v hw)
  refine wpAny_bind (wpAny_lookBehind hoD (by rw [hdD]; exact pastItsLine_dict (Nat.le_trans hcD (by rw [List.length_cons]; omega))) ?_)
  exact wpAny_pure (h _ ⟨(hs2.2 _ (Ne.symm I.ne)).trans I.obj, hn2, I.ne⟩ hs2)
/-- C(..): the dict at the heap's end, the instance behind it; then its __init__ -/
theorem make_map {R : Result → Shared → Prop} {vs : List Value} {kw : List (Str × Value)} (X : K.In s.heap) (hm : PySem.W.makesIn K C = true)
    (hi : PySem.W.findIn K (.ref C) "__init__" = some (some (.ref f))) (hf : PySem.W.typeIn K (.ref f) = some (.type "function"))
    (h : codeAny (model prog w) (A.under (.builtin "type.__call__" ⟨.ref C :: vs, kw⟩)) (.call (.ref f) ⟨.ref (s.heap.objs.size + 1) :: vs, kw⟩) (PySem.W.InitBack (s.heap.objs.size + 1) R)
      { s with heap := (s.heap.push PySem.W.emptyDict).push (PySem.W.instObj C s.heap.objs.size) }) :
    codeAny (model prog w) A (.call (.ref C) ⟨vs, kw⟩) R s := by
  obtain ⟨hh, g, d, t, os⟩ := s
  exact PySem.W.make_core (PySem.W.makes_of X hm) (PySem.W.looks_findIn X hi) (fun self => PySem.W.bind_fn X self hf) (.inl rfl) h
end
def putF (f : Str) (v : V) : List (Str × V) → List (Str × V)
  | [] => [(f, v)]
  | (g, x) :: r => if g = f then (g, v) :: r else (g, x) :: putF f v r
theorem lookup_putF (f g : Str) (v : V) : ∀ fs : List (Str × V), (putF f v fs).lookup g = if g = f then some v else fs.lookup g
  | [] => by
    show List.lookup g [(f, v)] = _
    by_cases h : g = f
    · have hb : (g == f) = true := beq_iff_eq.mpr h
      simp only [List.lookup, hb, if_pos h]
    · have hb : (g == f) = false := beq_eq_false_iff_ne.mpr h
      simp only [List.lookup, hb, if_neg h]
  | (k, x) :: r => by
    have ih := lookup_putF f g v r
    rw [show putF f v ((k, x) :: r) = (if k = f then (k, v) :: r else (k, x) :: putF f v r) from rfl]
    by_cases hk : k = f
    · rw [if_pos hk]
      by_cases h : g = k
      · have hb : (g == k) = true := beq_iff_eq.mpr h
        simp only [List.lookup, hb, if_pos (h.trans hk)]
      · have hb : (g == k) = false := beq_eq_false_iff_ne.mpr h
        simp only [List.lookup, hb, if_neg (fun e : g = f => h (e.trans hk.symm))]
    · rw [if_neg hk]
      by_cases h : g = k
      · have hb : (g == k) = true := beq_iff_eq.mpr h
        simp only [List.lookup, hb, if_neg (fun e : g = f => hk (h.symm.trans e))]
      · have hb : (g == k) = false := beq_eq_false_iff_ne.mpr h
        simp only [List.lookup, hb]
        exact ih
theorem keys_putF (f : Str) (v : V) : ∀ fs : List (Str × V), f ∈ (putF f v fs).map (·.1) ∧ ∀ g, g ∈ fs.map (·.1) → g ∈ (putF f v fs).map (·.1)
  | [] => ⟨by simp [putF], fun g h => by simp at h⟩
  | (k, x) :: r => by
    obtain ⟨i1, i2⟩ := keys_putF f v r
    rw [show putF f v ((k, x) :: r) = (if k = f then (k, v) :: r else (k, x) :: putF f v r) from rfl]
    by_cases hk : k = f
    · rw [if_pos hk]
      subst hk
      exact ⟨by simp, fun g h => by simpa using h⟩
    · rw [if_neg hk]
      refine ⟨?_, fun g h => ?_⟩
      · rw [List.map_cons]
        exact List.mem_cons_of_mem _ i1
      · rw [List.map_cons] at h ⊢
        rcases List.mem_cons.mp h with e | e
        · exact List.mem_cons.mpr (.inl e)
        · exact List.mem_cons_of_mem _ (i2 g e)
theorem length_putF (f : Str) (v : V) : ∀ fs : List (Str × V), (putF f v fs).length ≤ fs.length + 1
  | [] => by simp [putF]
  | (k, x) :: r => by
    have ih := length_putF f v r
    rw [show putF f v ((k, x) :: r) = (if k = f then (k, v) :: r else (k, x) :: putF f v r) from rfl]
    by_cases hk : k = f
    · rw [if_pos hk, List.length_cons, List.length_cons]; omega
    · rw [if_neg hk, List.length_cons, List.length_cons]; omega
theorem RelO.some_of {v : V} {o : Option Value} (r : RelO (some v) o) : ∃ u, o = some u ∧ RelV v u := by
  cases o with
  | none => exact (show False from r).elim
  | some u => exact ⟨u, rfl, r⟩
theorem RelO.none_of {o : Option Value} (r : RelO none o) : o = none := by
  cases o with
  | none => rfl
  | some u => exact (show False from r).elim
theorem handed_of {v : V} {u : Value} (r : RelV v u) : PySem.W.handedIn u = true := by
  cases v with
  | non => cases (show u = Value.none from r); rfl
  | bl b => cases (show u = Value.bool b from r); rfl
  | int i => obtain ⟨t, e⟩ := (show ∃ t, u = Value.int i t from r); cases e; rfl
  | str x => obtain ⟨t, e⟩ := (show ∃ t, u = Value.str x t from r); cases e; rfl
  | byt b => obtain ⟨t, e⟩ := (show ∃ t, u = Value.bytes b t from r); cases e; rfl
  | flt b => obtain ⟨t, e⟩ := (show ∃ t, u = Value.float b t from r); cases e; rfl
  | ref a => cases (show u = Value.ref a from r); rfl
  | ty n => cases (show u = Value.type n from r); rfl
section
variable {P : Program} {w : World} {H H' : Hp} {h h' : Heap} {a C dx : Addr} {fs fs' : List (Str × V)}
theorem ins_get (hok : HOk P w H h) (e : H a = some (.ins C dx fs)) : ∃ mA, ObjM h a dx C mA ∧ (∀ f, RelO (fs.lookup f) (mA f)) ∧ PySem.Within mA (fs.map (·.1)) ∧ fs.length ≤ 1000 ∧ H dx = some (.own a) := by
  obtain ⟨d, z, ne, ob, mA, n, r, q⟩ := (show ObjOk P w H h a (.ins C dx fs) from hok a _ e)
  exact ⟨mA, ⟨ob, n, ne⟩, r, q, z, d⟩
end
structure Cls (K : PySem.W.Frag) (C : Addr) : Prop where
  pg : PySem.W.plainGet K C Str.empty = true
  hd : PySem.W.hasDictIn K C = true
  po : PySem.W.plainOver K C = true
  sa : PySem.W.findIn K (.ref C) "__setattr__" = some (some (.builtin "object.__setattr__"))
theorem Cls.get {K : PySem.W.Frag} {C : Addr} (c : Cls K C) (f : Str) : PySem.W.plainGet K C f = true := c.pg
/-- no class of it has the name -/
def NoAttr (K : PySem.W.Frag) (C : Addr) (f : Str) : Prop := PySem.W.findIn K (.ref C) f = some none
theorem NoAttr.taker {K : PySem.W.Frag} {C : Addr} {f : Str} (n : NoAttr K C f) : PySem.W.takerIn K C f = some none := by
  unfold PySem.W.takerIn
  rw [show PySem.W.findIn K (.ref C) f = some none from n]
  rfl
/-- a method: a plain def of the class or of one above it -/
structure Meth (K : PySem.W.Frag) (C : Addr) (m : Str) (f : Addr) : Prop where
  at_ : PySem.W.findIn K (.ref C) m = some (some (.ref f))
  fn : PySem.W.isFn K (.ref f) = true
  kp : PySem.W.keepIn K (.ref f) = true
section
variable {X : Cx} {pins : List (Addr × Obj)} {σ : St} {H : Hp} {s : Shared} {a C dx : Addr} {fs : List (Str × V)} {f : Str} {v : V} {A : Around} {E : Value → Shared → Prop}
theorem getattr_ok {b : Bool} {Q : Value → Shared → Prop} (I : Inv X pins σ H s) (e : H a = some (.ins C dx fs)) (c : Cls X.K C) (n : NoAttr X.K C f) (l : fs.lookup f = some v)
    (h : ∀ u s', Inv X pins σ H s' → RelV v u → Q u s') : wpAny (model X.prog X.w) A (getAttr (.ref a) f b) Q E s := by
  obtain ⟨mA, O, r, _, _, _⟩ := ins_get I.hok e
  obtain ⟨u, hu, ru⟩ := RelO.some_of (v := v) (o := mA f) (by rw [← l]; exact r f)
  exact get_map I.kIn O (c.get f) c.hd n hu (handed_of ru) (h u _ (I.tok _) ru)
theorem getmeth_ok {m : Str} {g : Addr} {pl : Sem Bool} {Q : Value × List Value → Shared → Prop} (I : Inv X pins σ H s) (e : H a = some (.ins C dx fs)) (c : Cls X.K C) (k : Meth X.K C m g) (l : fs.lookup m = none)
    (h : Q (.ref g, [.ref a]) s) : wpAny (model X.prog X.w) A (getMethod (.ref a) m pl) Q E s := by
  obtain ⟨mA, O, r, _, _, _⟩ := ins_get I.hok e
  have hn : mA m = none := RelO.none_of (by rw [← l]; exact r m)
  exact get_meth I.kIn O (c.get m) k.at_ k.fn hn h
theorem setattr_ok {y : V} {u : Value} {Q : Unit → Shared → Prop} (I : Inv X pins σ H s) (e : H a = some (.ins C dx fs)) (c : Cls X.K C) (n : NoAttr X.K C f) (hl : fs.length < 1000) (ry : RelV y u)
    (h : ∀ s', Inv X pins σ (upd H a (.ins C dx (putF f y fs))) s' → Q () s') : wpAny (model X.prog X.w) A (setAttr (.ref a) f u) Q E s := by
  obtain ⟨mA, O, r, wi, _, ho⟩ := ins_get I.hok e
  have hz : (fs.map (·.1)).length ≤ sizeLine := by rw [List.length_map, sizeLine_eq]; omega
  refine set_map I.kIn O c.sa c.po n.taker c.hd wi hz fun h' O' sb => h _ ?_
  have hd : ∃ o, h'.get? dx = some o := let ⟨o, _, _, e', _⟩ := O'.ns; ⟨o, e'⟩
  refine I.write (x := a) (e := dx) (by rw [e]; exact True.intro) (.inr ho) (fun b q hb z => (sb.2 b hb).trans z) hd ?_
  refine ⟨by rw [upd_ne O.ne]; exact ho, ?_, O.ne, O'.obj, _, O'.ns, fun g => ?_, fun g hg => ?_⟩
  · have := length_putF f y fs; omega
  · show RelO ((putF f y fs).lookup g) (if g = f then some u else mA g)
    rw [lookup_putF]
    by_cases q : g = f
    · rw [if_pos q, if_pos q]; exact ry
    · rw [if_neg q, if_neg q]; exact r g
  · by_cases q : g = f
    · rw [q]; exact (keys_putF f y fs).1
    · refine (keys_putF f y fs).2 g (wi g fun z => hg ?_)
      show (if g = f then some u else mA g) = none
      rw [if_neg q]; exact z
/-- a new instance, tracked, without attributes -/
theorem Inv.made (I : Inv X pins σ H s) : Inv X pins σ (upd (upd H s.heap.objs.size (.own (s.heap.objs.size + 1))) (s.heap.objs.size + 1) (.ins C s.heap.objs.size []))
    { s with heap := (s.heap.push PySem.W.emptyDict).push (PySem.W.instObj C s.heap.objs.size) } := by
  have e1 : (s.heap.push PySem.W.emptyDict).get? s.heap.objs.size = some PySem.W.emptyDict := Heap.get?_push_size s.heap rfl
  have e2 : ((s.heap.push PySem.W.emptyDict).push (PySem.W.instObj C s.heap.objs.size)).get? (s.heap.objs.size + 1) = some (PySem.W.instObj C s.heap.objs.size) := by
    have := Heap.get?_push_size (s.heap.push PySem.W.emptyDict) (o := PySem.W.instObj C s.heap.objs.size) rfl
    rwa [Heap.size_push] at this
  have e3 : (s.heap.push PySem.W.emptyDict).Ns s.heap.objs.size (fun _ => none) := ⟨PySem.W.emptyDict, #[], _, e1, rfl, (fun e he => absurd he (by simp)), fun _ => rfl⟩
  have I1 := I.laid (a := s.heap.objs.size) (o := .own (s.heap.objs.size + 1)) (h' := s.heap.push PySem.W.emptyDict) (t' := s.toks) (fun b u q => Heap.get?_push_of_some _ q) (Nat.le_refl _) ⟨_, e1⟩
  refine I1.laid (a := s.heap.objs.size + 1) (o := .ins C s.heap.objs.size []) (t' := s.toks) (fun b u q => Heap.get?_push_of_some _ q) (Nat.le_of_eq (Heap.size_push _ _)) ?_
  have ne : s.heap.objs.size ≠ s.heap.objs.size + 1 := Nat.ne_of_lt (Nat.lt_succ_self _)
  refine ⟨by rw [upd_ne ne, upd_same], Nat.zero_le _, ne, e2, fun _ => none, (Heap.Ns1.of_empty e3).at fun o q => Heap.get?_push_of_some _ q, fun _ => True.intro, fun y hy => absurd rfl hy⟩
/-- e.f where nothing but the object is asked: through attributeBase (super) and the last hold -/
theorem attr_of {prog : Program} {w : World} {env : Env} {e : Expr} {f : Str} {pos : Pos} {s : Shared} {Q : Value → Shared → Prop} (hb : attributeBase e f env (eval e env) = eval e env)
    (h : wpAny (model prog w) A (eval e env) (fun o s₁ => wpAny (model prog w) A (getAttr o f true) Q E s₁) E s) : wpAny (model prog w) A (eval (.Attribute e f pos) env) Q E s :=
  Attribute_any_ h (by rw [arm_eval_Attribute, hb])
end
/-- e.f, an attribute of the instance -/
inductive tFld_I (K : PySem.W.Frag) (f : Str) (Q : VK) (x : V) (H1 : Hp) : Prop
  | mk : ∀ a C dx fs v, x = .ref a → H1 a = some (.ins C dx fs) → Cls K C → NoAttr K C f → fs.lookup f = some v → Q v H1 → tFld_I K f Q x H1
def tFld (K : PySem.W.Frag) (ta : TE) (f : Str) : TE := fun σ H Q => ta σ H fun x H1 => tFld_I K f Q x H1
/-- e.f = value -/
inductive sFld_I (K : PySem.W.Frag) (f : Str) (D : Ends) (σ : St) (y : V) (x : V) (H2 : Hp) : Prop
  | mk : ∀ a C dx fs, x = .ref a → H2 a = some (.ins C dx fs) → Cls K C → NoAttr K C f → fs.length < 1000 → D.nx σ (upd H2 a (.ins C dx (putF f y fs))) → sFld_I K f D σ y x H2
def sFld (K : PySem.W.Frag) (ta tv : TE) (f : Str) : TS := fun D σ H => tv σ H fun y H1 => ta σ H1 fun x H2 => sFld_I K f D σ y x H2
section
variable {X : Cx} {o e value : Expr} {f : Str} {pos pos' tpos : Pos} {ta tv : TE}
theorem pe_fld (he : PE X e ta) (hb : attributeBase e f X.env (eval e X.env) = eval e X.env) : PE X (.Attribute e f pos) (tFld X.K ta f) := by
  intro pins s σ H Q I h
  refine attr_of hb (thn (he pins s σ H _ I h) fun u s1 ⟨x, H1, I1, rx, a, C, dx, fs, v, ex, ea, c, n, l, q⟩ => ?_)
  subst ex
  obtain rfl : u = Value.ref a := rx
  exact getattr_ok I1 ea c n l fun u' s2 I2 ru => ⟨v, H1, I2, ru, q⟩
theorem ps_fld (ha : PE X o ta) (hv : PE X value tv) (hs : swapsWith value (some (.Attribute o f pos')) pos.line X.env = pure false) : PS X (.Assign [.Attribute o f pos'] value pos) (sFld X.K ta tv f) := by
  intro pins s σ H D I h
  refine plainObj_wpAny_Assign_Attribute (thn (hv pins s σ H _ I h) fun u s1 ⟨y, H1, I1, ry, q⟩ => thn (ha pins s1 σ H1 _ I1 q) fun ov s2 ⟨x, H2, I2, rx, a, C, dx, fs, ex, ea, c, n, l, q2⟩ => ?_) hs
  subst ex
  obtain rfl : ov = Value.ref a := rx
  exact setattr_ok I2 ea c n l ry fun s3 I3 => ⟨σ, _, I3, q2⟩
end
section
variable {X : Cx} {pins : List (Addr × Obj)} {σ : St} {H : Hp} {s : Shared} {A : Around} {E : Value → Shared → Prop} {Q : Value → Shared → Prop} {c : Value} {b : Bool}
/-- the type of a value, as the fragment's deciders take it; for an instance its class -/
inductive TyOf (K : PySem.W.Frag) (H : Hp) : V → Value → Prop where
  | non : TyOf K H .non (.type "NoneType")
  | bl (x : Bool) : TyOf K H (.bl x) (.type "bool")
  | int (i : Int) : TyOf K H (.int i) (.type "int")
  | str (x : Str) : TyOf K H (.str x) (.type "str")
  | flt (x : UInt64) : TyOf K H (.flt x) (.type "float")
  | lst {a : Addr} {xs : List V} (e : H a = some (.lst xs)) : TyOf K H (.ref a) (.type "list")
  | frz {a : Addr} {o : Obj} {xs : List V} (e : H a = some (.frz o (.lst xs))) : TyOf K H (.ref a) (.type "list")
  | tup {a : Addr} {xs : List V} (e : H a = some (.tup xs)) : TyOf K H (.ref a) (.type "tuple")
  | dK {a : Addr} {kvs : List (Key × V)} (e : H a = some (.dK kvs)) : TyOf K H (.ref a) (.type "dict")
  | dT {a : Addr} {kvs : List (List Key × V)} (e : H a = some (.dT kvs)) : TyOf K H (.ref a) (.type "dict")
  | ins {a C dx : Addr} {fs : List (Str × V)} (e : H a = some (.ins C dx fs)) (cl : Cls K C) (ha : PySem.W.findIn K (.ref C) "__class__" = some (some (.builtin "object.__class__")))
      (hn : PySem.W.specialIn K (.builtin "object.__class__") "__get__" = some (some (.builtin "getset_descriptor.__get__"))) (htk : PySem.W.takesIn K (.builtin "object.__class__") = some true)
      (hm : PySem.W.mroIn K C (.type "object") = some true) : TyOf K H (.ref a) (.ref C)
/-- isinstance(x, c) for one class c, a built-in or an own one: kitOne's answer -/
theorem isinst_ok {x : V} {u t : Value} (I : Inv X pins σ H s) (rx : RelV x u) (ty : TyOf X.K H x t) (e : PySem.W.kitOne X.K t c = some b) (h : ∀ tk, Q (.bool b) { s with toks := tk }) :
    wpAny (model X.prog X.w) A (call (.builtin "isinstance") [u, c]) Q E s := by
  cases ty with
  | non => cases (show u = Value.none from rx); exact PySem.W.kia_one PySem.W.kitx_none I.kIn True.intro e (fun z => nomatch z) h
  | bl y => cases (show u = Value.bool y from rx); exact PySem.W.kia_one PySem.W.kitx_bool I.kIn True.intro e (fun z => nomatch z) h
  | int i => obtain ⟨t, q⟩ := (show ∃ t, u = Value.int i t from rx); cases q; exact PySem.W.kia_one PySem.W.kitx_int I.kIn True.intro e (fun z => nomatch z) h
  | str y => obtain ⟨t, q⟩ := (show ∃ t, u = Value.str y t from rx); cases q; exact PySem.W.kia_one PySem.W.kitx_str I.kIn True.intro e (fun z => nomatch z) h
  | flt y => obtain ⟨t, q⟩ := (show ∃ t, u = Value.float y t from rx); cases q; exact PySem.W.kia_one PySem.W.kitx_float I.kIn True.intro e (fun z => nomatch z) h
  | @lst a xs ea =>
    cases (show u = Value.ref a from rx)
    obtain ⟨_, _, n, _, h1⟩ := (show ObjOk X.prog X.w H s.heap a (.lst xs) from I.hok a _ ea)
    exact PySem.W.kia_one PySem.W.kitx_list I.kIn ⟨_, h1, rfl⟩ e (fun z => nomatch z) h
  | @frz a ob xs ea =>
    cases (show u = Value.ref a from rx)
    obtain ⟨_, _, _, n, _, h1⟩ := (show ObjOk X.prog X.w H s.heap a (.frz ob (.lst xs)) from I.hok a _ ea)
    exact PySem.W.kia_one PySem.W.kitx_list I.kIn ⟨_, h1, rfl⟩ e (fun z => nomatch z) h
  | @tup a xs ea =>
    cases (show u = Value.ref a from rx)
    obtain ⟨_, _, _, p⟩ := (show ObjOk X.prog X.w H s.heap a (.tup xs) from I.hok a _ ea)
    obtain ⟨o, h1, h2, _⟩ := p
    exact PySem.W.kia_one PySem.W.kitx_tuple I.kIn ⟨o, h1, h2⟩ e (fun z => nomatch z) h
  | @dK a kvs ea =>
    cases (show u = Value.ref a from rx)
    obtain ⟨_, _, vs, _, p⟩ := (show ObjOk X.prog X.w H s.heap a (.dK kvs) from I.hok a _ ea)
    obtain ⟨o, es, ep, h1, h2, _⟩ := p
    exact PySem.W.kia_one PySem.W.kitx_dict I.kIn ⟨o, h1, h2.1⟩ e (fun z => nomatch z) h
  | @dT a kvs ea =>
    cases (show u = Value.ref a from rx)
    obtain ⟨_, _, xs, _, o, es, ep, h1, h2, _⟩ := (show ObjOk X.prog X.w H s.heap a (.dT kvs) from I.hok a _ ea)
    exact PySem.W.kia_one PySem.W.kitx_dict I.kIn ⟨o, h1, h2.1⟩ e (fun z => nomatch z) h
  | @ins a C dx fs ea cl ha hn htk hm =>
    cases (show u = Value.ref a from rx)
    obtain ⟨mA, O, _⟩ := ins_get I.hok ea
    obtain ⟨od, J, _⟩ := O.look
    exact PySem.W.kia_one (PySem.W.kitx_own (cl.get _) cl.hd ha hn htk hm) I.kIn J e (fun z => nomatch z) h
end
end L2
namespace L2
open PySem PySem.Spec PyProof.Rows
structure Room (k : Nat) (A : Around) : Prop where
  hd : A.handled = none
  dp : A.depth + 3 * k + 5 < recursionLimit
  un : A.units + 16 * k + 200 < cLine
  gd : A.guards = some []
theorem Room.mono {j k : Nat} {A : Around} (r : Room k A) (h : j ≤ k) : Room j A := ⟨r.hd, by have := r.dp; omega, by have := r.un; omega, r.gd⟩
theorem Room.deeper {k : Nat} {A : Around} (r : Room (k + 1) A) (env : Env) : Room k (A.deeper env) :=
  ⟨r.hd, by have := r.dp; show A.depth + 1 + 3 * k + 5 < _; omega, by have := r.un; show A.units + 3 + 16 * k + 200 < _; omega, r.gd⟩
theorem Room.in1 {k : Nat} {A : Around} (r : Room (k + 1) A) : Room k A.in1 :=
  ⟨r.hd, by have := r.dp; show A.depth + 3 * k + 5 < _; omega, by have := r.un; show A.units + 1 + 16 * k + 200 < _; omega, r.gd⟩
theorem make_depth {A : Around} {C : Addr} {us : List Value} {kw : List (Str × Value)} : (A.under (.builtin "type.__call__" ⟨.ref C :: us, kw⟩)).depth = A.depth + 1 := by
  first | rfl | simp [Around.under, Code.weight, Code.isCreation, Code.isGuard, Code.isCaller, Code.frames, Code.isFrame, guardIds]
theorem make_units {A : Around} {C : Addr} {us : List Value} {kw : List (Str × Value)} : (A.under (.builtin "type.__call__" ⟨.ref C :: us, kw⟩)).units = A.units + 1 := by
  first | rfl | simp [Around.under, Code.cUnits, Code.frames, Code.isFrame]
theorem make_guards {A : Around} {C : Addr} {us : List Value} {kw : List (Str × Value)} (h : A.guards = some []) : (A.under (.builtin "type.__call__" ⟨.ref C :: us, kw⟩)).guards = some [] := by
  first | exact h | simp [Around.under, Code.guards, Code.isGuard, pushGuards, guardIds, h]
theorem Room.make {k : Nat} {A : Around} (r : Room (k + 1) A) (C : Addr) (us : List Value) (kw : List (Str × Value)) : Room k (A.under (.builtin "type.__call__" ⟨.ref C :: us, kw⟩)) :=
  ⟨r.hd, by have := r.dp; rw [make_depth]; omega, by have := r.un; rw [make_units]; omega, make_guards r.gd⟩
theorem Room.depth {k : Nat} {A : Around} (r : Room k A) : A.depth < recursionLimit := by have := r.dp; omega
theorem Room.units {k : Nat} {A : Around} (r : Room k A) : A.units + 64 < cLine := by have := r.un; omega
def tNil : TA := fun _ H Q => Q [] H
def tCons (ta : TE) (tr : TA) : TA := fun σ H Q => ta σ H fun x H1 => tr σ H1 fun xs H2 => Q (x :: xs) H2
section
variable {X : Cx} {e : Expr} {es : List Expr} {te : TE} {t : TA} {pos : Pos}
theorem pa_nil : PA X [] tNil := fun _ _ _ _ H Q I h => Calls.spliced_nil ⟨[], H, I, .nil, h⟩
theorem pa_cons (ha : PE X e te) (hr : PA X es t) (hs : starEach (e :: es) X.env = (false, eval e X.env) :: starEach es X.env := by rfl) : PA X (e :: es) (tCons te t) := by
  intro pos pins s σ H Q I h
  rw [hs]
  show wpAny _ _ (spliced ((false, eval e X.env) :: backTo pos (starEach es X.env))) _ _ s
  refine Calls.spliced_cons (thn (ha pins s σ H _ I h) fun u s1 ⟨x, H1, I1, r1, q1⟩ => ?_)
  exact thn (hr pos pins s1 σ H1 _ I1 q1) fun us s2 ⟨xs, H2, I2, r2, q2⟩ => ⟨x :: xs, H2, I2, .cons r1 r2, q2⟩
/-- a tuple, a list of written items -/
def tTup (t : TA) : TE := fun σ H Q => t σ H fun xs H1 => xs.length ≤ sizeLine ∧ ∀ p, H1 p = none → Q (.ref p) (upd H1 p (.tup xs))
def tLst (t : TA) : TE := fun σ H Q => t σ H fun xs H1 => xs.length ≤ sizeLine ∧ ∀ p, H1 p = none → Q (.ref p) (upd H1 p (.lst xs))
theorem pe_tup {x1} (h : PA X es t) : PE X (.Tuple es x1 pos) (tTup t) := by
  intro pins s σ H Q I hq
  refine wpAny_Tuple_spliced (thn (h pos pins s σ H _ I hq) fun us s1 ⟨xs, H1, I1, r, z, q⟩ => ⟨by rw [← r.length]; exact z, ?_⟩)
  have hf : H1 s1.heap.objs.size = none := I1.hok.fresh (Nat.le_refl _)
  refine ⟨.ref s1.heap.objs.size, upd H1 s1.heap.objs.size (.tup xs), I1.laid (t' := s1.toks) (fun b u e => Heap.get?_push_of_some _ e) (Nat.le_refl _) ?_, rfl, q _ hf⟩
  exact ⟨z, us, r, ⟨_, Heap.get?_push_size _ rfl, rfl, _, rfl⟩⟩
theorem pe_lst (h : PA X es t) : PE X (.List es pos) (tLst t) := by
  intro pins s σ H Q I hq
  refine wpAny_List_spliced (thn (h pos pins s σ H _ I hq) fun us s1 ⟨xs, H1, I1, r, z, q⟩ => ⟨by rw [← r.length]; exact z, ?_⟩)
  have hf : H1 s1.heap.objs.size = none := I1.hok.fresh (Nat.le_refl _)
  refine ⟨.ref s1.heap.objs.size, upd H1 s1.heap.objs.size (.lst xs), I1.laid (t' := s1.toks) (fun b u e => Heap.get?_push_of_some _ e) (Nat.le_refl _) ?_, rfl, q _ hf⟩
  exact ⟨z, us, 0, r, Heap.get?_push_size _ rfl⟩
end
/-- a def's promise: the bound arguments in the parameters' order, the heap, the wanted end, the wanted exception -/
abbrev Sp := List V → Hp → VK → XK → Prop
/-- how an exception lies behind a call (file 08 gives it): the callers' frames, abstract heap and state ahead of the call, the wish, the exception, the state -/
abbrev CXT := List Env → Hp → Shared → XK → Value → Shared → Prop
/-- the state at a call -/
structure Env0 (P : Program) (w : World) (K : PySem.W.Frag) (mg : Str → Option Value) (base : Heap) (A : Around) (outer : List Env) (s : Shared) (H : Hp) : Prop where
  frames : A.frames = some outer
  mod : Mod K mg base
  bs : ∀ b o, base.get? b = some o → s.heap.get? b = some o ∧ H b = none
  bsz : base.objs.size ≤ s.heap.objs.size
  funs : s.heap.FunFrames base outer
  frf : ∀ b ∈ frs outer, H b = none
  hok : HOk P w H s.heap
  bare : AllBare s.gens
/-- a call's end -/
def CE (outer : List Env) (P : Program) (w : World) (H : Hp) (s : Shared) (Q : VK) (u : Value) (s' : Shared) : Prop :=
  ∃ v H', s'.os = s.os ∧ AllBare s'.gens ∧ Un (frs outer) [] H H' s.heap s'.heap ∧ HOk P w H' s'.heap ∧ RelV v u ∧ Q v H'
def CR (CX : CXT) (outer : List Env) (P : Program) (w : World) (H : Hp) (s : Shared) (Q : VK) (E : XK) (r : Result) (s' : Shared) : Prop :=
  match r with
  | .ok (.ret u) => CE outer P w H s Q u s'
  | .ok _ => False
  | .error e => CX outer H s E e s'
structure FnOk (P : Program) (w : World) (K : PySem.W.Frag) (mg : Str → Option Value) (base : Heap) (CX : CXT) (k : Nat) (f : Addr) (fd : FuncData) (ps : List Str) (sp : Sp) : Prop where
  len : ∀ vs H Q E, sp vs H Q E → vs.length = ps.length
  run : ∀ (A : Around) (outer : List Env) (s : Shared) (H : Hp) (args : Args) (us : List Value) (vs : List V) (Q : VK) (E : XK), Room k A → Env0 P w K mg base A outer s H → BindsTo s fd args (ps.zip us) → Vals vs us → sp vs H Q E →
    codeAny (model P w) A (.call (.ref f) args) (CR CX outer P w H s Q E) s
theorem FnOk.mono {P : Program} {w : World} {K : PySem.W.Frag} {mg : Str → Option Value} {base : Heap} {CX : CXT} {j k : Nat} {f : Addr} {fd : FuncData} {ps : List Str} {sp : Sp} (F : FnOk P w K mg base CX j f fd ps sp) (h : j ≤ k) :
    FnOk P w K mg base CX k f fd ps sp := ⟨F.len, fun A outer s H args us vs Q E hr => F.run A outer s H args us vs Q E (hr.mono h)⟩
theorem Env0.make {P : Program} {w : World} {K : PySem.W.Frag} {mg : Str → Option Value} {base : Heap} {A : Around} {outer : List Env} {s : Shared} {H : Hp} (e : Env0 P w K mg base A outer s H) (C : Addr) (us : List Value) (kw : List (Str × Value)) :
    Env0 P w K mg base (A.under (.builtin "type.__call__" ⟨.ref C :: us, kw⟩)) outer s H := ⟨by first | exact e.frames | (simpa [Around.under, Code.envs, Code.isFrame, pushEnvs] using e.frames), e.mod, e.bs, e.bsz, e.funs, e.frf, e.hok, e.bare⟩
theorem Env0.in1 {P : Program} {w : World} {K : PySem.W.Frag} {mg : Str → Option Value} {base : Heap} {A : Around} {outer : List Env} {s : Shared} {H : Hp} (e : Env0 P w K mg base A outer s H) :
    Env0 P w K mg base A.in1 outer s H := ⟨e.frames, e.mod, e.bs, e.bsz, e.funs, e.frf, e.hok, e.bare⟩
section
variable {X : Cx} {pins : List (Addr × Obj)} {σ : St} {H : Hp} {s s' : Shared}
/-- from a body: what a callee wants -/
theorem Inv.env0 (I : Inv X pins σ H s) : Env0 X.prog X.w X.K X.mg X.base X.A X.stack s H :=
  ⟨I.ok.frames, I.ok.mod, I.bs, Nat.le_trans I.ok.bsz I.sz, I.stack, I.stkFree, I.hok, I.bare⟩
/-- behind a call -/
theorem Inv.after {Q : VK} {u : Value} (I : Inv X pins σ H s) (h : CE X.stack X.prog X.w H s Q u s') : EP X pins σ Q u s' := by
  obtain ⟨v, H', os, bare, un, hok, r, q⟩ := h
  obtain ⟨hh, g, d, t, os'⟩ := s'
  obtain rfl : os' = s.os := os
  exact ⟨v, H', I.call (h' := hh) (g' := g) (d' := d) (t' := t) (ch := []) un hok bare (fun b z => absurd z (by simp)), r, q⟩
end
/-- f(..): the written arguments, then the defaults dvs; E: what is wanted of an exception -/
def tCall (sp : Sp) (dvs : List V) (E : XK) (t : TA) : TE := fun σ H Q => t σ H fun vs H1 => sp (vs ++ dvs) H1 Q E
/-- o.m(..) of an instance of the class at C -/
inductive tMeth_I (C : Addr) (m : Str) (sp : Sp) (dvs : List V) (E : XK) (t : TA) (σ : St) (Q : VK) (x : V) (H1 : Hp) : Prop
  | mk : ∀ a dx fs, x = .ref a → H1 a = some (.ins C dx fs) → fs.lookup m = none → (t σ H1 fun vs H2 => sp (x :: (vs ++ dvs)) H2 Q E) → tMeth_I C m sp dvs E t σ Q x H1
def tMeth (C : Addr) (m : Str) (sp : Sp) (dvs : List V) (E : XK) (ta : TE) (t : TA) : TE := fun σ H Q => ta σ H fun x H1 => tMeth_I C m sp dvs E t σ Q x H1
/-- C(..): a new instance and its dict, then __init__ -/
def tMake (C : Addr) (sp : Sp) (dvs : List V) (E : XK) (t : TA) : TE := fun σ H Q => t σ H fun vs H1 => ∀ x dx, H1 x = none → H1 dx = none → dx ≠ x →
  sp (.ref x :: (vs ++ dvs)) (upd (upd H1 dx (.own x)) x (.ins C dx [])) (fun v H2 => v = .non ∧ Q (.ref x) H2) E
/-- how the parameters are bound: us the positional arguments, kw the keywords' values by name, ds the defaults that fill up -/
def Binds (K : PySem.W.Frag) (fd : FuncData) (ps : List Str) (ds : List Value) : Prop :=
  ∀ (s : Shared) (us : List Value), K.In s.heap → (us ++ ds).length = ps.length → BindsTo s fd ⟨us, []⟩ (ps.zip (us ++ ds))
/-- every parameter is given -/
theorem Binds.all {K : PySem.W.Frag} {fd : FuncData} {ps : List Str} (h : ∀ us : List Value, us.length = ps.length → bindArgs fd ⟨us, []⟩ = pure (ps.zip us)) : Binds K fd ps [] := fun s us _ hl => by
  rw [List.append_nil] at hl ⊢
  exact .of_eq (h us hl)
/-- an exception of a callee reaches what this body wants of exceptions -/
def Passes (CX : CXT) (X : Cx) (E : XK) : Prop := ∀ (pins : List (Addr × Obj)) (σ : St) (H : Hp) (s : Shared) (e : Value) (s' : Shared), Inv X pins σ H s → CX X.stack H s E e s' → X.xe e s'
section
variable {X : Cx} {CX : CXT} {k : Nat} {f C : Addr} {fd : FuncData} {ps : List Str} {sp : Sp} {dvs : List V} {ds : List Value} {E : XK} {x m : Str} {p pos apos : Pos} {e o : Expr} {es : List Expr} {ta : TE} {t : TA}
/-- the callee runs -/
theorem run_fn {pins : List (Addr × Obj)} {σ : St} {H : Hp} {s : Shared} {Q : VK} {us : List Value} {vs : List V} (F : FnOk X.prog X.w X.K X.mg X.base CX k f fd ps sp) (hr : Room k X.A) (hb : Binds X.K fd ps ds) (hd : Vals dvs ds) (hx : Passes CX X E)
    (I : Inv X pins σ H s) (r : Vals vs us) (h : sp (vs ++ dvs) H Q E) : wpAny (model X.prog X.w) X.A (call (.ref f) us) (EP X pins σ Q) X.xe s := by
  have r2 : Vals (vs ++ dvs) (us ++ ds) := r.append hd
  have hl : (us ++ ds).length = ps.length := by rw [← r2.length]; exact F.len _ _ _ _ h
  refine wpAny_call (codeAny_mono (F.run X.A X.stack s H ⟨us, []⟩ (us ++ ds) (vs ++ dvs) Q E hr I.env0 (hb s us I.kIn hl) r2 h) fun r s' hq => ?_)
  cases r with
  | error e => exact hx pins σ H s e s' I hq
  | ok fl =>
    cases fl with
    | ret u => exact I.after hq
    | next => exact False.elim hq
    | brk => exact False.elim hq
    | cont => exact False.elim hq
theorem pe_call (F : FnOk X.prog X.w X.K X.mg X.base CX k f fd ps sp) (hr : Room k X.A) (hg : Gl X x) (hm : X.mg x = some (.ref f)) (hk : PySem.W.keepIn X.K (.ref f) = true) (hb : Binds X.K fd ps ds) (hd : Vals dvs ds) (hx : Passes CX X E)
    (ha : PA X (e :: es) t) (hdb : (x == ("__debug__" : Str)) = false := by decide) (he : starEach (e :: es) X.env = (false, eval e X.env) :: starEach es X.env := by rfl) (hpl : (backTo pos (starEach es X.env)).any (·.1) = false := by rfl) :
    PE X (.Call (.Name x p) (e :: es) [] pos) (tCall sp dvs E t) := by
  intro pins s σ H Q I h
  refine wpAny_Call_Name_kw (ld_glob I hg hm ?_ hdb)
  refine PySem.W.callWith_K (h₀ := X.base) I.ok.mod.kin hk (thn (ha pos pins s σ H _ I h) fun us s1 ⟨vs, H1, I1, r, q⟩ => ⟨I1.kIn, ?_⟩) he hpl
  exact run_fn F hr hb hd hx I1 r q
/-- o.m(e, ..) -/
theorem pe_meth {pl : Sem Bool} (he : PE X o ta) (c : Cls X.K C) (hm : Meth X.K C m f) (F : FnOk X.prog X.w X.K X.mg X.base CX k f fd ps sp) (hr : Room k X.A) (hb : Binds X.K fd ps ds) (hd : Vals dvs ds) (hx : Passes CX X E) (ha : PA X (e :: es) t)
    (hst : starEach (e :: es) X.env = (false, eval e X.env) :: starEach es X.env := by rfl) (hpl : (backTo pos (starEach es X.env)).any (·.1) = false := by rfl)
    (ht : eval (.Call (.Attribute o m apos) (e :: es) [] pos) X.env = (do
      let ov ← eval o X.env
      standAt apos.atName
      let (f, first) ← holding [ov] (getMethod ov m pl)
      callWith pos f first (backTo pos (starEach (e :: es) X.env)) (backToKw pos (keywordEach [] X.env))) := by rfl) :
    PE X (.Call (.Attribute o m apos) (e :: es) [] pos) (tMeth C m sp dvs E ta t) := by
  intro pins s σ H Q I h
  refine PySem.W.methodCall_KW (pl := pl) (thn (he pins s σ H _ I h) fun u s1 ⟨x, H1, I1, rx, a, dx, fs, ex, ea, l, q⟩ => ?_) ht
  subst ex
  obtain rfl : u = Value.ref a := rx
  refine getmeth_ok I1 ea c hm l ?_
  refine PySem.W.callWith_K (first := [.ref a]) (h₀ := X.base) I.ok.mod.kin hm.kp (thn (ha pos pins s1 σ H1 _ I1 q) fun us s2 ⟨vs, H2, I2, r, q2⟩ => ⟨I2.kIn, ?_⟩) hst hpl
  exact run_fn (us := .ref a :: us) (vs := .ref a :: vs) F hr hb hd hx I2 (.cons rfl r) q2
/-- o.m() -/
theorem pe_meth0 {pl : Sem Bool} (he : PE X o ta) (c : Cls X.K C) (hm : Meth X.K C m f) (F : FnOk X.prog X.w X.K X.mg X.base CX k f fd ps sp) (hr : Room k X.A) (hb : Binds X.K fd ps ds) (hd : Vals dvs ds) (hx : Passes CX X E)
    (ht : eval (.Call (.Attribute o m apos) [] [] pos) X.env = (do
      let ov ← eval o X.env
      standAt apos.atName
      let (f, first) ← holding [ov] (getMethod ov m pl)
      callWith pos f first (backTo pos (starEach [] X.env)) (backToKw pos (keywordEach [] X.env))) := by rfl) :
    PE X (.Call (.Attribute o m apos) [] [] pos) (tMeth C m sp dvs E ta tNil) := by
  intro pins s σ H Q I h
  refine PySem.W.methodCall_KW (pl := pl) (thn (he pins s σ H _ I h) fun u s1 ⟨x, H1, I1, rx, a, dx, fs, ex, ea, l, q⟩ => ?_) ht
  subst ex
  obtain rfl : u = Value.ref a := rx
  refine getmeth_ok I1 ea c hm l ?_
  exact PySem.W.callWith_K0 (first := [.ref a]) I1.kIn hm.kp (run_fn (us := [.ref a]) (vs := [.ref a]) F hr hb hd hx I1 (.cons rfl .nil) q)
/-- what a class must have to be made -/
structure Mk (K : PySem.W.Frag) (C f : Addr) : Prop where
  makes : PySem.W.makesIn K C = true
  init : PySem.W.findIn K (.ref C) "__init__" = some (some (.ref f))
  fn : PySem.W.isFn K (.ref f) = true
  kp : PySem.W.keepIn K (.ref C) = true
theorem run_make {pins : List (Addr × Obj)} {σ : St} {H : Hp} {s : Shared} {Q : VK} {us : List Value} {vs : List V} (M : Mk X.K C f) (F : FnOk X.prog X.w X.K X.mg X.base CX k f fd ps sp) (hr : Room (k + 1) X.A) (hb : Binds X.K fd ps ds) (hd : Vals dvs ds)
    (hx : Passes CX X E) (I : Inv X pins σ H s) (r : Vals vs us)
    (h : ∀ x dx, H x = none → H dx = none → dx ≠ x → sp (.ref x :: (vs ++ dvs)) (upd (upd H dx (.own x)) x (.ins C dx [])) (fun v H2 => v = .non ∧ Q (.ref x) H2) E) :
    wpAny (model X.prog X.w) X.A (call (.ref C) us) (EP X pins σ Q) X.xe s := by
  have hq := h (s.heap.objs.size + 1) s.heap.objs.size (I.hok.fresh (Nat.le_succ _)) (I.hok.fresh (Nat.le_refl _)) (Nat.ne_of_lt (Nat.lt_succ_self _))
  have I2 := Inv.made (C := C) I
  have r2 : Vals (V.ref (s.heap.objs.size + 1) :: (vs ++ dvs)) (Value.ref (s.heap.objs.size + 1) :: (us ++ ds)) := .cons rfl (r.append hd)
  have hl : (Value.ref (s.heap.objs.size + 1) :: us ++ ds).length = ps.length := by
    have e := r2.length
    rw [F.len _ _ _ _ hq] at e
    exact e.symm
  refine wpAny_call (make_map (f := f) I.kIn M.makes M.init (beq_iff_eq.mp M.fn) (codeAny_mono (F.run _ X.stack _ _ ⟨Value.ref (s.heap.objs.size + 1) :: us, []⟩ (Value.ref (s.heap.objs.size + 1) :: (us ++ ds)) _ _ E (hr.make C us [])
    (I2.env0.make C us []) (hb _ (Value.ref (s.heap.objs.size + 1) :: us) I2.kIn hl) r2 hq) fun r s' hq' => ?_))
  cases r with
  | error e => exact hx pins σ _ _ e s' I2 hq'
  | ok fl =>
    cases fl with
    | ret u =>
      obtain ⟨v, H', I3, rv, ev, q3⟩ := I2.after hq'
      subst ev
      exact ⟨rv, ⟨V.ref (s.heap.objs.size + 1), H', I3, rfl, q3⟩⟩
    | next => exact False.elim hq'
    | brk => exact False.elim hq'
    | cont => exact False.elim hq'
theorem pe_make0 (M : Mk X.K C f) (F : FnOk X.prog X.w X.K X.mg X.base CX k f fd ps sp) (hr : Room (k + 1) X.A) (hg : Gl X x) (hm : X.mg x = some (.ref C)) (hb : Binds X.K fd ps ds) (hd : Vals dvs ds) (hx : Passes CX X E)
    (hdb : (x == ("__debug__" : Str)) = false := by decide) : PE X (.Call (.Name x p) [] [] pos) (tMake C sp dvs E tNil) := by
  intro pins s σ H Q I h
  refine wpAny_Call_Name_kw (ld_glob I hg hm ?_ hdb)
  exact PySem.W.callWith_K0 I.kIn M.kp (run_make (us := []) M F hr hb hd hx I .nil h)
end
section
variable {X : Cx} {CX : CXT} {k : Nat} {f C : Addr} {fd : FuncData} {ps ks : List Str} {sp : Sp} {E : XK} {x m : Str} {p pos apos kpos : Pos} {e o : Expr} {es : List Expr} {kws : List Keyword} {te ta : TE} {t tk : TA} {nm : Option Str}
variable {g : List Value → List Value → List Value} {gV : List V → List V → List V}
end
/-- names: the parameters first -/
structure FnScope (N P : List Str) (sc : Scope) : Prop where
  kind : sc.kind = .function
  co : sc.isCoroutine = false
  gen : sc.isGenerator = false
  nd : N.Nodup
  pre : N.take P.length = P
  par : ∀ x ∈ P, sc.names.lookup x = some .local ∨ sc.names.lookup x = some .cell
  nofree : ∀ y ∈ sc.names, y.2 ≠ .free
theorem bindL_out {kindOf : Str → Option NameKind} {x : Str} : ∀ {binds : List (Str × Value)} {m : Str → Option Value}, (∀ v, (x, v) ∉ binds) → bindL kindOf binds m x = m x
  | [], _, _ => rfl
  | (n, v) :: r, m, h => by
    unfold bindL
    rw [bindL_out fun w hw => h w (List.mem_cons_of_mem _ hw)]
    split
    · have : x ≠ n := by rintro rfl; exact h v List.mem_cons_self
      simp [this]
    · rfl
theorem bindC_out {kindOf : Str → Option NameKind} {x : Str} : ∀ {binds : List (Str × Value)} {m : Str → Option Value}, (∀ v, (x, v) ∉ binds) → bindC kindOf binds m x = m x
  | [], _, _ => rfl
  | (n, v) :: r, m, h => by
    unfold bindC
    rw [bindC_out fun w hw => h w (List.mem_cons_of_mem _ hw)]
    split
    · rfl
    · have : x ≠ n := by rintro rfl; exact h v List.mem_cons_self
      simp [this]
theorem bindL_get {kindOf : Str → Option NameKind} {x : Str} {v : Value} : ∀ {P : List Str} {vs : List Value} {i : Nat} {m : Str → Option Value}, P.Nodup → P[i]? = some x → vs[i]? = some v → kindOf x = some .local →
    bindL kindOf (P.zip vs) m x = some v
  | [], _, _, _, _, h, _, _ => by simp at h
  | _ :: _, [], _, _, _, _, h, _ => by simp at h
  | p :: P, w :: vs, 0, m, nd, h1, h2, hk => by
    simp at h1 h2; subst h1; subst h2
    show bindL kindOf ((p, w) :: P.zip vs) m p = _
    unfold bindL
    rw [bindL_out fun v hv => (List.nodup_cons.mp nd).1 (List.of_mem_zip hv).1, if_pos hk]
    simp
  | p :: P, w :: vs, i + 1, m, nd, h1, h2, hk => by
    show bindL kindOf ((p, w) :: P.zip vs) m x = _
    unfold bindL
    exact bindL_get (i := i) (List.nodup_cons.mp nd).2 (by simpa using h1) (by simpa using h2) hk
theorem bindC_get {kindOf : Str → Option NameKind} {x : Str} {v : Value} : ∀ {P : List Str} {vs : List Value} {i : Nat} {m : Str → Option Value}, P.Nodup → P[i]? = some x → vs[i]? = some v → kindOf x ≠ some .local →
    bindC kindOf (P.zip vs) m x = some v
  | [], _, _, _, _, h, _, _ => by simp at h
  | _ :: _, [], _, _, _, _, h, _ => by simp at h
  | p :: P, w :: vs, 0, m, nd, h1, h2, hk => by
    simp at h1 h2; subst h1; subst h2
    show bindC kindOf ((p, w) :: P.zip vs) m p = _
    unfold bindC
    rw [bindC_out fun v hv => (List.nodup_cons.mp nd).1 (List.of_mem_zip hv).1, if_neg hk]
    simp
  | p :: P, w :: vs, i + 1, m, nd, h1, h2, hk => by
    show bindC kindOf ((p, w) :: P.zip vs) m x = _
    unfold bindC
    exact bindC_get (i := i) (List.nodup_cons.mp nd).2 (by simpa using h1) (by simpa using h2) hk
/-- the names' values at the entry -/
def start (N : List Str) (vs : List V) : St := vs.map some ++ List.replicate (N.length - vs.length) none
/-- the context of a def's body, at its entry; an exception leaves the frame, then lies as CX says -/
def cxOf (CX : CXT) (P : Program) (w : World) (K : PySem.W.Frag) (mg : Str → Option Value) (base : Heap) (N : List Str) (qual : Str) (scope : Scope) (f : Addr) (cd : Value) (A : Around) (outer : List Env) (s : Shared) (H : Hp) (E : XK) : Cx where
  prog := P
  w := w
  K := K
  mg := mg
  base := base
  A := A.deeper (envOfC qual scope s.heap.objs.size f cd)
  N := N
  s₀ := s
  H₀ := H
  env := envOfC qual scope s.heap.objs.size f cd
  outer := outer
  stack := envOfC qual scope s.heap.objs.size f cd :: outer
  ex := []
  calm := true
  fn := fun _ => true
  pn := []
  xe := fun e s' => wpAny (model P w) (A.deeper (envOfC qual scope s.heap.objs.size f cd)) (leaving (envOfC qual scope s.heap.objs.size f cd) e) (fun _ s'' => CX outer H s E e s'') (fun e' s'' => CX outer H s E e' s'') s'
theorem cell_has {sc : Scope} {n : Nat} {x : Str} (h : sc.names.lookup x = some .cell) : ∃ c, (cellsFrom n sc.names []).lookup x = some c := by
  have q := PySem.W.cellsFrom_some sc.names n [] (.inl h)
  exact Option.isSome_iff_exists.mp q
theorem inv_start {CX : CXT} {P : Program} {w : World} {K : PySem.W.Frag} {mg : Str → Option Value} {base : Heap} {N ps : List Str} {qual : Str} {scope : Scope} {f : Addr} {cd : Value} {A : Around} {outer : List Env} {s s1 : Shared} {H : Hp} {E : XK} {us : List Value} {vs : List V}
    (S : FnScope N ps scope) (hd : A.handled = none) (e0 : Env0 P w K mg base A outer s H) (hl : vs.length = ps.length) (r : Vals vs us)
    (x : InCallC s s.heap.objs.size (bindL (envOfC qual scope s.heap.objs.size f cd).kindOf (ps.zip us) fun _ => none) (cellsFrom (s.heap.objs.size + 1) scope.names []) (bindC (envOfC qual scope s.heap.objs.size f cd).kindOf (ps.zip us) fun _ => none) s1) :
    Inv (cxOf CX P w K mg base N qual scope f cd A outer s H E) [] (start N vs) H s1 := by
  have hpl : ps.length ≤ N.length := by have := congrArg List.length S.pre; rw [List.length_take] at this; omega
  obtain ⟨h1, tk, rfl, hk⟩ := x.done
  have noA : ∀ b : Addr, b ∉ (cxOf CX P w K mg base N qual scope f cd A outer s H E).ex := fun b z => absurd (show b ∈ ([] : List Addr) from z) (by simp)
  refine ⟨⟨e0.mod, S.kind, rfl, rfl, Nat.le_refl _, fun y z c h1 h2 => ?_, fun y hy => ?_, fun y c _ h => ?_, fun _ => hd, Around.frames_deeper e0.frames, .inr ⟨rfl, rfl⟩, fun b z => absurd z (noA b), e0.bs, e0.bsz, fun b _ _ => noA b, fun b z => absurd z (noA b), e0.funs, e0.frf⟩,
    rfl, e0.bare, Un.kept hk, ⟨_, x.toInCall.ns, fun i y v h1 h2 h3 => ?_⟩, fun y c h => ⟨_, x.cell y c h⟩, e0.hok.fresh (Nat.le_refl _), fun y c h => ?_, fun p hp => absurd (show p ∈ ([] : List (Addr × Obj)) from hp) (by simp), e0.hok.kept hk, ?_⟩
  · exact name_of_addr x.apart (PySem.mem_of_lookup h1) (PySem.mem_of_lookup h2)
  · have hy : scope.names.lookup y = some .cell ∨ scope.names.lookup y = some .free := hy
    rcases hy with hy | hy
    · exact cell_has hy
    · exact absurd rfl (S.nofree _ (PySem.mem_of_lookup hy))
  · exact Nat.le_of_lt (x.above y c (PySem.mem_of_lookup h))
  · have hi : i < vs.length := by
      unfold start at h2
      by_cases hi : i < vs.length
      · exact hi
      · rw [List.getElem?_append_right (by simpa using hi)] at h2
        rw [List.getElem?_replicate] at h2
        split at h2 <;> cases h2
    have ha : vs[i]? = some v := by
      unfold start at h2
      rw [List.getElem?_append_left (by simpa using hi), List.getElem?_map] at h2
      cases e : vs[i]? with
      | none => rw [e] at h2; cases h2
      | some a => rw [e] at h2; cases h2; rfl
    obtain ⟨u, hu, rv⟩ := r.get ha
    have hp : ps[i]? = some y := by
      rw [← S.pre, List.getElem?_take_of_lt (by omega)]; exact h1
    have ndP : ps.Nodup := by rw [← S.pre]; exact S.nd.sublist (List.take_sublist _ _)
    refine ⟨u, rv, ?_⟩
    rcases S.par y (List.mem_of_getElem? hp) with k | k
    · exact .inl ⟨k, bindL_get ndP hp hu k⟩
    · obtain ⟨c, e⟩ := cell_has (n := s.heap.objs.size + 1) k
      refine .inr ⟨.inl k, c, e, ?_⟩
      have q := x.cell y c e
      rw [bindC_get ndP hp hu (by show scope.names.lookup y ≠ _; rw [k]; decide)] at q
      exact q
  · exact e0.hok.fresh (Nat.le_of_lt (x.above y c (PySem.mem_of_lookup h)))
  · unfold start
    show _ = N.length
    rw [List.length_append, List.length_map, List.length_replicate]
    omega
/-- THE RULE: a def (or a method) of the text, by its body. The body's reading t is chosen for each entry; it is run at the parameters' values -/
theorem fn_of {CX : CXT} {P : Program} {w : World} {K : PySem.W.Frag} {mg : Str → Option Value} {base : Heap} {k : Nat} {f : Addr} {name qual : Str} {params : Arguments} {body : List Stmt} {scope : Scope} {dV kV doc pm cdv ct oc : Value} {an od : Option Addr}
    {osl : Array (Option Value)} {N ps : List Str} {sp : Sp} (lk : K.lookup f = some ⟨oc, od, .func (PySem.W.fnOf name qual params body scope dV kV doc pm an cdv ct), osl⟩) (hcd : PySem.W.codeIn K cdv qual = true) (S : FnScope N ps scope)
    (len : ∀ vs H Q E, sp vs H Q E → vs.length = ps.length)
    (hbody : ∀ (A : Around) (outer : List Env) (s : Shared) (H : Hp) (vs : List V) (Q : VK) (E : XK), Room k (A.deeper (envOfC qual scope s.heap.objs.size f cdv)) → sp vs H Q E →
      ∃ t, PSs (cxOf CX P w K mg base N qual scope f cdv A outer s H E) body t ∧ t { nx := fun _ H' => Q .non H', rt := Q } (start N vs) H) :
    FnOk P w K mg base CX (k + 1) f (PySem.W.fnOf name qual params body scope dV kV doc pm an cdv ct) ps sp := by
  refine ⟨len, fun A outer s H args us vs Q E hr e0 hb r hsp => ?_⟩
  have hl := len _ _ _ _ hsp
  have KX : K.In s.heap := e0.mod.kin.keeps fun b o e => (e0.bs b o e).1
  have lim : s.heap.NoLimit := e0.mod.nolimit.keeps fun b o e => (e0.bs b o e).1
  have hkind : ∀ y ∈ ps.zip us, scope.names.lookup y.1 = some .local ∨ (scope.names.lookup y.1 = some .cell ∧ ((cellsFrom (s.heap.objs.size + 1) scope.names []).lookup y.1).isSome = true) := fun ⟨n, v⟩ hy => by
    rcases S.par n (List.of_mem_zip hy).1 with q | q
    · exact .inl q
    · exact .inr ⟨q, PySem.W.cellsFrom_some _ _ _ (.inl q)⟩
  refine codeAny_call_function hr.depth (KX _ _ lk) rfl S.co S.gen rfl (PySem.W.codeRec_of KX hcd) (hb _ _ _ _ ?_)
  refine wpAny_newFunctionEnv_cells S.kind hkind fun env he s1 x => ?_
  subst he
  refine ⟨lim.keeps x.toInCall.keep, codeAny_func ?_⟩
  obtain ⟨t, ht, hq⟩ := hbody A outer s H vs Q E (hr.deeper _) hsp
  have I : Inv (cxOf CX P w K mg base N qual scope f cdv A outer s H E) [] (start N vs) H s1 := inv_start S hr.hd e0 hl r x
  refine wpAny_mono (ht [] s1 (start N vs) H _ I hq) (fun fl s' hs => ?_) fun e s' hs => hs
  have fin : ∀ {σ' : St} {H' : Hp} {v : V} {u : Value}, Inv (cxOf CX P w K mg base N qual scope f cdv A outer s H E) [] σ' H' s' → RelV v u → Q v H' → CE outer P w H s Q u s' :=
    fun {σ' H' v u} J rv q => ⟨v, H', J.os, J.bare, J.base, J.hok, rv, q⟩
  cases fl with
  | ret u =>
    obtain ⟨v, σ', H', J, rv, q⟩ := hs
    exact fin J rv q
  | next =>
    obtain ⟨σ', H', J, q⟩ := hs
    exact fin (v := V.non) (u := Value.none) J rfl q
  | brk =>
    obtain ⟨_, _, _, q⟩ := hs
    exact False.elim q
  | cont =>
    obtain ⟨_, _, _, q⟩ := hs
    exact False.elim q
end L2
namespace L2
open PySem PySem.Spec PyProof.Rows
section
variable {X : Cx} {x : Str} {p pos : Pos} {e : Expr} {es : List Expr} {t : TA} {id T : String} {r : List V → Hp → VK → Prop}
def tCB (r : List V → Hp → VK → Prop) (t : TA) : TE := fun σ H Q => t σ H fun vs H1 => r vs H1 Q
/-- f(e, ..), f a built-in function -/
theorem pe_callB (hc : CallR X (.builtin id) r) (hg : Gl X x) (hm : X.mg x = none) (hv : bootBuiltins x = some (.builtin id)) (ha : PA X (e :: es) t) (hn : x ≠ "__name__" := by decide) (hdb : (x == ("__debug__" : Str)) = false := by decide)
    (he : starEach (e :: es) X.env = (false, eval e X.env) :: starEach es X.env := by rfl) (hpl : (backTo pos (starEach es X.env)).any (·.1) = false := by rfl) : PE X (.Call (.Name x p) (e :: es) [] pos) (tCB r t) := by
  intro pins s σ H Q I h
  refine wpAny_Call_Name_kw (ld_blt I hg hm hv ?_ hn hdb)
  exact PyProof.Rows.callWith_builtin1 (thn (ha pos pins s σ H _ I h) fun us s1 ⟨vs, H1, I1, r1, q1⟩ => hc pins s1 σ H1 vs us Q I1 r1 q1) he hpl
/-- T(e, ..), T a built-in type -/
theorem pe_callTy (hc : CallR X (.type T) r) (hg : Gl X x) (hm : X.mg x = none) (hv : bootBuiltins x = some (.type T)) (ha : PA X (e :: es) t) (hn : x ≠ "__name__" := by decide) (hdb : (x == ("__debug__" : Str)) = false := by decide)
    (he : starEach (e :: es) X.env = (false, eval e X.env) :: starEach es X.env := by rfl) (hpl : (backTo pos (starEach es X.env)).any (·.1) = false := by rfl) : PE X (.Call (.Name x p) (e :: es) [] pos) (tCB r t) := by
  intro pins s σ H Q I h
  refine wpAny_Call_Name_kw (ld_blt I hg hm hv ?_ hn hdb)
  exact PyProof.Rows.callWith_type1 (thn (ha pos pins s σ H _ I h) fun us s1 ⟨vs, H1, I1, r1, q1⟩ => hc pins s1 σ H1 vs us Q I1 r1 q1) he hpl
end
end L2
namespace HT
open PySem PyProof.Rows
section
open PySem.SeqAt
open PySem.AutoSeq1 (wpAny_loadPart')
open PySem.MeetsSeq PySem.MeetsSeq2 PySem.MeetsSeq3
end
section
variable {prog : Program} {w : World} {A : Around} {E : Value → Shared → Prop} {s : Shared}
/-- a slice's bound as a place among n (d where it is left out) -/
def sIx (n d : Nat) : Option Int → Nat
  | none => d
  | some v => if v < 0 then (v + (n : Int)).toNat else min v.toNat n
theorem sIx_none (n d : Nat) : sIx n d none = d := rfl
theorem sIx_nat (n d k : Nat) : sIx n d (some (k : Int)) = min k n := by
  show (if (k : Int) < 0 then ((k : Int) + (n : Int)).toNat else min (k : Int).toNat n) = min k n
  rw [if_neg (by omega), Int.toNat_natCast]
end
end HT
namespace L2
open PySem PySem.Spec PyProof.Rows
abbrev TO := St → Hp → (Option Int → Hp → Prop) → Prop
/-- a slice's part (left out, or an int) -/
def PO (X : Cx) (e : Option Expr) (t : TO) : Prop :=
  ∀ (pins : List (Addr × Obj)) (s : Shared) (σ : St) (H : Hp) (Q : Option Int → Hp → Prop), Inv X pins σ H s → t σ H Q →
    wpAny (model X.prog X.w) X.A (evalPart e X.env) (fun u s' => ∃ o H', Inv X pins σ H' s' ∧ IsPart u o ∧ Q o H') X.xe s
def tNoPart : TO := fun _ H Q => Q none H
inductive tPart_I (Q : (Option Int → Hp → Prop)) (x : V) (H1 : Hp) : Prop
  | mk : ∀ i, x = .int i → Q (some i) H1 → tPart_I Q x H1
def tPart (t : TE) : TO := fun σ H Q => t σ H fun x H1 => tPart_I Q x H1
section
variable {X : Cx} {e : Expr} {te : TE} {lo hi : Option Expr} {tl th : TO} {pos p2 : Pos}
theorem po_none : PO X none tNoPart := by
  intro pins s σ H Q I h
  rw [evalPart_none]
  exact wpAny_pure ⟨none, H, I, .none, h⟩
theorem po_some (h : PE X e te) : PO X (some e) (tPart te) := by
  intro pins s σ H Q I hw
  rw [evalPart_some]
  refine thn (h pins s σ H _ I hw) fun u s1 ⟨x, H1, I1, r1, q1⟩ => ?_
  obtain ⟨i, rfl, q⟩ := q1
  obtain ⟨t, rfl⟩ := r1
  exact ⟨some i, H1, I1, .int i t, q⟩
/-- what a slice of a value is, by values: the slice object stands at sl -/
def SlR (X : Cx) (r : V → Option Int → Option Int → Hp → VK → Prop) : Prop :=
  ∀ (pins : List (Addr × Obj)) (s : Shared) (σ : St) (H : Hp) (x : V) (v vl vu : Value) (lo hi : Option Int) (sl : Addr) (Q : VK), Inv X pins σ H s → RelV x v → s.heap.IsSliceOf sl vl vu .none → IsPart vl lo → IsPart vu hi → r x lo hi H Q →
    ∃ T id, typeLookup (.type T) "__getitem__" = pure (some (.builtin id)) ∧ s.TypeIs v T ∧ wpAny (model X.prog X.w) X.A (getItem v (.ref sl)) (EP X pins σ Q) X.xe s
def tSl (r : V → Option Int → Option Int → Hp → VK → Prop) (te : TE) (tl th : TO) : TE := fun σ H Q => te σ H fun x H1 => tl σ H1 fun l H2 => th σ H2 fun u H3 => r x l u H3 Q
/-- a[lo:hi], any a -/
theorem pe_slice {r : V → Option Int → Option Int → Hp → VK → Prop} (hr : SlR X r) (he : PE X e te) (hl : PO X lo tl) (hu : PO X hi th) : PE X (.Subscript e (.Slice lo hi none p2) pos) (tSl r te tl th) := by
  intro pins s σ H Q I h
  refine Subscript_ (thn (he pins s σ H _ I h) fun v s1 ⟨x, H1, I1, r1, q1⟩ => ?_)
  refine wpAny_Slice (thn (hl pins s1 σ H1 _ I1 q1) fun vl s2 ⟨l, H2, I2, pl, q2⟩ => thn (hu pins s2 σ H2 _ I2 q2) fun vu s3 ⟨u, H3, I3, pu, q3⟩ => ?_)
  rw [evalPart_none]
  refine wpAny_pure ?_
  have I4 : Inv X pins σ H3 { s3 with heap := s3.heap.push { cls := .type "slice", data := .fields #[vl, vu, .none] } } := I3.kept (t' := s3.toks) fun b ob q => Heap.get?_push_of_some _ q
  obtain ⟨T, id, hT, ht, hg⟩ := hr pins { s3 with heap := s3.heap.push { cls := .type "slice", data := .fields #[vl, vu, .none] } } σ H3 x v vl vu l u s3.heap.objs.size Q I4 r1 (Heap.IsSliceOf.new ..) pl pu q3
  show wpAny (model X.prog X.w) X.A (subscriptTail e (.Slice lo hi none p2) v (.ref s3.heap.objs.size)) (EP X pins σ Q) X.xe { s3 with heap := s3.heap.push { cls := .type "slice", data := .fields #[vl, vu, .none] } }
  exact tail_any (ops := [.ref s3.heap.objs.size, v]) ht hT hg (by with_unfolding_all rfl)
/-- the items of xs[lo:hi] -/
def cutV (xs : List V) (lo hi : Option Int) : List V := (xs.drop (HT.sIx xs.length 0 lo)).take (HT.sIx xs.length xs.length hi - HT.sIx xs.length 0 lo)
theorem cutV_length (xs : List V) (lo hi : Option Int) : (cutV xs lo hi).length ≤ xs.length := by
  unfold cutV
  rw [List.length_take, List.length_drop]
  omega
end
end L2
namespace L2
open PySem PySem.Spec PyProof.Rows
/-- the place that an index of any sign means -/
def ixN (n : Nat) (i : Int) : Option Nat := if 0 ≤ i then (if i < n then some i.toNat else none) else if -(n : Int) ≤ i then some (i + n).toNat else none
def atI {α : Type} (xs : List α) (i : Int) : Option α := (ixN xs.length i).bind fun j => xs[j]?
theorem ixN_seq {n : Nat} {i : Int} {j : Nat} (h : ixN n i = some j) : seqIndex? i n = some j ∧ j < n ∧ -(n : Int) ≤ i ∧ i < n := by
  unfold ixN at h
  by_cases h0 : 0 ≤ i
  · rw [if_pos h0] at h
    by_cases h1 : i < n
    · rw [if_pos h1] at h
      have e : i.toNat = j := Option.some.inj h
      exact ⟨by rw [seqIndex_of h0 h1, e], by omega, by omega, h1⟩
    · rw [if_neg h1] at h; cases h
  · rw [if_neg h0] at h
    by_cases h1 : -(n : Int) ≤ i
    · rw [if_pos h1] at h
      have e : (i + n).toNat = j := Option.some.inj h
      exact ⟨by rw [seqIndex_neg (by omega) h1, e], by omega, h1, by omega⟩
    · rw [if_neg h1] at h; cases h
theorem atI_get {α : Type} {xs : List α} {i : Int} {v : α} (h : atI xs i = some v) : ∃ j, seqIndex? i xs.length = some j ∧ xs[j]? = some v ∧ j < xs.length ∧ -(xs.length : Int) ≤ i ∧ i < xs.length := by
  unfold atI at h
  cases e : ixN xs.length i with
  | none => rw [e] at h; cases h
  | some j =>
    rw [e] at h
    obtain ⟨h1, h2, h3, h4⟩ := ixN_seq e
    exact ⟨j, h1, h, h2, h3, h4⟩
theorem atI_nat {α : Type} {xs : List α} {j : Nat} {v : α} (h : xs[j]? = some v) : atI xs (j : Int) = some v := by
  have hj : j < xs.length := (List.getElem?_eq_some_iff.mp h).1
  have e : ixN xs.length (j : Int) = some j := by
    unfold ixN
    rw [if_pos (by omega), if_pos (by omega)]; simp
  unfold atI; rw [e]; exact h
/-- what stands as an index of a plain subscript -/
def PlainIx (b : Expr) : Prop := ∀ o i, subscripted b false o i = operate [o, i] (getItem o i)
/-- a subscript by values -/
def IxR (X : Cx) (r : R2) : Prop :=
  ∀ (value slice : Expr) (pins : List (Addr × Obj)) (s : Shared) (σ : St) (H : Hp) (x y : V) (v u : Value) (Q : VK), Inv X pins σ H s → RelV x v → RelV y u → r x y H Q →
    subscripted slice false v u = operate [v, u] (getItem v u) → wpAny (model X.prog X.w) X.A (subscriptTail value slice v u) (EP X pins σ Q) X.xe s
/-- a call of a builtin's method by values: the receiver, the arguments -/
def MtR (X : Cx) (id : String) (r : V → List V → Hp → VK → Prop) : Prop :=
  ∀ (pins : List (Addr × Obj)) (s : Shared) (σ : St) (H : Hp) (x : V) (xs : List V) (v : Value) (us : List Value) (Q : VK), Inv X pins σ H s → RelV x v → Vals xs us → r x xs H Q →
    wpAny (model X.prog X.w) X.A (call (.builtin id) (v :: us)) (EP X pins σ Q) X.xe s
section
variable {X : Cx} {a b : Expr} {ta tb : TE} {pos : Pos}
/-- a[b] -/
theorem pe_ix {r : R2} (hr : IxR X r) (ha : PE X a ta) (hb : PE X b tb) (hs : PlainIx b) : PE X (.Subscript a b pos) (tOp r ta tb) := by
  intro pins s σ H Q I h
  exact Subscript_ (binT ha hb I h fun v u s2 x y H2 I2 rx ry q => hr a b pins s2 σ H2 x y v u Q I2 rx ry q (hs _ _))
inductive rIxL_I (K : PySem.W.Frag) (x : V) (y : V) (H : Hp) (Q : VK) : Prop
  | mk : ∀ p xs i v, x = .ref p → y = .int i → SqL K H p xs → atI xs i = some v → Q v H → rIxL_I K x y H Q
def rIxL (K : PySem.W.Frag) : R2 := fun x y H Q => rIxL_I K x y H Q
inductive rIxT_I (K : PySem.W.Frag) (x : V) (y : V) (H : Hp) (Q : VK) : Prop
  | mk : ∀ p xs i v, x = .ref p → y = .int i → SqT K H p xs → atI xs i = some v → Q v H → rIxT_I K x y H Q
def rIxT (K : PySem.W.Frag) : R2 := fun x y H Q => rIxT_I K x y H Q
inductive rIxS_I (x : V) (y : V) (H : Hp) (Q : VK) : Prop
  | mk : ∀ z i c, x = .str z → y = .int i → z.length ≤ sizeLine → atI z.cps.toList i = some c → Q (.str ⟨#[c]⟩) H → rIxS_I x y H Q
def rIxS : R2 := fun x y H Q => rIxS_I x y H Q
theorem ix_list : IxR X (rIxL X.K) := by
  intro value slice pins s σ H x y v u Q I rx ry h hs
  obtain ⟨p, xs, i, z, rfl, rfl, hq, he, q⟩ := h
  cases rx
  obtain ⟨t, rfl⟩ := ry
  obtain ⟨its, r, pl, hz⟩ := I.list hq
  obtain ⟨j, h1, h2, h3, h4, h5⟩ := atI_get he
  obtain ⟨w, ew, rw'⟩ := r.get h2
  have hl := r.length
  have hn := line63
  have fin : EP X pins σ Q w s := ⟨z, H, I, rw', q⟩
  by_cases h0 : 0 ≤ i
  · have hj : i.toNat = j := by
      rw [seqIndex_of h0 h5] at h1
      exact Option.some.inj h1
    exact item_listR pl.isList h0 (by omega) (by rw [hj]; simpa using ew) fin hs
  · have hj : (i + (its.toArray.size : Int)).toNat = j := by
      rw [seqIndex_neg (by omega) h4] at h1
      rw [List.size_toArray, ← hl]
      exact Option.some.inj h1
    exact subscriptTail_builtinR (x := w) pl.isList.typeIs slot_list_getitem.lookup
      (wpAny_getItem_list_neg (Q := fun r s' => r = w ∧ EP X pins σ Q r s') pl.isList (by omega) (by rw [List.size_toArray] <;> omega) (by omega) (by rw [hj]; simpa using ew) ⟨rfl, fin⟩) hs
theorem ix_tup : IxR X (rIxT X.K) := by
  intro value slice pins s σ H x y v u Q I rx ry h hs
  obtain ⟨p, xs, i, z, rfl, rfl, hq, he, q⟩ := h
  cases rx
  obtain ⟨t, rfl⟩ := ry
  obtain ⟨its, r, pl, hz⟩ := I.tuple hq
  obtain ⟨j, h1, h2, h3, h4, h5⟩ := atI_get he
  obtain ⟨w, ew, rw'⟩ := r.get h2
  have hl := r.length
  have hn := line63
  have fin : EP X pins σ Q w s := ⟨z, H, I, rw', q⟩
  exact subscriptTail_builtinR (x := w) pl.typeIs slot_tuple_getitem.lookup
    (getItem_tuple (j := j) (Q := fun r s' => r = w ∧ EP X pins σ Q r s') pl (by omega) (by omega) (by rw [List.size_toArray, ← hl]; exact h1) (by simpa using ew) ⟨rfl, fin⟩) hs
theorem ix_str : IxR X rIxS := by
  intro value slice pins s σ H x y v u Q I rx ry h hs
  obtain ⟨z, i, c, rfl, rfl, hz, he, q⟩ := h
  obtain ⟨t, rfl⟩ := rx
  obtain ⟨t', rfl⟩ := ry
  obtain ⟨j, h1, h2, h3, h4, h5⟩ := atI_get he
  have hl : z.cps.toList.length = z.length := by simp [Str.length]
  rw [hl] at h1 h4 h5
  have hn := line63
  exact tail_any (typeIs_str s z t) slot_str_getitem.lookup (getItem_str (c := c) (by
    have e1 : decide (i < -(2 ^ 63 : Int)) = false := decide_eq_false (by omega)
    have e2 : decide (i ≥ 2 ^ 63) = false := decide_eq_false (by omega)
    rw [e1, e2, Bool.or_false]) (by rw [h1]; simpa using h2) ⟨.str ⟨#[c]⟩, H, I.tok _, ⟨_, rfl⟩, q⟩) hs
theorem Inv.lst {pins : List (Addr × Obj)} {σ : St} {H : Hp} {s : Shared} {p : Addr} {xs : List V} (I : Inv X pins σ H s) (h : H p = some (.lst xs)) :
    ∃ (its : List Value) (n : Nat), Vals xs its ∧ s.heap.get? p = some { cls := .type "list", data := .seq its.toArray n } ∧ xs.length ≤ sizeLine := by
  obtain ⟨z, its, n, r, e⟩ := I.hok p _ h
  exact ⟨its, n, r, e, z⟩
theorem slice_bounds (lo hi : Option Int) (n : Nat) : (sliceBounds lo hi none n).1 = ((HT.sIx n 0 lo : Nat) : Int) ∧ (sliceBounds lo hi none n).2.1 = ((HT.sIx n n hi : Nat) : Int) ∧ (sliceBounds lo hi none n).2.2 = 1 := by
  refine ⟨?_, ?_, rfl⟩
  · cases lo with
    | none => simp [sliceBounds, HT.sIx]
    | some i =>
      simp only [sliceBounds, HT.sIx, Option.getD_none, show (1 : Int) > 0 by decide, if_true]
      by_cases h : i < 0
      · simp only [h, if_true] <;> omega
      · simp only [h, if_false] <;> omega
  · cases hi with
    | none => simp [sliceBounds, HT.sIx]
    | some i =>
      simp only [sliceBounds, HT.sIx, Option.getD_none, show (1 : Int) > 0 by decide, if_true]
      by_cases h : i < 0
      · simp only [h, if_true] <;> omega
      · simp only [h, if_false] <;> omega
theorem slicePick_cut (its : List Value) (lo hi : Option Int) : slicePick its.toArray lo hi none = ((its.drop (HT.sIx its.length 0 lo)).take (HT.sIx its.length its.length hi - HT.sIx its.length 0 lo)).toArray := by
  obtain ⟨h1, h2, h3⟩ := slice_bounds lo hi its.toArray.size
  unfold slicePick
  rw [h1, h2, h3]
  simp only [sliceRange_one, pick_run, List.size_toArray] <;> rfl
/-- xs[lo:hi] of a list: a new list -/
inductive rSlL_I (K : PySem.W.Frag) (x : V) (lo : Option Int) (hi : Option Int) (H : Hp) (Q : VK) : Prop
  | mk : ∀ a xs, x = .ref a → SqL K H a xs → (∀ p, H p = none → Q (.ref p) (upd H p (.lst (cutV xs lo hi)))) → rSlL_I K x lo hi H Q
def rSlL (K : PySem.W.Frag) : V → Option Int → Option Int → Hp → VK → Prop := fun x lo hi H Q => rSlL_I K x lo hi H Q
theorem sl_list : SlR X (rSlL X.K) := by
  intro pins s σ H x v vl vu lo hi sl Q I rx hs pl pu h
  obtain ⟨a, xs, rfl, hx, q⟩ := h
  cases rx
  obtain ⟨its, r, ht, hz⟩ := I.list hx
  have hlen := r.length
  refine ⟨"list", _, slot_list_getitem.lookup, ht.isList.typeIs, ?_⟩
  refine wpAny_getItem_list_slice ht.isList hs pl pu .none (by simp) ?_ (by rw [List.size_toArray] <;> omega)
  rw [slicePick_cut, ← hlen]
  refine ⟨.ref s.heap.objs.size, _, I.laid (t' := s.toks) (o := .lst (cutV xs lo hi)) (fun b ob q => Heap.get?_push_of_some _ q) (Nat.le_refl _) ?_, rfl, q _ (I.hok.fresh (Nat.le_refl _))⟩
  exact ⟨Nat.le_trans (cutV_length xs lo hi) hz, _, 0, (r.drop (HT.sIx xs.length 0 lo)).take (HT.sIx xs.length xs.length hi - HT.sIx xs.length 0 lo), Heap.get?_push_size _ rfl⟩
def flatV : V → Bool
  | .non => true
  | .bl _ => true
  | .int _ => true
  | .str _ => true
  | _ => false
/-- == of flat values -/
def eqV : V → V → Bool
  | .non, .non => true
  | .bl a, .bl b => a == b
  | .bl a, .int b => (if a then 1 else 0) == b
  | .int a, .bl b => a == (if b then 1 else 0)
  | .int a, .int b => a == b
  | .str a, .str b => a == b
  | _, _ => false
theorem eqAt_V {A : Around} {s : Shared} {y x : V} {u v : Value} (ry : RelV y u) (rx : RelV x v) (fy : flatV y = true) (fx : flatV x = true) : SeqAt.EqAt A s u v (eqV y x) := by
  cases y with
  | non =>
    cases ry
    cases x with
    | non => cases rx; exact SeqAt.EqAt.same _
    | bl b => cases rx; exact SeqAt.EqAt.none_bool b
    | int b => obtain ⟨t, rfl⟩ := rx; exact SeqAt.EqAt.none_int b t
    | str b => obtain ⟨t, rfl⟩ := rx; exact SeqAt.EqAt.none_str b t
    | _ => exact absurd (show false = true from fx) Bool.false_ne_true
  | bl a =>
    cases ry
    cases x with
    | non => cases rx; exact SeqAt.EqAt.bool_none a
    | bl b => cases rx; exact SeqAt.EqAt.bool_bool a b
    | int b => obtain ⟨t, rfl⟩ := rx; exact SeqAt.EqAt.bool_int a b t
    | str b => obtain ⟨t, rfl⟩ := rx; exact SeqAt.EqAt.bool_str a b t
    | _ => exact absurd (show false = true from fx) Bool.false_ne_true
  | int a =>
    obtain ⟨t', rfl⟩ := ry
    cases x with
    | non => cases rx; exact SeqAt.EqAt.int_none a t'
    | bl b => cases rx; exact SeqAt.EqAt.int_bool a t' b
    | int b => obtain ⟨t, rfl⟩ := rx; exact SeqAt.EqAt.int_int a t' b t
    | str b => obtain ⟨t, rfl⟩ := rx; exact SeqAt.EqAt.int_str a t' b t
    | _ => exact absurd (show false = true from fx) Bool.false_ne_true
  | str a =>
    obtain ⟨t', rfl⟩ := ry
    cases x with
    | non => cases rx; exact SeqAt.EqAt.str_none a t'
    | bl b => cases rx; exact SeqAt.EqAt.str_bool a t' b
    | int b => obtain ⟨t, rfl⟩ := rx; exact SeqAt.EqAt.str_int a t' b t
    | str b => obtain ⟨t, rfl⟩ := rx; exact SeqAt.EqAt.str_str a t' b t
    | _ => exact absurd (show false = true from fx) Bool.false_ne_true
  | _ => exact absurd (show false = true from fy) Bool.false_ne_true
/-- the items' answers, read off the values (a value's own answer does not lean on its token) -/
def eqU (x : V) (u : Value) : Bool := match u with
  | .none => eqV .non x
  | .bool b => eqV (.bl b) x
  | .int i _ => eqV (.int i) x
  | .str z _ => eqV (.str z) x
  | _ => false
theorem eqU_of {x y : V} {u : Value} (r : RelV y u) (f : flatV y = true) : eqU x u = eqV y x := by
  cases y with
  | non => cases r; rfl
  | bl b => cases r; rfl
  | int i => obtain ⟨t, rfl⟩ := r; rfl
  | str z => obtain ⟨t, rfl⟩ := r; rfl
  | _ => exact absurd (show false = true from f) Bool.false_ne_true
theorem any_eqU {x : V} : ∀ {xs : List V} {us : List Value}, Vals xs us → xs.all flatV = true → us.any (eqU x) = xs.any fun y => eqV y x
  | _, _, .nil, _ => rfl
  | y :: xs, u :: us, .cons r t, f => by
    rw [List.all_cons, Bool.and_eq_true] at f
    rw [List.any_cons, List.any_cons, eqU_of r f.1, any_eqU t f.2]
theorem mem_eqAt {A : Around} {s : Shared} {x : V} {v : Value} (rx : RelV x v) (fx : flatV x = true) : ∀ {xs : List V} {us : List Value}, Vals xs us → xs.all flatV = true → ∀ u ∈ us, SeqAt.EqAt A s u v (eqU x u)
  | _, _, .nil, _ => fun u hu => by cases hu
  | y :: xs, u :: us, .cons r t, f => fun u' hu => by
    rw [List.all_cons, Bool.and_eq_true] at f
    rcases List.mem_cons.mp hu with rfl | hu
    · rw [eqU_of r f.1]; exact eqAt_V r rx f.1 fx
    · exact mem_eqAt rx fx t f.2 u' hu
def inV (x : V) (xs : List V) : Bool := xs.any fun y => eqV y x
/-- x in a list or tuple of flat items -/
inductive rIn_I (K : PySem.W.Frag) (neg : Bool) (x : V) (y : V) (H : Hp) (Q : VK) : Prop
  | mk : ∀ p xs, y = .ref p → (SqL K H p xs ∨ SqT K H p xs) → flatV x = true → xs.all flatV = true → Q (.bl (if neg then !inV x xs else inV x xs)) H → rIn_I K neg x y H Q
def rIn (K : PySem.W.Frag) (neg : Bool) : R2 := fun x y H Q => rIn_I K neg x y H Q
theorem op_notIn_seq : OpR X (compareOp .NotIn) (rIn X.K true) := by
  intro pins s σ H x y v u Q I rx ry h
  obtain ⟨p, xs, rfl, hq, fx, fs, q⟩ := h
  cases ry
  rcases hq with hq | hq
  · obtain ⟨its, r, pl, hz⟩ := I.list hq
    refine SeqAt.notIn_listAt (eqU x) pl.isList (fun w hw => mem_eqAt rx fx r fs w (by simpa using hw)) ⟨.bl _, H, I, rfl, ?_⟩
    rw [show its.toArray.any (eqU x) = its.any (eqU x) by simp, any_eqU r fs]
    exact q
  · obtain ⟨its, r, pl, hz⟩ := I.tuple hq
    refine SeqAt.notIn_tupleAt (eqU x) pl (fun w hw => mem_eqAt rx fx r fs w (by simpa using hw)) ⟨.bl _, H, I, rfl, ?_⟩
    rw [show its.toArray.any (eqU x) = its.any (eqU x) by simp, any_eqU r fs]
    exact q
theorem call_len_seq : CallR X (.builtin "len") (fun xs H Q => ∃ p ys, xs = [.ref p] ∧ (SqL X.K H p ys ∨ SqT X.K H p ys) ∧ Q (.int ys.length) H) := by
  intro pins s σ H xs us Q I r h
  obtain ⟨p, ys, rfl, hq, q⟩ := h
  obtain ⟨u, rfl, rx⟩ := vals1 r
  cases rx
  have hn := line63
  rcases hq with hq | hq
  · obtain ⟨its, r', pl, hz⟩ := I.list hq
    have hlen := r'.length
    exact Calls.call_len_list pl.isList (by simp only [List.size_toArray] <;> omega) ⟨.int ys.length, H, I.tok _, ⟨s.toks + 1, by rw [List.size_toArray, hlen]⟩, q⟩
  · obtain ⟨its, r', pl, hz⟩ := I.tuple hq
    have hlen := r'.length
    exact len_tuple pl (by simp only [List.size_toArray] <;> omega) ⟨.int ys.length, H, I.tok _, ⟨s.toks + 1, by rw [List.size_toArray, hlen]⟩, q⟩
theorem call_len_str : CallR X (.builtin "len") (fun xs H Q => ∃ z, xs = [.str z] ∧ z.length ≤ sizeLine ∧ Q (.int z.length) H) := by
  intro pins s σ H xs us Q I r h
  obtain ⟨z, rfl, hz, q⟩ := h
  obtain ⟨u, rfl, t, rfl⟩ := vals1 r
  have hn := line63
  exact len_str (by omega) ⟨.int z.length, H, I.tok _, ⟨_, rfl⟩, q⟩
theorem call_list_of : CallR X (.type "list") (fun xs H Q => ∃ p ys, xs = [.ref p] ∧ (SqL X.K H p ys ∨ SqT X.K H p ys) ∧ ∀ l, H l = none → Q (.ref l) (upd H l (.lst ys))) := by
  intro pins s σ H xs us Q I r h
  obtain ⟨p, ys, rfl, hq, q⟩ := h
  obtain ⟨u, rfl, rx⟩ := vals1 r
  cases rx
  have fin : ∀ (its : List Value), Vals ys its → ys.length ≤ sizeLine → ∀ (h' : Heap) (c' : Nat), (∀ b o', s.heap.get? b = some o' → h'.get? b = some o') →
      h'.get? s.heap.objs.size = some { cls := .type "list", dict := none, data := .seq its.toArray c', slots := #[] } → EP X pins σ Q (.ref s.heap.objs.size) { s with heap := h' } := fun its r' hz h' c' kp e =>
    ⟨.ref s.heap.objs.size, _, I.laid (t' := s.toks) kp (Nat.le_refl _) (show ObjOk X.prog X.w _ h' _ (.lst ys) from ⟨hz, its, c', r', e⟩), rfl, q _ (I.hok.fresh (Nat.le_refl _))⟩
  rcases hq with hq | hq
  · obtain ⟨its, r', pl, hz⟩ := I.list hq
    have hlen := r'.length
    obtain ⟨o, ho, hc, n, hd⟩ := pl.isList
    exact call_list_seq p (.inl rfl) ho hc hd (fun h' c' kp e => fin its r' hz h' c' kp e) (by simp only [List.size_toArray] <;> omega)
  · obtain ⟨its, r', pl, hz⟩ := I.tuple hq
    have hlen := r'.length
    obtain ⟨o, ho, hc, n, hd⟩ := pl
    exact call_list_seq p (.inr rfl) ho hc hd (fun h' c' kp e => fin its r' hz h' c' kp e) (by simp only [List.size_toArray] <;> omega)
/-- the value is of that builtin type -/
def tyV (K : PySem.W.Frag) (T : String) (x : V) (H : Hp) : Prop := match x with
  | .str _ => T = "str"
  | .int _ => T = "int"
  | .ref p => (T = "list" ∧ ∃ xs, SqL K H p xs) ∨ (T = "tuple" ∧ ∃ o, K.lookup p = some o ∧ o.cls = .type "tuple" ∧ o.dict = none) ∨
      (T = "dict" ∧ ((∃ kvs, H p = some (.dK kvs)) ∨ ∃ kvs, H p = some (.dT kvs))) ∨ (T = "set" ∧ ∃ S n, H p = some (.set S n))
  | _ => False
theorem tyV_is {pins : List (Addr × Obj)} {σ : St} {H : Hp} {s : Shared} {T : String} {x : V} {v : Value} (I : Inv X pins σ H s) (r : RelV x v) (ty : tyV X.K T x H) :
    s.TypeIs v T ∧ ∀ a, v = .ref a → ∃ ob, s.heap.get? a = some ob ∧ ob.dict = none := by
  cases x with
  | str z =>
    obtain ⟨t, rfl⟩ := r
    cases (show T = "str" from ty)
    exact ⟨typeIs_str s z t, fun _ e => nomatch e⟩
  | int i =>
    obtain ⟨t, rfl⟩ := r
    cases (show T = "int" from ty)
    exact ⟨typeIs_int s i t, fun _ e => nomatch e⟩
  | ref p =>
    cases r
    rcases ty with ⟨rfl, xs, hq⟩ | ⟨rfl, o, hk, hc, hd⟩ | ⟨rfl, hk⟩ | ⟨rfl, S, n, hk⟩
    · obtain ⟨its, _, pl, _⟩ := I.list hq
      refine ⟨pl.isList.typeIs, fun a e => ?_⟩
      cases e
      obtain ⟨o, n, e, c, hd, _⟩ := pl
      exact ⟨o, e, hd⟩
    · refine ⟨⟨o, I.kIn p o hk, hc⟩, fun a e => ?_⟩
      cases e
      exact ⟨o, I.kIn _ o hk, hd⟩
    · have z : ∃ o, s.heap.get? p = some o ∧ o.ExactDict := by
        rcases hk with ⟨kvs, hk⟩ | ⟨kvs, hk⟩
        · obtain ⟨_, _, _, _, o, _, _, e, ex, _⟩ := I.hok p _ hk
          exact ⟨o, e, ex⟩
        · obtain ⟨_, _, _, _, o, _, _, e, ex, _⟩ := I.hok p _ hk
          exact ⟨o, e, ex⟩
      obtain ⟨o, e, ex⟩ := z
      refine ⟨⟨o, e, ex.1⟩, fun a e2 => ?_⟩
      cases e2
      exact ⟨o, e, ex.2.1⟩
    · obtain ⟨o, _, _, _, e, ex, _⟩ := I.hok p _ hk
      refine ⟨⟨o, e, ex.1⟩, fun a e2 => ?_⟩
      cases e2
      exact ⟨o, e, ex.2.1⟩
  | _ => exact False.elim ty
def tBM0 (K : PySem.W.Frag) (T : String) (r : V → List V → Hp → VK → Prop) (to : TE) : TE := fun σ H Q => to σ H fun x H1 => tyV K T x H1 ∧ r x [] H1 Q
def tBM (K : PySem.W.Frag) (T : String) (r : V → List V → Hp → VK → Prop) (to : TE) (t : TA) : TE := fun σ H Q => to σ H fun x H1 => tyV K T x H1 ∧ t σ H1 fun xs H2 => r x xs H2 Q
variable {o e : Expr} {es : List Expr} {to : TE} {t : TA} {name : Str} {apos cpos : Pos} {T id : String} {r : V → List V → Hp → VK → Prop}
theorem pe_bm0 (pa : PlainAttrs T) (slot : Slot T name id) (hty : typeOf (.builtin id) = pure (.type "method_descriptor")) (hm : MtR X id r) (ho : PE X o to)
    (hbase : attributeBase o name X.env (eval o X.env) = eval o X.env := by rfl) (hline : (apos.endLine == cpos.line) = true := by rfl) : PE X (.Call (.Attribute o name apos) [] [] cpos) (tBM0 X.K T r to) := by
  intro pins s σ H Q I h
  refine wpAny_Call_method0_late hbase hline (thn (ho pins s σ H _ I h) fun v s1 ⟨x, H1, I1, r1, ty, q1⟩ => ?_)
  obtain ⟨h1, h2⟩ := tyV_is I1 r1 ty
  exact ⟨T, id, pa, slot, hty, h1, h2, Calls.callWith_builtin rfl (PySem.evalArgs_none (hm pins s1 σ H1 x [] v [] Q I1 r1 .nil q1))⟩
theorem pe_bm (pa : PlainAttrs T) (slot : Slot T name id) (hty : typeOf (.builtin id) = pure (.type "method_descriptor")) (hm : MtR X id r) (ho : PE X o to) (ha : PA X (e :: es) t)
    (hbase : attributeBase o name X.env (eval o X.env) = eval o X.env := by rfl)
    (hfew : ((backTo cpos (starEach (e :: es) X.env)).all (fun x => !x.1) && (backToKw cpos (keywordEach [] X.env)).all (fun x => x.1.isSome)
      && decide ((e :: es).length + ([] : List Keyword).length + (if ([] : List Keyword).isEmpty then 0 else 1) < 30)) = true := by rfl)
    (hline : (apos.endLine == cpos.line) = true := by rfl) (hs : starEach (e :: es) X.env = (false, eval e X.env) :: starEach es X.env := by rfl) (hplain : (backTo cpos (starEach es X.env)).any (·.1) = false := by rfl) :
    PE X (.Call (.Attribute o name apos) (e :: es) [] cpos) (tBM X.K T r to t) := by
  intro pins s σ H Q I h
  refine wpAny_Call_method_late hbase hfew hline rfl (thn (ho pins s σ H _ I h) fun v s1 ⟨x, H1, I1, r1, ty, q1⟩ => ?_)
  obtain ⟨h1, h2⟩ := tyV_is I1 r1 ty
  refine ⟨T, id, pa, slot, hty, h1, h2, ?_⟩
  have hA := ha cpos pins s1 σ H1 _ I1 q1
  rw [hs] at hA ⊢
  refine Calls.callWith_builtin (by show (false || (backTo cpos (starEach es X.env)).any (·.1)) = false; rw [hplain] <;> rfl) (Calls.evalArgs_plain ?_)
  exact thn hA fun us s2 ⟨vs, H2, I2, r2, q2⟩ => hm pins s2 σ H2 x vs v us Q I2 r1 r2 q2
/- xs.append(e), list.index on a module's tuple .. are MtR facts of 06m -/
end
end L2
namespace L2
open PySem PySem.Spec PyProof.Rows
def MtM (X : Cx) (id : String) (r : V → List V → Hp → VK → Prop) : Prop :=
  ∀ (pins : List (Addr × Obj)) (s : Shared) (σ : St) (H : Hp) (x : V) (xs : List V) (v : Value) (us : List Value) (Q : VK), Inv X pins σ H s → RelV x v → Vals xs us → r x xs H Q →
    wpAny (model X.prog X.w) X.A (call (.builtin id) (v :: us)) (EP X pins σ Q) X.xe s
theorem Vals.one : ∀ {x : V} {us : List Value}, Vals [x] us → ∃ u, us = [u] ∧ RelV x u
  | _, _, .cons r .nil => ⟨_, rfl, r⟩
theorem Vals.two : ∀ {x y : V} {us : List Value}, Vals [x, y] us → ∃ u v, us = [u, v] ∧ RelV x u ∧ RelV y v
  | _, _, _, .cons r (.cons q .nil) => ⟨_, _, rfl, r, q⟩
theorem Vals.zero : ∀ {us : List Value}, Vals [] us → us = []
  | _, .nil => rfl
theorem Vals.dropLast {xs : List V} {us : List Value} (h : Vals xs us) : Vals xs.dropLast us.dropLast := by
  induction h with
  | nil => exact .nil
  | cons r t ih =>
    cases t with
    | nil => exact .nil
    | cons q t' => exact .cons r ih
theorem Vals.eraseIdx : ∀ {xs : List V} {us : List Value} (i : Nat), Vals xs us → Vals (xs.eraseIdx i) (us.eraseIdx i)
  | _, _, _, .nil => .nil
  | _, _, 0, .cons _ t => t
  | _, _, i + 1, .cons r t => .cons r (Vals.eraseIdx i t)
theorem erase_last {α : Type} (l : List α) : l.eraseIdx (l.length - 1) = l.dropLast := by
  induction l with
  | nil => rfl
  | cons a r ih =>
    cases r with
    | nil => rfl
    | cons b r =>
      have e : (a :: b :: r).length - 1 = ((b :: r).length - 1) + 1 := by
        have h1 : (a :: b :: r).length = r.length + 2 := rfl
        have h2 : (b :: r).length = r.length + 1 := rfl
        omega
      rw [e, List.eraseIdx_cons_succ, ih]
      all_goals rfl
theorem len_erase {α : Type} : ∀ (l : List α) (i : Nat), (l.eraseIdx i).length ≤ l.length
  | [], _ => Nat.le_refl _
  | _ :: _, 0 => Nat.le_succ _
  | _ :: r, i + 1 => Nat.succ_le_succ (len_erase r i)
section
variable {X : Cx} {pins : List (Addr × Obj)} {σ : St} {H : Hp} {s : Shared} {l b : Addr} {xs ys zs : List V}
theorem Inv.lset {its its' : List Value} {n : Nat} {f : Array Value → Array Value} {t' : Nat} (I : Inv X pins σ H s) (hH : H l = some (.lst xs))
    (e : s.heap.get? l = some { cls := .type "list", data := .seq its.toArray n }) (hf : f its.toArray = its'.toArray) (hv : Vals ys its') (hz : ys.length ≤ sizeLine) :
    Inv X pins σ (upd H l (.lst ys)) { s with heap := s.heap.update l (Obj.mapSeq f), toks := t' } := by
  have q := PySem.IsL.update e f
  rw [hf] at q
  refine I.write (x := l) (e := l) (by rw [hH]; exact trivial) (.inl rfl) (fun b' u hb hu => (Heap.get?_update_other s.heap (Obj.mapSeq f) (Ne.symm hb)).trans hu) ⟨_, q⟩ ?_
  exact ⟨hz, its', _, hv, q⟩
theorem Inv.lnew {its : List Value} {t' : Nat} (I : Inv X pins σ H s) (hv : Vals ys its) (hz : ys.length ≤ sizeLine) :
    Inv X pins σ (upd H s.heap.objs.size (.lst ys)) { s with heap := s.heap.push { cls := .type "list", data := .seq its.toArray }, toks := t' } :=
  I.laid (fun _ _ q => Heap.get?_push_of_some _ q) (Nat.le_refl _) ⟨hz, its, 0, hv, Heap.get?_push_size _ rfl⟩
theorem Inv.fresh (I : Inv X pins σ H s) : H s.heap.objs.size = none := I.hok.fresh (Nat.le_refl _)
theorem Inv.lstM (I : Inv X pins σ H s) (hH : H l = some (.lst xs)) : xs.length ≤ sizeLine ∧ ∃ (its : List Value) (n : Nat), Vals xs its ∧ xs.length = its.length ∧ s.heap.get? l = some { cls := .type "list", data := .seq its.toArray n } := by
  obtain ⟨z, its, n, r, e⟩ := I.hok l _ hH
  exact ⟨z, its, n, r, r.length, e⟩
end
section
variable {X : Cx}
inductive rAppend_I (x : V) (vs : List V) (H : Hp) (Q : VK) : Prop
  | mk : ∀ l xs y, x = .ref l → vs = [y] → H l = some (.lst xs) → xs.length < sizeLine → Q .non (upd H l (.lst (xs ++ [y]))) → rAppend_I x vs H Q
def rAppend : V → List V → Hp → VK → Prop := fun x vs H Q => rAppend_I x vs H Q
theorem mt_append : MtM X "list.append" rAppend := by
  intro pins s σ H x vs v us Q I rx rv h
  obtain ⟨l, xs, y, rfl, rfl, hH, hz, q⟩ := h
  cases rx
  obtain ⟨u, rfl, ru⟩ := rv.one
  obtain ⟨z, its, n, r, hl, e⟩ := I.lstM hH
  refine call_meets F.slot_list_append ⟨_, e, rfl⟩ F.entry_list_append (F.args_list_append_2 _ _) (PySem.list_append l its.toArray n u (by rw [List.size_toArray]; omega)) ⟨e, ?_⟩
  refine ⟨.non, _, I.lset (its' := its ++ [u]) hH e (by simp) (r.append (.cons ru .nil)) ?_, rfl, q⟩
  rw [List.length_append, List.length_singleton]
  omega
inductive rPop_I (x : V) (vs : List V) (H : Hp) (Q : VK) : Prop
  | mk : ∀ l xs y, x = .ref l → vs = [] → H l = some (.lst xs) → xs[xs.length - 1]? = some y → Q y (upd H l (.lst xs.dropLast)) → rPop_I x vs H Q
def rPop : V → List V → Hp → VK → Prop := fun x vs H Q => rPop_I x vs H Q
theorem mt_pop : MtM X "list.pop" rPop := by
  intro pins s σ H x vs v us Q I rx rv h
  obtain ⟨l, xs, y, rfl, rfl, hH, hy, q⟩ := h
  cases rx
  have hus := rv.zero
  subst hus
  obtain ⟨z, its, n, r, hl, e⟩ := I.lstM hH
  obtain ⟨u, hu, ru⟩ := r.get hy
  have hy' : its.toArray[its.toArray.size - 1]? = some u := by
    show its.toArray[its.length - 1]? = some u
    rw [← Array.getElem?_toList, ← hl]
    exact hu
  refine call_meets F.slot_list_pop ⟨_, e, rfl⟩ F.entry_list_pop (F.args_list_pop_1 _) (MeetsSeq.list_pop_last l its.toArray n u hy' (by rw [List.size_toArray]; omega)) ⟨e, ?_⟩
  refine ⟨y, _, I.lset (its' := its.dropLast) hH e ?_ r.dropLast ?_, ru, q⟩
  · show its.toArray.eraseIdxIfInBounds (its.toArray.size - 1) = its.dropLast.toArray
    rw [List.size_toArray, List.eraseIdxIfInBounds_toArray, erase_last]
  · rw [List.length_dropLast]
    omega
inductive rPopAt_I (x : V) (vs : List V) (H : Hp) (Q : VK) : Prop
  | mk : ∀ l xs i k y, x = .ref l → vs = [.int i] → H l = some (.lst xs) → -(2 ^ 63) ≤ i → i < 2 ^ 63 → seqIndex? i xs.length = some k → xs[k]? = some y → Q y (upd H l (.lst (xs.eraseIdx k))) → rPopAt_I x vs H Q
def rPopAt : V → List V → Hp → VK → Prop := fun x vs H Q => rPopAt_I x vs H Q
theorem mt_popAt : MtM X "list.pop" rPopAt := by
  intro pins s σ H x vs v us Q I rx rv h
  obtain ⟨l, xs, i, k, y, rfl, rfl, hH, h1, h2, hk, hy, q⟩ := h
  cases rx
  obtain ⟨u, rfl, ru⟩ := rv.one
  obtain ⟨t, rfl⟩ := ru
  obtain ⟨z, its, n, r, hl, e⟩ := I.lstM hH
  obtain ⟨w, hw, rw'⟩ := r.get hy
  refine call_meets F.slot_list_pop ⟨_, e, rfl⟩ F.entry_list_pop (F.args_list_pop_2 _ _)
    (MeetsSeq.list_pop_at l its.toArray n i t k w (fitsIndex_both h1 h2) (by rw [List.size_toArray, ← hl]; exact hk) (by rw [← Array.getElem?_toList]; exact hw) (by rw [List.size_toArray]; omega)) ⟨e, ?_⟩
  refine ⟨y, _, I.lset (its' := its.eraseIdx k) hH e ?_ (r.eraseIdx k) ?_, rw', q⟩
  · show its.toArray.eraseIdxIfInBounds k = (its.eraseIdx k).toArray
    rw [List.eraseIdxIfInBounds_toArray]
  · have := len_erase xs k
    omega
inductive rCat_I (x : V) (y : V) (H : Hp) (Q : VK) : Prop
  | mk : ∀ l b xs zs, x = .ref l → y = .ref b → H l = some (.lst xs) → H b = some (.lst zs) → xs.length + zs.length ≤ sizeLine → (∀ p, H p = none → Q (.ref p) (upd H p (.lst (xs ++ zs)))) → rCat_I x y H Q
def rCat : R2 := fun x y H Q => rCat_I x y H Q
theorem op_cat : OpR X (binaryOp .Add) rCat := by
  intro pins s σ H x y v u Q I rx ry h
  obtain ⟨l, b, xs, zs, rfl, rfl, hH, hB, hz, q⟩ := h
  cases rx
  cases ry
  obtain ⟨z, its, n, r, hl, e⟩ := I.lstM hH
  obtain ⟨z2, its2, n2, r2, hl2, e2⟩ := I.lstM hB
  refine PySem.P.add_list e e2 ?_ (by rw [List.size_toArray, List.size_toArray]; omega)
  have ea : its.toArray ++ its2.toArray = (its ++ its2).toArray := by simp
  rw [ea]
  exact ⟨.ref _, _, I.lnew (t' := s.toks) (r.append r2) (by rw [List.length_append]; omega), rfl, q _ I.fresh⟩
end
section
variable {prog : Program} {w : World} {A : Around} {E : Value → Shared → Prop} {s : Shared}
end
section
variable {X : Cx}
end
end L2
namespace L2
open PySem PySem.Spec PyProof.Rows
section
variable {κ : Type} [DecidableEq κ]
def valV (kvs : List (κ × V)) (k : κ) : Option V := (kvs.find? fun kv => decide (kv.1 = k)).map (·.2)
/-- in its place, or at the end -/
def putK (kvs : List (κ × V)) (k : κ) (v : V) : List (κ × V) :=
  if (kvs.any fun kv => decide (kv.1 = k)) = true then kvs.map (fun kv => if kv.1 = k then (kv.1, v) else kv) else kvs ++ [(k, v)]
def dropK (kvs : List (κ × V)) (k : κ) : List (κ × V) := kvs.filter fun kv => decide (kv.1 ≠ k)
theorem valV_pos {p : κ × V} {r : List (κ × V)} {k : κ} (e : p.1 = k) : valV (p :: r) k = some p.2 := by simp [valV, List.find?_cons, e]
theorem valV_neg {p : κ × V} {r : List (κ × V)} {k : κ} (e : ¬ p.1 = k) : valV (p :: r) k = valV r k := by simp [valV, List.find?_cons, e]
theorem valV_any (k : κ) : ∀ kvs : List (κ × V), (kvs.any fun kv => decide (kv.1 = k)) = (valV kvs k).isSome
  | [] => rfl
  | p :: r => by
    rw [List.any_cons]
    by_cases e : p.1 = k
    · simp only [valV_pos e, decide_eq_true e, Bool.true_or, Option.isSome_some]
    · rw [valV_neg e, decide_eq_false e, Bool.false_or]; exact valV_any k r
theorem valV_snoc (k j : κ) (y : V) : ∀ kvs : List (κ × V), valV kvs k = none → valV (kvs ++ [(k, y)]) j = if j = k then some y else valV kvs j
  | [], _ => by
    by_cases e : k = j
    · rw [if_pos e.symm]; exact valV_pos (p := (k, y)) e
    · rw [if_neg (fun z => e z.symm)]; exact valV_neg (p := (k, y)) e
  | p :: r, hn => by
    rw [List.cons_append]
    have hk : ¬ p.1 = k := fun z => by rw [valV_pos z] at hn; cases hn
    rw [valV_neg hk] at hn
    have ih := valV_snoc k j y r hn
    by_cases e : p.1 = j
    · rw [valV_pos e, valV_pos e, if_neg (fun z => hk (e.trans z))]
    · rw [valV_neg e, valV_neg e, ih]
theorem length_putK (kvs : List (κ × V)) (k : κ) (v : V) : (putK kvs k v).length ≤ kvs.length + 1 := by
  unfold putK
  split
  · rw [List.length_map]; omega
  · rw [List.length_append, List.length_cons, List.length_nil]; omega
theorem putK_new {kvs : List (κ × V)} {k : κ} (v : V) (h : valV kvs k = none) : putK kvs k v = kvs ++ [(k, v)] := by
  unfold putK
  rw [valV_any, h]
  exact if_neg (by decide)
theorem RelO.isSome_eq {o : Option V} {u : Option Value} (r : RelO o u) : o.isSome = u.isSome := by
  cases o with
  | none => cases u with
    | none => rfl
    | some _ => exact (show False from r).elim
  | some _ => cases u with
    | none => exact (show False from r).elim
    | some _ => rfl
theorem RelO.getD {o : Option V} {u : Option Value} {d : V} {d' : Value} (r : RelO o u) (rd : RelV d d') : RelV (o.getD d) (u.getD d') := by
  cases o with
  | none => cases u with
    | none => exact rd
    | some _ => exact (show False from r).elim
  | some _ => cases u with
    | none => exact (show False from r).elim
    | some _ => exact r
/-- raw tables of the same keys -/
theorem KV.val {kvs : List (κ × V)} {vs : List (κ × Value)} (r : KV kvs vs) (k : κ) : RelO (valV kvs k) (valueAt vs k) := by
  unfold KV at r
  induction r with
  | nil => exact True.intro
  | @cons p q ps qs h t ih =>
    obtain ⟨h1, h2⟩ := h
    by_cases e : p.1 = k
    · have e' : q.1 = k := h1.symm.trans e
      have b : valueAt (q :: qs) k = some q.2 := by simp [valueAt, List.find?_cons, e']
      rw [valV_pos e, b]; exact h2
    · have e' : ¬ q.1 = k := fun z => e (h1.trans z)
      have b : valueAt (q :: qs) k = valueAt qs k := by simp [valueAt, List.find?_cons, e']
      rw [valV_neg e, b]; exact ih
theorem KV.any {kvs : List (κ × V)} {vs : List (κ × Value)} (r : KV kvs vs) (k : κ) : (kvs.any fun kv => decide (kv.1 = k)) = vs.any fun kv => decide (kv.1 = k) := by
  unfold KV at r
  induction r with
  | nil => rfl
  | cons h t ih => rw [List.any_cons, List.any_cons, ih, h.1]
theorem KV.repl {kvs : List (κ × V)} {vs : List (κ × Value)} (r : KV kvs vs) (k : κ) {y : V} {u : Value} (ry : RelV y u) :
    KV (kvs.map fun kv => if kv.1 = k then (kv.1, y) else kv) (vs.map fun kv => if kv.1 = k then (kv.1, u) else kv) := by
  unfold KV at r ⊢
  induction r with
  | nil => exact .nil
  | @cons p q ps qs h t ih =>
    rw [List.map_cons, List.map_cons]
    refine .cons ?_ ih
    obtain ⟨h1, h2⟩ := h
    by_cases e : p.1 = k
    · rw [if_pos e, if_pos (h1.symm.trans e)]; exact ⟨h1, ry⟩
    · rw [if_neg e, if_neg (fun z => e (h1.trans z))]; exact ⟨h1, h2⟩
theorem KV.put {kvs : List (κ × V)} {vs : List (κ × Value)} (r : KV kvs vs) (k : κ) {y : V} {u : Value} (ry : RelV y u) : KV (putK kvs k y) (stored vs k u) := by
  unfold putK stored
  rw [r.any k]
  by_cases e : (vs.any fun kv => decide (kv.1 = k)) = true
  · rw [if_pos e, if_pos e]; exact r.repl k ry
  · rw [if_neg e, if_neg e]; exact Paired.snoc r ⟨rfl, ry⟩
theorem KV.drop {kvs : List (κ × V)} {vs : List (κ × Value)} (r : KV kvs vs) (k : κ) : KV (dropK kvs k) (without vs k) := by
  unfold KV at r ⊢
  unfold dropK without
  induction r with
  | nil => exact .nil
  | @cons p q ps qs h t ih =>
    obtain ⟨h1, h2⟩ := h
    rw [List.filter_cons, List.filter_cons]
    by_cases e : p.1 = k
    · have a : ¬ decide (p.1 ≠ k) = true := by simp [e]
      have b : ¬ decide (q.1 ≠ k) = true := by simp [h1.symm.trans e]
      rw [if_neg a, if_neg b]; exact ih
    · have e' : ¬ q.1 = k := fun z => e (h1.trans z)
      have a : decide (p.1 ≠ k) = true := by simp [e]
      have b : decide (q.1 ≠ k) = true := by simp [e']
      rw [if_pos a, if_pos b]; exact .cons ⟨h1, h2⟩ ih
theorem KV.keys {kvs : List (κ × V)} {vs : List (κ × Value)} (r : KV kvs vs) : kvs.map (·.1) = vs.map (·.1) := by
  unfold KV at r
  induction r with
  | nil => rfl
  | cons h t ih => rw [List.map_cons, List.map_cons, ih, h.1]
theorem KV.length {kvs : List (κ × V)} {vs : List (κ × Value)} (r : KV kvs vs) : kvs.length = vs.length := Paired.length r
theorem dropK_le (kvs : List (κ × V)) (k : κ) : (dropK kvs k).length ≤ kvs.length := List.length_filter_le _ _
end
theorem kV_is {P : Program} {w : World} {k : Key} {u : Value} (r : RelV (kV k) u) : (mixKind P w).is k u = true := by
  cases k with
  | inl i => obtain ⟨t, e⟩ := (show ∃ t, u = Value.int i t from r); subst e; exact mixKind_int P w i t
  | inr x => obtain ⟨t, e⟩ := (show ∃ t, u = Value.str x t from r); subst e; exact mixKind_str P w x t
theorem items_are {P : Program} {w : World} : ∀ {ks : List Key} {us : List Value}, Vals (ks.map kV) us → ItemsAre (mixKind P w) ks us
  | [], _, r => by rw [List.map_nil] at r; cases r; exact .nil
  | k :: ks, _, r => by
    rw [List.map_cons] at r
    cases r with
    | cons h t => exact .cons (kV_is h) (items_are t)
/-- raw entries of a dict with tuple keys -/
abbrev KT (H : Hp) : List (List Key × V) → List (List Key × Addr × Value) → Prop := Paired fun p q => p.1 = q.1 ∧ H q.2.1 = some (.tup (p.1.map kV)) ∧ RelV p.2 q.2.2
theorem KT.val {H : Hp} {kvs : List (List Key × V)} {xs : List (List Key × Addr × Value)} (r : KT H kvs xs) (k : List Key) : RelO (valV kvs k) ((atKey xs k).map (·.2)) := by
  induction r with
  | nil => exact True.intro
  | @cons p q ps qs h t ih =>
    obtain ⟨h1, _, h2⟩ := h
    by_cases e : p.1 = k
    · have e' : q.1 = k := h1.symm.trans e
      have b : atKey (q :: qs) k = some q.2 := by simp [atKey, List.find?_cons, e']
      rw [valV_pos e, b]; exact h2
    · have e' : ¬ q.1 = k := fun z => e (h1.trans z)
      have b : atKey (q :: qs) k = atKey qs k := by simp [atKey, List.find?_cons, e']
      rw [valV_neg e, b]; exact ih
theorem KT.repl {H : Hp} {kvs : List (List Key × V)} {xs : List (List Key × Addr × Value)} (r : KT H kvs xs) (k : List Key) {y : V} {u : Value} (ry : RelV y u) :
    KT H (kvs.map fun kv => if kv.1 = k then (kv.1, y) else kv) (xs.map (putAt k u)) := by
  induction r with
  | nil => exact .nil
  | @cons p q ps qs h t ih =>
    rw [List.map_cons, List.map_cons]
    refine .cons ?_ ih
    obtain ⟨h1, h2, h3⟩ := h
    unfold putAt
    by_cases e : p.1 = k
    · rw [if_pos e, if_pos (h1.symm.trans e)]; exact ⟨h1, h2, ry⟩
    · rw [if_neg e, if_neg (fun z => e (h1.trans z))]; exact ⟨h1, h2, h3⟩
theorem KT.put {H : Hp} {kvs : List (List Key × V)} {xs : List (List Key × Addr × Value)} (r : KT H kvs xs) (k : List Key) {b : Addr} {y : V} {u : Value} (hb : H b = some (.tup (k.map kV))) (ry : RelV y u) :
    KT H (putK kvs k y) (storedH xs k b u) := by
  have e : (kvs.any fun kv => decide (kv.1 = k)) = (atKey xs k).isSome := by
    rw [valV_any, (r.val k).isSome_eq, Option.isSome_map]
  unfold putK storedH
  rw [e]
  by_cases q : (atKey xs k).isSome = true
  · rw [if_pos q, if_pos q]; exact r.repl k ry
  · rw [if_neg q, if_neg q]; exact Paired.snoc r ⟨rfl, hb, ry⟩
theorem KT.keeps {H H' : Hp} {kvs : List (List Key × V)} {xs : List (List Key × Addr × Value)} (r : KT H kvs xs) (ht : ∀ b ys, H b = some (.tup ys) → H' b = some (.tup ys)) : KT H' kvs xs :=
  Paired.mapP r fun _ _ z => ⟨z.1, ht _ _ z.2.1, z.2.2⟩
section
variable {P : Program} {w : World} {H : Hp} {h : Heap} {a : Addr}
theorem rd_of {u : HO} (ok : HOk P w H h) (e : Rd H a u) : ObjOk P w H h a u := e.ok ok
theorem dk_rd {kvs : List (Key × V)} (ok : HOk P w H h) (e : Rd H a (.dK kvs)) : kvs.length ≤ sizeLine ∧ (a == sysModules) = false ∧ ∃ vs, KV kvs vs ∧ h.DictOf (mixKind P w) a vs :=
  show ObjOk P w H h a (.dK kvs) from rd_of ok e
theorem dk_of {kvs : List (Key × V)} (ok : HOk P w H h) (e : H a = some (.dK kvs)) : kvs.length ≤ sizeLine ∧ (a == sysModules) = false ∧ ∃ vs, KV kvs vs ∧ h.DictOf (mixKind P w) a vs := dk_rd ok (.inl e)
/-- a tracked tuple of ints and texts is a key -/
theorem key_of {ks : List Key} (ok : HOk P w H h) (e : H a = some (.tup (ks.map kV))) : (tupleKind (mixKind P w)).is h ks a := by
  obtain ⟨_, its, r, o, h1, h2, n, h3⟩ := (show ObjOk P w H h a (.tup (ks.map kV)) from ok a _ e)
  exact ⟨o, its.toArray, n, h1, h2, h3, by simpa using items_are r⟩
theorem dt_rd {kvs : List (List Key × V)} (ok : HOk P w H h) (e : Rd H a (.dT kvs)) : kvs.length ≤ sizeLine ∧ (a == sysModules) = false ∧
    ∃ xs, KT H kvs xs ∧ h.DictOfH (tupleKind (mixKind P w)) a xs := by
  obtain ⟨z, y, xs, r, o, es, ep, h1, h2, h3, h4, h5⟩ := (show ObjOk P w H h a (.dT kvs) from rd_of ok e)
  refine ⟨z, y, xs, r, o, es, ep, h1, h2, h3, h4, fun x hx => ?_, h5⟩
  have all : ∀ {l : List (List Key × V)} {m : List (List Key × Addr × Value)}, KT H l m → ∀ x ∈ m, (tupleKind (mixKind P w)).is h x.1 x.2.1 := by
    intro l m q
    induction q with
    | nil => intro x hx; exact nomatch hx
    | @cons p q ps qs hq t ih =>
      intro x hx
      rcases List.mem_cons.mp hx with e | hx
      · subst e
        exact key_of ok (by rw [← hq.1]; exact hq.2.1)
      · exact ih x hx
  exact all r x hx
theorem dt_of {kvs : List (List Key × V)} (ok : HOk P w H h) (e : H a = some (.dT kvs)) : kvs.length ≤ sizeLine ∧ (a == sysModules) = false ∧
    ∃ xs, KT H kvs xs ∧ h.DictOfH (tupleKind (mixKind P w)) a xs := dt_rd ok (.inl e)
end
/-- what the dict at a holds at the key y -/
def DGet (H : Hp) (a : Addr) (y : V) (r : Option V) : Prop :=
  (∃ kvs k, Rd H a (.dK kvs) ∧ y = kV k ∧ r = valV kvs k) ∨ ∃ kvs k b, Rd H a (.dT kvs) ∧ y = .ref b ∧ H b = some (.tup (k.map kV)) ∧ r = valV kvs k
/-- the heap behind a[y] = v -/
def DPut (H : Hp) (a : Addr) (y v : V) (H' : Hp) : Prop :=
  (∃ kvs k, H a = some (.dK kvs) ∧ y = kV k ∧ kvs.length < sizeLine ∧ H' = upd H a (.dK (putK kvs k v))) ∨
  ∃ kvs k b, H a = some (.dT kvs) ∧ y = .ref b ∧ H b = some (.tup (k.map kV)) ∧ kvs.length < sizeLine ∧ H' = upd H a (.dT (putK kvs k v))
theorem DGet.k {H : Hp} {a : Addr} {kvs : List (Key × V)} {k : Key} (e : H a = some (.dK kvs)) : DGet H a (kV k) (valV kvs k) := .inl ⟨kvs, k, .inl e, rfl, rfl⟩
theorem DGet.t {H : Hp} {a b : Addr} {kvs : List (List Key × V)} {k : List Key} (e : H a = some (.dT kvs)) (eb : H b = some (.tup (k.map kV))) : DGet H a (.ref b) (valV kvs k) := .inr ⟨kvs, k, b, .inl e, rfl, eb, rfl⟩
theorem DPut.k {H : Hp} {a : Addr} {kvs : List (Key × V)} {k : Key} {v : V} (e : H a = some (.dK kvs)) (hl : kvs.length < sizeLine) : DPut H a (kV k) v (upd H a (.dK (putK kvs k v))) := .inl ⟨kvs, k, e, rfl, hl, rfl⟩
theorem DPut.t {H : Hp} {a b : Addr} {kvs : List (List Key × V)} {k : List Key} {v : V} (e : H a = some (.dT kvs)) (eb : H b = some (.tup (k.map kV))) (hl : kvs.length < sizeLine) :
    DPut H a (.ref b) v (upd H a (.dT (putK kvs k v))) := .inr ⟨kvs, k, b, e, rfl, eb, hl, rfl⟩
section
variable {X : Cx} {pins : List (Addr × Obj)} {σ : St} {H : Hp} {s : Shared} {a : Addr} {y v : V} {u r : Value} {o : Option V} {A : Around} {E : Value → Shared → Prop}
theorem Inv.big (I : Inv X pins σ H s) : sysModules < s.heap.objs.size := by
  have h : mainGlobals < s.heap.objs.size := (I.mod.glob.keeps I.bk).lt
  exact Nat.lt_trans (by decide) h
/-- d[y], there -/
theorem d_getItem {Q : Value → Shared → Prop} (hu : A.units + 1 < cLine) (I : Inv X pins σ H s) (g : DGet H a y (some v)) (ry : RelV y u) (h : ∀ w' s', Inv X pins σ H s' → RelV v w' → Q w' s') :
    wpAny (model X.prog X.w) A (getItem (.ref a) u) Q E s := by
  rcases g with ⟨kvs, k, e, ey, l⟩ | ⟨kvs, k, b, e, ey, eb, l⟩
  · subst ey
    obtain ⟨z, hd, vs, rel, dd⟩ := dk_rd I.hok e
    obtain ⟨w', hw, rw'⟩ := RelO.some_of (v := v) (o := valueAt vs k) (by rw [l]; exact rel.val k)
    exact wpAny_getItem_of (kV_is ry) dd.mapOf hw (h w' _ (I.tok _) rw')
  · subst ey
    cases (show u = Value.ref b from ry)
    obtain ⟨z, hd, xs, rel, dd⟩ := dt_rd I.hok e
    obtain ⟨w', hw, rw'⟩ := RelO.some_of (v := v) (o := (atKey xs k).map (·.2)) (by rw [l]; exact rel.val k)
    obtain ⟨p, hp, hp2⟩ := Option.map_eq_some_iff.mp hw
    refine wpAny_getItem_heap (tupleKind_room_in1 hu) (key_of I.hok eb) dd hp ?_
    rw [hp2]
    exact h w' _ (I.tok _) rw'
/-- y in d -/
theorem d_in {Q : Value → Shared → Prop} (hu : A.units + 1 < cLine) (I : Inv X pins σ H s) (g : DGet H a y o) (ry : RelV y u) (h : ∀ s', Inv X pins σ H s' → Q (.bool o.isSome) s') :
    wpAny (model X.prog X.w) A (compareOp .In u (.ref a)) Q E s := by
  rcases g with ⟨kvs, k, e, ey, l⟩ | ⟨kvs, k, b, e, ey, eb, l⟩
  · subst ey
    obtain ⟨z, hd, vs, rel, dd⟩ := dk_rd I.hok e
    refine wpAny_in_of (kV_is ry) hd dd.mapOf ?_
    rw [← (rel.val k).isSome_eq, ← l]
    exact h _ (I.tok _)
  · subst ey
    cases (show u = Value.ref b from ry)
    obtain ⟨z, hd, xs, rel, dd⟩ := dt_rd I.hok e
    refine wpAny_in_heap (tupleKind_room_in1 hu) (key_of I.hok eb) hd dd ?_
    have q := (rel.val k).isSome_eq
    rw [Option.isSome_map] at q
    rw [← q, ← l]
    exact h _ (I.tok _)
theorem d_notIn {Q : Value → Shared → Prop} (hu : A.units + 1 < cLine) (I : Inv X pins σ H s) (g : DGet H a y o) (ry : RelV y u) (h : ∀ s', Inv X pins σ H s' → Q (.bool (!o.isSome)) s') :
    wpAny (model X.prog X.w) A (compareOp .NotIn u (.ref a)) Q E s := by
  rcases g with ⟨kvs, k, e, ey, l⟩ | ⟨kvs, k, b, e, ey, eb, l⟩
  · subst ey
    obtain ⟨z, hd, vs, rel, dd⟩ := dk_rd I.hok e
    refine wpAny_notIn_of (kV_is ry) hd dd.mapOf ?_
    rw [← (rel.val k).isSome_eq, ← l]
    exact h _ (I.tok _)
  · subst ey
    cases (show u = Value.ref b from ry)
    obtain ⟨z, hd, xs, rel, dd⟩ := dt_rd I.hok e
    refine wpAny_notIn_heap (tupleKind_room_in1 hu) (key_of I.hok eb) hd dd ?_
    have q := (rel.val k).isSome_eq
    rw [Option.isSome_map] at q
    rw [← q, ← l]
    exact h _ (I.tok _)
/-- a dict's object is replaced -/
theorem d_write {h' : Heap} {t' : Nat} {ob : HO} (I : Inv X pins σ H s) (mu : Mut (H a)) (hs : Heap.SameBut a s.heap h') (he : ∃ q, h'.get? a = some q) (new : ObjOk X.prog X.w (upd H a ob) h' a ob) :
    Inv X pins σ (upd H a ob) { s with heap := h', toks := t' } :=
  I.write (x := a) (e := a) mu (.inl rfl) (fun b q hb z => (hs.2 b hb).trans z) he new
theorem dk_new {P : Program} {w : World} {H' : Hp} {h' : Heap} {kvs : List (Key × V)} {vs : List (Key × Value)} (z : kvs.length ≤ sizeLine) (hd : (a == sysModules) = false) (rel : KV kvs vs) (dd : h'.DictOf (mixKind P w) a vs) :
    ObjOk P w H' h' a (.dK kvs) := ⟨z, hd, vs, rel, dd⟩
/-- d[y] = v -/
theorem d_setItem {H' : Hp} {Q : Unit → Shared → Prop} (hu : A.units + 1 < cLine) (I : Inv X pins σ H s) (g : DPut H a y v H') (ry : RelV y u) (rv : RelV v r) (h : ∀ s', Inv X pins σ H' s' → Q () s') :
    wpAny (model X.prog X.w) A (setItem (.ref a) u r) Q E s := by
  rcases g with ⟨kvs, k, e, ey, l, eH⟩ | ⟨kvs, k, b, e, ey, eb, l, eH⟩
  · subst ey eH
    obtain ⟨z, hd, vs, rel, dd⟩ := dk_of I.hok e
    have hz : vs.length ≤ sizeLine := by rw [← rel.length]; exact z
    have hl : (putK kvs k v).length ≤ sizeLine := by have := length_putK kvs k v; omega
    refine wpAny_setItem_pairs (hsz := hz) (kV_is ry) dd fun h' dd' hs => h _ ?_
    have he : ∃ q, h'.get? a = some q := let ⟨q, _, _, hq, _⟩ := dd'; ⟨q, hq⟩
    exact d_write I (by rw [e]; exact True.intro) hs he (dk_new hl hd (rel.put k rv) dd')
  · subst ey eH
    cases (show u = Value.ref b from ry)
    obtain ⟨z, hd, xs, rel, dd⟩ := dt_of I.hok e
    have hz : xs.length ≤ sizeLine := by rw [← Paired.length rel]; exact z
    have hl : (putK kvs k v).length ≤ sizeLine := by have := length_putK kvs k v; omega
    refine wpAny_setItem_heap (hsz := hz) (tupleKind_room_in1 hu) (key_of I.hok eb) dd fun h' dd' hs => h _ ?_
    obtain ⟨q, es, ep, hq, h2, h3, h4, _, h5⟩ := dd'
    refine d_write I (by rw [e]; exact True.intro) hs ⟨q, hq⟩ ⟨hl, hd, _, (rel.put k eb rv).keeps fun c ys ec => ?_, q, es, ep, hq, h2, h3, h4, h5⟩
    rw [upd_ne (ne_of ec e (fun z => nomatch z))]
    exact ec
end
section
variable {X : Cx} {pins : List (Addr × Obj)} {σ : St} {H : Hp} {s : Shared} {a : Addr} {kvs : List (Key × V)} {k : Key} {u : Value} {A : Around} {E : Value → Shared → Prop}
/-- d.pop(k[, x]), there -/
theorem d_pop {v : V} {more : List Value} {Q : Value → Shared → Prop} (I : Inv X pins σ H s) (e : H a = some (.dK kvs)) (ry : RelV (kV k) u) (l : valV kvs k = some v) (hm : more = [] ∨ ∃ x, more = [x])
    (h : ∀ w' s', Inv X pins σ (upd H a (.dK (dropK kvs k))) s' → RelV v w' → Q w' s') : wpAny (model X.prog X.w) A (call (.builtin "dict.pop") (.ref a :: u :: more)) Q E s := by
  obtain ⟨z, hd, vs, rel, dd⟩ := dk_of I.hok e
  obtain ⟨w', hw, rw'⟩ := RelO.some_of (v := v) (o := valueAt vs k) (by rw [← l]; exact rel.val k)
  have hp : (keyPart u).isSome = true := by
    cases k with
    | inl i => obtain ⟨t, q⟩ := (show ∃ t, u = Value.int i t from ry); subst q; rfl
    | inr x => obtain ⟨t, q⟩ := (show ∃ t, u = Value.str x t from ry); subst q; rfl
  have ha : argsOk "dict.pop" ⟨.ref a :: u :: more, []⟩ := by
    rcases hm with q | ⟨x, q⟩
    · subst q; exact PySem.F.args_dict_pop_2 _ _
    · subst q; exact PySem.F.args_dict_pop_3 _ _ _
  refine call_meetsIn PySem.F.slot_dict_pop dd.typeIs PySem.F.entry_dict_pop ha (meets_dict_pop_there (mixKind X.prog X.w) a (kV_is ry) more hm hp)
    ⟨vs, w', dd, by rw [← rel.length]; exact z, hw, fun h' dd' hs => h w' _ ?_ rw'⟩
  have he : ∃ q, h'.get? a = some q := let ⟨q, _, _, hq, _⟩ := dd'; ⟨q, hq⟩
  exact d_write I (by rw [e]; exact True.intro) hs he (dk_new (Nat.le_trans (dropK_le kvs k) z) hd (rel.drop k) dd')
/-- len(d) -/
theorem d_len {Q : Value → Shared → Prop} (I : Inv X pins σ H s) (e : Rd H a (.dK kvs)) (h : ∀ t s', Inv X pins σ H s' → Q (.int kvs.length t) s') : wpAny (model X.prog X.w) A (call (.builtin "len") [.ref a]) Q E s := by
  obtain ⟨z, hd, vs, rel, dd⟩ := dk_rd I.hok e
  refine call_len_dict hd dd (by rw [← rel.length]; rw [sizeLine_eq] at z; omega) ?_
  rw [← rel.length]
  exact h _ _ (I.tok _)
end
/-- the element of a subscription, not a slice -/
def NoSl (i : Expr) : Prop := ∀ ov iv, subscripted i false ov iv = operate [ov, iv] (getItem ov iv)
theorem subD_of {prog : Program} {w : World} {A : Around} {E : Value → Shared → Prop} {s : Shared} {env : Env} {value slice : Expr} {pos : Pos} {T id : String} {Q : Value → Shared → Prop}
    (hl : typeLookup (.type T) "__getitem__" = pure (some (.builtin id))) (hs : NoSl slice)
    (h : wpAny (model prog w) A (eval value env) (fun o s₁ => wpAny (model prog w) A (eval slice env) (fun i s₂ => s₂.TypeIs o T ∧ wpAny (model prog w) A (getItem o i) Q E s₂) E s₁) E s) :
    wpAny (model prog w) A (eval (.Subscript value slice pos) env) Q E s := by
  refine Subscript_ (wpAny_mono h (fun o s₁ h₁ => wpAny_mono h₁ (fun i s₂ h₂ => ?_) fun _ _ x => x) fun _ _ x => x)
  obtain ⟨hT, h₂⟩ := h₂
  unfold subscriptTail
  refine wpAny_bind ?_
  rw [getitemInPython_of_ne hT.not_modules]
  refine wpAny_bind (wpAny_specialOf hT hl ?_)
  have fin : wpAny (model prog w) A (subscripted slice false o i) (fun r s₃ => wpAny (model prog w) A (letTemporaryGo value o r >>= fun _ => pure r) Q E s₃) E s₂ := by
    rw [hs o i]
    exact wpAny_operating (wpAny_mono h₂ (fun r s₃ h₃ => wpAny_bind (wpAny_letTemporaryGo (wpAny_pure h₃))) fun _ _ x => x)
  first
    | exact wpAny_pure (wpAny_bind fin)
    | exact wpAny_bind (wpAny_pure (wpAny_bind fin))
    | exact wpAny_bind fin
theorem dict_typeIs {X : Cx} {pins : List (Addr × Obj)} {σ : St} {H : Hp} {s : Shared} {a : Addr} {y : V} {o : Option V} (I : Inv X pins σ H s) (g : DGet H a y o) : s.TypeIs (.ref a) "dict" := by
  rcases g with ⟨kvs, k, e, _, _⟩ | ⟨kvs, k, b, e, _, _, _⟩
  · obtain ⟨_, _, vs, _, dd⟩ := dk_rd I.hok e
    exact dd.typeIs
  · obtain ⟨_, _, xs, _, dd⟩ := dt_rd I.hok e
    exact dd.typeIs
/-- d[y] -/
inductive tDGet_I (Q : VK) (x : V) (y : V) (H2 : Hp) : Prop
  | mk : ∀ a v, x = .ref a → DGet H2 a y (some v) → Q v H2 → tDGet_I Q x y H2
def tDGet (td ty : TE) : TE := fun σ H Q => td σ H fun x H1 => ty σ H1 fun y H2 => tDGet_I Q x y H2
/-- y in d, y not in d -/
inductive tDIn_I (Q : VK) (y : V) (x : V) (H2 : Hp) : Prop
  | mk : ∀ a o, x = .ref a → DGet H2 a y o → Q (.bl o.isSome) H2 → tDIn_I Q y x H2
def tDIn (ty td : TE) : TE := fun σ H Q => ty σ H fun y H1 => td σ H1 fun x H2 => tDIn_I Q y x H2
inductive tDNotIn_I (Q : VK) (y : V) (x : V) (H2 : Hp) : Prop
  | mk : ∀ a o, x = .ref a → DGet H2 a y o → Q (.bl (!o.isSome)) H2 → tDNotIn_I Q y x H2
def tDNotIn (ty td : TE) : TE := fun σ H Q => ty σ H fun y H1 => td σ H1 fun x H2 => tDNotIn_I Q y x H2
/-- d[y] = v -/
inductive sDPut_I (D : Ends) (σ : St) (v : V) (x : V) (y : V) (H3 : Hp) : Prop
  | mk : ∀ a H4, x = .ref a → DPut H3 a y v H4 → D.nx σ H4 → sDPut_I D σ v x y H3
def sDPut (td ty tv : TE) : TS := fun D σ H => tv σ H fun v H1 => td σ H1 fun x H2 => ty σ H2 fun y H3 => sDPut_I D σ v x y H3
section
variable {X : Cx} {o i e value : Expr} {pos pos' tpos : Pos} {td ty tv : TE}
theorem pe_dget (hu : X.A.units + 1 < cLine) (ho : PE X o td) (hi : PE X i ty) (hs : NoSl i) : PE X (.Subscript o i pos) (tDGet td ty) := by
  intro pins s σ H Q I h
  refine subD_of PySem.F.slot_dict_getitem.lookup hs (thn (ho pins s σ H _ I h) fun u s1 ⟨x, H1, I1, rx, q1⟩ => thn (hi pins s1 σ H1 _ I1 q1) fun iv s2 ⟨y, H2, I2, ry, a, v, ex, g, q2⟩ => ?_)
  subst ex
  obtain rfl : u = Value.ref a := rx
  exact ⟨dict_typeIs I2 g, d_getItem hu I2 g ry fun w' s3 I3 rw' => ⟨v, H2, I3, rw', q2⟩⟩
theorem pc_din (hu : X.A.units + 1 < cLine) (hi : PE X i ty) (ho : PE X o td) : PC X .In i o (tDIn ty td) := by
  intro pins s σ H Q I h
  refine thn (hi pins s σ H _ I h) fun iv s1 ⟨y, H1, I1, ry, q1⟩ => thn (ho pins s1 σ H1 _ I1 q1) fun u s2 ⟨x, H2, I2, rx, a, ov, ex, g, q2⟩ => ?_
  subst ex
  obtain rfl : u = Value.ref a := rx
  exact d_in hu I2 g ry fun s3 I3 => ⟨.bl ov.isSome, H2, I3, rfl, q2⟩
theorem pc_dnotin (hu : X.A.units + 1 < cLine) (hi : PE X i ty) (ho : PE X o td) : PC X .NotIn i o (tDNotIn ty td) := by
  intro pins s σ H Q I h
  refine thn (hi pins s σ H _ I h) fun iv s1 ⟨y, H1, I1, ry, q1⟩ => thn (ho pins s1 σ H1 _ I1 q1) fun u s2 ⟨x, H2, I2, rx, a, ov, ex, g, q2⟩ => ?_
  subst ex
  obtain rfl : u = Value.ref a := rx
  exact d_notIn hu I2 g ry fun s3 I3 => ⟨.bl (!ov.isSome), H2, I3, rfl, q2⟩
theorem ps_dput (hu : X.A.units + 1 < cLine) (ho : PE X o td) (hi : PE X i ty) (hv : PE X value tv) (hs : swapsWith value (some (.Subscript o i pos')) pos.line X.env = pure false) :
    PS X (.Assign [.Subscript o i pos'] value pos) (sDPut td ty tv) := by
  intro pins s σ H D I h
  refine wpAny_Assign_Subscript (thn (hv pins s σ H _ I h) fun r s1 ⟨v, H1, I1, rv, q1⟩ => thn (ho pins s1 σ H1 _ I1 q1) fun u s2 ⟨x, H2, I2, rx, q2⟩ => thn (hi pins s2 σ H2 _ I2 q2) fun iv s3 ⟨y, H3, I3, ry, a, H4, ex, g, q3⟩ => ?_) hs
  subst ex
  obtain rfl : u = Value.ref a := rx
  exact d_setItem hu I3 g ry rv fun s4 I4 => ⟨σ, H4, I4, q3⟩
end
theorem dk_empty {P : Program} {w : World} {H : Hp} (h : Heap) (hb : sysModules < h.objs.size) : ObjOk P w H (h.push { cls := .type "dict", data := .dict #[] }) h.objs.size (.dK []) :=
  ⟨Nat.zero_le _, beq_eq_false_iff_ne.mpr (Ne.symm (Nat.ne_of_lt hb)), [], .nil, Heap.DictOf.new h⟩
/-- {}, to be a dict of the kind that is wanted -/
def tDNewK : TE := fun _ H Q => ∀ p, H p = none → Q (.ref p) (upd H p (.dK []))
section
variable {X : Cx} {pos : Pos}
theorem pe_dnewK : PE X (.Dict [] [] pos) tDNewK := fun pins s σ H Q I h =>
  wpAny_Dict_empty ⟨.ref s.heap.objs.size, _, I.laid (a := s.heap.objs.size) (o := .dK []) (t' := s.toks) (fun _ _ q => Heap.get?_push_of_some _ q) (Nat.le_refl _) (dk_empty s.heap I.big), rfl, h _ (I.hok.fresh (Nat.le_refl _))⟩
end
/-- the pairs of a display, from the left -/
def tPairs : List (TE × TE) → St → Hp → (List (V × V) → Hp → Prop) → Prop
  | [], _, H, Q => Q [] H
  | (tk, tv) :: r, σ, H, Q => tk σ H fun x H1 => tv σ H1 fun y H2 => tPairs r σ H2 fun ps H3 => Q ((x, y) :: ps) H3
abbrev VV : List (V × V) → List (Value × Value) → Prop := Paired fun p q => RelV p.1 q.1 ∧ RelV p.2 q.2
def PPs (X : Cx) (pos : Pos) (keys : List (Option Expr)) (values : List Expr) (trs : List (TE × TE)) : Prop :=
  ∀ (pins : List (Addr × Obj)) (s : Shared) (σ : St) (H : Hp) (Q : List (V × V) → Hp → Prop), Inv X pins σ H s → tPairs trs σ H Q →
    wpAny (model X.prog X.w) X.A (evalPairs (pairTrees keys values X.env pos)) (fun vs s' => ∃ ps H', Inv X pins σ H' s' ∧ VV ps vs ∧ Q ps H') X.xe s
theorem pps_nil {X : Cx} {pos : Pos} : PPs X pos [] [] [] := fun pins s σ H Q I h => pairTrees_nil_walk ⟨[], H, I, .nil, h⟩
theorem pps_cons {X : Cx} {pos : Pos} {k v : Expr} {ks : List (Option Expr)} {vs : List Expr} {tk tv : TE} {trs : List (TE × TE)} (hk : PE X k tk) (hv : PE X v tv) (hr : PPs X pos ks vs trs) :
    PPs X pos (some k :: ks) (v :: vs) ((tk, tv) :: trs) := fun pins s σ H Q I h =>
  pairTrees_cons_walk (thn (hk pins s σ H _ I h) fun u s1 ⟨x, H1, I1, rx, q1⟩ => thn (hv pins s1 σ H1 _ I1 q1) fun w2 s2 ⟨y, H2, I2, ry, q2⟩ =>
    thn (hr pins s2 σ H2 _ I2 q2) fun ws s3 ⟨ps, H3, I3, rel, q3⟩ => ⟨(x, y) :: ps, H3, I3, .cons ⟨rx, ry⟩ rel, q3⟩)
def mergeK (kvs more : List (Key × V)) : List (Key × V) := more.foldl (fun acc kv => putK acc kv.1 kv.2) kvs
theorem KV.merge : ∀ {more : List (Key × V)} {rs : List (Key × Value)} {kvs : List (Key × V)} {vs : List (Key × Value)}, KV more rs → KV kvs vs → KV (mergeK kvs more) (merged vs rs) := by
  intro more rs kvs vs r
  unfold KV at r
  induction r generalizing kvs vs with
  | nil => intro q; exact q
  | @cons p q ps qs h t ih =>
    intro r0
    have e : KV (putK kvs p.1 p.2) (stored vs q.1 q.2) := by
      have := r0.put p.1 h.2
      rw [← h.1]; exact this
    exact ih e
theorem length_mergeK : ∀ (more kvs : List (Key × V)), (mergeK kvs more).length ≤ kvs.length + more.length
  | [], kvs => by show kvs.length ≤ kvs.length + 0; omega
  | p :: r, kvs => by
    have h1 := length_mergeK r (putK kvs p.1 p.2)
    have h2 := length_putK kvs p.1 p.2
    show (mergeK (putK kvs p.1 p.2) r).length ≤ _
    rw [List.length_cons]; omega
theorem carries_of {P : Program} {w : World} : ∀ {kvs : List (Key × V)} {ws : List (Value × Value)}, VV (kvs.map fun kv => (kV kv.1, kv.2)) ws → ∃ rs, Carries (mixKind P w) ws rs ∧ KV kvs rs
  | [], _, r => by rw [List.map_nil] at r; cases r; exact ⟨[], True.intro, .nil⟩
  | p :: kvs, _, r => by
    rw [List.map_cons] at r
    cases r with
    | @cons a b as bs h t =>
      obtain ⟨rs, c, q⟩ := carries_of (P := P) (w := w) t
      obtain ⟨b1, b2⟩ := b
      exact ⟨(p.1, b2) :: rs, ⟨kV_is h.1, rfl, c⟩, .cons ⟨rfl, h.2⟩ q⟩
/-- {k: v, ..} with keys ints and texts; the new dict stands empty while the pairs are made -/
def tDisp (trs : List (TE × TE)) : TE := fun σ H Q => ∀ p, H p = none → tPairs trs σ (upd H p (.dK [])) fun ps H2 => H2 p = some (.dK []) ∧ ∃ kvs : List (Key × V), ps = kvs.map (fun kv => (kV kv.1, kv.2)) ∧ kvs.length ≤ 15 ∧ Q (.ref p) (upd H2 p (.dK (mergeK [] kvs)))
theorem pe_disp {X : Cx} {pos : Pos} {keys : List (Option Expr)} {values : List Expr} {trs : List (TE × TE)} (h : PPs X pos keys values trs) (hall : keys.all (·.isSome) = true) (hl : keys.length = values.length) (h0 : keys ≠ [])
    (h15 : keys.length ≤ 15) : PE X (.Dict keys values pos) (tDisp trs) := by
  intro pins s σ H Q I q
  have hn := I.hok.fresh (Nat.le_refl s.heap.objs.size)
  have I1 := I.laid (a := s.heap.objs.size) (o := .dK []) (h' := s.heap.push { cls := .type "dict", data := .dict #[] }) (t' := s.toks) (fun _ _ q => Heap.get?_push_of_some _ q) (Nat.le_refl _) (dk_empty s.heap I.big)
  refine wpAny_Dict_walk (knd := mixKind X.prog X.w) hall hl h0 h15 (thn (h pins _ σ _ _ I1 (q _ hn)) fun ws s2 ⟨ps, H2, I2, rel, e, kvs, ep, lk, q2⟩ => ?_)
  subst ep
  obtain ⟨rs, c, rk⟩ := carries_of (P := X.prog) (w := X.w) rel
  obtain ⟨z, hd, vs0, r0, dd⟩ := dk_of I2.hok e
  cases r0
  refine ⟨rs, c, dd, fun h' dd' hs => ⟨.ref s.heap.objs.size, _, ?_, rfl, q2⟩⟩
  have hz : (mergeK [] kvs).length ≤ sizeLine := by
    have h1 := length_mergeK kvs []
    rw [List.length_nil] at h1
    rw [sizeLine_eq]; omega
  have he : ∃ q, h'.get? s.heap.objs.size = some q := let ⟨q, _, _, hq, _⟩ := dd'; ⟨q, hq⟩
  exact d_write I2 (by rw [e]; exact True.intro) hs he (dk_new hz hd (rk.merge .nil) dd')
/-- a method call o.m(e) of a built-in, with one argument: what must be seen of the text -/
structure M1 (X : Cx) (o : Expr) (m : Str) (apos : Pos) (e : Expr) (cpos : Pos) : Prop where
  base : attributeBase o m X.env (eval o X.env) = eval o X.env
  few : ((backTo cpos (starEach [e] X.env)).all (fun x => !x.1) && (backToKw cpos (keywordEach [] X.env)).all (fun x => x.1.isSome)
    && decide (([e] : List Expr).length + ([] : List Keyword).length + (if ([] : List Keyword).isEmpty then 0 else 1) < 30)) = true
  line : (apos.endLine == cpos.line) = true
  trees : backTo cpos (starEach [e] X.env) = [(false, eval e X.env)]
structure M2 (X : Cx) (o : Expr) (m : Str) (apos : Pos) (e f : Expr) (cpos : Pos) : Prop where
  base : attributeBase o m X.env (eval o X.env) = eval o X.env
  few : ((backTo cpos (starEach [e, f] X.env)).all (fun x => !x.1) && (backToKw cpos (keywordEach [] X.env)).all (fun x => x.1.isSome)
    && decide (([e, f] : List Expr).length + ([] : List Keyword).length + (if ([] : List Keyword).isEmpty then 0 else 1) < 30)) = true
  line : (apos.endLine == cpos.line) = true
  trees : backTo cpos (starEach [e, f] X.env) = [(false, eval e X.env), (false, eval f X.env)]
/-- a is a dict, whatever its keys -/
def IsD (H : Hp) (a : Addr) : Prop := (∃ kvs, Rd H a (.dK kvs)) ∨ ∃ kvs, Rd H a (.dT kvs)
theorem isD_at {X : Cx} {pins : List (Addr × Obj)} {σ : St} {H : Hp} {s : Shared} {a : Addr} (I : Inv X pins σ H s) (d : IsD H a) :
    s.TypeIs (.ref a) "dict" ∧ (∀ b, Value.ref a = .ref b → ∃ ob, s.heap.get? b = some ob ∧ ob.dict = none) ∧ (a == sysModules) = false := by
  rcases d with ⟨kvs, e⟩ | ⟨kvs, e⟩
  · obtain ⟨_, hd, vs, _, dd⟩ := dk_rd I.hok e
    refine ⟨dd.typeIs, fun b q => ?_, hd⟩
    cases q
    obtain ⟨ob, _, _, h1, h2, _⟩ := dd
    exact ⟨ob, h1, h2.2.1⟩
  · obtain ⟨_, hd, xs, _, dd⟩ := dt_rd I.hok e
    refine ⟨dd.typeIs, fun b q => ?_, hd⟩
    cases q
    obtain ⟨ob, _, _, h1, h2, _⟩ := dd
    exact ⟨ob, h1, h2.2.1⟩
section
variable {X : Cx} {pins : List (Addr × Obj)} {σ : St} {H : Hp} {s : Shared} {a : Addr} {y d : V} {u r : Value} {o : Option V} {A : Around} {E : Value → Shared → Prop}
/-- d.get(y, x) -/
theorem d_get2 {Q : Value → Shared → Prop} (hu : A.units + 1 < cLine) (I : Inv X pins σ H s) (g : DGet H a y o) (ry : RelV y u) (rd : RelV d r) (h : ∀ w' s', Inv X pins σ H s' → RelV (o.getD d) w' → Q w' s') :
    wpAny (model X.prog X.w) A (call (.builtin "dict.get") [.ref a, u, r]) Q E s := by
  rcases g with ⟨kvs, k, e, ey, l⟩ | ⟨kvs, k, b, e, ey, eb, l⟩
  · subst ey
    obtain ⟨z, hd, vs, rel, dd⟩ := dk_rd I.hok e
    refine call_meetsIn PySem.F.slot_dict_get dd.typeIs PySem.F.entry_dict_get (PySem.F.args_dict_get_3 _ _ _) (meets_dict_get_default (mixKind X.prog X.w) a (kV_is ry) hd r) ⟨_, dd.mapOf, h _ _ (I.tok _) ?_⟩
    rw [l]
    exact (rel.val k).getD rd
  · subst ey
    cases (show u = Value.ref b from ry)
    obtain ⟨z, hd, xs, rel, dd⟩ := dt_rd I.hok e
    refine call_meetsIn PySem.F.slot_dict_get dd.typeIs PySem.F.entry_dict_get (PySem.F.args_dict_get_3 _ _ _) (meetsH_dict_get_default (tupleKind (mixKind X.prog X.w)) a b hd r) ⟨tupleKind_room_in1 hu, k, xs, key_of I.hok eb, dd, h _ _ (I.tok _) ?_⟩
    rw [l]
    exact (rel.val k).getD rd
end
inductive tDGet2J_I (Q : VK) (a : Addr) (y : V) (z : V) (H3 : Hp) : Prop
  | mk : ∀ o, DGet H3 a y o → Q (o.getD z) H3 → tDGet2J_I Q a y z H3
inductive tDGet2_I (ty : TE) (tx : TE) (σ : St) (Q : VK) (x : V) (H1 : Hp) : Prop
  | mk : ∀ a, x = .ref a → IsD H1 a → (ty σ H1 fun y H2 => tx σ H2 fun z H3 => tDGet2J_I Q a y z H3) → tDGet2_I ty tx σ Q x H1
def tDGet2 (td ty tx : TE) : TE := fun σ H Q => td σ H fun x H1 => tDGet2_I ty tx σ Q x H1
/-- d.pop(k): there; d.pop(k, x): there or not -/
inductive tDPop1J_I (Q : VK) (a : Addr) (y : V) (H2 : Hp) : Prop
  | mk : ∀ kvs k v, H2 a = some (.dK kvs) → y = kV k → valV kvs k = some v → Q v (upd H2 a (.dK (dropK kvs k))) → tDPop1J_I Q a y H2
inductive tDPop1_I (ty : TE) (σ : St) (Q : VK) (x : V) (H1 : Hp) : Prop
  | mk : ∀ a, x = .ref a → IsD H1 a → (ty σ H1 fun y H2 => tDPop1J_I Q a y H2) → tDPop1_I ty σ Q x H1
def tDPop1 (td ty : TE) : TE := fun σ H Q => td σ H fun x H1 => tDPop1_I ty σ Q x H1
section
variable {X : Cx} {o e f : Expr} {apos cpos : Pos} {td ty tx : TE}
theorem pe_dget2 (hu : X.A.units + 1 < cLine) (ho : PE X o td) (he : PE X e ty) (hf : PE X f tx) (m : M2 X o "get" apos e f cpos) : PE X (.Call (.Attribute o "get" apos) [e, f] [] cpos) (tDGet2 td ty tx) := by
  intro pins s σ H Q I h
  refine wpAny_Call_method m.base m.few m.line PySem.F.plainAttrs_dict PySem.F.slot_dict_get PySem.F.type_dict_get (thn (ho pins s σ H _ I h) fun u s1 ⟨x, H1, I1, rx, a, ex, d, q1⟩ => ?_)
  subst ex
  obtain rfl : u = Value.ref a := rx
  obtain ⟨t1, t2, _⟩ := isD_at I1 d
  refine ⟨t1, t2, ?_⟩
  rw [m.trees]
  refine Calls.callWith_builtin rfl (Calls.evalArgs_plain (Calls.spliced_cons (thn (he pins s1 σ H1 _ I1 q1) fun iv s2 ⟨y, H2, I2, ry, q2⟩ =>
    Calls.spliced_cons (thn (hf pins s2 σ H2 _ I2 q2) fun fv s3 ⟨z, H3, I3, rz, ov, g, q3⟩ => Calls.spliced_nil ?_))))
  exact d_get2 hu I3 g ry rz fun w' s4 I4 rw' => ⟨_, H3, I4, rw', q3⟩
theorem pe_dpop1 (ho : PE X o td) (he : PE X e ty) (m : M1 X o "pop" apos e cpos) : PE X (.Call (.Attribute o "pop" apos) [e] [] cpos) (tDPop1 td ty) := by
  intro pins s σ H Q I h
  refine wpAny_Call_method m.base m.few m.line PySem.F.plainAttrs_dict PySem.F.slot_dict_pop PySem.F.type_dict_pop (thn (ho pins s σ H _ I h) fun u s1 ⟨x, H1, I1, rx, a, ex, d, q1⟩ => ?_)
  subst ex
  obtain rfl : u = Value.ref a := rx
  obtain ⟨t1, t2, _⟩ := isD_at I1 d
  refine ⟨t1, t2, ?_⟩
  rw [m.trees]
  refine Calls.callWith_builtin rfl (Calls.evalArgs_plain (Calls.spliced_cons (thn (he pins s1 σ H1 _ I1 q1) fun iv s2 ⟨y, H2, I2, ry, kvs, k, v, ea, ey, l, q2⟩ => Calls.spliced_nil ?_)))
  subst ey
  exact d_pop I2 ea ry l (.inl rfl) fun w' s3 I3 rw' => ⟨v, _, I3, rw', q2⟩
end
section
variable {X : Cx} {pins : List (Addr × Obj)} {σ : St} {H : Hp} {s : Shared} {a : Addr} {kvs : List (Key × V)} {A : Around} {E : Value → Shared → Prop}
end
section
variable {X : Cx} {pins : List (Addr × Obj)} {σ : St} {H : Hp} {s : Shared} {a : Addr} {y : V} {u : Value} {A : Around} {E : Value → Shared → Prop}
end
end L2
namespace Att
open PySem PySem.W PySem.Calls PyProof.Rows
theorem ints_of_wellAll {P : Params} {h : Heap} : ∀ (ns : List Int) (vs : List Value), WellAll P h vs (ns.map WData.int) → IntsAre vs ns := by
  intro ns
  induction ns with
  | nil =>
    intro vs w
    rw [List.map_nil] at w
    cases w
    exact .nil
  | cons n ns ih =>
    intro vs w
    rw [List.map_cons] at w
    cases w with
    | cons a b =>
      cases a
      exact .cons _ _ (ih _ b)
theorem script_of {l : OpenLaw} {n : Nat} (hn : l.most = some n) {P : Params} {h : Heap} {args : List WData} {vals : List Value}
    (hpre : l.row.toRowW.claim.pre args = true) (hwl : WellAll P h vals args) :
    ∃ a vs ns, vals = [Value.ref a] ∧ args = [WData.list (ns.map WData.int)] ∧ h.get? a = some { cls := .type "list", data := .seq vs.toArray } ∧ IntsAre vs ns ∧ ns.length ≤ n := by
  have hsh : WShape.hasAll [] args [.list .int] = true := (pre_splitW hpre).1
  have hc : l.pre.holds [] { args := args } = true := (pre_splitW hpre).2
  obtain ⟨d, r, rfl, h1, h2⟩ := hasAllW_cons hsh
  obtain rfl := hasAllW_nil h2
  obtain ⟨xs, rfl, h3⟩ := hasW_list h1
  obtain ⟨ns, rfl⟩ := items_int h3
  have hlen : ns.length ≤ n := by
    unfold OpenLaw.pre at hc
    have h4 : (WTm.not (.lt (.lit (.int (n : Int))) (.len (.arg 0)))).holds [] { args := [.list (ns.map .int)] } = true := by
      have h4 := (holds_andW hc).1
      rw [hn] at h4
      exact h4
    have h5 := condW_of h4 (w_not (w_lt w_lit (w_len_list (w_arg rfl))))
    rw [List.length_map] at h5
    refine Nat.le_of_not_lt fun q => ?_
    have q' : (n : Int) < ((ns.length : Nat) : Int) := by omega
    first
      | (rw [decide_eq_true q'] at h5; exact absurd h5 (by decide))
      | (simp at h5; omega)
  cases hwl with
  | cons w1 w2 =>
    cases w2
    cases w1 with
    | list ho hall => exact ⟨_, _, ns, rfl, rfl, ho, ints_of_wellAll ns _ hall, hlen⟩
theorem post_true (l : OpenLaw) (args : List WData) : l.row.toRowW.claim.post args (.bool true) args = true :=
  postW_of (r := l.row.toRowW) (X := (true == true))
    (show WShape.has [] (.bool true) .bool = true by first | rfl | decide | simp [WShape.has, WShape.arms, WShape.armsAll])
    (show (WTm.eq .res (.lit (.bool true))).value [] { args := args, res := some (.bool true), after := args } = some (.bool (true == true)) from w_eq_bool (w_res rfl) w_lit) rfl
/-- the same from a codeAny of the CALL (for a layer whose function contracts speak of calls) -/
theorem attach_call {l : OpenLaw} {n : Nat} {q : Program} {loose : List Str} {XP : (Str → Option Value) → Heap → Prop} {YP : World → Heap → Prop} {d : DefRec}
    (hn : l.most = some n) (hdf : d.params.defaults = [])
    (call : ∀ (w : World) (s₀ s₁ : Shared) (mg mb : Str → Option Value) (fa : Addr) (o : Obj) (pm cd doc : Value) (a : Addr) (vs : List Value) (ns : List Int),
      Ground q loose [] XP w s₀ mg mb s₁.heap → YP w s₁.heap →
      s₁.heap.get? fa = some o → o.data = .func (docDef d.name d.params d.body d.scope pm cd doc) → s₁.heap.CodeRec cd d.name → mg d.name = some (.ref fa) →
      s₁.heap.get? a = some { cls := .type "list", data := .seq vs.toArray } → IntsAre vs ns → ns.length ≤ n → s₁.gens = #[] →
      codeAny (model l.prog w) callerA (.call (.ref fa) ⟨[.ref a], []⟩) (fun r s' => r = .ok (.ret (.bool true)) ∧ OldK s₁.heap s'.heap ∧ s'.os = s₁.os ∧ AllBare s'.gens) s₁) :
    WalkO q loose XP YP l.row.toRowW d [] (fun f vs => PySem.call f vs) := by
  intro w s₀ s₁ mg mb G Y fa o pm cd doc dV kV ho hd hcd hD hmg hg args vals as hpre hlay hrd hwl hlo
  obtain rfl : dV = .none := Dflts.none hD hdf
  obtain rfl : kV = .none := Dflts.noKw hD
  obtain ⟨a, vs, ns, rfl, rfl, hobj, hints, hlen⟩ := script_of hn hpre hwl
  refine enter_call (codeAny_mono (call w s₀ s₁ mg mb fa o pm cd doc a vs ns G Y ho (fd_plain hd) hcd hmg hobj hints hlen hg) fun r s' hq => ?_)
  obtain ⟨rfl, h2, h3, h4⟩ := hq
  exact ⟨.inl ⟨.bool true, .bool true, [], rfl, fun _ => rfl, .bool true, post_true l _, fun _ => ⟨List.Pairwise.nil, fun _ hm => (nomatch hm)⟩⟩, h2, h3, h4⟩
section
variable {prog : Program} {w : World} {A : Around} {E : Value → Shared → Prop} {s : Shared} {K : Frag}
end
end Att
namespace L2
open PySem PySem.Spec PyProof.Rows
theorem vals_ints : ∀ {vs : List Value} {ns : List Int}, IntsAre vs ns → Vals (ns.map V.int) vs
  | _, _, .nil => .nil
  | _, _, .cons n t h => .cons ⟨t, rfl⟩ (vals_ints h)
/-- nothing is tracked but the script, known to the object (or it is an object of the module) -/
def Only (H : Hp) : Prop := ∀ b, H b = none ∨ ∃ o xs, H b = some (.frz o (.lst xs))
/-- THE HEAD: the law's promise, at the heap behind the top. F, the promise of the law's def, may use that base is part of the heap (so K.In base, base.Ns mainGlobals mg stand in Mod) -/
theorem law_call {P : Program} {w : World} {K : PySem.W.Frag} {mg mb : Str → Option Value} {CX : CXT} {k : Nat} {fa a : Addr} {fd : FuncData} {x : Str} {sp : Sp} {s₁ : Shared} {vs : List Value} {ns : List Int}
    (KX : K.In s₁.heap) (hns : s₁.heap.Ns mainGlobals mg) (hb : s₁.heap.Ns builtinsNs mb) (hbb : ∀ x : Str, x ≠ "__name__" → mb x = bootBuiltins x) (hlim : s₁.heap.NoLimit) (hg : s₁.gens = #[])
    (ha : s₁.heap.get? a = some { cls := .type "list", data := .seq vs.toArray }) (hi : IntsAre vs ns) (hl : ns.length ≤ sizeLine) (hr : Room k callerA)
    (F : ∀ base : Heap, K.In base → base.Ns mainGlobals mg → FnOk P w K mg base CX k fa fd [x] sp) (hbind : ∀ (s : Shared) (u : Value), BindsTo s fd ⟨[u], []⟩ [(x, u)])
    (hsp : ∀ H : Hp, Only H → SqL K H a (ns.map V.int) → sp [.ref a] H (fun v _ => v = .bl true) fun _ _ _ => False)
    (hCX : ∀ H e s', CX [] H s₁ (fun _ _ _ => False) e s' → False) :
    codeAny (model P w) callerA (.call (.ref fa) ⟨[.ref a], []⟩) (fun r s' => r = .ok (.ret (.bool true)) ∧ OldK s₁.heap s'.heap ∧ s'.os = s₁.os ∧ AllBare s'.gens) s₁ := by
  have rv := vals_ints hi
  have lenV := hi.length
  -- from an abstract heap in which nothing but the script may be tracked
  have core : ∀ H : Hp, Only H → SqL K H a (ns.map V.int) → HOk P w H s₁.heap → (∀ b, H b ≠ none → b = a) → (H a ≠ none → K.lookup a = none) →
      codeAny (model P w) callerA (.call (.ref fa) ⟨[.ref a], []⟩) (fun r s' => r = .ok (.ret (.bool true)) ∧ OldK s₁.heap s'.heap ∧ s'.os = s₁.os ∧ AllBare s'.gens) s₁ := by
    intro H hO hS hok hA hK
    have base_of : ∀ {b : Addr} {o : Obj}, s₁.heap.get? b = some o → H b = none → (hidT s₁.heap H).get? b = some o := fun e n => hidT_get e n
    have noA : ∀ {b : Addr} {o : Obj} {es : Array DictEntry} {ep : Nat}, s₁.heap.get? b = some o → o.data = .dict es ep → H b = none := fun {b o es ep} e d => by
      cases q : H b with
      | none => rfl
      | some u =>
        have e' : b = a := hA b (by rw [q]; simp)
        subst e'
        rw [ha] at e; cases e
        have d' : Data.seq vs.toArray _ = Data.dict es ep := d
        cases d'
    have nsK : ∀ {b : Addr} {m : Str → Option Value}, s₁.heap.Ns b m → (hidT s₁.heap H).Ns b m := fun {b m} ⟨o, es, ep, e, d, r⟩ => ⟨o, es, ep, base_of e (noA e d), d, r⟩
    have hKb : K.In (hidT s₁.heap H) := fun b o e => base_of (KX b o e) (by
      cases q : H b with
      | none => rfl
      | some u =>
        have e' : b = a := hA b (by rw [q]; simp)
        subst e'
        rw [hK (by rw [q]; simp)] at e; cases e)
    have hM : Mod K mg (hidT s₁.heap H) := ⟨hKb, nsK hns, ⟨mb, nsK hb, hbb⟩, let ⟨mc, h1, h2⟩ := hlim; ⟨mc, nsK h1, h2⟩⟩
    have e0 : Env0 P w K mg (hidT s₁.heap H) callerA [] s₁ H := ⟨rfl, hM, fun b o e => of_hidT e, Nat.le_of_eq (hidT_size _ _), trivial, fun b hb => absurd (show b ∈ ([] : List Addr) from hb) (by simp), hok, .of_eq hg⟩
    refine codeAny_mono ((F _ hKb (nsK hns)).run callerA [] s₁ H ⟨[.ref a], []⟩ [.ref a] [.ref a] _ _ hr e0 (hbind s₁ (.ref a)) (.cons rfl .nil) (hsp H hO hS)) fun r s' h => ?_
    cases r with
    | error e => exact (hCX H e s' h).elim
    | ok fl =>
      cases fl with
      | next => exact False.elim h
      | brk => exact False.elim h
      | cont => exact False.elim h
      | ret u =>
        obtain ⟨v, H', os, bare, un, hok', r', q⟩ := h
        have q' : v = .bl true := q
        subst q'
        obtain rfl : u = Value.bool true := r'
        refine ⟨rfl, OldK.of_keep fun b o e => ?_, os, bare⟩
        cases q : H b with
        | none => exact un.keep b o e q (by intro z; exact absurd (show b ∈ ([] : List Addr) from z) (by simp)) (by simp)
        | some u =>
          rcases hO b with z | ⟨ob, xs, z⟩
          · rw [q] at z; cases z
          · have z2 := un.frzs b ob _ z
            obtain ⟨e1, _⟩ := hok b _ z
            obtain ⟨e2, _⟩ := hok' b _ z2
            rw [e] at e1; cases e1
            exact e2
  cases hk : K.lookup a with
  | some o =>
    -- the script is one of the module's own objects
    have e := KX a o hk
    rw [ha] at e
    cases e
    refine core (fun _ => none) (fun _ => .inl rfl) (.inr ⟨_, vs.toArray, _, hk, rfl, rfl, rfl, by rw [List.size_toArray, lenV]; exact hl, by simpa using rv⟩) (fun b u z => by have z' : (none : Option HO) = some u := z; cases z') (fun b z => absurd rfl z) fun z => absurd rfl z
  | none =>
    refine core (fun b => if b = a then some (.frz { cls := .type "list", data := .seq vs.toArray } (.lst (ns.map V.int))) else none) (fun b => ?_) (.inl (.inr ⟨{ cls := .type "list", data := .seq vs.toArray }, if_pos rfl⟩)) (fun b u z => ?_) (fun b z => ?_) fun _ => hk
    · by_cases hb : b = a
      · exact .inr ⟨_, _, if_pos hb⟩
      · exact .inl (if_neg hb)
    · by_cases hb : b = a
      · have z' := (if_pos hb).symm.trans z
        cases z'
        subst hb
        exact ⟨ha, by rw [List.length_map]; exact hl, vs, _, rv, ha⟩
      · have z' := (if_neg hb).symm.trans z
        cases z'
    · by_cases hb : b = a
      · exact hb
      · exact absurd (if_neg hb) z
end L2
namespace L2
open PySem PySem.Spec PyProof.Rows
/-- the goal that k_head leaves (case hc), from the law's promise. F gives the function object fd (K's own) once, then the promise over every base -/
theorem walk_of {l : PySem.W.OpenLaw} {n k : Nat} {q : Program} {loose : List Str} {XP : (Str → Option Value) → Heap → Prop} {YP : World → Heap → Prop} {d : DefRec} {K : Params → PySem.W.Frag} {CX : World → CXT} {sp : World → Sp} {x : Str}
    (hn : l.most = some n) (hn2 : n ≤ sizeLine) (hdf : d.params.defaults = []) (hr : Room k callerA)
    (hY : ∀ (w : World) (h : Heap), YP w h → (K w.params).In h)
    (F : ∀ (w : World) (mg : Str → Option Value) (fa : Addr) (h : Heap), (K w.params).In h → h.Ns mainGlobals mg → mg d.name = some (.ref fa) →
      ∃ fd : FuncData, (∀ (s : Shared) (u : Value), BindsTo s fd ⟨[u], []⟩ [(x, u)]) ∧
        ∀ base : Heap, (K w.params).In base → base.Ns mainGlobals mg → FnOk l.prog w (K w.params) mg base (CX w) k fa fd [x] (sp w))
    (hsp : ∀ (w : World) (H : Hp) (a : Addr) (ns : List Int), ns.length ≤ n → Only H → SqL (K w.params) H a (ns.map V.int) → sp w [.ref a] H (fun v _ => v = .bl true) fun _ _ _ => False)
    (hCX : ∀ (w : World) (H : Hp) (s : Shared) (e : Value) (s' : Shared), CX w [] H s (fun _ _ _ => False) e s' → False) :
    PySem.W.WalkO q loose XP YP l.row.toRowW d [] (fun f vs => PySem.call f vs) := by
  refine Att.attach_call hn hdf fun w s₀ s₁ mg mb fa o pm cd doc a vs ns G Y ho hd hcd hmg hobj hints hlen hg => ?_
  have KX := hY w _ Y
  obtain ⟨fd, hb, hF⟩ := F w mg fa _ KX G.T.g hmg
  exact law_call KX G.T.g G.T.b G.T.builtins G.T.nolimit hg hobj hints (Nat.le_trans hlen hn2) hr hF hb (fun H hO hS => hsp w H a ns hlen hO hS) fun H e s' => hCX w H s₁ e s'
end L2
namespace L2
open PySem PySem.Spec PyProof.Rows
/-- the j-th statement of a class's body -/
def inClass (s : Stmt) (j : Nat) : Stmt := match s with
  | .ClassDef _ _ _ body _ _ _ _ _ _ _ => body.getD j (.Pass ⟨0, 0, 0, 0⟩)
  | _ => .Pass ⟨0, 0, 0, 0⟩
def defArgs (s : Stmt) : Arguments := match s with
  | .FunctionDef _ a _ _ _ _ _ _ _ _ => a
  | _ => { posonlyargs := [], args := [], vararg := none, kwonlyargs := [], kw_defaults := [], kwarg := none, defaults := [] }
def defBody (s : Stmt) : List Stmt := match s with
  | .FunctionDef _ _ b _ _ _ _ _ _ _ => b
  | _ => []
def defScope (s : Stmt) : Scope := match s with
  | .FunctionDef _ _ _ _ _ _ sc _ _ _ => sc
  | _ => { kind := .function, names := [], isGenerator := false, isCoroutine := false }
abbrev CX0 : CXT := fun _ _ _ _ _ _ => False
abbrev E0 : XK := fun _ _ _ => False
theorem pass0 {X : Cx} : Passes CX0 X E0 := fun _ _ _ _ _ _ _ h => h.elim
structure Fun (K : PySem.W.Frag) (x qual : Str) (st : Stmt) (f : Addr) (fd : FuncData) : Prop where
  ex : ∃ (oc : Value) (od : Option Addr) (kV doc pm : Value) (an : Option Addr) (cdv ct : Value) (osl : Array (Option Value)),
    fd = PySem.W.fnOf x qual (defArgs st) (defBody st) (defScope st) .none kV doc pm an cdv ct ∧ K.lookup f = some ⟨oc, od, .func fd, osl⟩ ∧ PySem.W.codeIn K cdv qual = true
  kp : PySem.W.keepIn K (.ref f) = true
section
variable {P : Program} {w : World} {K : PySem.W.Frag} {mg : Str → Option Value} {base : Heap}
/-- THE RULE for a def: its body as a term of rules, and the reading of that term -/
theorem Fun.ok {x qual : Str} {st : Stmt} {f : Addr} {fd : FuncData} {N ps : List Str} {k : Nat} {sp : Sp} (F : Fun K x qual st f fd) (S : FnScope N ps (defScope st)) (len : ∀ vs H Q E, sp vs H Q E → vs.length = ps.length)
    (hbody : ∀ (cdv : Value) (A : Around) (outer : List Env) (s : Shared) (H : Hp) (vs : List V) (Q : VK) (E : XK), Room k (A.deeper (envOfC qual (defScope st) s.heap.objs.size f cdv)) → sp vs H Q E →
      ∃ t, PSs (cxOf CX0 P w K mg base N qual (defScope st) f cdv A outer s H E).nox (defBody st) t ∧ t { nx := fun _ H' => Q .non H', rt := Q } (start N vs) H) : FnOk P w K mg base CX0 (k + 1) f fd ps sp := by
  obtain ⟨oc, od, kV, doc, pm, an, cdv, ct, osl, rfl, lk, hcd⟩ := F.ex
  refine fn_of lk hcd S len fun A outer s H vs Q E hr hsp => ?_
  obtain ⟨t, h, q⟩ := hbody cdv A outer s H vs Q E hr hsp
  exact ⟨t, h.nox, q⟩
/-- how its arguments bind (no defaults): h is «fun _ _ _ _ _ _ us hl => match us, hl with | [_, _], _ => rfl», one _ a parameter -/
theorem Fun.binds {x qual : Str} {st : Stmt} {f : Addr} {fd : FuncData} {ps : List Str} (F : Fun K x qual st f fd)
    (h : ∀ (kV doc pm : Value) (an : Option Addr) (cdv ct : Value) (us : List Value), us.length = ps.length → bindArgs (PySem.W.fnOf x qual (defArgs st) (defBody st) (defScope st) .none kV doc pm an cdv ct) ⟨us, []⟩ = pure (ps.zip us)) : Binds K fd ps [] := by
  obtain ⟨oc, od, kV, doc, pm, an, cdv, ct, osl, rfl, lk, hcd⟩ := F.ex
  exact .all (h kV doc pm an cdv ct)
theorem fun_mk {x qual : Str} {st : Stmt} {f : Addr} {oc : Value} {od an : Option Addr} {osl : Array (Option Value)} {kV doc pm cdv ct : Value} (l : K.lookup f = some ⟨oc, od, .func (PySem.W.fnOf x qual (defArgs st) (defBody st) (defScope st) .none kV doc pm an cdv ct), osl⟩)
    (c : PySem.W.codeIn K cdv qual = true) (k : PySem.W.keepIn K (.ref f) = true) : Fun K x qual st f (PySem.W.fnOf x qual (defArgs st) (defBody st) (defScope st) .none kV doc pm an cdv ct) := ⟨⟨oc, od, kV, doc, pm, an, cdv, ct, osl, rfl, l, c⟩, k⟩
end
theorem hu_of {A : Around} {k : Nat} (hr : Room k A) : A.units + 1 < cLine := Nat.lt_of_le_of_lt (Nat.add_le_add_left (by decide : 1 ≤ 64) _) hr.units
theorem small1000 {n : Nat} (h : n ≤ 1000) : n < sizeLine := Nat.lt_of_le_of_lt h (by decide)
section
variable {X : Cx}
theorem pv (i : Nat) {x : Str} {pos : Pos} (hN : X.N[i]? = some x := by rfl) (hv : Vis X.env.scope x := by first | exact Or.inl rfl | exact Or.inr (Or.inl rfl) | exact Or.inr (Or.inr rfl)) (hd : (x == ("__debug__" : Str)) = false := by decide)
    (hcd : (x == ("__classdict__" : Str)) = false := by decide) : PE X (.Name x pos) (tVar i) := pe_var hN hv hd hcd
end
theorem iteF {A B : Prop} (h : B) : if false = true then A else B := by
  rw [if_neg Bool.false_ne_true]
  exact h
theorem iteT {A B : Prop} (h : A) : if true = true then A else B := by
  rw [if_pos rfl]
  exact h
theorem ite2 {c A B : Prop} [Decidable c] (h1 : c → A) (h2 : ¬ c → B) : if c then A else B := by
  by_cases h : c
  · rw [if_pos h]
    exact h1 h
  · rw [if_neg h]
    exact h2 h
/-- all that was tracked is as it was -/
def Same (H H' : Hp) : Prop := ∀ b o, H b = some o → H' b = some o
theorem Same.refl (H : Hp) : Same H H := fun _ _ h => h
theorem Same.trans {H H1 H2 : Hp} (a : Same H H1) (b : Same H1 H2) : Same H H2 := fun c o h => b c o (a c o h)
theorem Same.free {H H' : Hp} (e : Same H H') {l : Addr} (h : H' l = Option.none) : H l = Option.none := by
  cases q : H l with
  | none => rfl
  | some o =>
    rw [e l o q] at h
    cases h
theorem Same.seq {K : PySem.W.Frag} {H H' : Hp} {a : Addr} {xs : List V} (e : Same H H') (h : SqL K H a xs) : SqL K H' a xs := by
  rcases h with (h | ⟨o, h⟩) | h
  · exact .inl (.inl (e _ _ h))
  · exact .inl (.inr ⟨o, e _ _ h⟩)
  · exact .inr h
end L2
namespace L2
open PySem PySem.Spec PyProof.Rows
section
variable {X : Cx}
/-- len of a dict -/
theorem call_lenD : CallR X (.builtin "len") (fun xs H Q => ∃ a kvs, xs = [V.ref a] ∧ H a = some (.dK kvs) ∧ Q (.int kvs.length) H) := by
  intro pins s σ H xs us Q I r h
  obtain ⟨a, kvs, rfl, ha, q⟩ := h
  obtain ⟨u, rfl, ru⟩ := vals1 r
  cases ru
  exact d_len I (.inl ha) fun t s' I' => ⟨.int kvs.length, H, I', ⟨t, rfl⟩, q⟩
end
section
variable {κ : Type} [DecidableEq κ]
theorem dropK_pos {p : κ × V} {r : List (κ × V)} {k : κ} (e : p.1 = k) : dropK (p :: r) k = dropK r k := by
  unfold dropK
  rw [List.filter_cons, if_neg (by simp [e])]
theorem dropK_neg {p : κ × V} {r : List (κ × V)} {k : κ} (e : ¬ p.1 = k) : dropK (p :: r) k = p :: dropK r k := by
  unfold dropK
  rw [List.filter_cons, if_pos (by simp [e])]
end
end L2
set_option Elab.async false
set_option linter.all false
set_option maxRecDepth 100000
set_option maxHeartbeats 4000000
namespace L2
open PySem PySem.Spec PyProof.Rows
/-- the cells that a comprehension takes from around it -/
def closOf (cells : List (Str × Addr)) : List (Str × NameKind) → List (Str × Addr) → List (Str × Addr)
  | [], cs => cs
  | (n, k) :: r, cs => closOf cells r (if k == .free then (match cells.lookup n with | some c => (n, c) :: cs | none => cs) else cs)
theorem closureFor_of {scope : Scope} {env : Env} (h : ∀ y ∈ scope.names, y.2 = .free → ∃ c, env.cells.lookup y.1 = some c) : closureFor scope env = pure (closOf env.cells scope.names []) := by
  unfold closureFor
  generalize ([] : List (Str × Addr)) = cs
  revert cs
  generalize scope.names = names at h
  induction names with
  | nil => intro cs; rfl
  | cons p r ih =>
    obtain ⟨n, k⟩ := p
    intro cs
    have ih' := ih fun y hy => h y (List.mem_cons_of_mem _ hy)
    by_cases hk : k = .free
    · subst hk
      obtain ⟨c, hc⟩ := h (n, .free) List.mem_cons_self rfl
      have e : cellOf env n = pure c := by unfold cellOf; rw [hc] <;> rfl
      dsimp only at hc ⊢
      rw [List.forIn_cons]
      simp only [beq_self_eq_true, if_true, closOf, hc]
      rw [e]
      exact ih' _
    · have hb : (k == NameKind.free) = false := by simpa using hk
      dsimp only
      rw [List.forIn_cons]
      simp only [hb, Bool.false_eq_true, if_false, closOf]
      exact ih' _
theorem closOf_sub {cells : List (Str × Addr)} : ∀ (names : List (Str × NameKind)) (cs : List (Str × Addr)) {y : Str} {c : Addr}, (closOf cells names cs).lookup y = some c → cells.lookup y = some c ∨ cs.lookup y = some c
  | [], cs, y, c, h => .inr h
  | (n, k) :: r, cs, y, c, h => by
    rcases closOf_sub r _ (show (closOf cells r _).lookup y = some c from h) with h1 | h1
    · exact .inl h1
    · split at h1
      · split at h1
        · rename_i c' hc'
          rw [List.lookup_cons] at h1
          split at h1
          · rename_i e
            cases h1
            exact .inl (by rw [eq_of_beq e]; exact hc')
          · exact .inr h1
        · exact .inr h1
      · exact .inr h1
theorem closOf_keep {cells : List (Str × Addr)} : ∀ (names : List (Str × NameKind)) (cs : List (Str × Addr)) {y : Str}, (∃ c, cs.lookup y = some c) → ∃ c, (closOf cells names cs).lookup y = some c
  | [], cs, y, h => h
  | (n, k) :: r, cs, y, h => by
    refine closOf_keep r _ ?_
    split
    · split
      · rw [List.lookup_cons]
        split
        · exact ⟨_, rfl⟩
        · exact h
      · exact h
    · exact h
theorem closOf_has {cells : List (Str × Addr)} : ∀ (names : List (Str × NameKind)) (cs : List (Str × Addr)) {y : Str}, (y, NameKind.free) ∈ names → (∃ c, cells.lookup y = some c) → ∃ c, (closOf cells names cs).lookup y = some c
  | (n, k) :: r, cs, y, hy, hc => by
    rcases List.mem_cons.mp hy with e | hy
    · cases e
      refine closOf_keep r _ ?_
      obtain ⟨c, hc⟩ := hc
      simp only [beq_self_eq_true, if_true, hc]
      exact ⟨c, by simp [List.lookup_cons]⟩
    · exact closOf_has r _ hy hc
def relF (env : Env) (p : Str × NameKind) : Str × NameKind := if (p.2 == NameKind.free && env.scope.kind == .function && env.kindOf p.1 == some .cell) = true then (p.1, NameKind.cell) else (p.1, p.2)
theorem relF_free {env : Env} : ∀ {names : List (Str × NameKind)} {x : Str}, names.lookup x = some .free → (names.map (relF env)).lookup x = some .cell ∨ (names.map (relF env)).lookup x = some .free
  | [], _, h => by simp at h
  | (n, k) :: r, x, h => by
    have ih := @relF_free env r x
    rw [List.map_cons]
    unfold relF
    cases hx : x == n with
    | true =>
      rw [List.lookup_cons, hx] at h
      cases h
      by_cases hc : (NameKind.free == NameKind.free && env.scope.kind == .function && env.kindOf n == some .cell) = true
      · left; rw [if_pos hc, List.lookup_cons, hx]
      · right; rw [if_neg hc, List.lookup_cons, hx]
    | false =>
      rw [List.lookup_cons, hx] at h
      by_cases hc : (k == NameKind.free && env.scope.kind == .function && env.kindOf n == some .cell) = true
      · rw [if_pos hc, List.lookup_cons, hx]; exact ih h
      · rw [if_neg hc, List.lookup_cons, hx]; exact ih h
theorem lookup_relabel_free {scope : Scope} {env : Env} {x : Str} (h : scope.names.lookup x = some .free) : (relabel scope env).names.lookup x = some .cell ∨ (relabel scope env).names.lookup x = some .free :=
  relF_free (env := env) h
theorem relabel_kind {scope : Scope} {env : Env} (nc : ∀ y ∈ scope.names, y.2 ≠ .cell) {y : Str} (h : (relabel scope env).names.lookup y = some .cell ∨ (relabel scope env).names.lookup y = some .free) : (y, NameKind.free) ∈ scope.names := by
  have key : ∀ k, (relabel scope env).names.lookup y = some k → k = .cell ∨ k = .free → (y, NameKind.free) ∈ scope.names := fun k e hk => by
    have m := PySem.mem_of_lookup e
    obtain ⟨⟨n, k'⟩, hm, q⟩ := List.mem_map.mp m
    dsimp only at q
    split at q
    · rename_i c
      have c1 : (k' == NameKind.free) = true := by
        simp only [Bool.and_eq_true] at c
        exact c.1.1
      have c2 : k' = .free := eq_of_beq c1
      cases q
      rw [c2] at hm
      exact hm
    · cases q
      rcases hk with z | z
      · exact absurd z (nc _ hm)
      · rw [z] at hm; exact hm
  rcases h with h | h
  · exact key _ h (.inl rfl)
  · exact key _ h (.inr rfl)
/-- what of a comprehension's scope is asked: sc the scope around it, N the names around it, x its own name, fr the slots and names that it takes from around -/
structure CompScope (sc scope : Scope) (N : List Str) (x : Str) (fr : List (Nat × Str)) : Prop where
  kind : scope.kind = .function
  loc : scope.names.lookup x = some .local
  names : ∀ y ∈ scope.names, y.2 = .local → scope.names.lookup y.1 = some .local
  nocell : ∀ y ∈ scope.names, y.2 ≠ .cell
  free : ∀ y ∈ scope.names, y.2 = .free → sc.names.lookup y.1 = some .cell ∨ sc.names.lookup y.1 = some .free
  frk : ∀ p ∈ fr, N[p.1]? = some p.2 ∧ scope.names.lookup p.2 = some .free
  nd : (x :: fr.map (·.2)).Nodup
/-- the context of a comprehension's block -/
def cxComp (X : Cx) (scope : Scope) (C : Addr) (N : List Str) (s : Shared) (H : Hp) (fp : List Addr) : Cx where
  prog := X.prog
  w := X.w
  K := X.K
  mg := X.mg
  base := X.base
  A := X.A
  N := N
  s₀ := s
  H₀ := H
  env := compEnvC scope (closOf X.env.cells scope.names []) C X.env
  outer := X.stack
  stack := X.stack
  ex := fp
  fn := fun _ => false
  calm := X.calm
  pn := []
  xe := fun _ _ => False
def frV (σ : St) (fr : List (Nat × Str)) : St := fr.map fun p => (σ[p.1]?).join
/-- the tests of a comprehension -/
def PTs (X : Cx) (ifs : List Expr) (t : TT) : Prop :=
  ∀ (pins : List (Addr × Obj)) (s : Shared) (σ : St) (H : Hp) (Q : Bool → Hp → Prop), Inv X pins σ H s → t σ H Q →
    wpAny (model X.prog X.w) X.A (forIn ifs true fun c r => if r = true then do let ok ← isTrue c X.env (eval c X.env); pure (ForInStep.yield ok) else pure (ForInStep.yield r)) (TP X pins σ Q) X.xe s
def tTrue : TT := fun _ H Q => Q true H
theorem tTrue_go {σ : St} {H : Hp} {Q : Bool → Hp → Prop} (h : Q true H) : tTrue σ H Q := h
theorem pts_nil {X : Cx} : PTs X [] tTrue := fun _ _ _ H _ I h => wpAny_tests_nil ⟨H, I, h⟩
theorem pts_one {X : Cx} {c : Expr} {t : TT} (hc : PT X c t) : PTs X [c] t := fun pins s σ H Q I h => wpAny_tests_one (hc pins s σ H Q I h)
/-- [elt for x in iter if ..]: the list D grows by the turn; W its invariant with a measure -/
def compGoal (J : It) (fr : List (Nat × Str)) (tt : TT) (te : TE) (σ : St) (H1 : Hp) (Q : VK) : Prop := ∀ D, H1 D = none →
  ∃ W : Nat → Nat → List V → Hp → Prop, (∃ m, W 0 m [] (upd H1 D (.lst []))) ∧ ∀ i m ys H2, W i m ys H2 → H2 D = some (.lst ys) ∧
    ((J.stop i H2 ∧ Q (.ref D) H2) ∨ (J.go i H2 ∧ ∀ v H3, J.yld i H2 v H3 → tt (some v :: frV σ fr) H3 fun b H4 =>
      if b = true then te (some v :: frV σ fr) H4 fun y H5 => H5 D = some (.lst ys) ∧ ys.length < sizeLine ∧ ∃ m', m' < m ∧ W (i + 1) m' (ys ++ [y]) (upd H5 D (.lst (ys ++ [y])))
      else ∃ m', m' < m ∧ W (i + 1) m' ys H4))
def tComp (wi : TI) (fr : List (Nat × Str)) (tt : TT) (te : TE) : TE := fun σ H Q => wi σ H fun J H1 => compGoal J fr tt te σ H1 Q
/-- what is known of the block's own namespace from outside -/
structure FreshC (X : Cx) (pins : List (Addr × Obj)) (H : Hp) (C : Addr) : Prop where
  hn : H C = none
  hL : C ≠ X.env.locals
  h1 : C ∈ X.ex ∨ X.s₀.heap.objs.size ≤ C
  h2 : ∀ x c, X.env.cells.lookup x = some c → c ≠ C
  h3 : ∀ p ∈ X.pn ++ pins, p.1 ≠ C
theorem comp_run {X : Cx} {x : Str} {px : Pos} {iter elt : Expr} {ifs : List Expr} {scope sc : Scope} {pos pos' : Pos} {N : List Str} {fr : List (Nat × Str)} {wi : TI} {tt : TT} {te : TE}
    {pins : List (Addr × Obj)} {s : Shared} {σ : St} {H : Hp} {Q : VK} {Q' : Value → Shared → Prop} {use : Option (Value → Sem Unit)}
    (S : CompScope sc scope N x fr) (hsc : X.env.scope = sc) (hN : X.N = N) (hc : X.calm = true) (hi : PI X (.Name x px) iter wi)
    (ht : ∀ (C : Addr) (s : Shared) (H : Hp) (fp : List Addr), PTs (cxComp X scope C (x :: fr.map (·.2)) s H fp) ifs tt)
    (he : ∀ (C : Addr) (s : Shared) (H : Hp) (fp : List Addr), PE (cxComp X scope C (x :: fr.map (·.2)) s H fp) elt te)
    (hs : ∀ z, foldedSetIterable iter X.env z = pure z) (I : Inv X pins σ H s) (h : tComp wi fr tt te σ H Q)
    (hfin : ∀ (D C : Addr) (H' : Hp) (s' : Shared) (m : Str → Option Value), Inv X pins σ H' s' → s'.heap.Ns C m → FreshC X pins H' C → Q (.ref D) H' → compPost (model X.prog X.w) X.A X.xe use Q' (.ref D) C (.ok .next) s') :
    wpAny (model X.prog X.w) X.A (comprehension (.ListComp elt [⟨.Name x px, iter, ifs, 0⟩] scope pos) scope X.env pos' (newList []) false (eval iter X.env) use) Q' X.xe s := by
  have kin : ∀ y, scope.names.lookup y = some .free → X.env.kindOf y = some .cell ∨ X.env.kindOf y = some .free := fun y hy => by
    show X.env.scope.names.lookup y = _ ∨ X.env.scope.names.lookup y = _
    rw [hsc]
    exact S.free (y, .free) (PySem.mem_of_lookup hy) rfl
  have kin' : ∀ y ∈ scope.names, y.2 = .free → X.env.kindOf y.1 = some .cell ∨ X.env.kindOf y.1 = some .free := fun y hy hf => by
    show X.env.scope.names.lookup y.1 = _ ∨ X.env.scope.names.lookup y.1 = _
    rw [hsc]
    exact S.free y hy hf
  have hkc : ∀ y ∈ scope.names, y.2 = .free → ∃ c, X.env.cells.lookup y.1 = some c := fun y hy hf => I.ok.has y.1 (kin' y hy hf)
  refine wpAny_comprehension_free (use := use) rfl hs (closureFor_of hkc) S.kind S.names ?_
  refine thn (hi pins s σ H _ I h) fun xv s1 h1 => thn h1 fun itv s2 h2 => ?_
  obtain ⟨it, fp, tn, J, H2, rfl, I2, T, st2, f2, q2⟩ := h2
  refine wpAny_newObj_type (wpAny_newFunctionEnv S.nocell (by intro y hy; simp at hy) (fun h₁ hns₁ hsb₁ => ?_) S.kind)
  dsimp only at hns₁ hsb₁ ⊢
  have I3 : Inv X pins σ (upd H2 s2.heap.objs.size (.lst [])) { s2 with heap := s2.heap.push { cls := .type "list", data := .seq ([] : List Value).toArray } } :=
    I2.lnew (its := []) (t' := s2.toks) .nil (Nat.zero_le _)
  unfold compGoal at q2
  obtain ⟨W, ⟨m0, w0⟩, turn⟩ := q2 s2.heap.objs.size (I2.hok.fresh (Nat.le_refl _))
  generalize hG : s2.heap.push { cls := .type "list", dict := none, data := .seq ([] : List Value).toArray } = G at hns₁ hsb₁ I3 ⊢
  generalize hD : s2.heap.objs.size = D at I3 turn w0 ⊢
  generalize hH3 : upd H2 D (.lst []) = H3 at I3 w0
  have neG : ∀ b o, G.get? b = some o → b ≠ G.objs.size := fun b o e => Nat.ne_of_lt (Heap.lt_size e)
  have old : ∀ b o, G.get? b = some o → h₁.get? b = some o := fun b o e => (hsb₁.2 b (neG b o e)).trans (Heap.get?_push_of_some _ e)
  have up2 : ∀ b o, s2.heap.get? b = some o → G.get? b = some o := fun b o e => by rw [← hG]; exact Heap.get?_push_of_some _ e
  have fpG : ∀ b ∈ fp, b < G.objs.size := fun b hb => by
    obtain ⟨o, e, _⟩ := T.obj _ _ st2 b hb
    exact Heap.lt_size (up2 b o e)
  have sub : ∀ {y : Str} {c : Addr}, (closOf X.env.cells scope.names []).lookup y = some c → X.env.cells.lookup y = some c := fun {y c} e => by
    rcases closOf_sub _ _ e with z | z
    · exact z
    · simp at z
  have stat0 : ∀ b ∈ fp, (b ∈ X.ex ∨ X.s₀.heap.objs.size ≤ b) ∧ b ≠ X.env.locals ∧ (∀ x c, X.env.cells.lookup x = some c → c ≠ b) ∧ ∀ p ∈ X.pn ++ pins, p.1 ≠ b := fun b hb =>
    ⟨(f2 b hb).2.2.2.1, (f2 b hb).2.1, (f2 b hb).2.2.2.2.1, (f2 b hb).2.2.2.2.2⟩
  have hCL : G.objs.size ≠ X.env.locals := Nat.ne_of_gt I3.lt
  have hC1 : X.s₀.heap.objs.size ≤ G.objs.size := I3.sz
  have hC2 : ∀ x c, X.env.cells.lookup x = some c → c ≠ G.objs.size := fun x c e => by
    obtain ⟨v, o, ho, _⟩ := I3.cell x c e
    exact neG c o ho
  have hC3 : ∀ p ∈ X.pn ++ pins, p.1 ≠ G.objs.size := fun p hp => neG p.1 p.2 (I3.pin p hp).1
  have okB : (cxComp X scope G.objs.size (x :: fr.map (·.2)) { s2 with heap := G } H3 fp).Ok := by
    refine ⟨I2.ok.mod, S.kind, I2.ok.glob, I2.ok.blt, Nat.le_refl _, fun y z c e1 e2 => I2.ok.inj y z c (sub e1) (sub e2), fun y hy => ?_, fun y c z => Bool.noConfusion z, I2.ok.hd, I2.ok.frames, .inl rfl, fun b hb => ⟨Nat.ne_of_lt (fpG b hb), fun y c e => (stat0 b hb).2.2.1 y c (sub e)⟩,
      fun b o e => I3.bs b o e, Nat.le_trans I2.ok.bsz I3.sz, fun b o e hb => ?_, fun b hb hf => ?_, I3.stack, I3.stkFree⟩
    · have m := relabel_kind S.nocell hy
      exact closOf_has _ _ m (hkc _ m rfl)
    · rcases (stat0 b hb).1 with z | z
      · exact I2.ok.noex b o e z
      · exact absurd (Nat.lt_of_lt_of_le (Heap.lt_size e) (Nat.le_trans I2.ok.bsz z)) (Nat.lt_irrefl _)
    · rcases List.mem_cons.mp (I2.stkSub b hf) with z | z
      · exact (stat0 b hb).2.1 z
      · exact (f2 b hb).2.2.1 z
  have I4 : ∀ tk : Nat, Inv (cxComp X scope G.objs.size (x :: fr.map (·.2)) { s2 with heap := G } H3 fp) [] (none :: frV σ fr) H3 { s2 with heap := h₁, toks := tk } := fun tk => by
    refine ⟨okB, rfl, I2.bare, Un.kept old, ⟨_, hns₁, fun i y v e1 e2 _ => ?_⟩, fun y c e => ?_, I3.hok.fresh (Nat.le_refl _), fun y c e => I3.freeC y c (sub e), fun p hp => absurd (show p ∈ ([] : List (Addr × Obj)) from hp) (by simp), I3.hok.kept old, ?_⟩
    · cases i with
      | zero => simp at e2
      | succ i =>
        have e1' : (fr.map (·.2))[i]? = some y := e1
        have e2' : (fr.map fun p => (σ[p.1]?).join)[i]? = some (some v) := e2
        rw [List.getElem?_map] at e1' e2'
        cases hp : fr[i]? with
        | none => rw [hp] at e1'; cases e1'
        | some p =>
          rw [hp] at e1' e2'
          have ey : p.2 = y := Option.some.inj e1'
          have ev : (σ[p.1]?).join = some v := Option.some.inj e2'
          have ev' : σ[p.1]? = some (some v) := by
            cases q : σ[p.1]? with
            | none => rw [q] at ev; cases ev
            | some o => rw [q] at ev; simp only [Option.join] at ev; exact congrArg some ev
          have hf := S.frk p (List.mem_of_getElem? hp)
          rw [ey] at hf
          have hk := kin y hf.2
          obtain ⟨m, _, hl⟩ := I2.loc
          obtain ⟨u, ru, l⟩ := hl p.1 y v (by rw [hN]; exact hf.1) ev' (.inr hk)
          refine ⟨u, ru, .inr ⟨lookup_relabel_free hf.2, ?_⟩⟩
          rcases l with ⟨k, _⟩ | ⟨_, c, e, z⟩
          · rcases hk with hk | hk
            · rw [hk] at k; cases k
            · rw [hk] at k; cases k
          · obtain ⟨c', ec⟩ := closOf_has (cells := X.env.cells) scope.names [] (PySem.mem_of_lookup hf.2) ⟨c, e⟩
            have := sub ec
            rw [e] at this
            cases this
            obtain ⟨o, ho, hd⟩ := z
            exact ⟨c, ec, o, old c o (up2 c o ho), hd⟩
    · obtain ⟨v, o, ho, hd⟩ := I2.cell y c (sub e)
      exact ⟨v, o, old c o (up2 c o ho), hd⟩
    · show (none :: frV σ fr).length = (x :: fr.map (·.2)).length
      simp [frV]
  have locX : (cxComp X scope G.objs.size (x :: fr.map (·.2)) { s2 with heap := G } H3 fp).env.scope.names.lookup x = some .local := lookup_relabel_local S.loc
  generalize hX : cxComp X scope G.objs.size (x :: fr.map (·.2)) { s2 with heap := G } H3 fp = Y at I4 locX
  have eP : Y.prog = X.prog := by rw [← hX]; rfl
  have eW : Y.w = X.w := by rw [← hX]; rfl
  have eK : Y.K = X.K := by rw [← hX]; rfl
  have eA : Y.A = X.A := by rw [← hX]; rfl
  have eC : Y.calm = true := by rw [← hX]; exact hc
  have eE : Y.env = compEnvC scope (closOf X.env.cells scope.names []) G.objs.size X.env := by rw [← hX]; rfl
  have eN : Y.N = x :: fr.map (·.2) := by rw [← hX]; rfl
  have eX : Y.xe = fun _ _ => False := by rw [← hX]; rfl
  have eB : ∀ {σ' : St} {H' : Hp} {s' : Shared} {pins' : List (Addr × Obj)}, Inv Y pins' σ' H' s' → s'.os = s2.os ∧ Un (frs X.stack) fp H3 H' G s'.heap := fun {σ' H' s' pins'} J => by
    subst hX
    exact ⟨J.os, J.base⟩
  have hT := ht G.objs.size { s2 with heap := G } H3 fp
  have hE := he G.objs.size { s2 with heap := G } H3 fp
  rw [hX] at hT hE
  have fpY : ∀ {H' : Hp}, (∀ b ∈ fp, H' b = none) → ∀ b ∈ fp, FpOk Y [] H' b := fun {H'} hn b hb => by
    subst hX
    refine ⟨hn b hb, Nat.ne_of_lt (fpG b hb), okB.exfs b hb, .inl hb, fun y c e => (okB.exf b hb).2 y c e, fun p hp => absurd (show p ∈ ([] : List (Addr × Obj)) from hp) (by simp)⟩
  have loop : ∀ s3 : Shared, (∃ tk, s3 = { s2 with heap := h₁, toks := tk }) →
      codeAny (model X.prog X.w) X.A (.compLoop (.ListComp elt [⟨.Name x px, iter, ifs, 0⟩] scope pos) 0 (.ref it) (.ref D) Y.env)
        (compPost (model X.prog X.w) X.A X.xe use Q' (.ref D) G.objs.size) s3 := by
    rintro s3 ⟨tk, rfl⟩
    refine codeAny_compLoop_tests (fun n s' => ∃ i ys o H', Inv Y [] (o :: frV σ fr) H' s' ∧ tn i s'.heap ∧ (∀ b ∈ fp, H' b = none) ∧ W i n ys H') ?_ m0
      ⟨0, [], none, H3, I4 tk, T.keep _ _ _ st2 fun b hb o e => old b o (up2 b o e), fun b hb => ?_, w0⟩
    · rintro n s' ⟨i, ys, o, H', J', st', fr', w'⟩
      obtain ⟨hD', hgo⟩ := turn i n ys H' w'
      rcases hgo with ⟨stop, qn⟩ | ⟨go, step⟩
      · have Q1 := T.done Y eP eW eK eC i [] s' (o :: frV σ fr) H' (notedBy (model X.prog X.w) X.A Y.env fun e s'' => compPost (model X.prog X.w) X.A X.xe use Q' (.ref D) G.objs.size (.error e) s'') J' (fpY fr') st' stop
        rw [eA] at Q1
        refine thn Q1 fun r s4 ⟨hr, J4⟩ => ?_
        subst hr
        obtain ⟨m, hn, _⟩ := J4.loc
        rw [eE] at hn
        obtain ⟨os4, u4⟩ := eB J4
        have free4 : H' G.objs.size = none := by have := J4.free; rw [eE] at this; exact this
        have hok4 : HOk X.prog X.w H' s4.heap := by have := J4.hok; rw [eP, eW] at this; exact this
        exact hfin D G.objs.size H' s4 m (I3.call' (ch := fp) (s' := s4) os4 u4 hok4 J4.bare stat0) hn ⟨free4, hCL, .inr hC1, hC2, hC3⟩ qn
      · have Q1 := T.item Y eP eW eK eC i [] s' (o :: frV σ fr) H' (notedBy (model X.prog X.w) X.A Y.env fun e s'' => compPost (model X.prog X.w) X.A X.xe use Q' (.ref D) G.objs.size (.error e) s'') J' (fpY fr') st' go
        rw [eA] at Q1
        refine thn Q1 fun r s4 ⟨u, hr, h4⟩ => ?_
        subst hr
        show wpAny _ _ (letOwnedTupleGo (.Name x px) (.ref it) u >>= fun _ => assign (.Name x px) Y.env u) _ _ s4
        refine wpAny_bind (thn h4 fun _ s5 ⟨v, H5, J5, r5, y5, st5, fr5⟩ => ?_)
        have J5' := J5.pinned (fpY fr5) (T.obj _ _ st5)
        have G5 := pg_name (X := Y) (i := 0) (x := x) (pos := px) (by rw [eN]; exact S.nd) (by rw [eN]; rfl) (.inl locX) (.inr locX) ([] ++ pinsAt fp s5.heap) s5 (o :: frV σ fr) H5 v u (fun σ6 H6 => σ6 = some v :: frV σ fr ∧ H6 = H5) J5' r5 ⟨rfl, rfl⟩
        rw [eP, eW, eA, eX] at G5
        refine wpAny_mono G5 (fun _ s6 ⟨σ6, H6, J6, e6, e6'⟩ => ?_) fun _ _ z => z.elim
        subst e6 e6'
        have T6 := hT _ s6 _ _ _ J6 (step v _ y5)
        rw [eP, eW, eA, eX] at T6
        have again : ∀ {s7 : Shared} {H7 : Hp} {zs : List V}, Inv Y ([] ++ pinsAt fp s5.heap) (some v :: frV σ fr) H7 s7 → (∃ m', m' < n ∧ W (i + 1) m' zs H7) → ∃ m, m < n ∧ ∃ i ys o H', Inv Y [] (o :: frV σ fr) H' s7 ∧ tn i s7.heap ∧ (∀ b ∈ fp, H' b = none) ∧ W i m ys H' := fun {s7 H7 zs} J7 ⟨m', hm, w7⟩ => by
          refine ⟨m', hm, i + 1, zs, some v, H7, J7.unpinned, T.keep _ _ _ st5 fun b hb o e => (J7.pin (b, o) (List.mem_append_right _ (List.mem_append_right _ (mem_pinsAt hb e)))).1, fun b hb => ?_, w7⟩
          obtain ⟨o, e, d⟩ := T.obj _ _ st5 b hb
          exact (J7.pin (b, o) (List.mem_append_right _ (List.mem_append_right _ (mem_pinsAt hb e)))).2.1
        refine wpAny_mono T6 (fun ok s7 ⟨H7, J7, q7⟩ => ?_) fun _ _ z => z.elim
        cases ok with
        | false => exact again J7 q7
        | true =>
          have E7 := hE _ s7 _ _ _ J7 q7
          rw [eP, eW, eA, eX] at E7
          show wpAny _ _ (eval elt Y.env) _ _ s7
          refine wpAny_mono E7 (fun u8 s8 ⟨y8, H8, J8, r8, hD8, hz8, w8⟩ => ?_) fun _ _ z => z.elim
          have A8 := mt_append (X := Y) _ s8 _ H8 (.ref D) [y8] (.ref D) [u8] (fun z H9 => H9 = upd H8 D (.lst (ys ++ [y8]))) J8 rfl (.cons r8 .nil) ⟨D, ys, y8, rfl, rfl, hD8, hz8, rfl⟩
          rw [eP, eW, eA, eX] at A8
          refine wpAny_mono A8 (fun _ s9 ⟨z9, H9, J9, _, e9⟩ => ?_) fun _ _ z => z.elim
          subst e9
          exact again J9 w8
    · rw [← hH3]
      have hbD : b ≠ D := by
        rw [← hD]
        obtain ⟨o, e, _⟩ := T.obj _ _ st2 b hb
        exact Nat.ne_of_lt (Heap.lt_size e)
      rw [upd_ne hbD]
      exact (f2 b hb).1
  rw [eE] at loop
  exact codeAny_compStart_list (loop _ ⟨_, rfl⟩) (T.self _ 0 _ _ _ (T.keep _ _ _ st2 fun b hb o e => old b o (up2 b o e)) (loop _ ⟨_, rfl⟩))
theorem pe_comp {X : Cx} {x : Str} {px : Pos} {iter elt : Expr} {ifs : List Expr} {scope sc : Scope} {pos : Pos} {N : List Str} {fr : List (Nat × Str)} {wi : TI} {tt : TT} {te : TE}
    (S : CompScope sc scope N x fr) (hsc : X.env.scope = sc) (hN : X.N = N) (hc : X.calm = true) (hi : PI X (.Name x px) iter wi)
    (ht : ∀ (C : Addr) (s : Shared) (H : Hp) (fp : List Addr), PTs (cxComp X scope C (x :: fr.map (·.2)) s H fp) ifs tt)
    (he : ∀ (C : Addr) (s : Shared) (H : Hp) (fp : List Addr), PE (cxComp X scope C (x :: fr.map (·.2)) s H fp) elt te)
    (hs : ∀ z, foldedSetIterable iter X.env z = pure z := by intro _; rfl) :
    PE X (.ListComp elt [⟨.Name x px, iter, ifs, 0⟩] scope pos) (tComp wi fr tt te) := by
  intro pins s σ H Q I h
  rw [eval_ListComp]
  refine comp_run (use := none) S hsc hN hc hi ht he hs I h fun D C H' s' m J hn fc q => ?_
  exact ⟨m, hn, fun h' hs' => ⟨.ref D, H', J.turned (t' := s'.toks) (fun b o hb e => (hs'.2 b hb).trans e) fc.hn fc.hL fc.h1 fc.h2 fc.h3, rfl, q⟩⟩
/-- name = [.. for ..], the name a plain local -/
theorem ps_setComp {X : Cx} {x y : Str} {px py spos : Pos} {i : Nat} {iter elt : Expr} {ifs : List Expr} {scope sc : Scope} {pos : Pos} {N : List Str} {fr : List (Nat × Str)} {wi : TI} {tt : TT} {te : TE}
    (S : CompScope sc scope N x fr) (hsc : X.env.scope = sc) (hN : X.N = N) (hc : X.calm = true) (hnd : X.N.Nodup) (hiy : X.N[i]? = some y) (hy : X.env.scope.names.lookup y = some .local) (hi : PI X (.Name x px) iter wi)
    (ht : ∀ (C : Addr) (s : Shared) (H : Hp) (fp : List Addr), PTs (cxComp X scope C (x :: fr.map (·.2)) s H fp) ifs tt)
    (he : ∀ (C : Addr) (s : Shared) (H : Hp) (fp : List Addr), PE (cxComp X scope C (x :: fr.map (·.2)) s H fp) elt te)
    (hs : ∀ z, foldedSetIterable iter X.env z = pure z := by intro _; rfl)
    (hsw : swapsWith (.ListComp elt [⟨.Name x px, iter, ifs, 0⟩] scope pos) (some (.Name y py)) spos.line X.env = pure true := by rfl) :
    PS X (.Assign [.Name y py] (.ListComp elt [⟨.Name x px, iter, ifs, 0⟩] scope pos) spos) (tAsg (tComp wi fr tt te) (gName i)) := by
  intro pins s σ H D0 I h
  rw [exec_Assign_Name_used _ _ _ _ hsw]
  refine wpAny_bind (wpAny_standAt (wpAny_bind ?_))
  show wpAny _ X.A (do let _ ← comprehension (.ListComp elt [⟨.Name x px, iter, ifs, 0⟩] scope pos) scope X.env _ (newList []) false (eval iter X.env) (some (assign (.Name y py) X.env))) _ _ s
  refine wpAny_bind (thn (comp_run (use := some (assign (.Name y py) X.env)) (Q' := fun _ s' => SP X pins D0 .next s') S hsc hN hc hi ht he hs I h fun D C H' s' m J hn fc q => ?_) fun _ s' hq => wpAny_pure (wpAny_pure hq))
  show wpAny _ _ (assign (.Name y py) X.env (.ref D)) _ _ s'
  refine wpAny_assign_Name (store_ok2 J hnd hiy (.inl hy) (v := .ref D) rfl (fun s5 J5 hs5 => ?_) (.inr hy))
  obtain ⟨a, sb, ha⟩ := hs5
  have hCa : C ≠ a := by
    rcases ha with z | z
    · rw [z]; exact fc.hL
    · exact Ne.symm (fc.h2 _ _ z)
  refine ⟨m, hn.sameBut sb hCa, fun h' hs' => ⟨_, H', J5.turned (t' := s5.toks) (fun b o hb e => (hs'.2 b hb).trans e) fc.hn fc.hL fc.h1 fc.h2 fc.h3, q⟩⟩
def clsV : V → Option Value
  | .ty n => some (.type n)
  | .ref a => some (.ref a)
  | _ => none
theorem call_isinst {X : Cx} : CallR X (.builtin "isinstance") (fun xs H Q => ∃ x c cv t b, xs = [x, c] ∧ clsV c = some cv ∧ TyOf X.K H x t ∧ PySem.W.kitOne X.K t cv = some b ∧ Q (.bl b) H) := by
  intro pins s σ H xs us Q I r h
  obtain ⟨x, c, cv, t, b, rfl, hcv, ty, hk, q⟩ := h
  obtain ⟨u, u', rfl, rx, rc⟩ := vals2 r
  have e : u' = cv := by
    cases c with
    | ty n => cases hcv; exact rc
    | ref a => cases hcv; exact rc
    | _ => cases hcv
  subst e
  exact isinst_ok I rx ty hk fun tk => ⟨.bl b, H, I.tok tk, rfl, q⟩
theorem strsAre_of {xs : List Str} : ∀ {us : List Value}, Vals (xs.map V.str) us → StrsAre us xs := by
  induction xs with
  | nil => intro us r; rw [List.map_nil] at r; cases r; exact .nil
  | cons y ys ih =>
    intro us r
    rw [List.map_cons] at r
    cases r with
    | cons r1 r2 =>
      obtain ⟨t, e⟩ := r1
      subst e
      exact .cons y t (ih r2)
mutual
inductive RD (K : PySem.W.Frag) (H : Hp) : V → PyData → Prop
  | non : RD K H .non .none
  | bl (b : Bool) : RD K H (.bl b) (.bool b)
  | int (i : Int) : RD K H (.int i) (.int i)
  | str (x : Str) : RD K H (.str x) (.str x)
  | lst {a : Addr} {xs : List V} {ds : List PyData} : SqL K H a xs → RDs K H xs ds → RD K H (.ref a) (.list ds)
  | tup {a : Addr} {xs : List V} {ds : List PyData} : SqT K H a xs → RDs K H xs ds → RD K H (.ref a) (.tuple ds)
inductive RDs (K : PySem.W.Frag) (H : Hp) : List V → List PyData → Prop
  | nil : RDs K H [] []
  | cons {x : V} {xs : List V} {d : PyData} {ds : List PyData} : RD K H x d → RDs K H xs ds → RDs K H (x :: xs) (d :: ds)
end
mutual
theorem RD.reads {X : Cx} {pins : List (Addr × Obj)} {σ : St} {H : Hp} {s : Shared} (I : Inv X pins σ H s) : ∀ {x : V} {d : PyData} {u : Value}, RD X.K H x d → RelV x u → ∃ as, Reads s.heap u d as
  | _, _, _, .non, r => by cases (show _ = Value.none from r); exact ⟨_, .none⟩
  | _, _, _, .bl b, r => by cases (show _ = Value.bool b from r); exact ⟨_, .bool b⟩
  | _, _, _, .int i, r => by obtain ⟨t, e⟩ := r; subst e; exact ⟨_, .int i t⟩
  | _, _, _, .str x, r => by obtain ⟨t, e⟩ := r; subst e; exact ⟨_, .str x t⟩
  | _, _, _, .lst (a := a) hq hs, r => by
    cases (show _ = Value.ref a from r)
    obtain ⟨its, rv, pl, _⟩ := I.list hq
    obtain ⟨as, ra⟩ := RDs.reads I hs rv
    obtain ⟨o, e, c, n, d⟩ := pl.isList
    exact ⟨_, .list e c d (by simpa using ra)⟩
  | _, _, _, .tup (a := a) hq hs, r => by
    cases (show _ = Value.ref a from r)
    obtain ⟨its, rv, pl, _⟩ := I.tuple hq
    obtain ⟨as, ra⟩ := RDs.reads I hs rv
    obtain ⟨o, e, c, n, d⟩ := pl
    exact ⟨_, .tuple e c d (by simpa using ra)⟩
theorem RDs.reads {X : Cx} {pins : List (Addr × Obj)} {σ : St} {H : Hp} {s : Shared} (I : Inv X pins σ H s) : ∀ {xs : List V} {ds : List PyData} {us : List Value}, RDs X.K H xs ds → Vals xs us → ∃ as, ReadsAll s.heap us ds as
  | _, _, _, .nil, r => by cases r; exact ⟨_, .nil⟩
  | _, _, _, .cons h1 h2, r => by
    cases r with
    | cons r1 r2 =>
      obtain ⟨as, a1⟩ := RD.reads I h1 r1
      obtain ⟨bs, a2⟩ := RDs.reads I h2 r2
      exact ⟨_, .cons a1 a2⟩
end
theorem us_s {n : Nat} {P : List Value → Prop} (h : ∀ a us, us.length = n → P (a :: us)) : ∀ us : List Value, us.length = n + 1 → P us := fun us e => by
  cases us with
  | nil => exact absurd e (Nat.succ_ne_zero n).symm
  | cons a us => exact h a us (Nat.succ.inj e)
theorem us_0 {P : List Value → Prop} (h : P []) : ∀ us : List Value, us.length = 0 → P us := fun us e => by rw [List.eq_nil_of_length_eq_zero e]; exact h
theorem us_1 {P : List Value → Prop} (h : ∀ a, P [a]) : ∀ us : List Value, us.length = 1 → P us := us_s fun a => us_0 (P := fun us => P (a :: us)) (h a)
theorem us_2 {P : List Value → Prop} (h : ∀ a b, P [a, b]) : ∀ us : List Value, us.length = 2 → P us := us_s fun a => us_1 (P := fun us => P (a :: us)) (fun b => h a b)
theorem us_3 {P : List Value → Prop} (h : ∀ a b c, P [a, b, c]) : ∀ us : List Value, us.length = 3 → P us := us_s fun a => us_2 (P := fun us => P (a :: us)) (fun b c => h a b c)
inductive Ex2 {α0 α1 : Type} (P : α0 → α1 → Prop) : Prop
  | mk : ∀ x0 x1, P x0 x1 → Ex2 P
inductive Ex3 {α0 α1 α2 : Type} (P : α0 → α1 → α2 → Prop) : Prop
  | mk : ∀ x0 x1 x2, P x0 x1 x2 → Ex3 P
inductive Ex4 {α0 α1 α2 α3 : Type} (P : α0 → α1 → α2 → α3 → Prop) : Prop
  | mk : ∀ x0 x1 x2 x3, P x0 x1 x2 x3 → Ex4 P
inductive Ex5 {α0 α1 α2 α3 α4 : Type} (P : α0 → α1 → α2 → α3 → α4 → Prop) : Prop
  | mk : ∀ x0 x1 x2 x3 x4, P x0 x1 x2 x3 x4 → Ex5 P
inductive And7 (p0 p1 p2 p3 p4 p5 p6 : Prop) : Prop
  | mk : p0 → p1 → p2 → p3 → p4 → p5 → p6 → And7 p0 p1 p2 p3 p4 p5 p6
inductive And9 (p0 p1 p2 p3 p4 p5 p6 p7 p8 : Prop) : Prop
  | mk : p0 → p1 → p2 → p3 → p4 → p5 → p6 → p7 → p8 → And9 p0 p1 p2 p3 p4 p5 p6 p7 p8
end L2
set_option Elab.async false
set_option linter.all false
set_option maxRecDepth 100000
set_option maxHeartbeats 4000000
namespace L2
open PySem PySem.Spec PyProof.Rows
theorem atI_some {α : Type} {xs : List α} {i : Int} (h0 : 0 ≤ i) (h1 : i < (xs.length : Int)) : ∃ v, atI xs i = some v ∧ v ∈ xs ∧ xs[i.toNat]? = some v := by
  have hn : i.toNat < xs.length := by omega
  refine ⟨xs[i.toNat], ?_, List.getElem_mem hn, List.getElem?_eq_getElem hn⟩
  have e : ((i.toNat : Nat) : Int) = i := by omega
  have q := atI_nat (xs := xs) (j := i.toNat) (List.getElem?_eq_getElem hn)
  rw [e] at q
  exact q
theorem atI_mod {α : Type} {xs : List α} (i : Int) (h : 0 < xs.length) : ∃ v, atI xs (i % (xs.length : Int)) = some v ∧ v ∈ xs ∧ xs[(i % (xs.length : Int)).toNat]? = some v :=
  atI_some (Int.emod_nonneg _ (by omega)) (Int.emod_lt_of_pos _ (by omega))
theorem mem_map_int {ns : List Int} {v : V} (h : v ∈ ns.map V.int) : ∃ z, v = .int z ∧ z ∈ ns := by
  obtain ⟨z, hz, e⟩ := List.mem_map.mp h
  exact ⟨z, e.symm, hz⟩
theorem Same.upd_new {H : Hp} {p : Addr} {o : HO} (h : H p = none) : Same H (upd H p o) := fun b u e => by rw [upd_ne (ne_of_none e h)]; exact e
theorem Same.upd_of {H H' : Hp} {p : Addr} {o : HO} (s : Same H H') (h : H p = none) : Same H (upd H' p o) := fun b u e => by rw [upd_ne (ne_of_none e h)]; exact s b u e
theorem Same.tup {K : PySem.W.Frag} {H H' : Hp} {a : Addr} {xs : List V} (e : Same H H') (h : SqT K H a xs) : SqT K H' a xs := by
  rcases h with (h | ⟨o, h⟩) | h
  · exact .inl (.inl (e _ _ h))
  · exact .inl (.inr ⟨o, e _ _ h⟩)
  · exact .inr h
theorem ix_listK {X : Cx} (K : PySem.W.Frag) (hK : X.K = K := by rfl) : IxR X (rIxL K) := hK ▸ ix_list
theorem ix_tupK {X : Cx} (K : PySem.W.Frag) (hK : X.K = K := by rfl) : IxR X (rIxT K) := hK ▸ ix_tup
section
variable {X : Cx} {o e : Expr} {es : List Expr} {to : TE} {t : TA} {name : Str} {apos cpos : Pos} {T id : String} {r : V → List V → Hp → VK → Prop}
end
def plainE : Expr → Bool
  | .Starred .. => false
  | _ => true
theorem starEach_plain {e : Expr} {es : List Expr} {env : Env} (h : plainE e = true) : starEach (e :: es) env = (false, eval e env) :: starEach es env := by
  cases e <;> first | rfl | (cases h)
/-- an item of a written list, tuple or argument list (no star) -/
theorem pac {X : Cx} {e : Expr} {es : List Expr} {te : TE} {t : TA} (ha : PE X e te) (hr : PA X es t) (h : plainE e = true := by rfl) : PA X (e :: es) (tCons te t) := pa_cons ha hr (starEach_plain h)
/-- an item list, not to be looked into by the elaborator (its unfolding is paid for item by item, twice each) -/
structure PAs (X : Cx) (es : List Expr) (t : TA) : Prop where
  h : PA X es t
theorem pas_nil {X : Cx} : PAs X [] tNil := ⟨pa_nil⟩
theorem pas_cons {X : Cx} {e : Expr} {es : List Expr} {te : TE} {t : TA} (ha : PE X e te) (hr : PAs X es t) (h : plainE e = true := by rfl) : PAs X (e :: es) (tCons te t) := ⟨pac ha hr.h h⟩
theorem pe_lstS {X : Cx} {es : List Expr} {t : TA} {pos : Pos} (h : PAs X es t) : PE X (.List es pos) (tLst t) := pe_lst h.h
theorem pe_tupS {X : Cx} {es : List Expr} {t : TA} {x1 : Nat} {pos : Pos} (h : PAs X es t) : PE X (.Tuple es x1 pos) (tTup t) := pe_tup h.h
theorem cat_len (x y : Str) : (x ++ y).length = x.length + y.length := by
  show (x.cps ++ y.cps).size = _
  rw [Array.size_append]; rfl
theorem one_len (c : Nat) : (⟨#[c]⟩ : Str).length = 1 := rfl
end L2
set_option Elab.async false
set_option linter.all false
set_option maxRecDepth 100000
set_option maxHeartbeats 4000000
namespace L2
open PySem PySem.Spec PyProof.Rows
/-- only plain signs -/
def Asc (x : Str) : Prop := ∀ c ∈ x.cps.toList, c < 128
theorem Asc.ok {x : Str} (h : Asc x) : PyData.strOk x = true := by
  unfold PyData.strOk
  rw [Array.all_eq_true']
  intro c hc
  have := h c (Array.mem_toList_iff.mpr hc)
  exact decide_eq_true (by omega)
theorem Asc.app {x y : Str} (hx : Asc x) (hy : Asc y) : Asc (x ++ y) := fun c hc => by
  have e : (x ++ y).cps.toList = x.cps.toList ++ y.cps.toList := by show (x.cps ++ y.cps).toList = _; simp
  rw [e] at hc
  rcases List.mem_append.mp hc with z | z
  · exact hx c z
  · exact hy c z
theorem Asc.one {x : Str} {c : Nat} (h : Asc x) (hc : c ∈ x.cps.toList) : Asc ⟨#[c]⟩ := fun d hd => by
  have : d = c := by simpa using hd
  rw [this]; exact h c hc
theorem vals_of_get : ∀ {xs : List V} {us : List Value}, xs.length = us.length → (∀ (j : Nat) (x : V) (u : Value), xs[j]? = some x → us[j]? = some u → RelV x u) → Vals xs us
  | [], [], _, _ => .nil
  | [], _ :: _, h, _ => by cases h
  | _ :: _, [], h, _ => by cases h
  | x :: xs, u :: us, hl, hg => .cons (hg 0 x u rfl rfl) (vals_of_get (by simpa using hl) fun j y w h1 h2 => hg (j + 1) y w (by simpa using h1) (by simpa using h2))
theorem KV.at {κ : Type} : ∀ {kvs : List (κ × V)} {vs : List (κ × Value)} {j : Nat} {p : κ × V} {q : κ × Value}, KV kvs vs → kvs[j]? = some p → vs[j]? = some q → p.1 = q.1
  | _, _, _, _, _, .nil, h, _ => by simp at h
  | _, _, 0, _, _, .cons r _, h1, h2 => by
    simp only [List.getElem?_cons_zero, Option.some.injEq] at h1 h2
    subst h1 h2
    exact r.1
  | _, _, j + 1, _, _, .cons _ t, h1, h2 => KV.at (j := j) (show KV _ _ from t) (by simpa using h1) (by simpa using h2)
/-- list(d) -/
theorem call_list_dict {X : Cx} (hc : X.calm = true) : CallR X (.type "list") (fun xs H Q => ∃ p kvs, xs = [.ref p] ∧ H p = some (.dK kvs) ∧ ∀ l, H l = none → Q (.ref l) (upd H l (.lst (kvs.map fun kv => kV kv.1)))) := by
  intro pins s σ H xs us Q I r h
  obtain ⟨p, kvs, rfl, hp, q⟩ := h
  obtain ⟨u, rfl, rx⟩ := vals1 r
  cases rx
  obtain ⟨hz, hlo, vs, rv, o, es, ep, h1, h2, h3, h4, h5, h6⟩ := dk_of I.hok hp
  have da : s.heap.DictAt (mixKind X.prog X.w) p vs ep := ⟨o, es, h1, h2, h3, h4, h5, h6⟩
  have hlen : kvs.length = vs.length := KV.length rv
  refine PySem.W.kdl_call (PySem.W.kdl_dict hlo) (I.ok.hd hc) da (by rw [← hlen]; exact hz) fun h' tk acc' c' hk hS hacc => ?_
  have hv : Vals (kvs.map fun kv => kV kv.1) acc'.toList := by
    refine vals_of_get (by rw [List.length_map, hlen]; exact hacc.1.symm.trans (by simp)) fun j x u e1 e2 => ?_
    rw [List.getElem?_map] at e1
    cases hj : kvs[j]? with
    | none => rw [hj] at e1; cases e1
    | some kv =>
      rw [hj] at e1
      cases e1
      obtain ⟨k, y, e3, e4⟩ := hacc.2 j u (by rw [← Array.getElem?_toList]; exact e2)
      have ek : kv.1 = k := KV.at rv hj e3
      show RelV (kV kv.1) u
      rw [ek]
      rcases keyIs_shape (show keyIs k u = true from e4) with ⟨i, t, rfl, rfl⟩ | ⟨z, t, rfl, rfl⟩
      · exact ⟨t, rfl⟩
      · exact ⟨t, rfl⟩
  exact ⟨.ref s.heap.objs.size, _, I.laid (t' := tk) hk (Nat.le_refl _) (show ObjOk X.prog X.w _ h' _ (.lst _) from ⟨by rw [List.length_map]; exact hz, acc'.toList, c', hv, by rw [Array.toArray_toList]; exact hS⟩), rfl, q _ (I.hok.fresh (Nat.le_refl _))⟩
/-- a comprehension over a range: P of what has come so far, whatever the heap has got beside -/
theorem comp_rangeG {lo : Int} {n : Nat} {fr : List (Nat × Str)} {te : TE} {σ : St} {H1 : Hp} {Q : VK} (Pv : Nat → List V → Prop) (hz : n ≤ sizeLine) (h0 : Pv 0 []) (hlen : ∀ i ys, Pv i ys → ys.length = i)
    (hte : ∀ (i : Nat) (ys : List V) (H3 : Hp) (Q' : VK), i < n → Pv i ys → Same H1 H3 → (∀ y H5, Pv (i + 1) (ys ++ [y]) → Same H3 H5 → Q' y H5) → te (some (.int (lo + i)) :: frV σ fr) H3 Q')
    (hQ : ∀ D ys H2, H1 D = none → Pv n ys → Same H1 H2 → H2 D = some (.lst ys) → Q (.ref D) H2) :
    compGoal (Itr lo n) fr tTrue te σ H1 Q := by
  unfold compGoal
  intro D hD
  refine ⟨fun i m ys H2 => m = n - i ∧ i ≤ n ∧ Pv i ys ∧ Same H1 H2 ∧ H2 D = some (.lst ys), ⟨n, by simp, Nat.zero_le _, h0, Same.upd_new hD, upd_same⟩, ?_⟩
  rintro i m ys H2 ⟨rfl, hi, p, s2, d2⟩
  refine ⟨d2, ?_⟩
  by_cases hlt : i < n
  · refine .inr ⟨hlt, ?_⟩
    rintro v H3 ⟨rfl, rfl⟩
    refine tTrue_go (iteT ?_)
    refine hte i ys _ _ hlt p s2 fun y H5 p' s5 => ⟨s5 _ _ d2, ?_, n - (i + 1), by omega, rfl, hlt, p', (s2.trans s5).upd_of hD, upd_same⟩
    rw [hlen i ys p]; omega
  · have e : i = n := by omega
    subst e
    exact .inl ⟨Nat.le_refl _, hQ D ys H2 hD p s2 d2⟩
end L2
set_option Elab.async false
set_option linter.all false
set_option maxRecDepth 100000
set_option maxHeartbeats 4000000
namespace L2
open PySem PySem.Spec PyProof.Rows
theorem rds_strs {K : PySem.W.Frag} {H : Hp} : ∀ xs : List Str, RDs K H (xs.map V.str) (xs.map PyData.str)
  | [] => .nil
  | x :: r => .cons (.str x) (rds_strs r)
theorem rd_strs {K : PySem.W.Frag} {H : Hp} {a : Addr} {xs : List Str} (h : SqL K H a (xs.map V.str)) : RD K H (.ref a) (.list (xs.map PyData.str)) := .lst h (rds_strs xs)
theorem lay_strs : ∀ {xs : List Str}, (∀ x ∈ xs, Asc x) → PyData.canLayAll0 (xs.map PyData.str) = true ∧ PyData.depthAll (xs.map PyData.str) = 0
  | [], _ => ⟨rfl, rfl⟩
  | x :: r, h => by
    have q := lay_strs (xs := r) fun y hy => h y (List.mem_cons_of_mem _ hy)
    have e := (h x List.mem_cons_self).ok
    simp only [List.map_cons, PyData.canLayAll0, PyData.canLay0, PyData.depthAll, PyData.depth, q.1, q.2, e]
    exact ⟨rfl, rfl⟩
theorem eqvAll_strs : ∀ xs ys : List Str, PyData.eqvAll (xs.map PyData.str) (ys.map PyData.str) = decide (xs = ys)
  | [], [] => by simp [PyData.eqvAll]
  | [], _ :: _ => by simp [PyData.eqvAll]
  | _ :: _, [] => by simp [PyData.eqvAll]
  | x :: r, y :: t => by
    simp only [List.map_cons, PyData.eqvAll, PyData.eqv, eqvAll_strs r t]
    by_cases h : x = y <;> by_cases h' : r = t <;> simp [h, h']
theorem eqv_strs (xs ys : List Str) : PyData.eqv (.list (xs.map PyData.str)) (.list (ys.map PyData.str)) = decide (xs = ys) := by
  simp only [PyData.eqv]; exact eqvAll_strs xs ys
theorem inV_strs {xs : List Str} {t : Str} : inV (.str t) (xs.map V.str) = decide (t ∈ xs) := by
  unfold inV
  rw [List.any_map, Bool.eq_iff_iff, List.any_eq_true, decide_eq_true_eq]
  constructor
  · rintro ⟨x, hx, e⟩
    have : x = t := eq_of_beq (show (x == t) = true from e)
    rw [← this]; exact hx
  · intro h
    exact ⟨t, h, show (t == t) = true from beq_self_eq_true t⟩
theorem flat_strs (xs : List Str) : (xs.map V.str).all flatV = true := by
  rw [List.all_map, List.all_eq_true]; intro x _; rfl
end L2
namespace L2
open PySem PySem.Spec PyProof.Rows
abbrev aZ : Str := "abcdefghijklmnopqrstuvwxyz0123456789"
theorem aZ_len : aZ.cps.toList.length = 36 := by decide +kernel
theorem aZ_asc : Asc aZ := by
  have h : (aZ.cps.toList.all fun c => decide (c < 128)) = true := by decide +kernel
  intro c hc
  exact of_decide_eq_true (List.all_eq_true.mp h c hc)
theorem aZ_small : aZ.length ≤ sizeLine := by
  have : aZ.length = 36 := by decide +kernel
  rw [this]; decide
/-- 1 to 20 signs, each a small letter or a figure -/
structure WordS (x : Str) : Prop where
  lo : 1 ≤ x.length
  hi : x.length ≤ 20
  in_ : ∀ c ∈ x.cps.toList, c ∈ aZ.cps.toList
theorem WordS.asc {x : Str} (h : WordS x) : Asc x := fun c hc => aZ_asc c (h.in_ c hc)
theorem len_list (x : Str) : x.length = x.cps.toList.length := by simp [Str.length]
theorem cat_list (x y : Str) : (x ++ y).cps.toList = x.cps.toList ++ y.cps.toList := by show (x.cps ++ y.cps).toList = _; simp
theorem empty_len : ("" : Str).length = 0 := by decide +kernel
/-- one sign out of a text -/
def Sign1 (z y : Str) : Prop := ∃ c, c ∈ z.cps.toList ∧ y = ⟨#[c]⟩
theorem Sign1.len {z y : Str} (h : Sign1 z y) : y.length = 1 := by obtain ⟨c, _, rfl⟩ := h; rfl
theorem pick_sign {z : Str} {i : Int} (h0 : 0 ≤ i) (h1 : i < (z.cps.toList.length : Int)) : ∃ c, atI z.cps.toList i = some c ∧ c ∈ z.cps.toList := by
  obtain ⟨c, a, b, _⟩ := atI_some h0 h1
  exact ⟨c, a, b⟩
end L2
set_option Elab.async false
set_option linter.all false
set_option maxRecDepth 100000
set_option maxHeartbeats 4000000
namespace L2
open PySem PySem.Spec PyProof.Rows
end L2
set_option Elab.async false
set_option linter.all false
set_option maxRecDepth 100000
set_option maxHeartbeats 4000000
namespace L2
open PySem PySem.Spec PyProof.Rows
end L2
set_option Elab.async false
set_option linter.all false
set_option maxRecDepth 100000
set_option maxHeartbeats 4000000
namespace L2
open PySem PySem.Spec PyProof.Rows
structure FunD (K : PySem.W.Frag) (x qual : Str) (st : Stmt) (f : Addr) (fd : FuncData) : Prop where
  ex : ∃ (oc : Value) (od : Option Addr) (dV kV doc pm : Value) (an : Option Addr) (cdv ct : Value) (osl : Array (Option Value)),
    fd = PySem.W.fnOf x qual (defArgs st) (defBody st) (defScope st) dV kV doc pm an cdv ct ∧ K.lookup f = some ⟨oc, od, .func fd, osl⟩ ∧ PySem.W.codeIn K cdv qual = true
  kp : PySem.W.keepIn K (.ref f) = true
theorem FunD.ok {P : Program} {w : World} {K : PySem.W.Frag} {mg : Str → Option Value} {base : Heap} {x qual : Str} {st : Stmt} {f : Addr} {fd : FuncData} {N ps : List Str} {k : Nat} {sp : Sp} (F : FunD K x qual st f fd) (S : FnScope N ps (defScope st))
    (len : ∀ vs H Q E, sp vs H Q E → vs.length = ps.length)
    (hbody : ∀ (cdv : Value) (A : Around) (outer : List Env) (s : Shared) (H : Hp) (vs : List V) (Q : VK) (E : XK), Room k (A.deeper (envOfC qual (defScope st) s.heap.objs.size f cdv)) → sp vs H Q E →
      ∃ t, PSs (cxOf CX0 P w K mg base N qual (defScope st) f cdv A outer s H E).nox (defBody st) t ∧ t { nx := fun _ H' => Q .non H', rt := Q } (start N vs) H) : FnOk P w K mg base CX0 (k + 1) f fd ps sp := by
  obtain ⟨oc, od, dV, kV, doc, pm, an, cdv, ct, osl, rfl, lk, hcd⟩ := F.ex
  refine fn_of lk hcd S len fun A outer s H vs Q E hr hsp => ?_
  obtain ⟨t, h, q⟩ := hbody cdv A outer s H vs Q E hr hsp
  exact ⟨t, h.nox, q⟩
theorem fun_mkD {K : PySem.W.Frag} {x qual : Str} {st : Stmt} {f : Addr} {oc dV : Value} {od an : Option Addr} {osl : Array (Option Value)} {kV doc pm cdv ct : Value} (l : K.lookup f = some ⟨oc, od, .func (PySem.W.fnOf x qual (defArgs st) (defBody st) (defScope st) dV kV doc pm an cdv ct), osl⟩)
    (c : PySem.W.codeIn K cdv qual = true) (k : PySem.W.keepIn K (.ref f) = true) : FunD K x qual st f (PySem.W.fnOf x qual (defArgs st) (defBody st) (defScope st) dV kV doc pm an cdv ct) := ⟨⟨oc, od, dV, kV, doc, pm, an, cdv, ct, osl, rfl, l, c⟩, k⟩
def Prt (x : Str) : Prop := ∀ c ∈ x.cps.toList, 32 ≤ c ∧ c < 127
theorem Prt.asc {x : Str} (h : Prt x) : Asc x := fun c hc => Nat.lt_trans (h c hc).2 (by decide)
theorem Prt.app {x y : Str} (hx : Prt x) (hy : Prt y) : Prt (x ++ y) := fun c hc => by
  rw [cat_list] at hc
  rcases List.mem_append.mp hc with z | z
  · exact hx c z
  · exact hy c z
theorem Prt.one {x : Str} {c : Nat} (h : Prt x) (hc : c ∈ x.cps.toList) : Prt ⟨#[c]⟩ := fun d hd => by
  have : d = c := by simpa using hd
  rw [this]; exact h c hc
end L2
set_option Elab.async false
set_option linter.all false
set_option maxRecDepth 100000
set_option maxHeartbeats 4000000
namespace L2
open PySem PySem.Spec PyProof.Rows
theorem str_ext {x y : Str} (h : x.cps.toList = y.cps.toList) : x = y := by
  cases x; cases y
  have := Array.toList_inj.mp h
  simp only at this
  rw [this]
/-- a row of drawn numbers: what stands at a place -/
theorem row_pick {rs : List Int} {m : Int} (hb : ∀ r ∈ rs, 0 ≤ r ∧ r < m) (i : Int) (h0 : 0 ≤ i) (h1 : i < (rs.length : Int)) : ∃ z, atI (rs.map V.int) i = some (V.int z) ∧ 0 ≤ z ∧ z < m := by
  obtain ⟨v, hv, hvm, _⟩ := atI_some (xs := rs.map V.int) h0 (by rw [List.length_map]; exact h1)
  obtain ⟨z, hz, rfl⟩ := List.mem_map.mp hvm
  exact ⟨z, hv, hb z hz⟩
end L2
set_option Elab.async false
set_option linter.all false
set_option maxRecDepth 100000
set_option maxHeartbeats 4000000
namespace L2
open PySem PySem.Spec PyProof.Rows
end L2
set_option Elab.async false
set_option linter.all false
set_option maxRecDepth 100000
set_option maxHeartbeats 4000000
namespace L2
open PySem PySem.Spec PyProof.Rows
end L2
set_option Elab.async false
set_option linter.all false
set_option maxRecDepth 100000
set_option maxHeartbeats 4000000
namespace L2
open PySem PySem.Spec PyProof.Rows
end L2
set_option Elab.async false
set_option linter.all false
set_option maxRecDepth 100000
set_option maxHeartbeats 4000000
namespace L2
open PySem PySem.Spec PyProof.Rows
def leS (a b : Str) : Bool := !ltCps b.cps.toList a.cps.toList
def insS (x : Str) : List Str → List Str
  | [] => [x]
  | y :: r => if leS x y = true then x :: y :: r else y :: insS x r
def sortS : List Str → List Str
  | [] => []
  | x :: r => insS x (sortS r)
theorem leS_iff (a b : Str) : leS a b = true ↔ ¬ b.cps.toList < a.cps.toList := by
  unfold leS
  rw [ltCps_eq]
  simp
theorem leS_total (a b : Str) : leS a b = true ∨ leS b a = true := by
  rw [leS_iff, leS_iff]
  by_cases h : b.cps.toList < a.cps.toList
  · exact .inr (List.lt_asymm h)
  · exact .inl h
theorem leS_trans {a b c : Str} (h1 : leS a b = true) (h2 : leS b c = true) : leS a c = true := by
  rw [leS_iff] at *
  intro h
  rcases strKind.negTrans c.cps.toList b.cps.toList a.cps.toList (by simpa using h) with z | z
  · exact h2 (by simpa using z)
  · exact h1 (by simpa using z)
theorem leS_antisymm {a b : Str} (h1 : leS a b = true) (h2 : leS b a = true) : a = b := by
  rw [leS_iff] at *
  exact str_ext (List.le_antisymm (List.not_lt.mp h1) (List.not_lt.mp h2))
abbrev Sor (l : List Str) : Prop := l.Pairwise fun a b => leS a b = true
theorem rising_sor : ∀ (p : Str) (l : List Str), risingS p l = true → Sor (p :: l)
  | p, [], _ => List.pairwise_singleton _ _
  | p, x :: r, h => by
    have h : (leS p x && risingS x r) = true := h
    rw [Bool.and_eq_true] at h
    have ih := rising_sor x r h.2
    refine List.pairwise_cons.mpr ⟨fun y hy => ?_, ih⟩
    rcases List.mem_cons.mp hy with rfl | hy
    · exact h.1
    · exact leS_trans h.1 ((List.pairwise_cons.mp ih).1 y hy)
theorem sor_of : ∀ {l : List Str}, sortedS l = true → Sor l
  | [], _ => List.Pairwise.nil
  | x :: r, h => rising_sor x r h
theorem ins_perm (x : Str) : ∀ l : List Str, (insS x l).Perm (x :: l)
  | [] => .refl _
  | y :: r => by
    unfold insS
    split
    · exact .refl _
    · exact ((ins_perm x r).cons y).trans (.swap x y r)
theorem sortS_perm : ∀ l : List Str, (sortS l).Perm l
  | [] => .refl _
  | x :: r => (ins_perm x (sortS r)).trans ((sortS_perm r).cons x)
theorem ins_sor (x : Str) : ∀ {l : List Str}, Sor l → Sor (insS x l)
  | [], _ => List.pairwise_singleton _ _
  | y :: r, h => by
    unfold insS
    obtain ⟨h1, h2⟩ := List.pairwise_cons.mp h
    split
    · rename_i hx
      refine List.pairwise_cons.mpr ⟨fun z hz => ?_, h⟩
      rcases List.mem_cons.mp hz with rfl | hz
      · exact hx
      · exact leS_trans hx (h1 z hz)
    · rename_i hx
      refine List.pairwise_cons.mpr ⟨fun z hz => ?_, ins_sor x h2⟩
      rcases List.mem_cons.mp ((ins_perm x r).mem_iff.mp hz) with rfl | hz
      · exact (leS_total y z).resolve_right hx
      · exact h1 z hz
theorem sortS_sor : ∀ l : List Str, Sor (sortS l)
  | [] => .nil
  | x :: r => ins_sor x (sortS_sor r)
theorem sor_unique : ∀ {a b : List Str}, a.Perm b → Sor a → Sor b → a = b
  | [], b, p, _, _ => (List.nil_perm.mp p).symm
  | x :: r, [], p, _, _ => absurd p.symm.nil_eq (by simp)
  | x :: r, y :: t, p, ha, hb => by
    have e : x = y := by
      have h1 : x ∈ y :: t := p.mem_iff.mp List.mem_cons_self
      have h2 : y ∈ x :: r := p.mem_iff.mpr List.mem_cons_self
      rcases List.mem_cons.mp h1 with e | h1
      · exact e
      · rcases List.mem_cons.mp h2 with e | h2
        · exact e.symm
        · exact leS_antisymm ((List.pairwise_cons.mp ha).1 y h2) ((List.pairwise_cons.mp hb).1 x h1)
    subst e
    rw [sor_unique (List.perm_cons _ |>.mp p) (List.pairwise_cons.mp ha).2 (List.pairwise_cons.mp hb).2]
theorem sortS_eq {a b : List Str} (p : a.Perm b) (h : Sor a) : a = sortS b := sor_unique (p.trans (sortS_perm b).symm) h (sortS_sor b)
theorem sortS_congr {a b : List Str} (p : a.Perm b) : sortS a = sortS b := sortS_eq ((sortS_perm a).trans p) (sortS_sor a)
theorem sortS_len (l : List Str) : (sortS l).length = l.length := (sortS_perm l).length_eq
theorem sortS_mem {l : List Str} {x : Str} : x ∈ sortS l ↔ x ∈ l := (sortS_perm l).mem_iff
theorem vals_strsAre : ∀ {us : List Value} {ss : List Str}, StrsAre us ss → Vals (ss.map V.str) us
  | _, _, .nil => .nil
  | _, _, .cons x t h => .cons ⟨t, rfl⟩ (vals_strsAre h)
theorem call_sorted {X : Cx} : CallR X (.builtin "sorted") (fun xs H Q => ∃ p ss, xs = [.ref p] ∧ SqL X.K H p (ss.map V.str) ∧ ss.length < 64 ∧ ∀ l, H l = none → Q (.ref l) (upd H l (.lst ((sortS ss).map V.str)))) := by
  intro pins s σ H xs us Q I r h
  obtain ⟨p, ss, rfl, hS, hl, q⟩ := h
  obtain ⟨u, rfl, rx⟩ := vals1 r
  cases rx
  obtain ⟨its, rv, pl, _⟩ := I.list hS
  have hst := strsAre_of rv
  have hlen : its.length = ss.length := by have := rv.length; rw [List.length_map] at this; exact this.symm
  refine sorted_strs pl.isList hst (by omega) fun out ss' a1 a2 a3 => ?_
  obtain ⟨e, he⟩ := sortedAll_at s.heap its out
  have es : ss' = sortS ss := sortS_eq a2 (sor_of a3)
  subst es
  have hsz : s.heap.objs.size ≤ s.heap.objs.size + 1 := Nat.le_succ _
  refine ⟨.ref (s.heap.objs.size + 1), _, I.laid (t' := s.toks) (fun b u hb => sortedAll_old hb) hsz (show ObjOk X.prog X.w _ _ _ (.lst ((sortS ss).map V.str)) from ⟨?_, out.toList, e, vals_strsAre a1, ?_⟩), rfl, q _ (I.hok.fresh hsz)⟩
  · rw [List.length_map, sortS_len]; exact Nat.le_of_lt (small1000 (by omega))
  · rw [Array.toArray_toList]; exact he
/-- what an iterable yields, collected: the heap has grown -/
theorem collect_src {prog : Program} {w : World} {A : Around} {E : Value → Shared → Prop} {s : Shared} {T : String} {r d : Addr} {n : Nat} {P : Nat → Value → Prop} {OK : Heap → Prop} {R : List Value → Shared → Prop}
    (src : PySem.W.KdlSrc prog w T r d n P OK) (calm : A.handled = none) (ok : OK s.heap) (few : n ≤ sizeLine)
    (fin : ∀ (g : Heap) (k : Nat) (got : Array Value), (∀ b o, s.heap.get? b = some o → g.get? b = some o) → s.heap.objs.size < g.objs.size → ItemsOf P got n → R got.toList { s with heap := g, toks := k }) :
    wpAny (model prog w) A (collect (.ref r)) R E s := by
  obtain ⟨lr, ld⟩ := src.there _ ok
  let new : Obj := { cls := .type "list", data := .seq ([] : List Value).toArray }
  have there : (s.heap.push new).get? s.heap.objs.size = some new := Heap.get?_push_size _ rfl
  have still := src.keep _ _ ok (fun b _ o e => Heap.get?_push_of_some (h := s.heap) new e)
  have walked := PySem.W.kdl_extend (A := A) (s := { s with heap := s.heap.push new })
    (R := fun q t => ∃ (g : Heap) (k : Nat) (got : Array Value) (c : Nat), q = Except.ok (Flow.ret (.ref s.heap.objs.size)) ∧ t = { s with heap := g, toks := k } ∧ (∀ b o, s.heap.get? b = some o → g.get? b = some o) ∧
      g.get? s.heap.objs.size = some { cls := .type "list", dict := none, data := .seq got c, slots := #[] } ∧ ItemsOf P got n)
    src calm still s.heap.objs.size (Nat.ne_of_gt lr) (Nat.ne_of_gt ld) (.ref s.heap.objs.size) 0 there
    (fun g k got c keep at' all => ⟨g, k, got, c, rfl, rfl, fun b o e => keep b o (Nat.ne_of_lt (Heap.lt_size e)) (Heap.get?_push_of_some _ e), at', all⟩) few
  have done : ∀ (g : Heap) (k : Nat) (got : Array Value) (c : Nat), (∀ b o, s.heap.get? b = some o → g.get? b = some o) → g.get? s.heap.objs.size = some { cls := .type "list", dict := none, data := .seq got c, slots := #[] } → ItemsOf P got n →
      wpAny (model prog w) A (do match (← load s.heap.objs.size).data with
        | .seq xs _ => pure xs.toList
        | _ => unsupported "internal:collect") R E { s with heap := g, toks := k } := fun g k got c keep at' all =>
    wpAny_bind (wpAny_load at' (wpAny_pure (fin g k got keep (Heap.lt_size at') all)))
  unfold collect
  apply wpAny_bind
  apply wpAny_runValue
  apply codeAny_builtin entry_proto_collect'
  rw [Around.under_plainId F.plain_proto_collect _]
  show wpAny _ A.in1 (newList [] >>= fun z => again (.builtin "list.__iadd__" ⟨[z, .ref r], []⟩)) _ _ s
  apply wpAny_bind
  refine wpAny_newObj_type ?_
  apply wpAny_pure
  refine ⟨plainId_quiet F.plain_list_iadd _, ?_⟩
  apply codeAny_builtin entry_list_iadd'
  rw [Around.under_plainId F.plain_list_iadd _]
  refine wpAny_mono walked (fun f t q => ?_) (fun e t q => ?_)
  · cases f with
    | done f =>
      obtain ⟨g, k, got, c, e, rfl, keep, at', all⟩ := q
      cases e
      exact done g k got c keep at' all
    | again c1 =>
      refine ⟨q.1, codeAny_mono q.2 fun z t2 y => ?_⟩
      obtain ⟨g, k, got, c, rfl, rfl, keep, at', all⟩ := y
      exact done g k got c keep at' all
  · obtain ⟨_, _, _, _, e', _⟩ := q
    cases e'
theorem call_sorted_dict {X : Cx} (hc : X.calm = true) : CallR X (.builtin "sorted") (fun xs H Q => ∃ p kvs ss, xs = [.ref p] ∧ H p = some (.dK kvs) ∧ kvs.map (fun kv => kV kv.1) = ss.map V.str ∧ ss.length < 64 ∧ ∀ l, H l = none → Q (.ref l) (upd H l (.lst ((sortS ss).map V.str)))) := by
  intro pins s σ H xs us Q I r h
  obtain ⟨p, kvs, ss, rfl, hp, hks, hl, q⟩ := h
  obtain ⟨u, rfl, rx⟩ := vals1 r
  cases rx
  obtain ⟨hz, hlo, vs, rv, o, es, ep, h1, h2, h3, h4, h5, h6⟩ := dk_of I.hok hp
  have da : s.heap.DictAt (mixKind X.prog X.w) p vs ep := ⟨o, es, h1, h2, h3, h4, h5, h6⟩
  have hlen : kvs.length = vs.length := KV.length rv
  have hh : X.A.in1.handled = none := I.ok.hd hc
  refine Calls.call_function_entry kind_sorted plain_sorted entry_sorted (args_sorted1 _) ?_
  unfold Builtin.«sorted»
  refine wpAny_bind (m := checkCount "sorted" 1 1 _) (wpAny_pure ?_)
  refine wpAny_bind (collect_src (A := X.A.in1) (PySem.W.kdl_dict hlo) hh da (by rw [← hlen]; exact hz) fun h' tk acc hk hgr hacc => ?_)
  have hv : Vals (kvs.map fun kv => kV kv.1) acc.toList := by
    refine vals_of_get (by rw [List.length_map, hlen]; exact hacc.1.symm.trans (by simp)) fun j x u e1 e2 => ?_
    rw [List.getElem?_map] at e1
    cases hj : kvs[j]? with
    | none => rw [hj] at e1; cases e1
    | some kv =>
      rw [hj] at e1
      cases e1
      obtain ⟨k, y, e3, e4⟩ := hacc.2 j u (by rw [← Array.getElem?_toList]; exact e2)
      have ek : kv.1 = k := KV.at rv hj e3
      show RelV (kV kv.1) u
      rw [ek]
      rcases keyIs_shape (show keyIs k u = true from e4) with ⟨i, t, rfl, rfl⟩ | ⟨z, t, rfl, rfl⟩
      · exact ⟨t, rfl⟩
      · exact ⟨t, rfl⟩
  rw [hks] at hv
  have hst := strsAre_of hv
  have hal : acc.toList.length = ss.length := by have := hv.length; rw [List.length_map] at this; exact this.symm
  refine wpAny_bind (wpAny_newList ?_ (by rw [hal]; exact Nat.le_of_lt (small1000 (by omega))))
  have hoL : (h'.push (seqObj "list" acc.toList.toArray 0)).get? h'.objs.size = some (seqObj "list" acc.toList.toArray 0) := Heap.get?_push_size _ rfl
  refine wpAny_bind (wpAny_holding (wpAny_call_entry slot_list_sort ⟨_, hoL, rfl⟩ entry_list_sort (list_sort_treeK strKind_oneLt hoL hst.keysOf (fun v₁ v₂ rest e => keyKind_strs (by rw [← e]; exact hst)) (by omega) fun st' a1 a2 => ⟨_, rfl, ?_⟩) (args_list_sort _)))
  refine wpAny_pure ⟨_, rfl, ?_⟩
  obtain ⟨ss', b1, b2, b3⟩ := sorted_out_str hst a1 a2
  obtain ⟨e, he⟩ := sortedHeap_at (out := (arrOf st').map (·.2)) hoL
  have es' : ss' = sortS ss := sortS_eq b2 (sor_of b3)
  subst es'
  have hsz : s.heap.objs.size ≤ h'.objs.size := Nat.le_of_lt hgr
  refine ⟨.ref h'.objs.size, _, I.laid (t' := tk) (fun b u hb => ?_) hsz (show ObjOk X.prog X.w _ _ _ (.lst ((sortS ss).map V.str)) from ⟨?_, ((arrOf st').map (·.2)).toList, e, vals_strsAre b1, ?_⟩), rfl, q _ (I.hok.fresh hsz)⟩
  · have hb' := hk b u hb
    have hlt := Heap.lt_size hb'
    rw [sortedHeap_old (Nat.ne_of_lt hlt) (by rw [size_push']; exact Nat.lt_succ_of_lt hlt)]
    exact Heap.get?_push_of_some _ hb'
  · rw [List.length_map, sortS_len]; exact Nat.le_of_lt (small1000 (by omega))
  · rw [Array.toArray_toList]; exact he
end L2
set_option Elab.async false
set_option linter.all false
set_option maxRecDepth 100000
set_option maxHeartbeats 4000000
namespace L2
open PySem PySem.Spec PyProof.Rows
theorem comp_listFM {K : PySem.W.Frag} {a : Addr} {α : Type} {xs : List α} {fr : List (Nat × Str)} {tt : TT} {te : TE} {σ : St} {H1 : Hp} {Q : VK} (g : α → V) (pr : α → Bool) (f : α → V) (hz : xs.length ≤ sizeLine) (hS : SqL K H1 a (xs.map g))
    (htt : ∀ (x : α) (H3 : Hp) (Q' : Bool → Hp → Prop), x ∈ xs → Same H1 H3 → Q' (pr x) H3 → tt (some (g x) :: frV σ fr) H3 Q')
    (hte : ∀ (x : α) (H3 : Hp) (Q' : VK), x ∈ xs → Same H1 H3 → pr x = true → Q' (f x) H3 → te (some (g x) :: frV σ fr) H3 Q')
    (hQ : ∀ D, H1 D = none → Q (.ref D) (upd H1 D (.lst ((xs.filter pr).map f)))) :
    compGoal (Itl K a) fr tt te σ H1 Q := by
  unfold compGoal
  intro D hD
  refine ⟨fun i m ys H2 => m = xs.length - i ∧ i ≤ xs.length ∧ ys = ((xs.take i).filter pr).map f ∧ H2 = upd H1 D (.lst ys), ⟨xs.length, by simp, Nat.zero_le _, by simp, rfl⟩, ?_⟩
  rintro i m ys H2 ⟨rfl, hi, rfl, rfl⟩
  refine ⟨upd_same, ?_⟩
  have s1 : Same H1 (upd H1 D (.lst (((xs.take i).filter pr).map f))) := Same.upd_new hD
  have hS2 := s1.seq hS
  by_cases hlt : i < xs.length
  · have hx0 : (xs.map g)[i]? = some (g xs[i]) := by rw [List.getElem?_map, List.getElem?_eq_getElem hlt]; rfl
    refine .inr ⟨⟨xs.map g, g xs[i], hS2, hx0⟩, ?_⟩
    rintro v H3 ⟨rfl, hv⟩
    have hx : (xs.map g)[i]? = some v := hv _ hS2
    rw [hx0] at hx
    cases hx
    have hm : xs[i] ∈ xs := List.getElem_mem hlt
    have et : xs.take (i + 1) = xs.take i ++ [xs[i]] := by rw [List.take_add_one, List.getElem?_eq_getElem hlt]; rfl
    refine htt xs[i] _ _ hm s1 ?_
    cases hp : pr xs[i]
    · refine iteF ⟨xs.length - (i + 1), by omega, rfl, hlt, ?_, rfl⟩
      rw [et, List.filter_append, List.filter_cons, hp]
      simp
    · refine iteT (hte xs[i] _ _ hm s1 hp ⟨upd_same, ?_, xs.length - (i + 1), by omega, rfl, hlt, ?_, upd_upd⟩)
      · have := List.length_filter_le pr (xs.take i)
        rw [List.length_take] at this
        rw [List.length_map]
        omega
      · rw [et, List.filter_append, List.filter_cons, hp]
        simp
  · have e : i = xs.length := by omega
    subst e
    have e2 : xs.take xs.length = xs := List.take_of_length_le (Nat.le_refl _)
    refine .inl ⟨⟨xs.map g, hS2, by rw [List.length_map]; exact Nat.le_refl _⟩, ?_⟩
    rw [e2]
    exact hQ D hD
/-- without a test -/
theorem comp_listM {K : PySem.W.Frag} {a : Addr} {α : Type} {xs : List α} {fr : List (Nat × Str)} {te : TE} {σ : St} {H1 : Hp} {Q : VK} (g : α → V) (f : α → V) (hz : xs.length ≤ sizeLine) (hS : SqL K H1 a (xs.map g))
    (hte : ∀ (x : α) (H3 : Hp) (Q' : VK), x ∈ xs → Same H1 H3 → Q' (f x) H3 → te (some (g x) :: frV σ fr) H3 Q')
    (hQ : ∀ D, H1 D = none → Q (.ref D) (upd H1 D (.lst (xs.map f)))) :
    compGoal (Itl K a) fr tTrue te σ H1 Q :=
  comp_listFM g (fun _ => true) f hz hS (fun _ _ _ _ _ q => tTrue_go q) (fun x H3 Q' hm s1 _ q => hte x H3 Q' hm s1 q) fun D hD => by
    rw [List.filter_eq_self.mpr fun _ _ => rfl]
    exact hQ D hD
theorem RDs.len {K : PySem.W.Frag} {H : Hp} : ∀ {xs : List V} {ds : List PyData}, RDs K H xs ds → xs.length = ds.length
  | _, _, .nil => rfl
  | _, _, .cons _ r => by rw [List.length_cons, List.length_cons, RDs.len r]
theorem RDs.at {K : PySem.W.Frag} {H : Hp} : ∀ {xs : List V} {ds : List PyData} {m : Nat} {x : V}, RDs K H xs ds → xs[m]? = some x → ∃ d, ds[m]? = some d ∧ RD K H x d
  | _, _, _, _, .nil, e => by simp at e
  | _, _, 0, _, .cons h _, e => by simp at e; subst e; exact ⟨_, rfl, h⟩
  | _, _, m + 1, x, .cons _ r, e => by
    obtain ⟨d, e1, e2⟩ := RDs.at (m := m) (x := x) r (by simpa using e)
    exact ⟨d, by simpa using e1, e2⟩
theorem Vals.erase : ∀ {xs : List V} {us : List Value} (j : Nat), Vals xs us → Vals (xs.eraseIdx j) (us.eraseIdx j)
  | _, _, _, .nil => .nil
  | _, _, 0, .cons _ r => r
  | _, _, j + 1, .cons h r => .cons h (Vals.erase j r)
theorem call_repr {X : Cx} (hg : X.A.guards = some []) (hu : X.A.units + 64 < cLine) : CallR X (.builtin "repr") (fun xs H Q => ∃ (x : Addr) (d : PyData), xs = [.ref x] ∧ RD X.K H (.ref x) d ∧ d.showable = true ∧ d.hasDict = false ∧ d.depth ≤ 10 ∧ d.shown.length ≤ sizeLine ∧ Q (.str d.shown) H) := by
  intro pins s σ H xs us Q I r h
  obtain ⟨x, d, rfl, hd, hs, hn, hdp, hz, q⟩ := h
  obtain ⟨u, rfl, rx⟩ := vals1 r
  cases rx
  obtain ⟨as, ra⟩ := hd.reads I rfl
  exact repr_of_reads' ra hs (fun z => by rw [hn] at z; cases z) hg (by omega) (fun _ _ e => e) (fun h' u tk hk => ⟨.str d.shown, H, I.kept (t' := tk) hk, ⟨u, rfl⟩, q⟩) hz
end L2
set_option Elab.async false
set_option linter.all false
set_option maxRecDepth 100000
set_option maxHeartbeats 4000000
namespace L2
open PySem PySem.Spec PyProof.Rows
structure CompScope2 (sc scope : Scope) (N : List Str) (x y : Str) (fr : List (Nat × Str)) : Prop where
  kind : scope.kind = .function
  loc : scope.names.lookup x = some .local
  loc2 : scope.names.lookup y = some .local
  names : ∀ y ∈ scope.names, y.2 = .local → scope.names.lookup y.1 = some .local
  nocell : ∀ y ∈ scope.names, y.2 ≠ .cell
  free : ∀ y ∈ scope.names, y.2 = .free → sc.names.lookup y.1 = some .cell ∨ sc.names.lookup y.1 = some .free
  frk : ∀ p ∈ fr, N[p.1]? = some p.2 ∧ scope.names.lookup p.2 = some .free
  nd : (x :: y :: fr.map (·.2)).Nodup
def compGoal2 (K : PySem.W.Frag) (J : It) (fr : List (Nat × Str)) (te : TE) (σ : St) (H1 : Hp) (Q : VK) : Prop := ∀ D, H1 D = none →
  ∃ W : Nat → Nat → List V → Hp → Prop, (∃ m, W 0 m [] (upd H1 D (.lst []))) ∧ ∀ i m ys H2, W i m ys H2 → H2 D = some (.lst ys) ∧
    ((J.stop i H2 ∧ Q (.ref D) H2) ∨ (J.go i H2 ∧ ∀ v H3, J.yld i H2 v H3 → ∃ p v1 v2, v = .ref p ∧ SqT K H3 p [v1, v2] ∧ te (some v1 :: some v2 :: frV σ fr) H3 fun y H5 => H5 D = some (.lst ys) ∧ ys.length < sizeLine ∧ ∃ m', m' < m ∧ W (i + 1) m' (ys ++ [y]) (upd H5 D (.lst (ys ++ [y])))))
def tComp2 (K : PySem.W.Frag) (wi : TI) (fr : List (Nat × Str)) (te : TE) : TE := fun σ H Q => wi σ H fun J H1 => compGoal2 K J fr te σ H1 Q
theorem comp_run2 {X : Cx} {x y : Str} {px py pt : Pos} {kt : Nat} {iter elt : Expr} {scope sc : Scope} {pos pos' : Pos} {N : List Str} {fr : List (Nat × Str)} {wi : TI} {te : TE}
    {pins : List (Addr × Obj)} {s : Shared} {σ : St} {H : Hp} {Q : VK} {Q' : Value → Shared → Prop} {use : Option (Value → Sem Unit)}
    (S : CompScope2 sc scope N x y fr) (hsc : X.env.scope = sc) (hN : X.N = N) (hc : X.calm = true) (hi : PI X (.Tuple [.Name x px, .Name y py] kt pt) iter wi)
    (he : ∀ (C : Addr) (s : Shared) (H : Hp) (fp : List Addr), PE (cxComp X scope C (x :: y :: fr.map (·.2)) s H fp) elt te)
    (hs : ∀ z, foldedSetIterable iter X.env z = pure z) (I : Inv X pins σ H s) (h : tComp2 X.K wi fr te σ H Q)
    (hfin : ∀ (D C : Addr) (H' : Hp) (s' : Shared) (m : Str → Option Value), Inv X pins σ H' s' → s'.heap.Ns C m → FreshC X pins H' C → Q (.ref D) H' → compPost (model X.prog X.w) X.A X.xe use Q' (.ref D) C (.ok .next) s') :
    wpAny (model X.prog X.w) X.A (comprehension (.ListComp elt [⟨.Tuple [.Name x px, .Name y py] kt pt, iter, [], 0⟩] scope pos) scope X.env pos' (newList []) false (eval iter X.env) use) Q' X.xe s := by
  have kin : ∀ y, scope.names.lookup y = some .free → X.env.kindOf y = some .cell ∨ X.env.kindOf y = some .free := fun y hy => by
    show X.env.scope.names.lookup y = _ ∨ X.env.scope.names.lookup y = _
    rw [hsc]
    exact S.free (y, .free) (PySem.mem_of_lookup hy) rfl
  have kin' : ∀ y ∈ scope.names, y.2 = .free → X.env.kindOf y.1 = some .cell ∨ X.env.kindOf y.1 = some .free := fun y hy hf => by
    show X.env.scope.names.lookup y.1 = _ ∨ X.env.scope.names.lookup y.1 = _
    rw [hsc]
    exact S.free y hy hf
  have hkc : ∀ y ∈ scope.names, y.2 = .free → ∃ c, X.env.cells.lookup y.1 = some c := fun y hy hf => I.ok.has y.1 (kin' y hy hf)
  refine wpAny_comprehension_free (use := use) rfl hs (closureFor_of hkc) S.kind S.names ?_
  refine thn (hi pins s σ H _ I h) fun xv s1 h1 => thn h1 fun itv s2 h2 => ?_
  obtain ⟨it, fp, tn, J, H2, rfl, I2, T, st2, f2, q2⟩ := h2
  refine wpAny_newObj_type (wpAny_newFunctionEnv S.nocell (by intro y hy; simp at hy) (fun h₁ hns₁ hsb₁ => ?_) S.kind)
  dsimp only at hns₁ hsb₁ ⊢
  have I3 : Inv X pins σ (upd H2 s2.heap.objs.size (.lst [])) { s2 with heap := s2.heap.push { cls := .type "list", data := .seq ([] : List Value).toArray } } :=
    I2.lnew (its := []) (t' := s2.toks) .nil (Nat.zero_le _)
  unfold compGoal2 at q2
  obtain ⟨W, ⟨m0, w0⟩, turn⟩ := q2 s2.heap.objs.size (I2.hok.fresh (Nat.le_refl _))
  generalize hG : s2.heap.push { cls := .type "list", dict := none, data := .seq ([] : List Value).toArray } = G at hns₁ hsb₁ I3 ⊢
  generalize hD : s2.heap.objs.size = D at I3 turn w0 ⊢
  generalize hH3 : upd H2 D (.lst []) = H3 at I3 w0
  have neG : ∀ b o, G.get? b = some o → b ≠ G.objs.size := fun b o e => Nat.ne_of_lt (Heap.lt_size e)
  have old : ∀ b o, G.get? b = some o → h₁.get? b = some o := fun b o e => (hsb₁.2 b (neG b o e)).trans (Heap.get?_push_of_some _ e)
  have up2 : ∀ b o, s2.heap.get? b = some o → G.get? b = some o := fun b o e => by rw [← hG]; exact Heap.get?_push_of_some _ e
  have fpG : ∀ b ∈ fp, b < G.objs.size := fun b hb => by
    obtain ⟨o, e, _⟩ := T.obj _ _ st2 b hb
    exact Heap.lt_size (up2 b o e)
  have sub : ∀ {y : Str} {c : Addr}, (closOf X.env.cells scope.names []).lookup y = some c → X.env.cells.lookup y = some c := fun {y c} e => by
    rcases closOf_sub _ _ e with z | z
    · exact z
    · simp at z
  have stat0 : ∀ b ∈ fp, (b ∈ X.ex ∨ X.s₀.heap.objs.size ≤ b) ∧ b ≠ X.env.locals ∧ (∀ x c, X.env.cells.lookup x = some c → c ≠ b) ∧ ∀ p ∈ X.pn ++ pins, p.1 ≠ b := fun b hb =>
    ⟨(f2 b hb).2.2.2.1, (f2 b hb).2.1, (f2 b hb).2.2.2.2.1, (f2 b hb).2.2.2.2.2⟩
  have hCL : G.objs.size ≠ X.env.locals := Nat.ne_of_gt I3.lt
  have hC1 : X.s₀.heap.objs.size ≤ G.objs.size := I3.sz
  have hC2 : ∀ x c, X.env.cells.lookup x = some c → c ≠ G.objs.size := fun x c e => by
    obtain ⟨v, o, ho, _⟩ := I3.cell x c e
    exact neG c o ho
  have hC3 : ∀ p ∈ X.pn ++ pins, p.1 ≠ G.objs.size := fun p hp => neG p.1 p.2 (I3.pin p hp).1
  have okB : (cxComp X scope G.objs.size (x :: y :: fr.map (·.2)) { s2 with heap := G } H3 fp).Ok := by
    refine ⟨I2.ok.mod, S.kind, I2.ok.glob, I2.ok.blt, Nat.le_refl _, fun y z c e1 e2 => I2.ok.inj y z c (sub e1) (sub e2), fun y hy => ?_, fun y c z => Bool.noConfusion z, I2.ok.hd, I2.ok.frames, .inl rfl, fun b hb => ⟨Nat.ne_of_lt (fpG b hb), fun y c e => (stat0 b hb).2.2.1 y c (sub e)⟩,
      fun b o e => I3.bs b o e, Nat.le_trans I2.ok.bsz I3.sz, fun b o e hb => ?_, fun b hb hf => ?_, I3.stack, I3.stkFree⟩
    · have m := relabel_kind S.nocell hy
      exact closOf_has _ _ m (hkc _ m rfl)
    · rcases (stat0 b hb).1 with z | z
      · exact I2.ok.noex b o e z
      · exact absurd (Nat.lt_of_lt_of_le (Heap.lt_size e) (Nat.le_trans I2.ok.bsz z)) (Nat.lt_irrefl _)
    · rcases List.mem_cons.mp (I2.stkSub b hf) with z | z
      · exact (stat0 b hb).2.1 z
      · exact (f2 b hb).2.2.1 z
  have I4 : ∀ tk : Nat, Inv (cxComp X scope G.objs.size (x :: y :: fr.map (·.2)) { s2 with heap := G } H3 fp) [] (none :: none :: frV σ fr) H3 { s2 with heap := h₁, toks := tk } := fun tk => by
    refine ⟨okB, rfl, I2.bare, Un.kept old, ⟨_, hns₁, fun i y v e1 e2 _ => ?_⟩, fun y c e => ?_, I3.hok.fresh (Nat.le_refl _), fun y c e => I3.freeC y c (sub e), fun p hp => absurd (show p ∈ ([] : List (Addr × Obj)) from hp) (by simp), I3.hok.kept old, ?_⟩
    · cases i with
      | zero => simp at e2
      | succ i => cases i with
       | zero => simp at e2
       | succ i =>
        have e1' : (fr.map (·.2))[i]? = some y := e1
        have e2' : (fr.map fun p => (σ[p.1]?).join)[i]? = some (some v) := e2
        rw [List.getElem?_map] at e1' e2'
        cases hp : fr[i]? with
        | none => rw [hp] at e1'; cases e1'
        | some p =>
          rw [hp] at e1' e2'
          have ey : p.2 = y := Option.some.inj e1'
          have ev : (σ[p.1]?).join = some v := Option.some.inj e2'
          have ev' : σ[p.1]? = some (some v) := by
            cases q : σ[p.1]? with
            | none => rw [q] at ev; cases ev
            | some o => rw [q] at ev; simp only [Option.join] at ev; exact congrArg some ev
          have hf := S.frk p (List.mem_of_getElem? hp)
          rw [ey] at hf
          have hk := kin y hf.2
          obtain ⟨m, _, hl⟩ := I2.loc
          obtain ⟨u, ru, l⟩ := hl p.1 y v (by rw [hN]; exact hf.1) ev' (.inr hk)
          refine ⟨u, ru, .inr ⟨lookup_relabel_free hf.2, ?_⟩⟩
          rcases l with ⟨k, _⟩ | ⟨_, c, e, z⟩
          · rcases hk with hk | hk
            · rw [hk] at k; cases k
            · rw [hk] at k; cases k
          · obtain ⟨c', ec⟩ := closOf_has (cells := X.env.cells) scope.names [] (PySem.mem_of_lookup hf.2) ⟨c, e⟩
            have := sub ec
            rw [e] at this
            cases this
            obtain ⟨o, ho, hd⟩ := z
            exact ⟨c, ec, o, old c o (up2 c o ho), hd⟩
    · obtain ⟨v, o, ho, hd⟩ := I2.cell y c (sub e)
      exact ⟨v, o, old c o (up2 c o ho), hd⟩
    · show (none :: none :: frV σ fr).length = (x :: y :: fr.map (·.2)).length
      simp [frV]
  have locY : (cxComp X scope G.objs.size (x :: y :: fr.map (·.2)) { s2 with heap := G } H3 fp).env.scope.names.lookup y = some .local := lookup_relabel_local S.loc2
  have locX : (cxComp X scope G.objs.size (x :: y :: fr.map (·.2)) { s2 with heap := G } H3 fp).env.scope.names.lookup x = some .local := lookup_relabel_local S.loc
  generalize hX : cxComp X scope G.objs.size (x :: y :: fr.map (·.2)) { s2 with heap := G } H3 fp = Y at I4 locX locY
  have eP : Y.prog = X.prog := by rw [← hX]; rfl
  have eW : Y.w = X.w := by rw [← hX]; rfl
  have eK : Y.K = X.K := by rw [← hX]; rfl
  have eA : Y.A = X.A := by rw [← hX]; rfl
  have eC : Y.calm = true := by rw [← hX]; exact hc
  have eE : Y.env = compEnvC scope (closOf X.env.cells scope.names []) G.objs.size X.env := by rw [← hX]; rfl
  have eN : Y.N = x :: y :: fr.map (·.2) := by rw [← hX]; rfl
  have eX : Y.xe = fun _ _ => False := by rw [← hX]; rfl
  have eB : ∀ {σ' : St} {H' : Hp} {s' : Shared} {pins' : List (Addr × Obj)}, Inv Y pins' σ' H' s' → s'.os = s2.os ∧ Un (frs X.stack) fp H3 H' G s'.heap := fun {σ' H' s' pins'} J => by
    subst hX
    exact ⟨J.os, J.base⟩
  have hE := he G.objs.size { s2 with heap := G } H3 fp
  rw [hX] at hE
  have fpY : ∀ {H' : Hp}, (∀ b ∈ fp, H' b = none) → ∀ b ∈ fp, FpOk Y [] H' b := fun {H'} hn b hb => by
    subst hX
    refine ⟨hn b hb, Nat.ne_of_lt (fpG b hb), okB.exfs b hb, .inl hb, fun y c e => (okB.exf b hb).2 y c e, fun p hp => absurd (show p ∈ ([] : List (Addr × Obj)) from hp) (by simp)⟩
  have loop : ∀ s3 : Shared, (∃ tk, s3 = { s2 with heap := h₁, toks := tk }) →
      codeAny (model X.prog X.w) X.A (.compLoop (.ListComp elt [⟨.Tuple [.Name x px, .Name y py] kt pt, iter, [], 0⟩] scope pos) 0 (.ref it) (.ref D) Y.env)
        (compPost (model X.prog X.w) X.A X.xe use Q' (.ref D) G.objs.size) s3 := by
    rintro s3 ⟨tk, rfl⟩
    refine LCp.codeAny_compLoop_pair (fun n s' => ∃ i ys o o' H', Inv Y [] (o :: o' :: frV σ fr) H' s' ∧ tn i s'.heap ∧ (∀ b ∈ fp, H' b = none) ∧ W i n ys H') ?_ m0
      ⟨0, [], none, none, H3, I4 tk, T.keep _ _ _ st2 fun b hb o e => old b o (up2 b o e), fun b hb => ?_, w0⟩
    · rintro n s' ⟨i, ys, o, o', H', J', st', fr', w'⟩
      obtain ⟨hD', hgo⟩ := turn i n ys H' w'
      rcases hgo with ⟨stop, qn⟩ | ⟨go, step⟩
      · have Q1 := T.done Y eP eW eK eC i [] s' (o :: o' :: frV σ fr) H' (notedBy (model X.prog X.w) X.A Y.env fun e s'' => compPost (model X.prog X.w) X.A X.xe use Q' (.ref D) G.objs.size (.error e) s'') J' (fpY fr') st' stop
        rw [eA] at Q1
        refine thn Q1 fun r s4 ⟨hr, J4⟩ => ?_
        subst hr
        obtain ⟨m, hn, _⟩ := J4.loc
        rw [eE] at hn
        obtain ⟨os4, u4⟩ := eB J4
        have free4 : H' G.objs.size = none := by have := J4.free; rw [eE] at this; exact this
        have hok4 : HOk X.prog X.w H' s4.heap := by have := J4.hok; rw [eP, eW] at this; exact this
        exact hfin D G.objs.size H' s4 m (I3.call' (ch := fp) (s' := s4) os4 u4 hok4 J4.bare stat0) hn ⟨free4, hCL, .inr hC1, hC2, hC3⟩ qn
      · have Q1 := T.item Y eP eW eK eC i [] s' (o :: o' :: frV σ fr) H' (notedBy (model X.prog X.w) X.A Y.env fun e s'' => compPost (model X.prog X.w) X.A X.xe use Q' (.ref D) G.objs.size (.error e) s'') J' (fpY fr') st' go
        rw [eA] at Q1
        refine thn Q1 fun r s4 ⟨u, hr, h4⟩ => ?_
        subst hr
        refine thn h4 fun _ s5 ⟨v, H5, J5, r5, y5, st5, fr5⟩ => ?_
        have J5' := J5.pinned (fpY fr5) (T.obj _ _ st5)
        obtain ⟨p5, v1, v2, ev5, hp5, step5⟩ := step v _ y5
        have N5 : Y.N.Nodup := by rw [eN]; exact S.nd
        have P1 : PG Y (.Name x px) (gName 0) := pg_name (X := Y) (i := 0) (x := x) (pos := px) N5 (by rw [eN]; rfl) (.inl locX) (.inr locX)
        have P2 : PG Y (.Name y py) (gName 1) := pg_name (X := Y) (i := 1) (x := y) (pos := py) N5 (by rw [eN]; rfl) (.inl locY) (.inr locY)
        have PT : PG Y (.Tuple [.Name x px, .Name y py] kt pt) (gTup Y.K 2 (gCons (gName 0) (gCons (gName 1) gNil))) := pg_tup eC (pgs_cons P1 (pgs_cons P2 pgs_nil))
        have G5 := PT ([] ++ pinsAt fp s5.heap) s5 (o :: o' :: frV σ fr) H5 v u (fun σ6 H6 => σ6 = some v1 :: some v2 :: frV σ fr ∧ H6 = H5) J5' r5 ⟨p5, [v1, v2], ev5, by rw [eK]; exact hp5, rfl, v1, [v2], rfl, v2, [], rfl, rfl, rfl, rfl⟩
        rw [eP, eW, eA, eX] at G5
        refine wpAny_mono G5 (fun _ s6 ⟨σ6, H6, J6, e6, e6'⟩ => ?_) fun _ _ z => z.elim
        subst e6 e6'
        have again : ∀ {s7 : Shared} {H7 : Hp} {zs : List V}, Inv Y ([] ++ pinsAt fp s5.heap) (some v1 :: some v2 :: frV σ fr) H7 s7 → (∃ m', m' < n ∧ W (i + 1) m' zs H7) → ∃ m, m < n ∧ ∃ i ys o o' H', Inv Y [] (o :: o' :: frV σ fr) H' s7 ∧ tn i s7.heap ∧ (∀ b ∈ fp, H' b = none) ∧ W i m ys H' := fun {s7 H7 zs} J7 ⟨m', hm, w7⟩ => by
          refine ⟨m', hm, i + 1, zs, some v1, some v2, H7, J7.unpinned, T.keep _ _ _ st5 fun b hb o e => (J7.pin (b, o) (List.mem_append_right _ (List.mem_append_right _ (mem_pinsAt hb e)))).1, fun b hb => ?_, w7⟩
          obtain ⟨o, e, d⟩ := T.obj _ _ st5 b hb
          exact (J7.pin (b, o) (List.mem_append_right _ (List.mem_append_right _ (mem_pinsAt hb e)))).2.1
        have E7 := hE _ s6 _ _ _ J6 step5
        rw [eP, eW, eA, eX] at E7
        refine wpAny_mono E7 (fun u8 s8 ⟨y8, H8, J8, r8, hD8, hz8, w8⟩ => ?_) fun _ _ z => z.elim
        have A8 := mt_append (X := Y) _ s8 _ H8 (.ref D) [y8] (.ref D) [u8] (fun z H9 => H9 = upd H8 D (.lst (ys ++ [y8]))) J8 rfl (.cons r8 .nil) ⟨D, ys, y8, rfl, rfl, hD8, hz8, rfl⟩
        rw [eP, eW, eA, eX] at A8
        refine wpAny_mono A8 (fun _ s9 ⟨z9, H9, J9, _, e9⟩ => ?_) fun _ _ z => z.elim
        subst e9
        exact again J9 w8
    · rw [← hH3]
      have hbD : b ≠ D := by
        rw [← hD]
        obtain ⟨o, e, _⟩ := T.obj _ _ st2 b hb
        exact Nat.ne_of_lt (Heap.lt_size e)
      rw [upd_ne hbD]
      exact (f2 b hb).1
  rw [eE] at loop
  exact codeAny_compStart_list (loop _ ⟨_, rfl⟩) (T.self _ 0 _ _ _ (T.keep _ _ _ st2 fun b hb o e => old b o (up2 b o e)) (loop _ ⟨_, rfl⟩))
end L2
set_option Elab.async false
set_option linter.all false
set_option maxRecDepth 100000
set_option maxHeartbeats 4000000
namespace L2
open PySem PySem.Spec PyProof.Rows
abbrev Rows := List (Str × Str)
def up (rows : Rows) (n : Str) : Option Str := (rows.find? fun r => decide (r.1 = n)).map (·.2)
def reps (rows : Rows) (t : Str) : List Str := (rows.filter fun r => decide (r.2 = t)).map (·.1)
def rowsK (rows : Rows) : List (Key × V) := rows.map fun r => (Sum.inr r.1, V.str r.2)
def keysT (ns : List Str) : List (Key × V) := ns.map fun n => (Sum.inr n, V.bl true)
def without (rows : Rows) (n : Str) : Rows := rows.filter fun r => decide (r.1 ≠ n)
theorem val_rows (n : Str) : ∀ rows : Rows, valV (rowsK rows) (Sum.inr n) = (up rows n).map V.str
  | [] => rfl
  | r :: rows => by
    show valV ((Sum.inr r.1, V.str r.2) :: rowsK rows) (Sum.inr n) = _
    by_cases h : r.1 = n
    · rw [valV_pos (by rw [h])]
      simp [up, List.find?_cons, h]
    · rw [valV_neg (fun e => h (Sum.inr.inj e)), val_rows n rows]
      simp [up, List.find?_cons, h]
theorem up_mem {rows : Rows} {n a : Str} (h : up rows n = some a) : (n, a) ∈ rows := by
  unfold up at h
  cases e : rows.find? fun r => decide (r.1 = n) with
  | none => rw [e] at h; cases h
  | some r =>
    rw [e] at h
    have h1 := List.find?_some e
    have h2 := List.mem_of_find?_eq_some e
    have e1 : r.1 = n := of_decide_eq_true h1
    have e2 : r.2 = a := Option.some.inj h
    rw [← e1, ← e2]; exact h2
theorem up_none {rows : Rows} {n : Str} : up rows n = none ↔ ¬ n ∈ rows.map (·.1) := by
  unfold up
  rw [Option.map_eq_none_iff, List.find?_eq_none]
  constructor
  · intro h z
    obtain ⟨r, hr, e⟩ := List.mem_map.mp z
    exact h r hr (decide_eq_true e)
  · intro h r hr z
    exact h (List.mem_map.mpr ⟨r, hr, of_decide_eq_true z⟩)
theorem up_some {rows : Rows} {n : Str} (h : n ∈ rows.map (·.1)) : ∃ a, up rows n = some a := by
  cases e : up rows n with
  | none => exact absurd h (up_none.mp e)
  | some a => exact ⟨a, rfl⟩
theorem drop_rows (n : Str) : ∀ rows : Rows, dropK (rowsK rows) (Sum.inr n) = rowsK (without rows n)
  | [] => rfl
  | r :: rows => by
    show dropK ((Sum.inr r.1, V.str r.2) :: rowsK rows) (Sum.inr n) = _
    by_cases h : r.1 = n
    · rw [dropK_pos (by rw [h]), drop_rows n rows]
      simp [without, List.filter_cons, h]
    · rw [dropK_neg (fun e => h (Sum.inr.inj e)), drop_rows n rows]
      simp [without, List.filter_cons, h, rowsK]
theorem drop_keys (n : Str) : ∀ ns : List Str, dropK (keysT ns) (Sum.inr n) = keysT (ns.filter fun m => decide (m ≠ n))
  | [] => rfl
  | m :: ns => by
    show dropK ((Sum.inr m, V.bl true) :: keysT ns) (Sum.inr n) = _
    by_cases h : m = n
    · rw [dropK_pos (by rw [h]), drop_keys n ns]
      simp [List.filter_cons, h]
    · rw [dropK_neg (fun e => h (Sum.inr.inj e)), drop_keys n ns]
      simp [List.filter_cons, h, keysT]
theorem val_keys (n : Str) : ∀ ns : List Str, valV (keysT ns) (Sum.inr n) = if n ∈ ns then some (V.bl true) else none
  | [] => rfl
  | m :: ns => by
    show valV ((Sum.inr m, V.bl true) :: keysT ns) (Sum.inr n) = _
    by_cases h : m = n
    · rw [valV_pos (by rw [h]), if_pos (by rw [h]; exact List.mem_cons_self)]
    · rw [valV_neg (fun e => h (Sum.inr.inj e)), val_keys n ns]
      by_cases h2 : n ∈ ns
      · rw [if_pos h2, if_pos (List.mem_cons_of_mem _ h2)]
      · rw [if_neg h2, if_neg (fun z => (List.mem_cons.mp z).elim (fun e => h e.symm) h2)]
theorem put_rows {rows : Rows} {n a : Str} (h : up rows n = none) : putK (rowsK rows) (Sum.inr n) (.str a) = rowsK (rows ++ [(n, a)]) := by
  rw [putK_new _ (by rw [val_rows, h]; rfl)]
  simp [rowsK]
theorem put_keys {ns : List Str} {n : Str} (h : ¬ n ∈ ns) : putK (keysT ns) (Sum.inr n) (.bl true) = keysT (ns ++ [n]) := by
  rw [putK_new _ (by rw [val_keys, if_neg h])]
  simp [keysT]
theorem reps_snoc (rows : Rows) (n a t : Str) : reps (rows ++ [(n, a)]) t = reps rows t ++ if a = t then [n] else [] := by
  unfold reps
  rw [List.filter_append, List.map_append]
  by_cases h : a = t <;> simp [List.filter_cons, h]
theorem reps_sub {rows : Rows} {t n : Str} (h : n ∈ reps rows t) : n ∈ rows.map (·.1) := by
  obtain ⟨r, hr, e⟩ := List.mem_map.mp h
  exact List.mem_map.mpr ⟨r, (List.mem_filter.mp hr).1, e⟩
theorem reps_without (rows : Rows) (n t : Str) : reps (without rows n) t = (reps rows t).filter fun m => decide (m ≠ n) := by
  unfold reps without
  rw [List.filter_map, List.filter_filter, List.filter_filter]
  congr 1
  refine List.filter_congr fun r _ => ?_
  show (decide (r.2 = t) && decide (r.1 ≠ n)) = (decide (r.1 ≠ n) && decide (r.2 = t))
  rw [Bool.and_comm]
theorem reps_len (rows : Rows) (t : Str) : (reps rows t).length ≤ rows.length := by
  unfold reps
  rw [List.length_map]
  exact List.length_filter_le _ _
theorem one_answer {rows : Rows} {n a b : Str} (nd : (rows.map (·.1)).Nodup) (h1 : (n, a) ∈ rows) (h2 : (n, b) ∈ rows) : a = b := by
  induction rows with
  | nil => cases h1
  | cons r rows ih =>
    rw [List.map_cons, List.nodup_cons] at nd
    rcases List.mem_cons.mp h1 with e1 | h1
    · rcases List.mem_cons.mp h2 with e2 | h2
      · rw [← e2] at e1; exact (Prod.mk.inj e1).2
      · exact absurd (List.mem_map.mpr ⟨_, h2, by rw [← e1]⟩) nd.1
    · rcases List.mem_cons.mp h2 with e2 | h2
      · exact absurd (List.mem_map.mpr ⟨_, h1, by rw [← e2]⟩) nd.1
      · exact ih nd.2 h1 h2
theorem not_reps {rows : Rows} {n a t : Str} (nd : (rows.map (·.1)).Nodup) (h : up rows n = some a) (ht : t ≠ a) : ¬ n ∈ reps rows t := fun z => by
  obtain ⟨r, hr, e⟩ := List.mem_map.mp z
  obtain ⟨h1, h2⟩ := List.mem_filter.mp hr
  have e2 : r.2 = t := of_decide_eq_true h2
  have : (n, t) ∈ rows := by rw [← e, ← e2]; exact h1
  exact ht (one_answer nd this (up_mem h))
theorem filter_not {l : List Str} {n : Str} (h : ¬ n ∈ l) : (l.filter fun m => decide (m ≠ n)) = l := List.filter_eq_self.mpr fun m hm => decide_eq_true fun e => h (e ▸ hm)
theorem in_reps {rows : Rows} {n a : Str} (h : up rows n = some a) : n ∈ reps rows a := List.mem_map.mpr ⟨(n, a), List.mem_filter.mpr ⟨up_mem h, decide_eq_true rfl⟩, rfl⟩
theorem without_nd {rows : Rows} {n : Str} (nd : (rows.map (·.1)).Nodup) : ((without rows n).map (·.1)).Nodup := by
  unfold without
  exact List.Nodup.sublist (List.Sublist.map _ List.filter_sublist) nd
theorem snoc_nd {rows : Rows} {n a : Str} (nd : (rows.map (·.1)).Nodup) (h : up rows n = none) : ((rows ++ [(n, a)]).map (·.1)).Nodup := by
  rw [List.map_append]
  refine List.nodup_append.mpr ⟨nd, by simp, fun x hx y hy e => ?_⟩
  have : y = n := by simpa using hy
  rw [e, this] at hx
  exact up_none.mp h hx
def chain (rows : Rows) : Nat → List Str → List Str
  | 0, met => met
  | k + 1, met => match up rows (met.getLastD "") with
    | some a => if a ∈ rows.map (·.1) ∧ ¬ a ∈ met then chain rows k (met ++ [a]) else met
    | none => met
def depthOf (rows : Rows) (n : Str) : Int := ((chain rows rows.length [n]).length : Int) - 1
theorem chain_go {rows : Rows} {met : List Str} {a : Str} {k : Nat} (h : up rows (met.getLastD "") = some a) (h1 : a ∈ rows.map (·.1)) (h2 : ¬ a ∈ met) : chain rows (k + 1) met = chain rows k (met ++ [a]) := by
  conv => lhs; unfold chain
  rw [h]
  simp only [if_pos (And.intro h1 h2)]
theorem chain_end {rows : Rows} {met : List Str} {a : Str} {k : Nat} (h : up rows (met.getLastD "") = some a) (h1 : ¬ (a ∈ rows.map (·.1) ∧ ¬ a ∈ met)) : chain rows (k + 1) met = met := by
  unfold chain
  rw [h]
  exact if_neg h1
theorem nodup_le : ∀ {ms l : List Str}, ms.Nodup → (∀ m ∈ ms, m ∈ l) → ms.length ≤ l.length
  | [], _, _, _ => Nat.zero_le _
  | m :: ms, l, nd, h => by
    obtain ⟨h1, h2⟩ := List.nodup_cons.mp nd
    have hm := h m List.mem_cons_self
    have e := List.length_erase_of_mem hm
    have hp := List.length_pos_of_mem hm
    have := nodup_le (l := l.erase m) h2 fun x hx => (List.mem_erase_of_ne (a := x) (b := m) (fun z => h1 (by rw [← z]; exact hx))).mpr (h x (List.mem_cons_of_mem _ hx))
    rw [List.length_cons]
    omega
/-- on the way: met is the way so far, a what its last one answers -/
structure OnWay (rows : Rows) (n : Str) (met : List Str) (a : Str) : Prop where
  nd : met.Nodup
  sub : ∀ m ∈ met, m ∈ rows.map (·.1)
  last : up rows (met.getLastD "") = some a
  ne : met ≠ []
  way : chain rows (rows.length + 1 - met.length) met = chain rows rows.length [n]
theorem OnWay.len {rows : Rows} {n : Str} {met : List Str} {a : Str} (w : OnWay rows n met a) : 1 ≤ met.length ∧ met.length ≤ rows.length := by
  have h1 := nodup_le w.nd w.sub
  rw [List.length_map] at h1
  exact ⟨List.length_pos_iff.mpr w.ne, h1⟩
theorem OnWay.start {rows : Rows} {n a : Str} (h : up rows n = some a) : OnWay rows n [n] a :=
  ⟨by simp, fun m hm => by rw [List.mem_singleton.mp hm]; exact List.mem_map.mpr ⟨_, up_mem h, rfl⟩, h, by simp, rfl⟩
theorem OnWay.step {rows : Rows} {n : Str} {met : List Str} {a b : Str} (w : OnWay rows n met a) (h1 : up rows a = some b) (h2 : ¬ a ∈ met) : OnWay rows n (met ++ [a]) b := by
  have hl := w.len
  have ha : a ∈ rows.map (·.1) := List.mem_map.mpr ⟨_, up_mem h1, rfl⟩
  have e := chain_go (k := rows.length - met.length) w.last ha h2
  refine ⟨List.nodup_append.mpr ⟨w.nd, by simp, fun x hx y hy z => ?_⟩, fun m hm => ?_, ?_, by simp, ?_⟩
  · have : y = a := by simpa using hy
    rw [z, this] at hx; exact h2 hx
  · rcases List.mem_append.mp hm with z | z
    · exact w.sub m z
    · rw [List.mem_singleton.mp z]; exact ha
  · rw [List.getLastD_concat]; exact h1
  · rw [← w.way, List.length_append, List.length_singleton, show rows.length + 1 - (met.length + 1) = rows.length - met.length by omega, ← e, show rows.length - met.length + 1 = rows.length + 1 - met.length by omega]
theorem OnWay.stop {rows : Rows} {n : Str} {met : List Str} {a : Str} (w : OnWay rows n met a) (h : ¬ (a ∈ rows.map (·.1) ∧ ¬ a ∈ met)) : (met.length : Int) - 1 = depthOf rows n := by
  have hl := w.len
  have e := chain_end (k := rows.length - met.length) w.last h
  unfold depthOf
  rw [← w.way, show rows.length + 1 - met.length = rows.length - met.length + 1 by omega, e]
/-- all but dicts stays -/
def Kp1 (H H' : Hp) : Prop := ∀ c o, H c = some o → (∀ kvs, o ≠ .dK kvs) → H' c = some o
/-- all but lists stays -/
def Kp2 (H H' : Hp) : Prop := ∀ c o, H c = some o → (∀ xs, o ≠ .lst xs) → H' c = some o
theorem Same.kp1 {H H' : Hp} (s : Same H H') : Kp1 H H' := fun c o e _ => s c o e
theorem Same.kp2 {H H' : Hp} (s : Same H H') : Kp2 H H' := fun c o e _ => s c o e
theorem Kp1.trans {H H1 H2 : Hp} (a : Kp1 H H1) (b : Kp1 H1 H2) : Kp1 H H2 := fun c o e n => b c o (a c o e n) n
theorem Kp2.trans {H H1 H2 : Hp} (a : Kp2 H H1) (b : Kp2 H1 H2) : Kp2 H H2 := fun c o e n => b c o (a c o e n) n
theorem Kp1.refl (H : Hp) : Kp1 H H := fun _ _ e _ => e
theorem Kp2.refl (H : Hp) : Kp2 H H := fun _ _ e _ => e
theorem Kp1.upd {H : Hp} {p : Addr} {kvs kvs' : List (Key × V)} (h : H p = some (.dK kvs)) : Kp1 H (upd H p (.dK kvs')) := fun c o e n => by
  by_cases z : c = p
  · rw [z, h] at e; cases e; exact absurd rfl (n kvs)
  · rw [upd_ne z]; exact e
theorem Kp2.upd {H : Hp} {p : Addr} {xs xs' : List V} (h : H p = some (.lst xs)) : Kp2 H (upd H p (.lst xs')) := fun c o e n => by
  by_cases z : c = p
  · rw [z, h] at e; cases e; exact absurd rfl (n xs)
  · rw [upd_ne z]; exact e
end L2
set_option Elab.async false
set_option linter.all false
set_option maxRecDepth 100000
set_option maxHeartbeats 4000000
namespace L2
open PySem PySem.Spec PyProof.Rows
theorem rep_list (x : Str) : ∀ (n : Nat) (acc : Array Nat), ((List.replicate n x.cps).foldl (· ++ ·) acc).toList = acc.toList ++ (List.replicate n x.cps.toList).flatten
  | 0, acc => by simp
  | n + 1, acc => by
    rw [List.replicate_succ, List.foldl_cons, rep_list x n (acc ++ x.cps), List.replicate_succ, List.flatten_cons, Array.toList_append, List.append_assoc]
theorem mul_signs (x : Str) (n : Int) : (Txt.mul x n).cps.toList = (List.replicate n.toNat x.cps.toList).flatten := by
  unfold Txt.mul
  by_cases h : n < 1
  · rw [if_pos h, show n.toNat = 0 by omega]; rfl
  · rw [if_neg h]
    split
    · rename_i h2
      rw [Bool.or_eq_true] at h2
      rcases h2 with h2 | h2
      · have : n = 1 := by simpa using h2
        rw [this]
        show _ = (List.replicate 1 x.cps.toList).flatten
        simp
      · have h3 : x.cps.toList = [] := List.eq_nil_of_length_eq_zero (by rw [← len_list]; simpa using h2)
        rw [h3]
        simp
    · show ((List.replicate n.toNat x.cps).foldl (· ++ ·) #[]).toList = _
      rw [rep_list]; rfl
theorem mul_len (x : Str) (n : Int) : (Txt.mul x n).length = n.toNat * x.length := by
  rw [len_list, mul_signs, len_list, List.length_flatten]
  simp
theorem mul_mem {x : Str} {n : Int} {c : Nat} (h : c ∈ (Txt.mul x n).cps.toList) : c ∈ x.cps.toList := by
  rw [mul_signs] at h
  obtain ⟨l, h1, h2⟩ := List.mem_flatten.mp h
  rw [(List.mem_replicate.mp h1).2] at h2
  exact h2
inductive rMulS_I (x : V) (y : V) (H : Hp) (Q : VK) : Prop
  | mk : ∀ (s : Str) (n : Int), x = .str s → y = .int n → s.length ≤ 100 → -1000 ≤ n → n ≤ 1000 → Q (.str (Txt.mul s n)) H → rMulS_I x y H Q
def rMulS : R2 := fun x y H Q => rMulS_I x y H Q
theorem op_mul_str {X : Cx} : OpR X (binaryOp .Mult) rMulS := by
  intro pins s σ H x y v u Q I rx ry h
  obtain ⟨z, n, rfl, rfl, hz, h0, h1, q⟩ := h
  obtain ⟨t, rfl⟩ := rx
  obtain ⟨t', rfl⟩ := ry
  refine SB.mul ⟨?_, fun hn _ => ?_, fun hn _ => ?_⟩ fun t' k => ⟨.str _, H, I.tok _, ⟨_, rfl⟩, q⟩
  · rw [Bool.or_eq_false_iff]
    exact ⟨decide_eq_false (by omega), decide_eq_false (by omega)⟩
  · have h4 : (z.length : Int) * n ≤ 100 * 1000 := Int.mul_le_mul (by omega) h1 (by omega) (by decide)
    have h5 : (z.length : Int) ≤ (2 ^ 63 - 1) / n := Int.le_ediv_of_mul_le (by omega) (Int.le_trans h4 (by decide))
    omega
  · have h2 : z.length * n.toNat ≤ 100 * 1000 := Nat.mul_le_mul hz (by omega)
    have h3 : 100 * 1000 ≤ sizeLine := by decide
    unfold Builtin.Str.tooLong
    exact decide_eq_false (by omega)
theorem atI_lastD {α : Type} (f : α → V) (l : List α) (d : α) (h : l ≠ []) : atI (l.map f) (-1) = some (f (l.getLastD d)) := by
  have hl : 0 < l.length := List.length_pos_iff.mpr h
  have e : l.getLastD d = l.getLast h := by
    rw [List.getLastD_eq_getLast?, List.getLast?_eq_some_getLast h]; rfl
  rw [e]
  have e2 : ixN (l.map f).length (-1) = some (l.length - 1) := by
    unfold ixN
    rw [if_neg (by decide), List.length_map]
    first
      | (rw [if_pos (by omega)]; congr 1; omega)
      | (simp; omega)
  unfold atI
  rw [e2]
  show (l.map f)[l.length - 1]? = _
  rw [List.getElem?_map, List.getElem?_eq_getElem (by omega), List.getLast_eq_getElem h]
  rfl
def RowsAt (H : Hp) (r : Addr) (prs : List (Addr × Str × Str)) : Prop := H r = some (.lst (prs.map fun q => V.ref q.1)) ∧ ∀ q ∈ prs, H q.1 = some (.tup [.str q.2.1, .str q.2.2])
theorem RowsAt.same {H H' : Hp} {r : Addr} {prs : List (Addr × Str × Str)} (h : RowsAt H r prs) (s : Same H H') : RowsAt H' r prs := ⟨s _ _ h.1, fun q hq => s _ _ (h.2 q hq)⟩
theorem RowsAt.kp1 {H H' : Hp} {r : Addr} {prs : List (Addr × Str × Str)} (h : RowsAt H r prs) (s : Kp1 H H') : RowsAt H' r prs := ⟨s _ _ h.1 (fun _ z => nomatch z), fun q hq => s _ _ (h.2 q hq) (fun _ z => nomatch z)⟩
end L2
set_option Elab.async false
set_option linter.all false
set_option maxRecDepth 100000
set_option maxHeartbeats 4000000
namespace L2
open PySem PySem.Spec PyProof.Rows
abbrev PRow := Addr × Str × Str
def rowD (q : PRow) : PyData := .tuple [.str q.2.1, .str q.2.2]
def AscR (prs : List PRow) : Prop := ∀ q ∈ prs, Asc q.2.1 ∧ Asc q.2.2 ∧ q.2.1.length ≤ 1000
theorem row_shaped {q : PRow} (h : Asc q.2.1 ∧ Asc q.2.2 ∧ q.2.1.length ≤ 1000) : SeqAt.shaped (rowD q) = true := by
  simp [rowD, SeqAt.shaped, PyData.canLay0, PyData.canLayAll0, PyData.depth, PyData.depthAll, h.1.ok, h.2.1.ok]
theorem rd_row {K : PySem.W.Frag} {H : Hp} {q : PRow} (h : H q.1 = some (.tup [.str q.2.1, .str q.2.2])) : RD K H (.ref q.1) (rowD q) := .tup (SqT.of h) (.cons (.str _) (.cons (.str _) .nil))
theorem rds_rows {K : PySem.W.Frag} {H : Hp} : ∀ {prs : List PRow}, (∀ q ∈ prs, H q.1 = some (.tup [.str q.2.1, .str q.2.2])) → RDs K H (prs.map fun q => V.ref q.1) (prs.map rowD)
  | [], _ => .nil
  | q :: prs, h => .cons (rd_row (h q List.mem_cons_self)) (rds_rows fun z hz => h z (List.mem_cons_of_mem _ hz))
theorem lay_rows : ∀ {prs : List PRow}, AscR prs → PyData.canLayAll0 (prs.map rowD) = true ∧ PyData.depthAll (prs.map rowD) ≤ 1
  | [], _ => ⟨rfl, Nat.zero_le _⟩
  | q :: prs, h => by
    have ih := lay_rows (prs := prs) fun z hz => h z (List.mem_cons_of_mem _ hz)
    have hq := h q List.mem_cons_self
    refine ⟨by simp [rowD, PyData.canLayAll0, PyData.canLay0, hq.1.ok, hq.2.1.ok, ih.1], ?_⟩
    have h2 := ih.2
    simp only [List.map_cons, PyData.depthAll, rowD, PyData.depth]
    omega
def shownS (xs : List Str) : Str := (PyData.list (xs.map PyData.str)).shown
theorem textFrom_up {m : Nat} : ∀ (ts : List Str) (k : Nat) (acc : Str), (∀ t ∈ ts, t.length ≤ m) → (textFrom k acc ts).length ≤ acc.length + ts.length * (m + 2)
  | [], k, acc, _ => by show acc.length ≤ _; omega
  | t :: r, k, acc, h => by
    have ih := textFrom_up r (k + 1) (acc ++ (if k > 0 then ", " else "" : String) ++ t) fun z hz => h z (List.mem_cons_of_mem _ hz)
    have ht := h t List.mem_cons_self
    have e : (textFrom k acc (t :: r)) = textFrom (k + 1) (acc ++ (if k > 0 then ", " else "" : String) ++ t) r := rfl
    have e2 : ((if k > 0 then ", " else "" : String) : Str).length ≤ 2 := by
      by_cases z : k > 0
      · rw [if_pos z]; decide +kernel
      · rw [if_neg z]; decide +kernel
    rw [e]
    rw [cat_len, cat_len] at ih
    rw [List.length_cons, Nat.succ_mul]
    omega
theorem showable_strs : ∀ xs : List Str, PyData.showableAll (xs.map PyData.str) = true
  | [] => rfl
  | x :: xs => by rw [List.map_cons, PyData.showableAll, showable_strs xs]; rfl
theorem hasDict_strs : ∀ xs : List Str, PyData.hasDictAll (xs.map PyData.str) = false
  | [] => rfl
  | x :: xs => by rw [List.map_cons, PyData.hasDictAll, hasDict_strs xs]; rfl
/-- the lists that were told and what repr said of them -/
abbrev HRow := Addr × Addr × List Str
structure HeldAt (r h : Addr) (H : Hp) (hd : List HRow) : Prop where
  l_ : H h = some (.lst (hd.map fun q => V.ref q.1))
  hr : h ≠ r
  t_ : ∀ q ∈ hd, H q.1 = some (.tup [.ref q.2.1, .str (shownS q.2.2)])
  x_ : ∀ q ∈ hd, H q.2.1 = some (.lst (q.2.2.map V.str)) ∧ q.2.1 ≠ h ∧ q.2.1 ≠ r
  b_ : ∀ q ∈ hd, q.2.2.length ≤ 40 ∧ ∀ x ∈ q.2.2, Asc x ∧ x.length ≤ 1000
theorem HeldAt.same {r h : Addr} {H H' : Hp} {hd : List HRow} (a : HeldAt r h H hd) (s : Same H H') : HeldAt r h H' hd := ⟨s _ _ a.l_, a.hr, fun q hq => s _ _ (a.t_ q hq), fun q hq => ⟨s _ _ (a.x_ q hq).1, (a.x_ q hq).2⟩, a.b_⟩
/-- all but the list at h stays -/
def KpH (h : Addr) (H H' : Hp) : Prop := ∀ c o, c ≠ h → H c = some o → H' c = some o
theorem KpH.trans {h : Addr} {H H1 H2 : Hp} (a : KpH h H H1) (b : KpH h H1 H2) : KpH h H H2 := fun c o n e => b c o n (a c o n e)
theorem KpH.kp2 {h : Addr} {H H' : Hp} {xs : List V} (k : KpH h H H') (e : H h = some (.lst xs)) : Kp2 H H' := fun c o e1 n => k c o (fun z => by rw [z, e] at e1; cases e1; exact n _ rfl) e1
end L2
set_option Elab.async false
set_option linter.all false
set_option maxRecDepth 100000
set_option maxHeartbeats 4000000
namespace L2
open PySem PySem.Spec PyProof.Rows
section
variable {X : Cx} {pins : List (Addr × Obj)} {σ : St} {H : Hp} {s : Shared} {a : Addr} {oa : Obj} {kvs : List (Key × V)}
theorem Inv.freeze (I : Inv X pins σ H s) (e : H a = some (.dK kvs)) : ∃ oa, Inv X pins σ (upd H a (.frz oa (.dK kvs))) s := by
  obtain ⟨z, y, vs, r, ob, es, ep, eo, c⟩ := (show ObjOk X.prog X.w H s.heap a (.dK kvs) from I.hok a _ e)
  exact ⟨ob, I.write (x := a) (e := a) (o := .frz ob (.dK kvs)) (t' := s.toks) (h' := s.heap) (by rw [e]; exact True.intro) (.inl rfl) (fun _ _ _ q => q) ⟨ob, eo⟩ ⟨eo, z, y, vs, r, ob, es, ep, eo, c⟩⟩
theorem Inv.thaw (I : Inv X pins σ H s) (nf : ∀ o u, X.H₀ a ≠ some (.frz o u)) (e : H a = some (.frz oa (.dK kvs))) : Inv X pins σ (upd H a (.dK kvs)) s := by
  have ne0 : ∀ b, H b = none → b ≠ a := fun b n z => by rw [z, e] at n; cases n
  have ne1 : ∀ b o, H b = some o → o ≠ .frz oa (.dK kvs) → b ≠ a := fun b o q n z => by rw [z, e] at q; cases q; exact n rfl
  obtain ⟨_, okd⟩ := (show ObjOk X.prog X.w H s.heap a (.frz oa (.dK kvs)) from I.hok a _ e)
  refine ⟨I.ok, I.os, I.bare, ⟨I.base.keep, I.base.slot, fun b o q n hx => ?_, I.base.there, fun b xs q => ?_, fun b o u q => ?_, fun b ps q => ?_⟩, I.loc, I.cell, ?_, fun x c q => ?_, fun p hp => ?_, fun b u q => ?_, I.len⟩
  · have := I.base.free b o q n hx
    rw [upd_ne (ne0 b this)]; exact this
  · have := I.base.tups b xs q
    rw [upd_ne (ne1 b _ this (fun z => by cases z))]; exact this
  · have hb : b ≠ a := fun z => nf o u (by rw [← z]; exact q)
    rw [upd_ne hb]; exact I.base.frzs b o u q
  · obtain ⟨m, h⟩ := I.base.tbls b ps q
    exact ⟨m, by rw [upd_ne (ne1 b _ h (fun z => by cases z))]; exact h⟩
  · rw [upd_ne (ne0 _ I.free)]; exact I.free
  · rw [upd_ne (ne0 _ (I.freeC x c q))]; exact I.freeC x c q
  · obtain ⟨h1, h2, h3⟩ := I.pin p hp
    exact ⟨h1, by rw [upd_ne (ne0 _ h2)]; exact h2, h3⟩
  · by_cases hb : b = a
    · subst hb
      rw [upd_same] at q
      cases q
      exact ObjOk.stay (show ObjOk X.prog X.w H s.heap b (.dK kvs) from okd) (fun _ _ _ z => z) (fun c z => by rw [upd_ne (ne1 c _ z (fun y => by cases y))]; exact z) fun c xs z => by rw [upd_ne (ne1 c _ z (fun y => by cases y))]; exact z
    · rw [upd_ne hb] at q
      exact (I.hok b u q).stay (fun _ _ _ z => z) (fun c z => by rw [upd_ne (ne1 c _ z (fun y => by cases y))]; exact z) fun c xs z => by rw [upd_ne (ne1 c _ z (fun y => by cases y))]; exact z
end
def thawD (a : Addr) (oa : Obj) (kvs : List (Key × V)) (D : Ends) : Ends :=
  { nx := fun σ H => H a = some (.frz oa (.dK kvs)) ∧ D.nx σ (upd H a (.dK kvs)), rt := fun v H => H a = some (.frz oa (.dK kvs)) ∧ D.rt v (upd H a (.dK kvs)),
    bk := fun σ H => H a = some (.frz oa (.dK kvs)) ∧ D.bk σ (upd H a (.dK kvs)), ct := fun σ H => H a = some (.frz oa (.dK kvs)) ∧ D.ct σ (upd H a (.dK kvs)) }
inductive tFast_I (ts : TS) (D : Ends) (σ : St) (H : Hp) : Prop
  | mk : ∀ a kvs, H a = some (.dK kvs) → (∀ oa, ts (thawD a oa kvs D) σ (upd H a (.frz oa (.dK kvs)))) → tFast_I ts D σ H
def tFast (ts : TS) : TS := fun D σ H => tFast_I ts D σ H
/-- a statement while a dict that is there is held fast -/
theorem ps_fast {X : Cx} {st : Stmt} {ts : TS} (hb : PS X st ts) : PS X st (tFast ts) := by
  rintro pins s σ H D I ⟨a, kvs, e, h⟩
  obtain ⟨oa, J⟩ := I.freeze e
  have nf : ∀ o u, X.H₀ a ≠ some (.frz o u) := fun o u z => by have := I.base.frzs a o u z; rw [e] at this; cases this
  refine thn (hb pins s σ _ _ J (h oa)) fun f s' q => ?_
  cases f with
  | next => obtain ⟨σ7, H7, I7, n7⟩ := q; exact ⟨σ7, _, I7.thaw nf n7.1, n7.2⟩
  | cont => obtain ⟨σ7, H7, I7, n7⟩ := q; exact ⟨σ7, _, I7.thaw nf n7.1, n7.2⟩
  | brk => obtain ⟨σ7, H7, I7, n7⟩ := q; exact ⟨σ7, _, I7.thaw nf n7.1, n7.2⟩
  | ret v => obtain ⟨x7, σ7, H7, I7, r7, n7⟩ := q; exact ⟨x7, σ7, _, I7.thaw nf n7.1, r7, n7.2⟩
/-- the keys of a dict that is held fast, one by one -/
def Itd (a : Addr) (oa : Obj) (kvs : List (Key × V)) : It := ⟨fun i H => H a = some (.frz oa (.dK kvs)) ∧ i < kvs.length, fun i H x H' => H' = H ∧ ∃ kv, kvs[i]? = some kv ∧ x = kV kv.1, fun i H => H a = some (.frz oa (.dK kvs)) ∧ kvs.length ≤ i⟩
theorem fast_of {P : Program} {w : World} {H : Hp} {h : Heap} {a : Addr} {oa : Obj} {kvs : List (Key × V)} (ok : HOk P w H h) (e : H a = some (.frz oa (.dK kvs))) :
    (a == sysModules) = false ∧ ∃ vs es ep, KV kvs vs ∧ oa.data = .dict es ep ∧ h.DictAt (mixKind P w) a vs ep := by
  obtain ⟨e1, z, y, vs, r, ob, es, ep, eo, c1, c2, c3⟩ := (show ObjOk P w H h a (.frz oa (.dK kvs)) from ok a _ e)
  rw [e1] at eo
  cases eo
  exact ⟨y, vs, es, ep, r, c2, oa, es, e1, c1, c2, c3⟩
theorem rel_key {P : Program} {w : World} {k : Key} {u : Value} (e : (mixKind P w).is k u = true) : RelV (kV k) u := by
  rcases keyIs_shape (show keyIs k u = true from e) with ⟨i, t, rfl, rfl⟩ | ⟨z, t, rfl, rfl⟩
  · exact ⟨t, rfl⟩
  · exact ⟨t, rfl⟩
theorem turn_dict {P : Program} {w : World} {K : PySem.W.Frag} {tg : Expr} (a it : Addr) (oa : Obj) (kvs : List (Key × V)) (es : Array DictEntry) (ep : Nat) (hd : oa.data = .dict es ep) : Turn P w K tg (Itd a oa kvs) [it] it (fun i h => h.IsKeyIter it a i kvs.length ep) where
  mem := by simp
  obj := fun i h st b hb => by
    have e : b = it := by simpa using hb
    subst e
    obtain ⟨o, e, c, d⟩ := st
    exact ⟨o, e, fun v z => by rw [d] at z; cases z⟩
  keep := fun i h h' st k => by
    obtain ⟨o, e, c⟩ := st
    exact ⟨o, k it (by simp) o e, c⟩
  item := by
    intro X hP hw hK hc i pins s σ H E I hf st hg
    subst hP hw hK
    obtain ⟨hH, hlt⟩ := hg
    obtain ⟨_, vs, es', ep', rv, hd', hm⟩ := fast_of I.hok hH
    rw [hd] at hd'
    cases hd'
    have hl := KV.length rv
    have st0 : s.heap.IsKeyIter it a i vs.length ep := by rw [← hl]; exact st
    obtain ⟨f0, f1, f2, f3, f4, f5⟩ := hf it (by simp)
    refine wpAny_pyNext_dict_item (k := (vs[i]'(by omega)).1) (v := (vs[i]'(by omega)).2) st0 hm (List.getElem?_eq_getElem (by omega)) fun key h' hk st' sb => ?_
    have I1 : Inv X pins σ H { s with heap := h' } := I.turned (t' := s.toks) (fun b o hb e => (sb.2 b hb).trans e) f0 f1 f3 f4 f5
    have ek : kvs[i].1 = (vs[i]'(by omega)).1 := KV.at rv (List.getElem?_eq_getElem hlt) (List.getElem?_eq_getElem (by omega))
    rw [← hl] at st'
    obtain ⟨o, e, c, d⟩ := id st'
    exact ⟨key, rfl, go_of (s := { s with heap := h' }) e c d (by decide) ⟨kV kvs[i].1, H, I1, by rw [ek]; exact rel_key hk, ⟨rfl, kvs[i], List.getElem?_eq_getElem hlt, rfl⟩, st', fun b hb => (hf b hb).1⟩⟩
  done := by
    intro X hP hw hK hc i pins s σ H E I hf st hg
    subst hP hw hK
    obtain ⟨hH, hge⟩ := hg
    obtain ⟨_, vs, es', ep', rv, hd', hm⟩ := fast_of I.hok hH
    rw [hd] at hd'
    cases hd'
    have hl := KV.length rv
    have st0 : s.heap.IsKeyIter it a i vs.length ep := by rw [← hl]; exact st
    obtain ⟨f0, f1, f2, f3, f4, f5⟩ := hf it (by simp)
    exact wpAny_pyNext_dict_end (I.ok.hd hc) st0 hm (List.getElem?_eq_none (by omega)) fun h' eb => ⟨rfl, I.turned (t' := s.toks) (fun b o hb e => eb b o hb e) f0 f1 f3 f4 f5⟩
  self := fun _ _ _ _ _ st h => wpAny_pyIter_keyiter st h
inductive iDict_I (R : (It → Hp → Prop)) (x : V) (H1 : Hp) : Prop
  | mk : ∀ a oa kvs, x = .ref a → H1 a = some (.frz oa (.dK kvs)) → R (Itd a oa kvs) H1 → iDict_I R x H1
def iDict (tl : TE) : TI := fun σ H R => tl σ H fun x H1 => iDict_I R x H1
/-- for k in d, d held fast -/
theorem pi_dict {X : Cx} {tg l : Expr} {tl : TE} (hl : PE X l tl) : PI X tg l (iDict tl) := by
  intro pins s σ H R I h
  refine thn (hl pins s σ H _ I h) fun v s1 ⟨x, H1, I1, r1, q1⟩ => ?_
  obtain ⟨a, oa, kvs, e, hH, q⟩ := q1
  subst e
  cases r1
  obtain ⟨hlo, vs, es, ep, rv, hd, hm⟩ := fast_of I1.hok hH
  have hl := KV.length rv
  refine wpAny_pyIter_dict hlo hm ?_
  refine ⟨s1.heap.objs.size, [s1.heap.objs.size], _, _, H1, rfl, I1.kept (t' := s1.toks) fun b o e => Heap.get?_push_of_some _ e, turn_dict a _ oa kvs es ep hd, ⟨_, Heap.get?_push_size _ rfl, rfl, by rw [hl]; rfl⟩, fun b hb => ?_, q⟩
  have e : b = s1.heap.objs.size := by simpa using hb
  subst e
  exact I1.fpOk (Nat.le_refl _) (I1.hok.fresh (Nat.le_refl _))
/-- [f(k) for k in d if p(k)], p and f changing nothing -/
theorem comp_dictFM {a : Addr} {oa : Obj} {kvs : List (Key × V)} {α : Type} {xs : List α} {fr : List (Nat × Str)} {tt : TT} {te : TE} {σ : St} {H1 : Hp} {Q : VK} (g : α → V) (pr : α → Bool) (f : α → V) (hz : xs.length ≤ sizeLine) (hS : H1 a = some (.frz oa (.dK kvs))) (hk : kvs.map (fun kv => kV kv.1) = xs.map g)
    (htt : ∀ (x : α) (H3 : Hp) (Q' : Bool → Hp → Prop), x ∈ xs → Same H1 H3 → Q' (pr x) H3 → tt (some (g x) :: frV σ fr) H3 Q')
    (hte : ∀ (x : α) (H3 : Hp) (Q' : VK), x ∈ xs → Same H1 H3 → pr x = true → Q' (f x) H3 → te (some (g x) :: frV σ fr) H3 Q')
    (hQ : ∀ D, H1 D = none → Q (.ref D) (upd H1 D (.lst ((xs.filter pr).map f)))) :
    compGoal (Itd a oa kvs) fr tt te σ H1 Q := by
  have hl : kvs.length = xs.length := by have := congrArg List.length hk; simpa using this
  unfold compGoal
  intro D hD
  refine ⟨fun i m ys H2 => m = xs.length - i ∧ i ≤ xs.length ∧ ys = ((xs.take i).filter pr).map f ∧ H2 = upd H1 D (.lst ys), ⟨xs.length, by simp, Nat.zero_le _, by simp, rfl⟩, ?_⟩
  rintro i m ys H2 ⟨rfl, hi, rfl, rfl⟩
  refine ⟨upd_same, ?_⟩
  have s1 : Same H1 (upd H1 D (.lst (((xs.take i).filter pr).map f))) := Same.upd_new hD
  have hS2 := s1 _ _ hS
  by_cases hlt : i < xs.length
  · have hx0 : (xs.map g)[i]? = some (g xs[i]) := by rw [List.getElem?_map, List.getElem?_eq_getElem hlt]; rfl
    refine .inr ⟨⟨hS2, by omega⟩, ?_⟩
    rintro v H3 ⟨rfl, kv, hkv, rfl⟩
    have hx : (xs.map g)[i]? = some (kV kv.1) := by rw [← hk, List.getElem?_map, hkv]; rfl
    rw [hx0] at hx
    have hx := Option.some.inj hx
    rw [← hx]
    have hm : xs[i] ∈ xs := List.getElem_mem hlt
    have et : xs.take (i + 1) = xs.take i ++ [xs[i]] := by rw [List.take_add_one, List.getElem?_eq_getElem hlt]; rfl
    refine htt xs[i] _ _ hm s1 ?_
    cases hp : pr xs[i]
    · refine iteF ⟨xs.length - (i + 1), by omega, rfl, hlt, ?_, rfl⟩
      rw [et, List.filter_append, List.filter_cons, hp]
      simp
    · refine iteT (hte xs[i] _ _ hm s1 hp ⟨upd_same, ?_, xs.length - (i + 1), by omega, rfl, hlt, ?_, upd_upd⟩)
      · have := List.length_filter_le pr (xs.take i)
        rw [List.length_take] at this
        rw [List.length_map]
        omega
      · rw [et, List.filter_append, List.filter_cons, hp, List.map_append]
        simp
  · have e : i = xs.length := by omega
    subst e
    refine .inl ⟨⟨hS2, by omega⟩, ?_⟩
    have := hQ D hD
    rw [List.take_length]
    exact this
end L2
set_option Elab.async false
set_option linter.all false
set_option maxRecDepth 100000
set_option maxHeartbeats 4000000
namespace L2
open PySem PySem.Spec PyProof.Rows
def upL (rows : Rows) (n : Str) : List Str := match up rows n with
  | some a => if a = "" then [] else [a]
  | none => []
def nbr (rows : Rows) (n : Str) : List Str := reps rows n ++ upL rows n
inductive Rch (rows : Rows) (n : Str) : Str → Prop
  | refl : Rch rows n n
  | step {m k : Str} : Rch rows n m → k ∈ nbr rows m → Rch rows n k
theorem mem_upL {rows : Rows} {n k : Str} : k ∈ upL rows n ↔ up rows n = some k ∧ k ≠ "" := by
  unfold upL
  cases up rows n with
  | none => simp
  | some a =>
    by_cases h : a = ""
    · subst h
      simp
      intro e; exact e.symm
    · simp [h]
      constructor
      · rintro rfl; exact ⟨rfl, h⟩
      · rintro ⟨e, _⟩; exact e.symm
theorem mem_reps {rows : Rows} {t n : Str} (nd : (rows.map (·.1)).Nodup) : n ∈ reps rows t ↔ up rows n = some t := by
  constructor
  · intro h
    obtain ⟨r, hr, e⟩ := List.mem_map.mp h
    obtain ⟨h1, h2⟩ := List.mem_filter.mp hr
    have e2 : r.2 = t := of_decide_eq_true h2
    obtain ⟨a, ea⟩ := up_some (List.mem_map.mpr ⟨r, h1, e⟩)
    have : (n, t) ∈ rows := by rw [← e, ← e2]; exact h1
    rw [ea, one_answer nd (up_mem ea) this]
  · exact in_reps
/-- names are no empty texts -/
def NoE (rows : Rows) : Prop := ∀ n : Str, n ∈ rows.map (·.1) → n ≠ ""
theorem nbr_sym {rows : Rows} (nd : (rows.map (·.1)).Nodup) {m k : Str} (hm : m ≠ "") (h : k ∈ nbr rows m) : m ∈ nbr rows k := by
  rcases List.mem_append.mp h with h | h
  · exact List.mem_append_right _ (mem_upL.mpr ⟨(mem_reps nd).mp h, hm⟩)
  · exact List.mem_append_left _ ((mem_reps nd).mpr (mem_upL.mp h).1)
theorem nbr_ne {rows : Rows} (ne : NoE rows) {m k : Str} (h : k ∈ nbr rows m) : k ≠ "" := by
  rcases List.mem_append.mp h with h | h
  · exact ne k (reps_sub h)
  · exact (mem_upL.mp h).2
theorem Rch.ne {rows : Rows} (ne : NoE rows) {n k : Str} (hn : n ≠ "") (h : Rch rows n k) : k ≠ "" := by
  cases h with
  | refl => exact hn
  | step _ h => exact nbr_ne ne h
theorem Rch.trans {rows : Rows} {a b c : Str} (h1 : Rch rows a b) (h2 : Rch rows b c) : Rch rows a c := by
  induction h2 with
  | refl => exact h1
  | step _ h ih => exact .step ih h
theorem Rch.symm {rows : Rows} (nd : (rows.map (·.1)).Nodup) (ne : NoE rows) {a b : Str} (ha : a ≠ "") (h : Rch rows a b) : Rch rows b a := by
  induction h with
  | refl => exact .refl
  | step h1 h2 ih => exact (Rch.step .refl (nbr_sym nd (h1.ne ne ha) h2)).trans ih
open Classical in
noncomputable def thrOf (rows : Rows) (n : Str) : List Str := sortS ((rows.map (·.1)).filter fun m => decide (Rch rows n m))
theorem mem_thr {rows : Rows} {n m : Str} : m ∈ thrOf rows n ↔ m ∈ rows.map (·.1) ∧ Rch rows n m := by
  unfold thrOf
  rw [sortS_mem, List.mem_filter]
  simp
theorem thr_of {rows : Rows} (nd : (rows.map (·.1)).Nodup) {n : Str} {l : List Str} (hl : l.Nodup) (h : ∀ m, m ∈ l ↔ m ∈ rows.map (·.1) ∧ Rch rows n m) : sortS l = thrOf rows n := by
  unfold thrOf
  refine sortS_congr ((List.perm_ext_iff_of_nodup hl (nd.filter _)).mpr fun m => ?_)
  rw [h, List.mem_filter]
  simp
theorem thr_len {rows : Rows} {n : Str} : (thrOf rows n).length ≤ rows.length := by
  unfold thrOf
  rw [sortS_len]
  have := List.length_filter_le (fun m => @decide (Rch rows n m) (Classical.propDecidable _)) (rows.map (·.1))
  rw [List.length_map] at this
  exact this
theorem thr_same {rows : Rows} (nd : (rows.map (·.1)).Nodup) (ne : NoE rows) {a b : Str} (ha : a ≠ "") (h : Rch rows a b) : thrOf rows b = thrOf rows a := by
  have hb := h.ne ne ha
  have h' := h.symm nd ne ha
  classical
  unfold thrOf
  congr 1
  refine List.filter_congr fun m _ => ?_
  by_cases e : Rch rows a m
  · rw [decide_eq_true (h'.trans e), decide_eq_true e]
  · rw [decide_eq_false (fun z => e (h.trans z)), decide_eq_false e]
/-- the threads, as they are come to -/
noncomputable def thrGo (rows : Rows) (acc : List (List Str)) (n : Str) : List (List Str) := if thrOf rows n ∈ acc then acc else acc ++ [thrOf rows n]
noncomputable def thrAll (rows : Rows) (ns : List Str) : List (List Str) := ns.foldl (thrGo rows) []
theorem thrAll_snoc (rows : Rows) (ns : List Str) (n : Str) : thrAll rows (ns ++ [n]) = thrGo rows (thrAll rows ns) n := by
  unfold thrAll
  rw [List.foldl_append]
  rfl
theorem fold_mem {rows : Rows} : ∀ (ns : List Str) (acc : List (List Str)) {t : List Str}, t ∈ ns.foldl (thrGo rows) acc → t ∈ acc ∨ ∃ n ∈ ns, t = thrOf rows n
  | [], acc, t, h => .inl h
  | n :: ns, acc, t, h => by
    rcases fold_mem ns (thrGo rows acc n) h with h | ⟨m, hm, e⟩
    · unfold thrGo at h
      split at h
      · exact .inl h
      · rcases List.mem_append.mp h with h | h
        · exact .inl h
        · exact .inr ⟨n, List.mem_cons_self, List.mem_singleton.mp h⟩
    · exact .inr ⟨m, List.mem_cons_of_mem _ hm, e⟩
theorem thrAll_mem {rows : Rows} (ns : List Str) {t : List Str} (h : t ∈ thrAll rows ns) : ∃ n ∈ ns, t = thrOf rows n := (fold_mem ns [] h).elim (fun z => by cases z) id
theorem fold_len {rows : Rows} : ∀ (ns : List Str) (acc : List (List Str)), (ns.foldl (thrGo rows) acc).length ≤ acc.length + ns.length
  | [], acc => Nat.le_refl _
  | n :: ns, acc => by
    have h := fold_len (rows := rows) ns (thrGo rows acc n)
    have h2 : (thrGo rows acc n).length ≤ acc.length + 1 := by
      unfold thrGo
      split
      · omega
      · rw [List.length_append]; simp
    rw [List.foldl_cons, List.length_cons]
    omega
theorem thrAll_len {rows : Rows} (ns : List Str) : (thrAll rows ns).length ≤ ns.length := by
  have := fold_len (rows := rows) ns []
  unfold thrAll; simpa using this
/-- met already just if its thread is told already -/
theorem thr_met {rows : Rows} (nd : (rows.map (·.1)).Nodup) (ne : NoE rows) {ns : List Str} (hns : ∀ m ∈ ns, m ∈ rows.map (·.1)) {n : Str} (hn : n ∈ rows.map (·.1)) : (∃ t ∈ thrAll rows ns, n ∈ t) ↔ thrOf rows n ∈ thrAll rows ns := by
  constructor
  · rintro ⟨t, ht, hnt⟩
    obtain ⟨m, hm, rfl⟩ := thrAll_mem ns ht
    rw [thr_same nd ne (ne m (hns m hm)) (mem_thr.mp hnt).2]
    exact ht
  · intro h
    exact ⟨_, h, mem_thr.mpr ⟨hn, .refl⟩⟩
structure DFS (rows : Rows) (n : Str) (rc wt : List Str) : Prop where
  nd : rc.Nodup
  start : n ∈ rc
  sound : ∀ m ∈ rc, Rch rows n m
  sub : ∀ m ∈ wt, m ∈ rc
  clo : ∀ m ∈ rc, m ∉ wt → ∀ k ∈ nbr rows m, k ∈ rc
def univ (rows : Rows) : List Str := rows.map (·.1) ++ rows.map (·.2)
theorem rch_univ {rows : Rows} {n m : Str} (hn : n ∈ rows.map (·.1)) (h : Rch rows n m) : m ∈ univ rows := by
  cases h with
  | refl => exact List.mem_append_left _ hn
  | step _ h =>
    rcases List.mem_append.mp h with h | h
    · exact List.mem_append_left _ (reps_sub h)
    · exact List.mem_append_right _ (List.mem_map.mpr ⟨_, up_mem (mem_upL.mp h).1, rfl⟩)
theorem DFS.len {rows : Rows} {n : Str} {rc wt : List Str} (d : DFS rows n rc wt) (hn : n ∈ rows.map (·.1)) : rc.length ≤ 2 * rows.length := by
  have := nodup_le d.nd fun m hm => rch_univ hn (d.sound m hm)
  unfold univ at this
  rw [List.length_append, List.length_map, List.length_map] at this
  omega
theorem DFS.init {rows : Rows} {n : Str} : DFS rows n [n] [n] :=
  ⟨by simp, by simp, fun m hm => by rw [List.mem_singleton.mp hm]; exact .refl, fun m hm => hm, fun m hm h => absurd hm h⟩
theorem DFS.done {rows : Rows} (nd : (rows.map (·.1)).Nodup) {n : Str} {rc : List Str} (d : DFS rows n rc []) : sortS (rc.filter fun m => decide (m ∈ rows.map (·.1))) = thrOf rows n := by
  have all : ∀ m, Rch rows n m → m ∈ rc := fun m h => by
    induction h with
    | refl => exact d.start
    | step _ h ih => exact d.clo _ ih (by simp) _ h
  refine thr_of nd (d.nd.filter _) fun m => ?_
  rw [List.mem_filter]
  constructor
  · rintro ⟨h1, h2⟩
    exact ⟨of_decide_eq_true h2, d.sound m h1⟩
  · rintro ⟨h1, h2⟩
    exact ⟨all m h2, decide_eq_true h1⟩
/-- within a turn: here was taken off, its neighbours ns (the first i of them) have been looked at -/
structure DFSin (rows : Rows) (n here : Str) (seen : List Str) (rc wt : List Str) : Prop where
  nd : rc.Nodup
  start : n ∈ rc
  hr : here ∈ rc
  sound : ∀ m ∈ rc, Rch rows n m
  sub : ∀ m ∈ wt, m ∈ rc
  clo : ∀ m ∈ rc, m ∉ wt → m ≠ here → ∀ k ∈ nbr rows m, k ∈ rc
  got : ∀ k ∈ seen, k ∈ rc
theorem DFS.pop {rows : Rows} {n here : Str} {rc wt : List Str} (d : DFS rows n rc (wt ++ [here])) : DFSin rows n here [] rc wt :=
  ⟨d.nd, d.start, d.sub here (by simp), d.sound, fun m hm => d.sub m (List.mem_append_left _ hm), fun m hm h1 h2 => d.clo m hm fun z => (List.mem_append.mp z).elim h1 fun y => h2 (List.mem_singleton.mp y), fun k hk => by cases hk⟩
theorem DFSin.old {rows : Rows} {n here k : Str} {seen rc wt : List Str} (d : DFSin rows n here seen rc wt) (hk : k ∈ rc) : DFSin rows n here (seen ++ [k]) rc wt :=
  ⟨d.nd, d.start, d.hr, d.sound, d.sub, d.clo, fun m hm => (List.mem_append.mp hm).elim (d.got m) fun y => by rw [List.mem_singleton.mp y]; exact hk⟩
theorem DFSin.new {rows : Rows} {n here k : Str} {seen rc wt : List Str} (d : DFSin rows n here seen rc wt) (hk : ¬ k ∈ rc) (hn : k ∈ nbr rows here) : DFSin rows n here (seen ++ [k]) (rc ++ [k]) (wt ++ [k]) := by
  refine ⟨List.nodup_append.mpr ⟨d.nd, by simp, fun x hx y hy e => hk ?_⟩, List.mem_append_left _ d.start, List.mem_append_left _ d.hr, fun m hm => ?_, fun m hm => ?_, fun m hm h1 h2 => ?_, fun m hm => ?_⟩
  · rw [List.mem_singleton.mp hy] at e; rw [← e]; exact hx
  · rcases List.mem_append.mp hm with z | z
    · exact d.sound m z
    · rw [List.mem_singleton.mp z]; exact .step (d.sound here d.hr) hn
  · rcases List.mem_append.mp hm with z | z
    · exact List.mem_append_left _ (d.sub m z)
    · exact List.mem_append_right _ z
  · rcases List.mem_append.mp hm with z | z
    · intro k' hk'
      exact List.mem_append_left _ (d.clo m z (fun y => h1 (List.mem_append_left _ y)) h2 k' hk')
    · exact absurd (List.mem_append_right _ z) h1
  · rcases List.mem_append.mp hm with z | z
    · exact List.mem_append_left _ (d.got m z)
    · exact List.mem_append_right _ z
theorem DFSin.out {rows : Rows} {n here : Str} {rc wt : List Str} (d : DFSin rows n here (nbr rows here) rc wt) : DFS rows n rc wt :=
  ⟨d.nd, d.start, d.sound, d.sub, fun m hm h1 => by
    by_cases e : m = here
    · subst e; exact d.got
    · exact d.clo m hm h1 e⟩
def hang (one other : Str × Str) : Bool := decide (one.2 = other.1) || (decide (other.2 = one.1) || (decide (one.2 ≠ "") && decide (one.2 = other.2)))
theorem hang_rch {rows : Rows} (nd : (rows.map (·.1)).Nodup) (ne : NoE rows) {one other : Str × Str} (h1 : one ∈ rows) (h2 : other ∈ rows) (h : hang one other = true) : Rch rows other.1 one.1 := by
  have u : ∀ r ∈ rows, up rows r.1 = some r.2 := fun r hr => by
    obtain ⟨a, ea⟩ := up_some (List.mem_map.mpr ⟨r, hr, rfl⟩)
    rw [ea, one_answer nd (up_mem ea) hr]
  have n1 := ne one.1 (List.mem_map.mpr ⟨one, h1, rfl⟩)
  unfold hang at h
  rw [Bool.or_eq_true, Bool.or_eq_true, Bool.and_eq_true] at h
  rcases h with h | h | ⟨h, h'⟩
  · have e := of_decide_eq_true h
    exact .step .refl (List.mem_append_left _ ((mem_reps nd).mpr (by rw [u one h1, e])))
  · have e := of_decide_eq_true h
    exact .step .refl (List.mem_append_right _ (mem_upL.mpr ⟨by rw [u other h2, e], n1⟩))
  · have e0 := of_decide_eq_true h
    have e := of_decide_eq_true h'
    refine .step (m := one.2) (.step .refl (List.mem_append_right _ (mem_upL.mpr ⟨by rw [u other h2, e], e0⟩))) (List.mem_append_left _ ((mem_reps nd).mpr (u one h1)))
theorem hang_all {rows : Rows} (nd : (rows.map (·.1)).Nodup) (ne : NoE rows) {n : Str} {S : Rows} (sub : ∀ r ∈ S, r ∈ rows) (hn : n ∈ S.map (·.1)) (clo : ∀ r ∈ S, ∀ q ∈ rows, hang q r = true → q ∈ S) {m : Str} (hm : m ∈ rows.map (·.1)) (h : Rch rows n m) : m ∈ S.map (·.1) := by
  have n0 : n ≠ "" := by
    obtain ⟨r, hr, e⟩ := List.mem_map.mp hn
    exact ne n (List.mem_map.mpr ⟨r, sub r hr, e⟩)
  have good : ∀ k, Rch rows n k → (k ∈ rows.map (·.1) → k ∈ S.map (·.1)) ∧ (k ∉ rows.map (·.1) → ∃ r ∈ S, r.2 = k) := fun k hk => by
    induction hk with
    | refl => exact ⟨fun _ => hn, fun z => by
        obtain ⟨r, hr, e⟩ := List.mem_map.mp hn
        exact absurd (List.mem_map.mpr ⟨r, sub r hr, e⟩) z⟩
    | @step m k h1 h2 ih =>
      have m0 := h1.ne ne n0
      rcases List.mem_append.mp h2 with h2 | h2
      · -- k answers m
        have hk := reps_sub h2
        refine ⟨fun _ => ?_, fun z => absurd hk z⟩
        have hkm : (k, m) ∈ rows := up_mem ((mem_reps nd).mp h2)
        by_cases hmn : m ∈ rows.map (·.1)
        · obtain ⟨r, hr, e⟩ := List.mem_map.mp (ih.1 hmn)
          exact List.mem_map.mpr ⟨(k, m), clo r hr _ hkm (by unfold hang; simp [e]), rfl⟩
        · obtain ⟨r, hr, e⟩ := ih.2 hmn
          exact List.mem_map.mpr ⟨(k, m), clo r hr _ hkm (by unfold hang; simp [e, m0]), rfl⟩
      · obtain ⟨e1, e2⟩ := mem_upL.mp h2
        have hmm := up_mem e1
        have hmn : m ∈ rows.map (·.1) := List.mem_map.mpr ⟨_, hmm, rfl⟩
        obtain ⟨r, hr, e⟩ := List.mem_map.mp (ih.1 hmn)
        have er : r.2 = k := one_answer nd (by rw [← e]; exact sub r hr) hmm
        refine ⟨fun hk => ?_, fun _ => ⟨r, hr, er⟩⟩
        obtain ⟨q, hq, eq⟩ := List.mem_map.mp hk
        exact List.mem_map.mpr ⟨q, clo r hr q hq (by unfold hang; simp [er, eq]), eq⟩
  exact (good m h).1 hm
end L2
set_option Elab.async false
set_option linter.all false
set_option maxRecDepth 100000
set_option maxHeartbeats 4000000
namespace L2
open PySem PySem.Spec PyProof.Rows
inductive rInD_I (K : PySem.W.Frag) (neg : Bool) (x : V) (y : V) (H : Hp) (Q : VK) : Prop
  | mk : ∀ d ds, RD K H x d → RD K H y (.list ds) → PyData.canLayAll0 ds = true → d.canLay0 = true → d.depth ≤ 20 → (Q (.bl (if neg then !(ds.any fun e => PyData.eqv e d) else ds.any fun e => PyData.eqv e d)) H) → rInD_I K neg x y H Q
def rInD (K : PySem.W.Frag) (neg : Bool) : R2 := fun x y H Q => rInD_I K neg x y H Q
theorem op_notInD {X : Cx} (hu : X.A.units + 64 < cLine) : OpR X (compareOp .NotIn) (rInD X.K true) := by
  intro pins s σ H x y v u Q I rx ry h
  obtain ⟨d, ds, hd, hy, l1, l2, l3, q⟩ := h
  obtain ⟨as, ra⟩ := hd.reads I rx
  obtain ⟨bs, rb⟩ := hy.reads I ry
  refine SeqAt.notIn_list_reads rb ra l1 l2 ?_ ⟨.bl _, H, I, rfl, q⟩
  have := Nat.min_le_right (PyData.depthAll ds) d.depth
  omega
theorem op_notInDK {X : Cx} (K : PySem.W.Frag) (hu : X.A.units + 64 < cLine) (hK : X.K = K := by rfl) : OpR X (compareOp .NotIn) (rInD K true) := hK ▸ op_notInD hu
theorem pe_fldK {X : Cx} (K : PySem.W.Frag) {e : Expr} {f : Str} {pos : Pos} {ta : TE} (he : PE X e ta) (hb : attributeBase e f X.env (eval e X.env) = eval e X.env) (hK : X.K = K := by rfl) : PE X (.Attribute e f pos) (tFld K ta f) := hK ▸ pe_fld he hb
theorem eqv_row (a b : PRow) : PyData.eqv (rowD a) (rowD b) = decide (a.2 = b.2) := by
  show (a.2.1 == b.2.1 && (a.2.2 == b.2.2 && true)) = _
  rw [Bool.and_true, Bool.eq_iff_iff, Bool.and_eq_true, beq_iff_eq, beq_iff_eq, decide_eq_true_iff]
  exact ⟨fun ⟨x, y⟩ => Prod.ext x y, fun e => by rw [e]; exact ⟨rfl, rfl⟩⟩
theorem inj_nd {α β : Type} {f : α → β} : ∀ {l : List α}, (l.map f).Nodup → ∀ {a b : α}, a ∈ l → b ∈ l → f a = f b → a = b
  | [], _, _, _, ha, _, _ => by cases ha
  | x :: l, nd, a, b, ha, hb, e => by
    rw [List.map_cons, List.nodup_cons] at nd
    rcases List.mem_cons.mp ha with h1 | h1 <;> rcases List.mem_cons.mp hb with h2 | h2
    · rw [h1, h2]
    · exact absurd (List.mem_map.mpr ⟨b, h2, by rw [← e, h1]⟩) nd.1
    · exact absurd (List.mem_map.mpr ⟨a, h1, by rw [e, h2]⟩) nd.1
    · exact inj_nd nd.2 h1 h2 e
theorem filter_map_nd {α β : Type} {f : α → β} {p : α → Bool} {l : List α} (nd : (l.map f).Nodup) : ((l.filter p).map f).Nodup := nd.sublist ((List.filter_sublist).map f)
structure LW (prs : List PRow) (n : Str) (S : List PRow) (at' : Nat) : Prop where
  sub : ∀ r ∈ S, r ∈ prs
  nd : (S.map (·.2.1)).Nodup
  snd : ∀ r ∈ S, Rch (prs.map (·.2)) n r.2.1
  me : n ∈ S.map (·.2.1)
  clo : ∀ j, j < at' → ∀ r, S[j]? = some r → ∀ q ∈ prs, hang q.2 r.2 = true → q ∈ S
def lwNew (prs S : List PRow) (r : PRow) : List PRow := prs.filter fun q => !(S.any fun s => decide (s.2 = q.2)) && hang q.2 r.2
section
variable {prs S : List PRow} {n : Str} {k : Nat}
theorem LW.start (nd : (prs.map (·.2.1)).Nodup) (hn : n ∈ prs.map (·.2.1)) : LW prs n (prs.filter fun q => decide (q.2.1 = n)) 0 := by
  refine ⟨fun r hr => (List.mem_filter.mp hr).1, filter_map_nd nd, fun r hr => ?_, ?_, fun j hj => absurd hj (Nat.not_lt_zero _)⟩
  · rw [of_decide_eq_true (List.mem_filter.mp hr).2]; exact .refl
  · obtain ⟨r, hr, e⟩ := List.mem_map.mp hn
    exact List.mem_map.mpr ⟨r, List.mem_filter.mpr ⟨hr, decide_eq_true e⟩, e⟩
theorem LW.len (w : LW prs n S k) : S.length ≤ prs.length := by
  have := nodup_le w.nd (l := prs.map (·.2.1)) fun m hm => by
    obtain ⟨r, hr, e⟩ := List.mem_map.mp hm
    exact List.mem_map.mpr ⟨r, w.sub r hr, e⟩
  rw [List.length_map, List.length_map] at this
  exact this
theorem LW.step (nd : (prs.map (·.2.1)).Nodup) (ne : NoE (prs.map (·.2))) {r : PRow} (w : LW prs n S k) (hr : S[k]? = some r) : LW prs n (S ++ lwNew prs S r) (k + 1) := by
  have nd' : ((prs.map (·.2)).map (·.1)).Nodup := by rw [List.map_map]; exact nd
  have hrS : r ∈ S := List.mem_of_getElem? hr
  have hk : k < S.length := (List.getElem?_eq_some_iff.mp hr).1
  have hnew : ∀ q, q ∈ lwNew prs S r ↔ q ∈ prs ∧ ¬ q ∈ S ∧ hang q.2 r.2 = true := fun q => by
    unfold lwNew
    rw [List.mem_filter, Bool.and_eq_true, Bool.not_eq_true']
    constructor
    · rintro ⟨h1, h2, h3⟩
      refine ⟨h1, fun z => ?_, h3⟩
      have : (S.any fun s => decide (s.2 = q.2)) = true := List.any_eq_true.mpr ⟨q, z, decide_eq_true rfl⟩
      rw [h2] at this
      cases this
    · rintro ⟨h1, h2, h3⟩
      refine ⟨h1, ?_, h3⟩
      cases e : S.any fun s => decide (s.2 = q.2) with
      | false => rfl
      | true =>
        obtain ⟨s, hs, es⟩ := List.any_eq_true.mp e
        have := inj_nd nd (w.sub s hs) h1 (congrArg (·.1) (of_decide_eq_true es))
        rw [this] at hs
        exact absurd hs h2
  refine ⟨fun q hq => ?_, ?_, fun q hq => ?_, ?_, fun j hj q' hq' q hq hh => ?_⟩
  · rcases List.mem_append.mp hq with z | z
    · exact w.sub q z
    · exact ((hnew q).mp z).1
  · rw [List.map_append, List.nodup_append]
    refine ⟨w.nd, filter_map_nd nd, fun a ha b hb e => ?_⟩
    obtain ⟨s, hs, rfl⟩ := List.mem_map.mp ha
    obtain ⟨q, hq, rfl⟩ := List.mem_map.mp hb
    obtain ⟨h1, h2, _⟩ := (hnew q).mp hq
    have := inj_nd nd (w.sub s hs) h1 e
    rw [this] at hs
    exact h2 hs
  · rcases List.mem_append.mp hq with z | z
    · exact w.snd q z
    · obtain ⟨h1, _, h3⟩ := (hnew q).mp z
      exact (w.snd r hrS).trans (hang_rch nd' ne (List.mem_map.mpr ⟨q, h1, rfl⟩) (List.mem_map.mpr ⟨r, w.sub r hrS, rfl⟩) h3)
  · rw [List.map_append]
    exact List.mem_append_left _ w.me
  · have hjl : j < S.length := by omega
    rw [List.getElem?_append_left hjl] at hq'
    by_cases ej : j = k
    · rw [ej, hr] at hq'
      cases hq'
      by_cases z : q ∈ S
      · exact List.mem_append_left _ z
      · exact List.mem_append_right _ ((hnew q).mpr ⟨hq, z, hh⟩)
    · exact List.mem_append_left _ (w.clo j (by omega) q' hq' q hq hh)
theorem LW.done (nd : (prs.map (·.2.1)).Nodup) (ne : NoE (prs.map (·.2))) (w : LW prs n S k) (hk : S.length ≤ k) : sortS (S.map (·.2.1)) = thrOf (prs.map (·.2)) n := by
  have nd' : ((prs.map (·.2)).map (·.1)).Nodup := by rw [List.map_map]; exact nd
  refine thr_of nd' w.nd fun m => ⟨fun hm => ?_, fun ⟨h1, h2⟩ => ?_⟩
  · obtain ⟨r, hr, rfl⟩ := List.mem_map.mp hm
    exact ⟨List.mem_map.mpr ⟨r.2, List.mem_map.mpr ⟨r, w.sub r hr, rfl⟩, rfl⟩, w.snd r hr⟩
  · have := hang_all nd' ne (S := S.map (·.2)) (fun r hr => by
      obtain ⟨q, hq, rfl⟩ := List.mem_map.mp hr
      exact List.mem_map.mpr ⟨q, w.sub q hq, rfl⟩) (by rw [List.map_map]; exact w.me) (fun r hr q hq hh => by
      obtain ⟨r', hr', rfl⟩ := List.mem_map.mp hr
      obtain ⟨q', hq', rfl⟩ := List.mem_map.mp hq
      obtain ⟨j, hj, e⟩ := List.getElem_of_mem hr'
      exact List.mem_map.mpr ⟨q', w.clo j (by omega) r' (by rw [List.getElem?_eq_getElem hj, e]) q' hq' hh, rfl⟩) h1 h2
    rw [List.map_map] at this
    exact this
end
theorem put_keys_old {ns : List Str} {n : Str} (h : n ∈ ns) : putK (keysT ns) (Sum.inr n) (.bl true) = keysT ns := by
  unfold putK
  have hc : ((keysT ns).any fun kv => decide (kv.1 = (Sum.inr n : Key))) = true := List.any_eq_true.mpr ⟨(Sum.inr n, .bl true), List.mem_map.mpr ⟨n, h, rfl⟩, decide_eq_true rfl⟩
  rw [if_pos hc]
  unfold keysT
  rw [List.map_map]
  apply List.map_congr_left
  intro m _
  show (if (Sum.inr m : Key) = Sum.inr n then (Sum.inr m, V.bl true) else (Sum.inr m, V.bl true)) = _
  split <;> rfl
/-- names that were met, one more -/
def addN (ns : List Str) (n : Str) : List Str := if n ∈ ns then ns else ns ++ [n]
theorem put_add (ns : List Str) (n : Str) : putK (keysT ns) (Sum.inr n) (.bl true) = keysT (addN ns n) := by
  unfold addN
  split
  · exact put_keys_old ‹_›
  · exact put_keys ‹_›
theorem mem_add {ns : List Str} {n m : Str} : m ∈ addN ns n ↔ m ∈ ns ∨ m = n := by
  unfold addN
  split
  · exact ⟨.inl, fun h => h.elim id fun e => e ▸ ‹_›⟩
  · rw [List.mem_append, List.mem_singleton]
theorem add_nd {ns : List Str} {n : Str} (h : ns.Nodup) : (addN ns n).Nodup := by
  unfold addN
  split
  · exact h
  · rename_i hn
    rw [List.nodup_append]
    exact ⟨h, List.pairwise_singleton _ _, fun a ha b hb e => hn (by rw [List.mem_singleton.mp hb] at e; rw [← e]; exact ha)⟩
inductive TD where
  | flat (xs : List Str)
  | deep (ls : List (Addr × List Str)) (zz : Bool)
def tdD : TD → PyData
  | .flat xs => .list (xs.map PyData.str)
  | .deep ls zz => .list ((ls.map fun p => PyData.list (p.2.map PyData.str)) ++ if zz then [PyData.str "zz"] else [])
def tdIn : TD → List Addr
  | .flat _ => []
  | .deep ls _ => ls.map (·.1)
def TDOk (H : Hp) (l : Addr) : TD → Prop
  | .flat xs => H l = some (.lst (xs.map V.str))
  | .deep ls zz => H l = some (.lst ((ls.map fun p => V.ref p.1) ++ if zz then [V.str "zz"] else [])) ∧ ∀ p ∈ ls, H p.1 = some (.lst (p.2.map V.str))
def TDB : TD → Prop
  | .flat xs => xs.length ≤ 41 ∧ ∀ x ∈ xs, Asc x ∧ x.length ≤ 20
  | .deep ls _ => ls.length ≤ 40 ∧ ∀ p ∈ ls, p.2.length ≤ 40 ∧ ∀ x ∈ p.2, Asc x ∧ x.length ≤ 20
theorem shownAll_map : ∀ ds : List PyData, PyData.shownAll ds = ds.map PyData.shown
  | [] => rfl
  | d :: ds => by rw [PyData.shownAll, shownAll_map ds, List.map_cons]
theorem shown_up {ds : List PyData} {m : Nat} (hl : ds.length ≤ 41) (hx : ∀ d ∈ ds, d.shown.length ≤ m) : (PyData.list ds).shown.length ≤ 2 + 41 * (m + 2) := by
  have h1 := textFrom_up (m := m) (ds.map PyData.shown) 0 "[" fun t ht => by
    obtain ⟨d, hd, rfl⟩ := List.mem_map.mp ht
    exact hx d hd
  have h2 : ("[" : Str).length = 1 := by decide +kernel
  have h3 : ("]" : Str).length = 1 := by decide +kernel
  have h4 : (ds.map PyData.shown).length * (m + 2) ≤ 41 * (m + 2) := Nat.mul_le_mul_right _ (by rw [List.length_map]; exact hl)
  have e : (PyData.list ds).shown = listText (ds.map PyData.shown) := by
    show listText (PyData.shownAll ds) = _
    rw [shownAll_map]
  rw [e]
  unfold listText
  rw [cat_len, h3]
  rw [h2] at h1
  omega
theorem shown_strs {xs : List Str} (hl : xs.length ≤ 41) (hx : ∀ x ∈ xs, Asc x ∧ x.length ≤ 20) : (PyData.list (xs.map PyData.str)).shown.length ≤ 8366 := by
  refine Nat.le_trans (shown_up (m := 202) (by rw [List.length_map]; exact hl) fun d hd => ?_) (by decide)
  obtain ⟨x, hxm, rfl⟩ := List.mem_map.mp hd
  obtain ⟨a1, a2⟩ := hx x hxm
  have := StrLaws.reprText_len x fun c hc => Nat.lt_trans (a1 c hc) (by decide)
  show (reprText x).length ≤ 202
  omega
theorem showable_lists : ∀ ls : List (Addr × List Str), PyData.showableAll (ls.map fun p => PyData.list (p.2.map PyData.str)) = true
  | [] => rfl
  | p :: ls => by
    rw [List.map_cons, PyData.showableAll, showable_lists ls, Bool.and_true]
    exact showable_strs p.2
theorem hasDict_lists : ∀ ls : List (Addr × List Str), PyData.hasDictAll (ls.map fun p => PyData.list (p.2.map PyData.str)) = false
  | [] => rfl
  | p :: ls => by
    rw [List.map_cons, PyData.hasDictAll, hasDict_lists ls, Bool.or_false]
    exact hasDict_strs p.2
theorem TDOk.mono {H H' : Hp} {l : Addr} {td : TD} (h : TDOk H l td) (k1 : ∀ o, H l = some o → H' l = some o) (k2 : ∀ b ∈ tdIn td, ∀ o, H b = some o → H' b = some o) : TDOk H' l td := by
  cases td with
  | flat xs => exact k1 _ h
  | deep ls zz => exact ⟨k1 _ h.1, fun p hp => k2 p.1 (List.mem_map.mpr ⟨p, hp, rfl⟩) _ (h.2 p hp)⟩
abbrev GRow := Addr × Addr × TD
structure HeldG (r h : Addr) (H : Hp) (hd : List GRow) : Prop where
  l_ : H h = some (.lst (hd.map fun q => V.ref q.1))
  hr : h ≠ r
  t_ : ∀ q ∈ hd, H q.1 = some (.tup [.ref q.2.1, .str (tdD q.2.2).shown])
  x_ : ∀ q ∈ hd, TDOk H q.2.1 q.2.2 ∧ q.2.1 ≠ h ∧ q.2.1 ≠ r ∧ ∀ b ∈ tdIn q.2.2, b ≠ h ∧ b ≠ r
  b_ : ∀ q ∈ hd, TDB q.2.2
  sep : hd.Pairwise fun q q' => q'.2.1 ≠ q.2.1 ∧ ¬ q'.2.1 ∈ tdIn q.2.2
theorem HeldG.same {r h : Addr} {H H' : Hp} {hd : List GRow} (a : HeldG r h H hd) (s : Same H H') : HeldG r h H' hd :=
  ⟨s _ _ a.l_, a.hr, fun q hq => s _ _ (a.t_ q hq), fun q hq => ⟨(a.x_ q hq).1.mono (fun o => s _ o) (fun b _ o => s b o), (a.x_ q hq).2⟩, a.b_, a.sep⟩
theorem HeldG.free {r h : Addr} {H : Hp} {hd : List GRow} (a : HeldG r h H hd) {l : Addr} (hl : H l = none) : ∀ q ∈ hd, l ≠ q.2.1 ∧ ¬ l ∈ tdIn q.2.2 := fun q hq => by
  have hx := (a.x_ q hq).1
  obtain ⟨u, l1, td⟩ := q
  cases td with
  | flat xs => exact ⟨(ne_of_none hx hl).symm, fun z => nomatch z⟩
  | deep ls zz =>
    refine ⟨(ne_of_none hx.1 hl).symm, fun z => ?_⟩
    obtain ⟨p, hp, e⟩ := List.mem_map.mp z
    have := hx.2 p hp
    rw [e, hl] at this
    cases this
end L2
set_option Elab.async false
set_option linter.all false
namespace L2
open PySem PySem.Spec
section
variable {X : Cx} {pins : List (Addr × Obj)} {σ : St} {H : Hp} {s : Shared} {a : Addr} {kvs : List (Key × V)} {k : Key} {z : V} {u r : Value} {A : Around} {E : Value → Shared → Prop}
end
section
variable {X : Cx} {o e f : Expr} {apos cpos : Pos} {td ty tx : TE}
end
/-- all but what stands at x is kept -/
def SX (x : Addr) (H H' : Hp) : Prop := ∀ c o, c ≠ x → H c = some o → H' c = some o
theorem SX.of {x : Addr} {H H' : Hp} (h : Same H H') : SX x H H' := fun c o _ e => h c o e
theorem SX.trans {x : Addr} {H H1 H2 : Hp} (h : SX x H H1) (g : SX x H1 H2) : SX x H H2 := fun c o n e => g c o n (h c o n e)
theorem SX.free {x l : Addr} {H H1 : Hp} {o : HO} (h : SX x H H1) (e : H1 x = some o) (n : H1 l = none) : H l = none := by
  cases q : H l with
  | none => rfl
  | some u =>
    by_cases z : l = x
    · rw [z, e] at n; cases n
    · rw [h l u z q] at n; cases n
def nIns : HO → Bool
  | .ins _ _ _ => false
  | _ => true
/-- all but instances is kept -/
def SN (H H' : Hp) : Prop := ∀ c o, nIns o = true → H c = some o → H' c = some o
theorem Same.sn {H H' : Hp} (h : Same H H') : SN H H' := fun c o _ e => h c o e
theorem SN.trans {H H1 H2 : Hp} (h : SN H H1) (g : SN H1 H2) : SN H H2 := fun c o n e => g c o n (h c o n e)
theorem SX.sn {x C dx : Addr} {fs : List (Str × V)} {H H' : Hp} (h : SX x H H') (ex : H x = some (.ins C dx fs)) : SN H H' := fun c o n e => h c o (ne_of e ex fun z => by rw [z] at n; cases n) e
end L2
set_option Elab.async false
set_option linter.all false
set_option maxRecDepth 100000
set_option maxHeartbeats 4000000
namespace L2
open PySem PySem.Spec PyProof.Rows
def keyT : Value → Str
  | .str x _ => x
  | _ => ""
def SetT (prog : Program) (w : World) (led : Bool) (a : Addr) (ks : List Str) (h : Heap) : Prop := ∃ o es ep t, h.get? a = some o ∧ o.ExactSet ∧ o.data = .set es ep t ∧ ElemsOf (strKind prog w) es.toList ∧ es.size < scanBound ∧ t.fits es.size = true ∧ t.led = led ∧
  (t.plain = true → es.size = 0) ∧ (es.toList.map fun e => keyT e.2).Perm ks
theorem SetT.at {prog : Program} {w : World} {led : Bool} {a : Addr} {ks : List Str} {h h' : Heap} (x : SetT prog w led a ks h) (k : ∀ o, h.get? a = some o → h'.get? a = some o) : SetT prog w led a ks h' :=
  let ⟨o, es, ep, t, e, r⟩ := x; ⟨o, es, ep, t, k o e, r⟩
section
variable {prog : Program} {w : World} {A : Around} {E : Value → Shared → Prop} {s : Shared}
end
end L2
set_option Elab.async false
set_option linter.all false
set_option maxRecDepth 100000
set_option maxHeartbeats 4000000
namespace L2
open PySem PySem.Spec PyProof.Rows
section
variable {prog : Program} {w : World} {A : Around} {E : Value → Shared → Prop} {s : Shared}
end
end L2
set_option Elab.async false
set_option linter.all false
set_option maxRecDepth 100000
set_option maxHeartbeats 4000000
namespace L2
open PySem PySem.Spec PyProof.Rows
theorem erase_perm {α : Type} : ∀ (l : List α) (i : Nat) (h : i < l.length), (l[i] :: l.eraseIdx i).Perm l
  | x :: l, 0, _ => .refl _
  | x :: l, i + 1, h => by
    show (l[i]'(Nat.lt_of_succ_lt_succ h) :: x :: l.eraseIdx i).Perm (x :: l)
    exact (List.Perm.swap x _ _).trans ((erase_perm l i (Nat.lt_of_succ_lt_succ h)).cons x)
/-- the iterator -/
def SitAt (h : Heap) (it a : Addr) (first : Value) (i n ep : Nat) : Prop := ∃ o, h.get? it = some o ∧ o.cls = .type "set_iterator" ∧ o.data = .fields #[first, .int i 0, .ref a, .int n 0, .int ep 0]
def SAt (h : Heap) (a : Addr) (es : Array (Int × Value)) (ep : Nat) (t : SetTable) : Prop := ∃ o, h.get? a = some o ∧ o.cls = .type "set" ∧ o.data = .set es ep t
section
variable {prog : Program} {w : World} {A : Around} {E : Value → Shared → Prop} {s : Shared} {a it : Addr} {es : Array (Int × Value)} {ep : Nat} {t : SetTable}
theorem SitAt.typeIs {first : Value} {i n : Nat} (h : SitAt s.heap it a first i n ep) : s.TypeIs (.ref it) "set_iterator" := let ⟨o, e, c, _⟩ := h; ⟨o, e, c⟩
end
end L2
set_option Elab.async false
set_option linter.all false
set_option maxRecDepth 100000
set_option maxHeartbeats 4000000
namespace L2
open PySem PySem.Spec PyProof.Rows
section
variable {prog : Program} {w : World} {A : Around} {E : Value → Shared → Prop} {s : Shared} {a it : Addr} {es : Array (Int × Value)} {ep : Nat} {t : SetTable}
theorem SAt.at {h h' : Heap} (x : SAt h a es ep t) (k : ∀ o, h.get? a = some o → h'.get? a = some o) : SAt h' a es ep t := let ⟨o, e, r⟩ := x; ⟨o, k o e, r⟩
theorem SitAt.at {h h' : Heap} {first : Value} {i n : Nat} (x : SitAt h it a first i n ep) (k : ∀ o, h.get? it = some o → h'.get? it = some o) : SitAt h' it a first i n ep := let ⟨o, e, r⟩ := x; ⟨o, k o e, r⟩
end
end L2
set_option Elab.async false
set_option linter.all false
set_option maxRecDepth 100000
set_option maxHeartbeats 4000000
namespace L2
open PySem PySem.Spec PyProof.Rows
section
variable {prog : Program} {w : World} {A : Around} {E : Value → Shared → Prop} {s : Shared}
theorem SetT.typeIs {led : Bool} {a : Addr} {ks : List Str} (x : SetT prog w led a ks s.heap) : s.TypeIs (.ref a) "set" := let ⟨o, _, _, _, e, hex, _⟩ := x; ⟨o, e, hex.1⟩
theorem SetT.lt {led : Bool} {a : Addr} {ks : List Str} {h : Heap} (x : SetT prog w led a ks h) : a < h.objs.size := let ⟨o, _, _, _, e, _⟩ := x; Heap.lt_size e
end
end L2
set_option Elab.async false
set_option linter.all false
set_option maxRecDepth 100000
set_option maxHeartbeats 4000000
namespace L2
open PySem PySem.Spec PyProof.Rows
end L2
set_option Elab.async false
set_option linter.all false
set_option maxRecDepth 100000
set_option maxHeartbeats 4000000
namespace L2
open PySem PySem.Spec PyProof.Rows
end L2
set_option Elab.async false
set_option linter.all false
set_option maxRecDepth 100000
set_option maxHeartbeats 4000000
namespace L2
open PySem PySem.Spec PyProof.Rows
section
variable {prog : Program} {w : World} {A : Around} {E : Value → Shared → Prop} {s : Shared}
end
end L2
set_option Elab.async false
set_option linter.all false
set_option maxRecDepth 100000
set_option maxHeartbeats 4000000
namespace L2
open PySem PySem.Spec PyProof.Rows
def dd (ss : List Str) : List Str := ss.foldl addN []
end L2
set_option Elab.async false
set_option linter.all false
set_option maxRecDepth 100000
set_option maxHeartbeats 4000000
namespace L2
open PySem PySem.Spec PyProof.Rows
end L2
set_option Elab.async false
set_option linter.all false
set_option maxRecDepth 100000
set_option maxHeartbeats 4000000
namespace L2
open PySem PySem.Spec PyProof.Rows
/-- [f(x) for x in xs], with what is known of the things laid -/
theorem comp_listH {K : PySem.W.Frag} {a : Addr} {xs : List V} {fr : List (Nat × Str)} {te : TE} {σ : St} {H1 : Hp} {Q : VK} (Pv : Addr → Nat → List V → Hp → Prop) (hz : xs.length ≤ sizeLine) (hS : SqL K H1 a xs) (h0 : ∀ D, H1 D = none → Pv D 0 [] (upd H1 D (.lst []))) (hlen : ∀ D i ys H, Pv D i ys H → ys.length = i)
    (hte : ∀ (D : Addr) (i : Nat) (x : V) (ys : List V) (H3 : Hp) (Q' : VK), xs[i]? = some x → H1 D = none → Pv D i ys H3 → H3 D = some (.lst ys) → Same H1 H3 → (∀ y H5, Same H3 H5 → Pv D (i + 1) (ys ++ [y]) (upd H5 D (.lst (ys ++ [y]))) → Q' y H5) → te (some x :: frV σ fr) H3 Q')
    (hQ : ∀ D ys H2, H1 D = none → Pv D xs.length ys H2 → Same H1 H2 → H2 D = some (.lst ys) → Q (.ref D) H2) :
    compGoal (Itl K a) fr tTrue te σ H1 Q := by
  intro D hD
  refine ⟨fun i m ys H2 => m = xs.length - i ∧ i ≤ xs.length ∧ Pv D i ys H2 ∧ Same H1 H2 ∧ H2 D = some (.lst ys), ⟨xs.length, by simp, Nat.zero_le _, h0 D hD, Same.upd_new hD, upd_same⟩, ?_⟩
  rintro i m ys H2 ⟨rfl, hi, p, s2, d2⟩
  refine ⟨d2, ?_⟩
  have hS2 := s2.seq hS
  by_cases hlt : i < xs.length
  · refine .inr ⟨⟨xs, xs[i], hS2, List.getElem?_eq_getElem hlt⟩, ?_⟩
    rintro v H3 ⟨rfl, hv⟩
    refine tTrue_go (iteT ?_)
    refine hte D i v ys _ _ (hv xs hS2) hD p d2 s2 fun y H5 s5 p' => ⟨s5 _ _ d2, ?_, xs.length - (i + 1), by omega, rfl, hlt, p', (s2.trans s5).upd_of hD, upd_same⟩
    rw [hlen D i ys _ p]; omega
  · have e : i = xs.length := by omega
    subst e
    exact .inl ⟨⟨xs, hS2, Nat.le_refl _⟩, hQ D ys H2 hD p s2 d2⟩
end L2
set_option Elab.async false
set_option linter.all false
set_option maxRecDepth 100000
set_option maxHeartbeats 4000000
namespace L2
open PySem PySem.Spec PyProof.Rows
theorem ObjOk.there {P : Program} {w : World} {H : Hp} {h : Heap} {a : Addr} {o : HO} (x : ObjOk P w H h a o) : ∃ ob, h.get? a = some ob := by
  cases o with
  | lst xs => obtain ⟨_, _, _, _, e⟩ := x; exact ⟨_, e⟩
  | tup xs => obtain ⟨_, _, _, ob, e, _⟩ := x; exact ⟨_, e⟩
  | dK kvs => obtain ⟨_, _, _, _, o, _, _, e, _⟩ := x; exact ⟨_, e⟩
  | dT kvs => obtain ⟨_, _, _, _, o, _, _, e, _⟩ := x; exact ⟨_, e⟩
  | set S n => obtain ⟨o, _, _, _, e, _⟩ := x; exact ⟨_, e⟩
  | ins C dx fs => obtain ⟨_, _, _, e, _⟩ := x; exact ⟨_, e⟩
  | own y => exact x
  | xd fs => obtain ⟨_, ⟨_, _, _, e, _⟩, _⟩ := x; exact ⟨_, e⟩
  | rng lo hi => obtain ⟨_, _, _, e⟩ := x; exact ⟨_, e⟩
  | frz ob u => obtain ⟨e, _⟩ := x; exact ⟨_, e⟩
  | tbl ps => exact ⟨_, (show h.get? a = some _ from x)⟩
  | met f y => exact ⟨_, (show h.get? a = some _ from x)⟩
  | ext φ => obtain ⟨_, e, _⟩ := x; exact e
theorem FnOk.up {P : Program} {w : World} {K : PySem.W.Frag} {mg : Str → Option Value} {base : Heap} {CX : CXT} {k : Nat} {f : Addr} {fd : FuncData} {ps : List Str} {sp : Sp} (F : FnOk P w K mg base CX0 k f fd ps sp) : FnOk P w K mg base CX k f fd ps sp :=
  ⟨F.len, fun A outer s H args us vs Q E hr he hb hv hs => codeAny_mono (F.run A outer s H args us vs Q E hr he hb hv hs) fun r s' h => by
    cases r with
    | error e => exact False.elim h
    | ok f => cases f <;> exact h⟩
section
variable {X : Cx} {pins : List (Addr × Obj)} {σ : St} {Hc H' : Hp} {sc : Shared}
theorem Inv.nofr (I : Inv X pins σ Hc sc) : ∀ b ∈ frs X.stack, ∀ o, sc.heap.get? b = some o → ∀ vs, o.data ≠ .fields vs := fun b hb o e => by
  obtain ⟨_, o1, e1, d⟩ := I.stack.mem hb
  rw [e] at e1
  cases e1
  exact d
end
section
variable {P : Program} {w : World} {K : PySem.W.Frag} {mg : Str → Option Value} {base : Heap} {N : List Str} {qual : Str} {scope : Scope} {f : Addr} {cd : Value} {A : Around} {outer : List Env} {s : Shared} {H : Hp} {E : XK}
end
abbrev mroVE : List Value := [.type "ValueError", .type "Exception", .type "BaseException", .type "object"]
structure Xcl (K : PySem.W.Frag) (C : Addr) : Prop where
  q : PySem.W.excIn K C mroVE "ValueError.__new__" = true
inductive XObj (h : Heap) (C : Addr) : Prop
  | mk : ∀ bm N nm q bs hdct sn sub ab col dd k0 k1 k2 k3 k5 mN, h.get? C = some (excClassObj nm q C N bs bm hdct sn sub ab col dd k0 k1 k2 k3 k5 "ValueError.__new__") → h.Ns N mN → mN "__init__" = none → OwnTail h mroVE bm → XObj h C
theorem Xcl.obj {K : PySem.W.Frag} {h : Heap} {C : Addr} (x : Xcl K C) (X : K.In h) : XObj h C := by
  have q := x.q
  unfold PySem.W.excIn at q
  split at q
  · rename_i dd cd sl ho
    split at q
    · rename_i C' bm k0 k1 k2 k3 n k5 hm hs
      rw [Bool.and_eq_true, Bool.and_eq_true, Bool.and_eq_true, Bool.and_eq_true, Bool.and_eq_true] at q
      obtain ⟨⟨⟨⟨⟨q1, q2⟩, q3⟩, q4⟩, q5⟩, q6⟩ := q
      have q1 := beq_iff_eq.mp q1
      have q2 := beq_iff_eq.mp q2
      rw [Bool.not_eq_true'] at q3
      obtain ⟨a1, a2, a3, a4, a5, a6, a7, a8, a9, a10, a11⟩ := cd
      obtain ⟨ls⟩ := sl
      dsimp only at hm q3 q5 q6 hs
      have q6 := beq_iff_eq.mp q6
      subst hm q3 hs q1 q2
      exact ⟨bm, a4, a1, a5, a2, a6, a7, a8, a9, a10, dd, k0, k1, k2, k3, k5, _, X _ _ ho, .of_isNs (PySem.W.isNs_of_in X q5), PySem.W.nsMap_none_of_in X q5 q6, PySem.W.tail_of_in X q4⟩
    · cases q
  · cases q
section
variable {P : Program} {w : World} {K : PySem.W.Frag} {mg : Str → Option Value} {base : Heap} {N : List Str} {qual : Str} {scope : Scope} {f : Addr} {cd : Value} {A : Around} {outer : List Env} {s : Shared} {H : Hp} {E : XK}
end
theorem PS.nox {X : Cx} {st : Stmt} {t : TS} (h : PS X.nox st t) : PS X st t := fun pins s σ H D I hw =>
  wpAny_mono (h pins s σ H D (I.wish _) hw) (fun _ _ z => SP.unwish z) fun _ _ z => z.elim
section
variable {X : Cx} {CX : CXT} {k : Nat} {f C : Addr} {fd : FuncData} {ps : List Str} {sp : Sp} {dvs : List V} {ds : List Value} {R : St → XK} {x m : Str} {p pos apos : Pos} {e o : Expr} {es : List Expr} {ta : TE} {t : TA}
end
def mroIn (K : PySem.W.Frag) (C D : Addr) : Bool := match K.lookup C with
  | some ⟨_, _, .cls cd, _⟩ => cd.mro.contains (.ref D)
  | _ => false
structure Sub (K : PySem.W.Frag) (C D : Addr) : Prop where
  c : Xcl K C
  s : mroIn K C D = true
theorem Sub.has {K : PySem.W.Frag} {h : Heap} {C D N : Addr} (x : Sub K C D) (X : K.In h) {nm q : Str} {bs bm : List Value} {hdct : Bool} {sn : List Str} {sub : List Value} {ab : Bool} {col : Option Bool} {dd : Option Addr} {k0 k1 k2 k3 k5 : Option Value} {newId : String}
    (hC : h.get? C = some (excClassObj nm q C N bs bm hdct sn sub ab col dd k0 k1 k2 k3 k5 newId)) : (Value.ref C :: bm).contains (.ref D) = true := by
  have s := x.s
  unfold mroIn at s
  split at s
  · rename_i ho
    have e := X _ _ ho
    rw [hC] at e
    cases e
    exact s
  · cases s
/-- an except suite from which nothing is raised -/
def hnd (X : Cx) (ev : Value) : Cx := { X with A := X.A.mark (some ev), calm := false, xe := fun _ _ => False }
section
variable {X : Cx} {pins pins' : List (Addr × Obj)} {σ : St} {H : Hp} {s : Shared} {R : St → XK}
end
end L2
set_option Elab.async false
set_option linter.all false
set_option maxRecDepth 100000
set_option maxHeartbeats 4000000
namespace L2
open PySem PySem.Spec PyProof.Rows
/-- what comes behind, not looked into (the proof's term stays small) -/
theorem seq_open {t u : TS} {D : Ends} {σ : St} {H : Hp} (h : ∀ N : St → Hp → Prop, N = u D → t { D with nx := N } σ H) : tSeq t u D σ H := h _ rfl
end L2
set_option Elab.async false
set_option linter.all false
set_option maxRecDepth 100000
set_option maxHeartbeats 400000
namespace L2
open PySem PySem.Spec PyProof.Rows
open PySem.Builtin PySem.Builtin.ObjectAttr PySem.Builtin.Getset_descriptor
/-- an exception stands there -/
def XAt (C e : Addr) (h : Heap) : Prop := ∃ o, h.get? e = some o ∧ o.cls = .ref C
theorem XAt.type {C e : Addr} {h : Heap} (x : XAt C e h) {M : Model} : PySem.W.Looks M h (typeOf (.ref e)) (.ref C) := by
  obtain ⟨o, h1, h2⟩ := x
  exact h2 ▸ (PySem.W.Looks.ld h1).andThen .now
section
variable {prog : Program} {w : World} {A : Around} {E : Value → Shared → Prop} {K : PySem.W.Frag} {x C : Addr} {h : Heap} {g : Array GenState} {d : Drawn} {t : Nat} {os : OsState}
end
end L2
set_option Elab.async false
set_option linter.all false
set_option maxRecDepth 100000
set_option maxHeartbeats 4000000
namespace L2
open PySem PySem.Spec PyProof.Rows
section
variable {X : Cx} {pins : List (Addr × Obj)} {σ : St} {H : Hp} {s : Shared}
/-- what stands there untracked, and was not there when the body began, is tracked from here on -/
theorem Inv.track {e : Addr} {o : HO} (I : Inv X pins σ H s) (hn : H e = none) (h0 : X.s₀.heap.get? e = none) (hL : e ≠ X.env.locals) (hC : ∀ x c, X.env.cells.lookup x = some c → c ≠ e) (hp : ∀ p ∈ X.pn ++ pins, p.1 ≠ e)
    (ok : ObjOk X.prog X.w (upd H e o) s.heap e o) : Inv X pins σ (upd H e o) s where
  ok := I.ok
  os := I.os
  bare := I.bare
  base := ⟨I.base.keep, I.base.slot, fun b ob q n hx => by
      have hb : b ≠ e := fun z => by rw [z, h0] at q; cases q
      rw [upd_ne hb]; exact I.base.free b ob q n hx, I.base.there,
    fun b xs q => by have := I.base.tups b xs q; rw [upd_ne (ne_of_none this hn)]; exact this,
    fun b o u q => by have := I.base.frzs b o u q; rw [upd_ne (ne_of_none this hn)]; exact this,
    fun b ps q => by obtain ⟨more, this⟩ := I.base.tbls b ps q; exact ⟨more, by rw [upd_ne (ne_of_none this hn)]; exact this⟩⟩
  loc := I.loc
  cell := I.cell
  free := by rw [upd_ne (Ne.symm hL)]; exact I.free
  freeC := fun x c q => by rw [upd_ne (hC x c q)]; exact I.freeC x c q
  pin := fun p q => by
    obtain ⟨a, b, c⟩ := I.pin p q
    exact ⟨a, by rw [upd_ne (hp p q)]; exact b, c⟩
  hok := fun b u q => by
    by_cases hb : b = e
    · subst hb; rw [upd_same] at q; cases q; exact ok
    · rw [upd_ne hb] at q
      exact (I.hok b u q).stay (fun _ _ _ z => z) (fun c z => by rw [upd_ne (ne_of_none z hn)]; exact z) fun c xs z => by rw [upd_ne (ne_of_none z hn)]; exact z
  len := I.len
end
end L2
set_option Elab.async false
set_option linter.all false
set_option maxRecDepth 100000
set_option maxHeartbeats 400000
namespace L2
open PySem PySem.Spec PyProof.Rows
end L2
set_option Elab.async false
set_option linter.all false
set_option maxRecDepth 100000
set_option maxHeartbeats 400000
namespace L2
open PySem PySem.Spec PyProof.Rows
end L2
set_option Elab.async false
set_option linter.all false
set_option maxRecDepth 100000
set_option maxHeartbeats 400000
namespace L2
open PySem PySem.Spec PyProof.Rows
structure RoomU (k : Nat) (A : Around) : Prop where
  dp : A.depth + 3 * k + 5 < recursionLimit
  un : A.units + 16 * k + 200 < cLine
  gd : A.guards = some []
theorem RoomU.mono {j k : Nat} {A : Around} (r : RoomU k A) (h : j ≤ k) : RoomU j A := ⟨by have := r.dp; omega, by have := r.un; omega, r.gd⟩
theorem RoomU.mark {k : Nat} {A : Around} (r : RoomU k A) (ev : Option Value) : RoomU k (A.mark ev) := ⟨r.dp, r.un, r.gd⟩
theorem RoomU.deeper {k : Nat} {A : Around} (r : RoomU (k + 1) A) (env : Env) : RoomU k (A.deeper env) :=
  ⟨by have := r.dp; show A.depth + 1 + 3 * k + 5 < _; omega, by have := r.un; show A.units + 3 + 16 * k + 200 < _; omega, r.gd⟩
theorem RoomU.depth {k : Nat} {A : Around} (r : RoomU k A) : A.depth < recursionLimit := by have := r.dp; omega
theorem RoomU.units {k : Nat} {A : Around} (r : RoomU k A) : A.units + 64 < cLine := by have := r.un; omega
section
variable {X : Cx} {k : Nat} {f : Addr} {fd : FuncData} {ps : List Str} {sp : Sp} {dvs : List V} {ds : List Value} {E : XK} {x : Str} {p pos : Pos} {e : Expr} {es : List Expr} {t : TA}
end
end L2
set_option Elab.async false
set_option linter.all false
set_option maxRecDepth 100000
set_option maxHeartbeats 400000
namespace L2
open PySem PySem.Spec PyProof.Rows
section
variable {X : Cx} {o e : Expr} {es : List Expr} {to : TE} {t : TA} {name : Str} {apos cpos : Pos} {T id : String} {r : V → List V → Hp → VK → Prop}
end
end L2
set_option Elab.async false
set_option linter.all false
set_option maxRecDepth 100000
set_option maxHeartbeats 4000000
namespace L2
open PySem PySem.Spec PyProof.Rows
end L2
set_option Elab.async false
set_option linter.all false
set_option maxRecDepth 100000
set_option maxHeartbeats 4000000
namespace L2
open PySem PySem.Spec PyProof.Rows
end L2
set_option Elab.async false
set_option linter.all false
set_option maxRecDepth 100000
set_option maxHeartbeats 4000000
namespace L2
open PySem PySem.Spec PyProof.Rows
def runT {α : Type} (lt : Nat → Nat → Bool) : W.KasT α → α
  | .ret a => a
  | .ask i j k => runT lt (k (lt i j))
/-- all that is asked stands below n, and R holds at the end -/
inductive InT {α : Type} (n : Nat) (R : α → Prop) : W.KasT α → Prop
  | ret {a : α} (h : R a) : InT n R (.ret a)
  | ask {i j : Nat} {k : Bool → W.KasT α} (hi : i < n) (hj : j < n) (h : ∀ b, InT n R (k b)) : InT n R (.ask i j k)
theorem InT.end_ {α : Type} {n : Nat} {R : α → Prop} {lt : Nat → Nat → Bool} {t : W.KasT α} (h : InT n R t) : R (runT lt t) := by
  induction h with
  | ret h => exact h
  | ask _ _ _ ih => exact ih _
theorem InT.wp {α : Type} {n : Nat} {R : α → Prop} {lt : Nat → Nat → Bool} {cmp : Nat → Nat → (Bool → Shared → Prop) → Shared → Prop} {s : Shared} {post : α → Shared → Prop} (hc : ∀ (i j : Nat) (C : Bool → Shared → Prop), i < n → j < n → C (lt i j) s → cmp i j C s) : ∀ {t : W.KasT α}, InT n R t → post (runT lt t) s → W.KasT.kasWp cmp t post s
  | _, .ret _, hp => hp
  | .ask i j k, .ask hi hj h, hp => hc i j _ hi hj (InT.wp hc (h _) hp)
theorem InT.bind {α β : Type} {n : Nat} {R : α → Prop} {R' : β → Prop} {f : α → W.KasT β} (hf : ∀ a, R a → InT n R' (f a)) : ∀ {t : W.KasT α}, InT n R t → InT n R' (t.bind f)
  | _, .ret h => hf _ h
  | _, .ask hi hj h => .ask hi hj fun b => InT.bind hf (h b)
/-- an order of the places below n -/
def PrmN (n : Nat) (p : Array Nat) : Prop := p.toList.Perm (List.range n)
theorem PrmN.lt {n : Nat} {p : Array Nat} (h : PrmN n p) (hn : 0 < n) (i : Nat) : p.getD i 0 < n := by
  unfold Array.getD
  split
  · rename_i hi
    have : p.toList[i]'(by simpa using hi) ∈ List.range n := h.mem_iff.mp (List.getElem_mem _)
    exact List.mem_range.mp this
  · exact hn
theorem swap_prm {p : Array Nat} (i j : Nat) : (p.swapIfInBounds i j).toList.Perm p.toList := by
  unfold Array.swapIfInBounds
  split
  · split
    · exact (Array.swap_perm _ _).toList
    · exact .refl _
  · exact .refl _
theorem swaps_prm (f g : Nat → Nat) : ∀ (l : List Nat) (p : Array Nat), (l.foldl (fun a k => a.swapIfInBounds (f k) (g k)) p).toList.Perm p.toList
  | [], _ => .refl _
  | k :: l, p => (swaps_prm f g l _).trans (swap_prm _ _)
theorem PrmN.rev {n : Nat} {p : Array Nat} (h : PrmN n p) (i j : Nat) : PrmN n (W.kas_rev p i j) := (swaps_prm (fun k => i + k) (fun k => j - 1 - k) _ p).trans h
theorem PrmN.bubble {n : Nat} {p : Array Nat} (h : PrmN n p) (i j : Nat) : PrmN n (PyProof.Rows.bubble p i j) := (swaps_prm (fun k => i - k) (fun k => i - k - 1) _ p).trans h
section
variable {n : Nat}
theorem in_asc (hn : 0 < n) {p : Array Nat} (h : PrmN n p) : ∀ (m k : Nat), InT n (fun _ => True) (W.kas_asc p m k)
  | 0, _ => .ret trivial
  | m + 1, k => .ask (h.lt hn _) (h.lt hn _) fun b => by
    cases b with
    | true => exact .ret trivial
    | false => exact in_asc hn h m (k + 1)
theorem in_desc (hn : 0 < n) : ∀ (m : Nat) {p : Array Nat} (k q : Nat), PrmN n p → InT n (fun r => PrmN n r.1) (W.kas_desc m p k q)
  | 0, _, _, _, h => .ret h
  | m + 1, p, k, q, h => .ask (h.lt hn _) (h.lt hn _) fun b => by
    cases b with
    | true =>
      show InT n _ (if q > 0 then _ else _)
      split
      · exact in_desc hn m _ _ (h.rev _ _)
      · exact in_desc hn m _ _ h
    | false =>
      refine .ask (h.lt hn _) (h.lt hn _) fun c => ?_
      cases c with
      | true => exact .ret h
      | false => exact in_desc hn m _ _ h
theorem in_tail3 (hn : 0 < n) {p : Array Nat} (h : PrmN n p) (a b : Nat) : InT n (fun r => PrmN n r.2) (W.kas_tail3 a b p) :=
  InT.bind (R := fun _ => True) (f := fun m => .ret (m, W.kas_rev p 0 a)) (fun _ _ => .ret (h.rev _ _)) (in_asc hn (h.rev _ _) _ _)
theorem in_descPart (hn : 0 < n) {p : Array Nat} (h : PrmN n p) (a b : Nat) : InT n (fun r => PrmN n r.2) (W.kas_descPart a b p) := by
  refine InT.bind (R := fun r => PrmN n r.1) (fun r hr => ?_) (in_desc hn _ _ _ h)
  split
  · exact in_tail3 hn (hr.rev _ _) _ _
  · exact in_tail3 hn hr _ _
theorem in_count (hn : 0 < n) {p : Array Nat} (h : PrmN n p) (m : Nat) : InT n (fun r => PrmN n r.2) (W.kas_count m p) := by
  refine InT.bind (R := fun _ => True) (fun k _ => ?_) (in_asc hn h _ _)
  split
  · exact .ret h
  · split
    · refine .ask (h.lt hn _) (h.lt hn _) fun b => ?_
      cases b with
      | true => exact .ret h
      | false => exact in_descPart hn (h.rev _ _) _ _
    · exact in_descPart hn h _ _
theorem in_place (hn : 0 < n) {p : Array Nat} (h : PrmN n p) (k : Nat) : ∀ (m l r : Nat), InT n (fun _ => True) (W.kas_place p k m l r)
  | 0, _, _ => .ret trivial
  | m + 1, l, r => by
    show InT n _ (if l ≥ r then _ else _)
    split
    · exact .ret trivial
    · refine .ask (h.lt hn _) (h.lt hn _) fun b => ?_
      cases b with
      | true => exact in_place hn h k m _ _
      | false => exact in_place hn h k m _ _
theorem in_bin (hn : 0 < n) : ∀ (m : Nat) {p : Array Nat} (k : Nat), PrmN n p → InT n (PrmN n) (W.kas_bin m p k)
  | 0, _, _, h => .ret h
  | m + 1, p, k, h => InT.bind (R := fun _ => True) (fun l _ => in_bin hn m _ (h.bubble _ _)) (in_place hn h k _ _ _)
theorem in_sort (hn : 0 < n) : InT n (PrmN n) (W.kas_sort n) := by
  refine InT.bind (R := fun r => PrmN n r.2) (fun r hr => ?_) (in_count hn (p := (List.range n).toArray) (.refl _) _)
  split
  · exact in_bin hn _ _ hr
  · exact .ret hr
end
/-- which comes first -/
def lexF (fin : Bool) : List Str → List Str → Bool
  | x :: xs, y :: ys => if x = y then lexF fin xs ys else decide (x.cps.toList < y.cps.toList)
  | _, _ => fin
def lexT (xs ys : List Str) : Bool := lexF (decide (xs.length < ys.length)) xs ys
/-- the places in order -/
def idxT (ts : List (List Str)) : List Nat := if ts.length < 2 then List.range ts.length else (runT (fun i j => lexT (ts.getD i []) (ts.getD j [])) (W.kas_sort ts.length)).toList
theorem idxT_perm (ts : List (List Str)) : (idxT ts).Perm (List.range ts.length) := by
  unfold idxT
  split
  · exact .refl _
  · rename_i h
    exact (in_sort (n := ts.length) (by omega)).end_
theorem idxT_len (ts : List (List Str)) : (idxT ts).length = ts.length := by rw [(idxT_perm ts).length_eq, List.length_range]
theorem idxT_lt {ts : List (List Str)} {i : Nat} (h : i ∈ idxT ts) : i < ts.length := List.mem_range.mp ((idxT_perm ts).mem_iff.mp h)
/-- tuples of texts, none of them the thing at a -/
inductive TupsOf (h : Heap) (a : Addr) : List Value → List (List Str) → Prop
  | nil : TupsOf h a [] []
  | cons {b : Addr} {ob : Obj} {xs : Array Value} {k : Nat} {t : List Str} {vs : List Value} {ts : List (List Str)} (ne : b ≠ a) (e : h.get? b = some ob) (c : ob.cls = .type "tuple") (d : ob.data = .seq xs k) (st : StrsAre xs.toList t) (t0 : t ≠ []) (r : TupsOf h a vs ts) : TupsOf h a (.ref b :: vs) (t :: ts)
theorem TupsOf.len {h : Heap} {a : Addr} : ∀ {vs : List Value} {ts : List (List Str)}, TupsOf h a vs ts → vs.length = ts.length
  | _, _, .nil => rfl
  | _, _, .cons _ _ _ _ _ _ r => congrArg (· + 1) (TupsOf.len r)
theorem TupsOf.mono {h h' : Heap} {a a' : Addr} (k : ∀ b o, b ≠ a → h.get? b = some o → h'.get? b = some o ∧ b ≠ a') : ∀ {vs : List Value} {ts : List (List Str)}, TupsOf h a vs ts → TupsOf h' a' vs ts
  | _, _, .nil => .nil
  | _, _, .cons ne e c d st t0 r => .cons (k _ _ ne e).2 (k _ _ ne e).1 c d st t0 (TupsOf.mono k r)
theorem TupsOf.at {h : Heap} {a : Addr} : ∀ {vs : List Value} {ts : List (List Str)} (i : Nat), TupsOf h a vs ts → i < ts.length → ∃ b ob xs k, vs.getD i .none = .ref b ∧ h.get? b = some ob ∧ ob.data = .seq xs k ∧ StrsAre xs.toList (ts.getD i [])
  | _, _, i, .nil, hi => absurd hi (Nat.not_lt_zero _)
  | _, _, 0, .cons _ e _ d st _ _, _ => ⟨_, _, _, _, rfl, e, d, st⟩
  | _, _, i + 1, .cons _ _ _ _ _ _ r, hi => TupsOf.at i r (Nat.lt_of_succ_lt_succ hi)
theorem TupsOf.firsts {h : Heap} {a : Addr} : ∀ {vs : List Value} {ts : List (List Str)}, TupsOf h a vs ts → ∃ fs, W.KatTups h vs fs ∧ fs.length = ts.length ∧ ∀ v ∈ fs, ∃ x t, v = .str x t
  | _, _, .nil => ⟨[], trivial, rfl, fun _ z => nomatch z⟩
  | _, _, .cons (xs := xs) (t := t) ne e c d st t0 r => by
    obtain ⟨fs, h1, h2, h3⟩ := TupsOf.firsts r
    obtain ⟨x, tk, hx⟩ : ∃ x tk, xs[0]? = some (.str x tk) := by
      rw [← Array.getElem?_toList]
      cases hl : xs.toList with
      | nil => rw [hl] at st; cases st; exact absurd rfl t0
      | cons v vs => rw [hl] at st; cases st with | cons x tk _ => exact ⟨x, tk, rfl⟩
    refine ⟨.str x tk :: fs, ⟨⟨_, _, _, _, rfl, e, c, d, hx⟩, h1⟩, congrArg (· + 1) h2, fun v hv => ?_⟩
    rcases List.mem_cons.mp hv with rfl | hv
    · exact ⟨x, tk, rfl⟩
    · exact h3 v hv
theorem lex_same {fin : Bool} {x : Str} {xs ys : List Str} : lexF fin (x :: xs) (x :: ys) = lexF fin xs ys := if_pos rfl
theorem lex_diff {fin : Bool} {x y : Str} {xs ys : List Str} (h : x ≠ y) : lexF fin (x :: xs) (y :: ys) = decide (x.cps.toList < y.cps.toList) := if_neg h
theorem lex_go {prog : Program} {w : World} {A : Around} {fin : Bool} {Q : Bool → Shared → Prop} {s : Shared} : ∀ {us vs : List Value} {xs ys : List Str} (i : Nat), StrsAre us xs → StrsAre vs ys → Q (lexF fin xs ys) s → W.KatLex prog w A true fin Q (us.zip vs) i s
  | _, _, _, _, i, .nil, h2, q => by cases h2 <;> exact q
  | _, _, _, _, i, .cons _ _ _, .nil, q => q
  | _, _, _, _, i, .cons x t h1, .cons y u h2, q => by
    refine W.kat_cons (SeqAt.EqAt.str_str x t y u _ _ _ _ ?_)
    refine W.kat_go (fun e => ?_) (fun e => ?_)
    · have e : x = y := eq_of_beq e
      subst e
      refine W.kat_yes (lex_go (i + 1) h1 h2 ?_)
      rw [lex_same] at q
      exact q
    · have ne : x ≠ y := fun z => by rw [z, beq_self_eq_true] at e; cases e
      have q' : Q (decide (x.cps.toList < y.cps.toList)) s := by
        rw [lex_diff ne] at q
        exact q
      refine W.kat_no ?_
      cases i with
      | zero => exact strKind_oneLt prog w A _ s _ _ x.cps.toList y.cps.toList rfl rfl q'
      | succ i => exact W.kat_one _ _ (lt_str q')
theorem strsA_len : ∀ {us : List Value} {xs : List Str}, StrsAre us xs → us.length = xs.length
  | _, _, .nil => rfl
  | _, _, .cons _ _ h => congrArg (· + 1) (strsA_len h)
theorem looks_str {M : Model} {h : Heap} {x : Str} {t : Tok} : W.Looks M h (typeOf (.str x t)) (.type "str") := fun A Q E s _ q => wpAny_pure q
theorem list_sort_T {prog : Program} {w : World} {A : Around} {E : Value → Shared → Prop} {s : Shared} {a : Addr} {vs : List Value} {n : Nat} {ts : List (List Str)} {P : PySem.Fin → Shared → Prop} (ho : s.heap.get? a = some (seqObj "list" vs.toArray n)) (ht : TupsOf s.heap a vs ts) (h64 : vs.length < 64)
    (h : P (.done (.ret .none)) { s with heap := sortedHeap s.heap a vs ((idxT ts).map fun i => vs.getD i .none).toArray }) : wpAny (model prog w) A (Builtin.«list.sort» { pos := [.ref a] }) P E s := by
  have hlen := ht.len
  have z64 : vs.length ≤ sizeLine := Nat.le_of_lt (small1000 (by omega))
  have ha := Heap.lt_size ho
  rw [list_sort_plain a]
  refine wpAny_bind (listItems_at ho rfl (wpAny_bind (listUpdate_at ho rfl ?_ (by simpa using z64) (Nat.zero_le _))))
  obtain ⟨e1, ho1⟩ : ∃ e1, (s.heap.update a (Obj.mapSeq fun x => #[])).get? a = some (seqObj "list" #[] e1) := ⟨_, get?_update_seq ho fun x => #[]⟩
  refine wpAny_bind (seqEpoch_at ho1 rfl (wpAny_bind (wpAny_newTuple ?_ (by simpa using z64))))
  refine wpAny_bind (wpAny_newList ?_ (Nat.zero_le _))
  refine wpAny_holding ?_
  have hz1 : (s.heap.update a (Obj.mapSeq fun x => #[])).objs.size = s.heap.objs.size := Heap.size_update _ _ _
  have ho6 : (((s.heap.update a (Obj.mapSeq fun x => #[])).push (seqObj "tuple" vs.toArray 0)).push (seqObj "list" #[] 0)).get? a = some (seqObj "list" #[] e1) := by
    rw [Heap.get?_push_ne _ a _ (by rw [size_push', hz1]; exact Nat.ne_of_lt (Nat.lt_succ_of_lt ha)), Heap.get?_push_ne _ a _ (by rw [hz1]; exact Nat.ne_of_lt ha)]
    exact ho1
  have ht6 : TupsOf (((s.heap.update a (Obj.mapSeq fun x => #[])).push (seqObj "tuple" vs.toArray 0)).push (seqObj "list" #[] 0)) a vs ts := ht.mono fun b o ne e => by
    refine ⟨?_, ne⟩
    have hb := Heap.lt_size e
    rw [Heap.get?_push_ne _ b _ (by rw [size_push', hz1]; exact Nat.ne_of_lt (Nat.lt_succ_of_lt hb)), Heap.get?_push_ne _ b _ (by rw [hz1]; exact Nat.ne_of_lt hb)]
    exact (Heap.get?_update_ne _ _ _ _ ne).trans e
  have fin : ∀ st : SortSt, (arrOf st).map (fun x => x.2) = ((idxT ts).map fun i => vs.getD i .none).toArray → failedOf st = none →
      wpAny (model prog w) A (do
        let __do_lift ← seqEpoch a
        Builtin.List.listUpdate (Value.ref a) fun x => Array.map (fun x => x.snd) (arrOf st)
        match failedOf st with
          | some e => do
            rule "list.sort.comparison-raised"
            throw e
            if (__do_lift != e1) = true then do
                rule "list.sort.modified"
                raiseErrorWords "ValueError" "list modified during sort"
                ret Value.none
              else ret Value.none
          | x =>
            if (__do_lift != e1) = true then do
              rule "list.sort.modified"
              raiseErrorWords "ValueError" "list modified during sort"
              ret Value.none
            else ret Value.none) P E { s with heap := ((s.heap.update a (Obj.mapSeq fun x => #[])).push (seqObj "tuple" vs.toArray 0)).push (seqObj "list" #[] 0) } := fun st e1' e2' => by
    refine wpAny_bind (seqEpoch_at ho6 rfl (wpAny_bind (listUpdate_at ho6 rfl ?_ (Nat.zero_le _) ?_)))
    · rw [e2']
      simp only [bne_self_eq_false, Bool.false_eq_true, if_false]
      rw [e1']
      exact wpAny_pure h
    · rw [e1']
      simp only [List.size_toArray, List.length_map, idxT_len]
      omega
  have hsz : vs.toArray.size = vs.length := by simp
  have got : ∀ l : List Nat, l = List.range vs.length → l.map (fun i => vs.getD i Value.none) = vs := fun l e => by
    subst e
    refine List.ext_getElem (by simp) fun i h1 h2 => ?_
    simp only [List.getElem_map, List.getElem_range]
    rw [List.getD_eq_getElem?_getD, List.getElem?_eq_getElem h2]
    rfl
  by_cases h2 : vs.toArray.size < 2
  · show wpAny _ _ (if vs.toArray.size < 2 then _ else _) _ _ _
    rw [if_pos h2]
    refine wpAny_bind (wpAny_pure ?_)
    dsimp only
    rw [if_pos h2, StateT.run_pure]
    refine wpAny_bind (wpAny_pure ?_)
    refine fin _ ?_ rfl
    have e1 : idxT ts = List.range vs.length := by
      unfold idxT
      rw [if_pos (by omega), hlen]
    rw [got _ e1]
    show Array.map (fun x => x.2) (vs.toArray.zip vs.toArray) = vs.toArray
    rw [show (fun x : Value × Value => x.2) = Prod.snd from rfl]
    apply Array.ext'
    rw [Array.toList_map, Array.toList_zip]
    exact List.map_snd_zip (Nat.le_refl _)
  · show wpAny _ _ (if vs.toArray.size < 2 then _ else _) _ _ _
    rw [if_neg h2]
    obtain ⟨fs, k1, k2, k3⟩ := ht6.firsts
    have hn : 2 ≤ vs.length := by omega
    refine wpAny_bind (W.kat_kind (T := .type "str") k1 (by omega) (fun v hv => ?_) (by decide) ?_)
    · obtain ⟨x, tk, rfl⟩ := k3 v hv; exact looks_str
    rw [if_neg h2]
    refine wpAny_bind (wpAny_mono (W.kat_run (E := E) (ks := vs) (Q := fun st s' => (arrOf st).map (fun x => x.2) = ((idxT ts).map fun i => vs.getD i .none).toArray ∧ failedOf st = none ∧ s' = { s with heap := ((s.heap.update a (Obj.mapSeq fun x => #[])).push (seqObj "tuple" vs.toArray 0)).push (seqObj "list" #[] 0) }) (G := fun p s' => p.toList = idxT ts ∧ s' = { s with heap := ((s.heap.update a (Obj.mapSeq fun x => #[])).push (seqObj "tuple" vs.toArray 0)).push (seqObj "list" #[] 0) }) rfl hn h64 (fun p st' s' _ e3 e4 g => ?_) ?_) (fun r s' q => ?_) fun _ _ x => x)
    rotate_left
    rotate_left
    · obtain ⟨q1, q2, rfl⟩ := q
      exact fin r.2 q1 q2
    · obtain ⟨g1, g2⟩ := g
      refine ⟨?_, e4, g2⟩
      rw [e3]
      apply Array.ext'
      simp only [Array.toList_map, List.map_map]
      rw [g1]
      refine List.map_congr_left fun i _ => ?_
      show (W.kas_item (pairsOf vs) i).2 = _
      rw [W.kas_item_eq]
    · refine InT.wp (n := vs.length) (R := PrmN vs.length) (lt := fun i j => lexT (ts.getD i []) (ts.getD j [])) (fun i j C hi hj q => ?_) (in_sort (by omega)) ⟨?_, rfl⟩
      · obtain ⟨b1, o1, x1, n1, a1, a2, a3, a4⟩ := ht6.at i (by omega)
        obtain ⟨b2, o2, x2, n2, c1, c2, c3, c4⟩ := ht6.at j (by omega)
        show wpAny _ _ (keyLt' _ (vs.getD i .none) (vs.getD j .none)) _ _ _
        rw [a1, c1]
        refine W.kat_lt a2 a3 c2 c3 (lex_go 0 a4 c4 ?_)
        have z1 := strsA_len a4
        have z2 := strsA_len c4
        rw [Array.length_toList] at z1 z2
        rw [z1, z2]
        exact q
      · unfold idxT
        rw [if_neg (by omega), hlen]
/-- tuples of texts as they stand -/
inductive TupsH (H : Hp) : List Addr → List (List Str) → Prop
  | nil : TupsH H [] []
  | cons {b : Addr} {t : List Str} {bs : List Addr} {ts : List (List Str)} (e : H b = some (.tup (t.map V.str))) (t0 : t ≠ []) (r : TupsH H bs ts) : TupsH H (b :: bs) (t :: ts)
theorem TupsH.len {H : Hp} : ∀ {bs : List Addr} {ts : List (List Str)}, TupsH H bs ts → bs.length = ts.length
  | _, _, .nil => rfl
  | _, _, .cons _ _ r => congrArg (· + 1) (TupsH.len r)
theorem TupsH.of {X : Cx} {pins : List (Addr × Obj)} {σ : St} {H : Hp} {s : Shared} {h' : Heap} {a : Addr} (I : Inv X pins σ H s) (k : ∀ b o, s.heap.get? b = some o → h'.get? b = some o ∧ b ≠ a) : ∀ {bs : List Addr} {ts : List (List Str)} {us : List Value}, TupsH H bs ts → Vals (bs.map V.ref) us → TupsOf h' a us ts
  | _, _, _, .nil, v => by cases v; exact .nil
  | _, _, _, .cons e t0 r, v => by
    cases v with
    | cons h v =>
      cases h
      obtain ⟨its, rv, ⟨o, ho, hc, n, hd⟩, _⟩ := I.tuple (SqT.of e)
      exact .cons (k _ _ ho).2 (k _ _ ho).1 hc hd (by simpa using strsAre_of rv) t0 (TupsH.of I k r v)
inductive rSortT_I (K : PySem.W.Frag) (xs : List V) (H : Hp) (Q : VK) : Prop
  | mk : ∀ (p : Addr) (bs : List Addr) (ts : List (List Str)), xs = [.ref p] → SqL K H p (bs.map V.ref) → TupsH H bs ts → ts.length < 64 → (∀ l, H l = none → Q (.ref l) (upd H l (.lst ((idxT ts).map fun i => (bs.map V.ref).getD i .non)))) → rSortT_I K xs H Q
theorem vals_getD : ∀ {xs : List V} {us : List Value} (i : Nat), Vals xs us → i < xs.length → RelV (xs.getD i .non) (us.getD i .none)
  | _, _, 0, .cons h _, _ => h
  | _, _, i + 1, .cons _ v, hi => vals_getD i v (Nat.lt_of_succ_lt_succ hi)
theorem vals_idx {xs : List V} {us : List Value} (v : Vals xs us) : ∀ {l : List Nat}, (∀ i ∈ l, i < xs.length) → Vals (l.map fun i => xs.getD i .non) (l.map fun i => us.getD i .none)
  | [], _ => .nil
  | i :: l, h => .cons (vals_getD i v (h i List.mem_cons_self)) (vals_idx v fun j hj => h j (List.mem_cons_of_mem _ hj))
theorem call_sortedT {X : Cx} : CallR X (.builtin "sorted") (fun xs H Q => rSortT_I X.K xs H Q) := by
  intro pins s σ H xs us Q I r h
  obtain ⟨p, bs, ts, rfl, hS, hT, hl, q⟩ := h
  obtain ⟨u, rfl, rx⟩ := vals1 r
  cases rx
  obtain ⟨its, rv, pl, _⟩ := I.list hS
  have hlen : its.length = ts.length := by have := rv.length; rw [List.length_map, hT.len] at this; exact this.symm
  have z64 : its.length ≤ sizeLine := Nat.le_of_lt (small1000 (by omega))
  refine Calls.call_function_entry kind_sorted plain_sorted entry_sorted (args_sorted1 _) ?_
  unfold Builtin.«sorted»
  refine wpAny_bind (m := checkCount "sorted" 1 1 _) (wpAny_pure ?_)
  refine wpAny_bind (collect_list pl.isList ?_ z64)
  refine wpAny_bind (wpAny_newList ?_ z64)
  have hsz : ((s.heap.push (seqObj "list" #[] 0)).update s.heap.objs.size (Obj.mapSeq fun x => x ++ its.toArray)).objs.size = s.heap.objs.size + 1 := by rw [Heap.size_update, size_push']
  have hoL : (((s.heap.push (seqObj "list" #[] 0)).update s.heap.objs.size (Obj.mapSeq fun x => x ++ its.toArray)).push (seqObj "list" its.toArray 0)).get? (s.heap.objs.size + 1) = some (seqObj "list" its.toArray 0) := by
    rw [← hsz]; exact Heap.get?_push_size _ rfl
  have old : ∀ b o, s.heap.get? b = some o → (((s.heap.push (seqObj "list" #[] 0)).update s.heap.objs.size (Obj.mapSeq fun x => x ++ its.toArray)).push (seqObj "list" its.toArray 0)).get? b = some o ∧ b ≠ s.heap.objs.size + 1 := fun b o e => by
    have hb := Heap.lt_size e
    refine ⟨?_, Nat.ne_of_lt (Nat.lt_succ_of_lt hb)⟩
    rw [Heap.get?_push_ne _ b _ (by rw [hsz]; exact Nat.ne_of_lt (Nat.lt_succ_of_lt hb)), Heap.get?_update_ne _ _ _ _ (Nat.ne_of_lt hb)]
    exact Heap.get?_push_of_some _ e
  rw [show (Value.ref ((s.heap.push (seqObj "list" #[] 0)).update s.heap.objs.size (Obj.mapSeq fun x => x ++ its.toArray)).objs.size) = .ref (s.heap.objs.size + 1) by rw [hsz]]
  have hT2 := hT.of I (a := s.heap.objs.size + 1) old rv
  refine wpAny_bind (wpAny_holding (wpAny_call_entry slot_list_sort ⟨_, hoL, rfl⟩ entry_list_sort (list_sort_T hoL hT2 (by omega) ⟨_, rfl, ?_⟩) (args_list_sort _)))
  refine wpAny_pure ⟨_, rfl, ?_⟩
  obtain ⟨e, he⟩ := sortedHeap_at (out := ((idxT ts).map fun i => its.getD i .none).toArray) hoL
  have hz : s.heap.objs.size ≤ s.heap.objs.size + 1 := Nat.le_succ _
  refine ⟨.ref (s.heap.objs.size + 1), _, I.laid (t' := s.toks) (fun b u hb => ?_) hz (show ObjOk X.prog X.w _ _ _ (.lst ((idxT ts).map fun i => (bs.map V.ref).getD i .non)) from ⟨?_, (idxT ts).map (fun i => its.getD i .none), e, vals_idx rv fun i hi => ?_, he⟩), rfl, q _ (I.hok.fresh hz)⟩
  · obtain ⟨o1, o2⟩ := old b u hb
    rw [sortedHeap_old o2 (Heap.lt_size o1)]
    exact o1
  · rw [List.length_map, idxT_len]; exact Nat.le_of_lt (small1000 (by omega))
  · rw [List.length_map, hT.len]; exact idxT_lt hi
end L2
set_option Elab.async false
set_option linter.all false
set_option maxRecDepth 100000
set_option maxHeartbeats 4000000
namespace L2
open PySem PySem.Spec PyProof.Rows
section
variable {X : Cx} {pins : List (Addr × Obj)} {σ : St} {H : Hp} {s : Shared} {h' : Heap}
/-- untracked records of ours have turned -/
theorem Inv.turnedL {t' : Nat} {ch : List Addr} (I : Inv X pins σ H s) (k : ∀ b o, b ∉ ch → s.heap.get? b = some o → h'.get? b = some o) (f : ∀ b ∈ ch, FpOk X pins H b) : Inv X pins σ H { s with heap := h', toks := t' } := by
  have nit : ∀ b u, H b = some u → b ∉ ch := fun b u e z => by rw [(f b z).1] at e; cases e
  refine I.step (g' := s.gens) (d' := s.drawn) (ch := ch) (fun b hb => ?_) (fun b o _ _ hc e _ => k b o hc e) (fun b o _ _ hc e _ => ⟨o.slots, k b o hc e⟩) (fun _ _ _ _ n => n)
    (fun b o hc e => ⟨o, k b o hc e⟩) (fun _ _ e => e) (fun _ _ _ e => e) (fun b ps e => ⟨#[], by rw [e]; simp⟩) (fun m hm => ?_) (fun b u e => ?_) I.bare
  · obtain ⟨_, f1, _, f3, f4, f5⟩ := f b hb
    exact ⟨f3, f1, f4, f5⟩
  · obtain ⟨o, es, ep, ho, r⟩ := hm
    exact ⟨o, es, ep, k _ o (fun z => (f _ z).2.1 rfl) ho, r⟩
  · refine (I.hok b u e).stay (fun c v hc q => k c v ?_ q) (fun _ q => q) fun _ _ q => q
    rcases hc with z | z
    · rw [z]; exact nit b u e
    · exact nit c _ z
end
/-- (0, x), (1, y), .. of the list at l -/
def Ite (K : PySem.W.Frag) (l : Addr) : It :=
  ⟨fun i H => ∃ xs x, SqL K H l xs ∧ xs[i]? = some x, fun i H v H' => ∃ (T : Addr) (x : V), (∀ xs, SqL K H l xs → xs[i]? = some x) ∧ H T = none ∧ v = .ref T ∧ H' = upd H T (.tup [.int i, x]), fun i H => ∃ xs, SqL K H l xs ∧ xs.length = i⟩
theorem turn_enum {P : Program} {w : World} {K : PySem.W.Frag} {elts : List Expr} {kt : Nat} {pt : Pos} (l e it : Addr) (h1 : e ≠ it) (h2 : l ≠ e) (h3 : l ≠ it) : Turn P w K (.Tuple elts kt pt) (Ite K l) [e, it] e (fun i h => (∃ old, IsEnum h e it (i : Int) old) ∧ h.IsListIter it l i) where
  mem := by simp
  obj := fun i h st b hb => by
    obtain ⟨⟨old, s1⟩, o, s2, c, d⟩ := st
    rcases List.mem_cons.mp hb with rfl | hb
    · exact ⟨_, s1, fun v z => by cases z⟩
    · have e := List.mem_singleton.mp hb
      subst e
      exact ⟨o, s2, fun v z => by rw [d] at z; cases z⟩
  keep := fun i h h' st k => ⟨let ⟨old, s1⟩ := st.1; ⟨old, k e (by simp) _ s1⟩, st.2.at fun o q => k it (by simp) o q⟩
  item := by
    intro X hP hw hK hc i pins s σ H E I hf st hg
    subst hP hw hK
    obtain ⟨xs, x, hq, hx⟩ := hg
    obtain ⟨its, rv, p, hz⟩ := I.list hq
    obtain ⟨u, hu, ru⟩ := rv.get hx
    have hlt : i < its.length := (List.getElem?_eq_some_iff.mp hu).1
    have W := WalksT.enumerate (prog := X.prog) (w := X.w) (I.ok.hd hc) e it l h1 h2 h3 its.toArray
    refine W.item i s _ E (by simpa using hlt) ⟨st.1, st.2, p.isList⟩ fun T vals h' tk hv hT isT mid same => ⟨.ref T, rfl, ?_⟩
    obtain ⟨t, x', hx', rfl⟩ := hv
    have ex : x' = u := by
      have : its.toArray[i]? = some u := by simpa using hu
      rw [this] at hx'
      exact (Option.some.inj hx').symm
    subst ex
    refine W.go elts kt pt i T _ _ E mid fun h2' st2 same2 => ?_
    have hf' : ∀ b ∈ [e, it], FpOk X pins H b := hf
    have I1 : Inv X pins σ H { s with heap := h2', toks := tk } := I.turnedL (t' := tk) (ch := [e, it]) (fun b o hb q => same2 b o hb (same b o hb q)) hf'
    have nT : T ∉ [e, it] := W.apart _ _ _ mid
    obtain ⟨o, oT, oc, n, od⟩ := id isT
    have isT2 : h2'.IsTuple T #[.int (i : Int) t, x'] := ⟨o, same2 T o nT oT, oc, n, od⟩
    have hn : H T = none := I.hok.fresh hT
    have fp := I.fpOk (b := T) (H' := H) hT hn
    have h0 : X.s₀.heap.get? T = none := by
      cases q : X.s₀.heap.get? T with
      | none => rfl
      | some o => exact absurd (Nat.lt_of_lt_of_le (Heap.lt_size q) (Nat.le_trans I.sz hT)) (Nat.lt_irrefl _)
    refine ⟨.ref T, upd H T (.tup [.int i, x]), I1.track hn h0 fp.2.1 fp.2.2.2.2.1 fp.2.2.2.2.2 ?_, rfl, ⟨T, x, fun ys hy => by rw [I.list_inj hy hq]; exact hx, hn, rfl, rfl⟩, ⟨st2.1, st2.2.1⟩, fun b hb => ?_⟩
    · exact ⟨by show 2 ≤ sizeLine; decide, [.int i t, x'], .cons ⟨t, rfl⟩ (.cons ru .nil), isT2⟩
    · rw [upd_ne (fun z => nT (by rw [← z]; exact hb))]
      exact (hf b hb).1
  done := by
    intro X hP hw hK hc i pins s σ H E I hf st hg
    subst hP hw hK
    obtain ⟨xs, hq, hx⟩ := hg
    obtain ⟨its, rv, p, hz⟩ := I.list hq
    have hl := rv.length
    have W := WalksT.enumerate (prog := X.prog) (w := X.w) (I.ok.hd hc) e it l h1 h2 h3 its.toArray
    have ei : its.toArray.size = i := by simp; omega
    have hf' : ∀ b ∈ [e, it], FpOk X pins H b := hf
    refine W.done s _ E (by rw [ei]; exact ⟨st.1, st.2, p.isList⟩) fun h' tk same => ⟨rfl, I.turnedL (t' := tk) (ch := [e, it]) same hf'⟩
  self := fun A i s Q E st h => let ⟨_, s1⟩ := st.1; wpAny_pyIter_enum s1 h
inductive iEnum_I (K : PySem.W.Frag) (R : (It → Hp → Prop)) (vs : List V) (H1 : Hp) : Prop
  | mk : ∀ (l : Addr) (xs : List V), vs = [.ref l] → H1 l = some (.lst xs) → R (Ite K l) H1 → iEnum_I K R vs H1
def iEnum (K : PySem.W.Frag) (ta : TA) : TI := fun σ H R => ta σ H fun vs H1 => iEnum_I K R vs H1
theorem pi_enum {X : Cx} {elts : List Expr} {kt : Nat} {pt : Pos} {a : Expr} {ta : TA} {p pos : Pos} (hg : Gl X "enumerate") (hm : X.mg "enumerate" = none) (ha : PA X [a] ta) (hs : starEach [a] X.env = [(false, eval a X.env)] := by rfl) : PI X (.Tuple elts kt pt) (.Call (.Name "enumerate" p) [a] [] pos) (iEnum X.K ta) := by
  intro pins s σ H R I h
  refine Call_ (ld_blt I hg hm boot_enumerate (PyProof.Rows.callWith_type1 (thn (ha pos pins s σ H _ I h) fun us s1 ⟨vs, H1, I1, r1, q1⟩ => ?_) hs rfl))
  obtain ⟨l, xs, e, hl, q⟩ := q1
  subst e
  cases r1 with
  | cons r rr =>
    cases rr
    cases r
    obtain ⟨its, rv, p, _⟩ := I1.list (SqL.of hl)
    have ll : l < s1.heap.objs.size := (I1.hok l _ hl).lt
    refine call_enumerate_list p.isList fun h' i1 i2 hz keep => ?_
    have I2 : Inv X pins σ H1 { s1 with heap := h' } := I1.kept (t' := s1.toks) keep
    refine wpAny_pyIter_enum i1 ⟨s1.heap.objs.size + 1, [s1.heap.objs.size + 1, s1.heap.objs.size], _, _, H1, rfl, I2, turn_enum l (s1.heap.objs.size + 1) s1.heap.objs.size (Nat.succ_ne_self _) (Nat.ne_of_lt (Nat.lt_succ_of_lt ll)) (Nat.ne_of_lt ll), ⟨⟨_, i1⟩, i2⟩, fun b hb => ?_, q⟩
    rcases List.mem_cons.mp hb with rfl | hb
    · exact I1.fpOk (Nat.le_succ _) (I1.hok.fresh (Nat.le_succ _))
    · rw [List.mem_singleton.mp hb]
      exact I1.fpOk (Nat.le_refl _) (I1.hok.fresh (Nat.le_refl _))
/-- [f(k, x) for k, x in enumerate(l)], with what is known of the things laid -/
theorem comp_enumH {K : PySem.W.Frag} {l : Addr} {xs : List V} {fr : List (Nat × Str)} {te : TE} {σ : St} {H1 : Hp} {Q : VK} (Pv : Addr → Nat → List V → Hp → Prop) (hz : xs.length ≤ sizeLine) (hS : SqL K H1 l xs) (h0 : ∀ D, H1 D = none → Pv D 0 [] (upd H1 D (.lst []))) (hlen : ∀ D i ys H, Pv D i ys H → ys.length = i)
    (mono : ∀ D i ys H H', Pv D i ys H → Same H H' → Pv D i ys H')
    (hte : ∀ (D : Addr) (i : Nat) (x : V) (ys : List V) (H3 : Hp) (Q' : VK), xs[i]? = some x → H1 D = none → Pv D i ys H3 → H3 D = some (.lst ys) → Same H1 H3 → (∀ y H5, Same H3 H5 → Pv D (i + 1) (ys ++ [y]) (upd H5 D (.lst (ys ++ [y]))) → Q' y H5) → te (some (.int i) :: some x :: frV σ fr) H3 Q')
    (hQ : ∀ D ys H2, H1 D = none → Pv D xs.length ys H2 → Same H1 H2 → H2 D = some (.lst ys) → Q (.ref D) H2) :
    compGoal2 K (Ite K l) fr te σ H1 Q := by
  intro D hD
  refine ⟨fun i m ys H2 => m = xs.length - i ∧ i ≤ xs.length ∧ Pv D i ys H2 ∧ Same H1 H2 ∧ H2 D = some (.lst ys), ⟨xs.length, by simp, Nat.zero_le _, h0 D hD, Same.upd_new hD, upd_same⟩, ?_⟩
  rintro i m ys H2 ⟨rfl, hi, p, s2, d2⟩
  refine ⟨d2, ?_⟩
  have hS2 := s2.seq hS
  by_cases hlt : i < xs.length
  · refine .inr ⟨⟨xs, xs[i], hS2, List.getElem?_eq_getElem hlt⟩, ?_⟩
    rintro v H3 ⟨T, x, hx, hT, rfl, rfl⟩
    have s3 : Same H2 (upd H2 T (.tup [.int i, x])) := Same.upd_new hT
    refine ⟨T, .int i, x, rfl, SqT.of upd_same, ?_⟩
    refine hte D i x ys _ _ (hx xs hS2) hD (mono _ _ _ _ _ p s3) (s3 _ _ d2) (s2.trans s3) fun y H5 s5 p' => ⟨s5 _ _ (s3 _ _ d2), ?_, xs.length - (i + 1), by omega, rfl, hlt, p', ((s2.trans s3).trans s5).upd_of hD, upd_same⟩
    rw [hlen D i ys _ p]; omega
  · have e : i = xs.length := by omega
    subst e
    exact .inl ⟨⟨xs, hS2, rfl⟩, hQ D ys H2 hD p s2 d2⟩
end L2
set_option Elab.async false
set_option linter.all false
set_option maxRecDepth 100000
set_option maxHeartbeats 4000000
namespace L2
open PySem PySem.Spec PyProof.Rows
theorem entry_dul : entryFor table "dict.update.loop" = some Builtin.«dict.update.loop» := by kernel_rfl
theorem plain_dul : plainId "dict.update.loop" = true := by kernel_rfl
theorem tl_keys : typeLookup (Value.type "list") (Str.ofString "keys") = pure none := by kernel_rfl
theorem sub_ae : isSubtype (.type "AttributeError") (.type "AttributeError") = pure true := by kernel_rfl
theorem keys_none {prog : Program} {w : World} {A : Around} {E : Value → Shared → Prop} {h : Heap} {g : Array GenState} {d : Drawn} {t : Nat} {os : OsState} {a : Addr} {xs : Array Value} {k : Nat} {sl : Array (Option Value)} {Q : Option Value → Shared → Prop} (hh : A.handled = none) (ho : h.get? a = some { cls := .type "list", data := .seq xs k, slots := sl })
    (hq : ∀ h' tk, (∀ b o, h.get? b = some o → h'.get? b = some o) → Q none ⟨h', g, d, tk, os⟩) : wpAny (model prog w) A (getAttr? (.ref a) "keys") Q E ⟨h, g, d, t, os⟩ := by
  have hT : Shared.TypeIs ⟨h, g, d, t + 1, os⟩ (.ref a) "list" := ⟨_, ho, rfl⟩
  unfold getAttr?
  refine wpAny_bind ?_
  refine wpAny_mkText ?_
  unfold getAttrBy?
  refine wpAny_bind (wpAny_attempt ?_)
  unfold getAttrBy
  refine wpAny_holding (wpAny_bind (wpAny_typeOf hT (wpAny_bind (wpAny_of_eq F.slot_list_getattribute.lookup (wpAny_ite_false rfl ?_)))))
  unfold getAttrByItsOwn
  refine wpAny_bind (wpAny_ite_false rfl (wpAny_pure ?_))
  refine wpAny_bind (wpAny_attempt (wpAny_holding ?_))
  unfold callGetattribute
  refine wpAny_ite_false rfl ?_
  refine wpAny_bind (wpAny_of_eq (F.slot_list_getattribute.bind (.ref a)) ?_)
  refine call_meets F.slot_list_getattribute hT am_entry_list_getattribute (F.args_list_getattribute_2 _ _) (meets_getattribute_miss_list a xs k sl "keys" _ tl_keys (by decide)) ⟨ho, hh, fun h' tk e ne => ?_⟩
  obtain ⟨keeps, new, t1, u1, there⟩ := ne
  have hE : Shared.TypeIs ⟨h', g, d, tk, os⟩ (.ref e) "AttributeError" := ⟨_, there, rfl⟩
  show wpAny (model prog w) A (getattributeRaised _ _ _ _ _ _ _) _ _ ⟨h', g, d, tk, os⟩
  unfold getattributeRaised
  refine wpAny_bind (wpAny_isInstance hE sub_ae (wpAny_ite_true rfl ?_))
  refine wpAny_bind (wpAny_ite_false rfl (wpAny_of_eq am_list_getattr_none ?_))
  unfold hookOrError
  dsimp only
  unfold attributeErrorLeaves
  refine wpAny_ite_true rfl ?_
  refine wpAny_bind (wpAny_throw ?_)
  exact wpAny_bind (wpAny_isInstance hE sub_ae (wpAny_ite_true rfl (wpAny_pure (hq _ _ keeps))))
end L2
set_option Elab.async false
set_option linter.all false
set_option maxRecDepth 100000
set_option maxHeartbeats 4000000
namespace L2
open PySem PySem.Spec PyProof.Rows
/-- pairs with a text ahead -/
inductive PrsO (h : Heap) : List Value → List (Str × Value) → Prop
  | nil : PrsO h [] []
  | cons {b : Addr} {ob : Obj} {n : Nat} {k : Str} {t : Tok} {v : Value} {vs : List Value} {ps : List (Str × Value)} (e : h.get? b = some ob) (c : ob.cls = .type "tuple") (d : ob.data = .seq #[.str k t, v] n) (r : PrsO h vs ps) : PrsO h (.ref b :: vs) ((k, v) :: ps)
theorem PrsO.mono {h h' : Heap} {vs : List Value} (k : ∀ b o, h.get? b = some o → o.cls = .type "tuple" → h'.get? b = some o) : ∀ {us : List Value} {ps : List (Str × Value)}, PrsO h us ps → PrsO h' us ps
  | _, _, .nil => .nil
  | _, _, .cons e c d r => .cons (k _ _ e c) c d (PrsO.mono (vs := vs) k r)
theorem stored_len {κ : Type} [DecidableEq κ] (kvs : List (κ × Value)) (k : κ) (v : Value) : (stored kvs k v).length ≤ kvs.length + 1 := by
  unfold stored
  split
  · rw [List.length_map]; omega
  · rw [List.length_append]; exact Nat.le_refl _
theorem dict_loop {prog : Program} {w : World} {A : Around} {D it l : Addr} {R : Result → Shared → Prop} (hh : A.in1.handled = none) (hDi : D ≠ it) (hli : l ≠ it) (hlD : l ≠ D) : ∀ (us : List Value) (ps : List (Str × Value)) (items : Array Value) (i : Nat) (kvs : List (Key × Value)) (s : Shared), items.toList.drop i = us → PrsO s.heap us ps → s.heap.IsListIter it l i → s.heap.IsList l items → s.heap.DictOf (mixKind prog w) D kvs → kvs.length + ps.length ≤ sizeLine →
    (∀ h' tk, (∀ b o, b ≠ it → b ≠ D → s.heap.get? b = some o → h'.get? b = some o) → h'.DictOf (mixKind prog w) D (ps.foldl (fun m p => stored m (Sum.inr p.1) p.2) kvs) → R (.ok (.ret .none)) { s with heap := h', toks := tk }) →
    codeAny (model prog w) A (.builtin "dict.update.loop" ⟨[.ref D, .ref it, rawInt (i : Int), .none], []⟩) R s
  | [], ps, items, i, kvs, s, hu, hp, hi, hl, hd, hz, k => by
    cases hp
    refine codeAny_builtin entry_dul ?_
    rw [Around.under_plainId plain_dul _]
    refine wpAny_bind (m := pyNext (.ref it)) (wpAny_pyNext_list_end hh hi hl ?_ fun h' eb => ?_)
    · rw [← Array.getElem?_toList, List.getElem?_eq_none_iff]
      exact List.drop_eq_nil_iff.mp hu
    · refine wpAny_bind (m := Builtin.Dict.addKeywords D []) (wpAny_pure (wpAny_pure ?_))
      exact k h' s.toks (fun b o hb _ e => eb b o hb e) (hd.extBut eb hDi)
  | u :: us, ps, items, i, kvs, s, hu, hp, hi, hl, hd, hz, k => by
    cases hp with
    | @cons b ob n ky t v _ ps e c d r =>
      have hx : items[i]? = some (.ref b) := by
        rw [← Array.getElem?_toList]
        have : (items.toList.drop i)[0]? = some (.ref b) := by rw [hu]; rfl
        simpa using this
      refine codeAny_builtin entry_dul ?_
      rw [Around.under_plainId plain_dul _]
      refine wpAny_bind (m := pyNext (.ref it)) (wpAny_pyNext_list_item hi hl hx fun h' hi' sb => ?_)
      have hb : h'.get? b = some ob := by
        have : b ≠ it := fun z => by
          obtain ⟨o1, e1, c1, d1⟩ := hi
          rw [z, e1] at e; cases e
          rw [d] at d1; cases d1
        exact (sb.2 b this).trans e
      have hT : Shared.TypeIs { s with heap := h' } (.ref b) "tuple" := ⟨ob, hb, c⟩
      have hd1 := hd.sameBut sb hDi
      have hz' : kvs.length + (ps.length + 1) ≤ sizeLine := hz
      refine wpAny_bind (wpAny_holding (wpAny_bind (wpAny_tryCatch ?_)))
      unfold Builtin.Dict.pairItems
      refine wpAny_bind (wpAny_typeOf hT (wpAny_ite_true rfl ?_))
      refine wpAny_bind ?_
      unfold seqItems?
      refine wpAny_bind (wpAny_load hb ?_)
      rw [d]
      refine wpAny_pure (wpAny_pure ?_)
      have mk : (mixKind prog w).is (Sum.inr ky) (.str ky t) = true := by
        show keyIs (Sum.inr ky) (.str ky t) = true
        simp [keyIs, Value.isStrOf]
      refine wpAny_holding (wpAny_dictSet_pairs (knd := mixKind prog w) mk hd1 (fun h2 hd2 sb2 => ?_) (by omega))
      refine wpAny_pure ⟨plainId_quiet plain_dul _, ?_⟩
      have old : ∀ b o, b ≠ it → b ≠ D → s.heap.get? b = some o → h2.get? b = some o := fun b o n1 n2 q => (sb2.2 b n2).trans ((sb.2 b n1).trans q)
      refine dict_loop hh hDi hli hlD us ps items (i + 1) _ _ ?_ (r.mono (vs := us) fun b o q cc => old b o ?_ ?_ q) ?_ ?_ hd2 ?_ fun h3 tk k3 d3 => ?_
      · rw [← List.tail_drop, hu]; rfl
      · intro z
        obtain ⟨o1, e1, c1, d1⟩ := hi
        rw [z, e1] at q; cases q
        rw [c1] at cc
        exact absurd cc (by decide)
      · intro z
        obtain ⟨o1, _, _, e1, x1, _⟩ := hd
        rw [z, e1] at q; cases q
        rw [x1.1] at cc
        exact absurd cc (by decide)
      · exact hi'.at fun o q => (sb2.2 it (Ne.symm hDi)).trans q
      · obtain ⟨o1, e1, c1⟩ := hl
        exact ⟨o1, old l o1 hli hlD e1, c1⟩
      · have := stored_len kvs (Sum.inr ky) v
        show (stored kvs (Sum.inr ky) v).length + ps.length ≤ sizeLine
        omega
      · exact k h3 tk (fun b o n1 n2 q => k3 b o n1 n2 (old b o n1 n2 q)) d3
theorem dict_of_pairs {prog : Program} {w : World} {A : Around} {E : Value → Shared → Prop} {s : Shared} {l : Addr} {n : Nat} {us : List Value} {ps : List (Str × Value)} {Q : Value → Shared → Prop} (hh : A.handled = none) (hl : s.heap.get? l = some { cls := .type "list", data := .seq us.toArray n }) (hp : PrsO s.heap us ps) (hz : ps.length ≤ sizeLine)
    (k : ∀ h' tk, s.heap.objs.size < h'.objs.size → (∀ b o, s.heap.get? b = some o → h'.get? b = some o) → h'.DictOf (mixKind prog w) s.heap.objs.size (ps.foldl (fun m p => stored m (Sum.inr p.1) p.2) []) → Q (.ref s.heap.objs.size) { s with heap := h', toks := tk }) : wpAny (model prog w) A (call (.type "dict") [.ref l]) Q E s := by
  refine callType_codes F.kt_called_dict (F.kt_typeCall_dict_1 (.ref l)) F.entry_dict_init (kt_code_dict_new (.ref l) (Q₁ := fun o s1 => o = .ref s.heap.objs.size ∧ s1 = { s with heap := s.heap.push { cls := .type "dict", data := .dict #[] } }) ⟨rfl, rfl⟩) fun obj s1 q => ?_
  obtain ⟨rfl, rfl⟩ := q
  have hnew : (s.heap.push { cls := .type "dict", data := .dict #[] }).DictOf (mixKind prog w) s.heap.objs.size [] := Heap.DictOf.new s.heap
  have ll := Heap.lt_size hl
  have hl1 : (s.heap.push { cls := .type "dict", data := .dict #[] }).get? l = some { cls := .type "list", data := .seq us.toArray n } := Heap.get?_push_of_some _ hl
  refine ⟨hnew.typeIs, F.args_dict_init_2 _ _, ?_⟩
  refine wpAny_bind (wpAny_bind (wpAny_notOrdered_dict hnew.typeIs ?_))
  refine wpAny_pure ?_
  show wpAny _ _ (Builtin.Dict.updateFrom "dict.__init__" s.heap.objs.size (.ref l) [] .none) _ _ _
  unfold Builtin.Dict.updateFrom
  have hT : Shared.TypeIs { s with heap := s.heap.push { cls := .type "dict", data := .dict #[] } } (.ref l) "list" := ⟨_, hl1, rfl⟩
  refine wpAny_bind (wpAny_typeOf hT (wpAny_ite_true rfl ?_))
  refine wpAny_bind (keys_none (A := A.in1.in1) hh hl1 fun h1 tk k1 => ?_)
  refine wpAny_ite_true rfl (wpAny_bind (wpAny_rule ?_))
  have hl2 : h1.get? l = some { cls := .type "list", data := .seq us.toArray n } := k1 _ _ hl1
  have isL : h1.IsList l us.toArray := ⟨_, hl2, rfl, n, rfl⟩
  have sz1 : s.heap.objs.size < h1.objs.size := by
    obtain ⟨o1, _, _, e1, _⟩ := hnew
    exact Heap.lt_size (k1 _ _ e1)
  refine wpAny_bind (wpAny_pyIter_list isL ?_)
  have kp : ∀ b o, s.heap.get? b = some o → (h1.push { cls := .type "list_iterator", data := .fields #[.ref l, .int 0 0] }).get? b = some o := fun b o e => Heap.get?_push_of_some _ (k1 b o (Heap.get?_push_of_some _ e))
  refine wpAny_pure ⟨plainId_quiet plain_dul _, ?_⟩
  refine dict_loop (A := A.in1) (D := s.heap.objs.size) (it := h1.objs.size) (l := l) hh (Nat.ne_of_lt sz1) (Nat.ne_of_lt (Nat.lt_trans ll sz1)) (Nat.ne_of_lt ll) us ps us.toArray 0 [] _ (by simp) (hp.mono (vs := us) fun b o q _ => kp b o q) ⟨_, Heap.get?_push_size _ rfl, rfl, rfl⟩ ?_ ?_ (by simpa using hz) fun h2 tk2 k2 d2 => ?_
  · exact ⟨_, Heap.get?_push_of_some _ hl2, rfl, n, rfl⟩
  · exact (hnew.keep k1).push _
  · refine ⟨rfl, k h2 tk2 ?_ (fun b o e => k2 b o (Nat.ne_of_lt (Nat.lt_trans (Heap.lt_size e) sz1)) (Nat.ne_of_lt (Heap.lt_size e)) (kp b o e)) d2⟩
    obtain ⟨o1, _, _, e1, _⟩ := d2
    exact Heap.lt_size e1
theorem kv_rows {prs : List PRow} {ps : List (Str × Value)} (h : Paired (fun (q : PRow) (p : Str × Value) => q.2.1 = p.1 ∧ RelV (.str q.2.2) p.2) prs ps) : ∀ {kvs : List (Key × V)} {vs : List (Key × Value)}, KV kvs vs → KV (prs.foldl (fun m q => putK m (Sum.inr q.2.1) (.str q.2.2)) kvs) (ps.foldl (fun m p => stored m (Sum.inr p.1) p.2) vs) := by
  induction h with
  | nil => exact fun h => h
  | cons e r ih =>
    intro kvs vs h
    refine ih ?_
    dsimp only
    rw [← e.1]
    exact h.put _ e.2
theorem rows_fold : ∀ {prs : List PRow} {rows : Rows}, (∀ q ∈ prs, up rows q.2.1 = none) → (prs.map (·.2.1)).Nodup → prs.foldl (fun m q => putK m (Sum.inr q.2.1) (.str q.2.2)) (rowsK rows) = rowsK (rows ++ prs.map (·.2))
  | [], rows, _, _ => by simp
  | q :: prs, rows, h, nd => by
    obtain ⟨n1, n2⟩ := List.nodup_cons.mp nd
    show prs.foldl _ (putK (rowsK rows) (Sum.inr q.2.1) (.str q.2.2)) = _
    rw [put_rows (h q List.mem_cons_self), rows_fold (fun r hr => ?_) n2, List.map_cons, List.append_assoc]
    · rfl
    · have ne : q.2.1 ≠ r.2.1 := fun z => n1 (List.mem_map.mpr ⟨r, hr, z.symm⟩)
      have h1 := up_none.mp (h r (List.mem_cons_of_mem _ hr))
      refine up_none.mpr fun z => ?_
      rw [List.map_append] at z
      rcases List.mem_append.mp z with z | z
      · exact h1 z
      · exact ne (List.mem_singleton.mp z).symm
inductive rDictR_I (xs : List V) (H : Hp) (Q : VK) : Prop
  | mk : ∀ (r : Addr) (prs : List PRow), xs = [.ref r] → RowsAt H r prs → (prs.map (·.2.1)).Nodup → prs.length ≤ 100 → (∀ d, H d = none → Q (.ref d) (upd H d (.dK (rowsK (prs.map (·.2)))))) → rDictR_I xs H Q
theorem prs_of {P : Program} {w : World} {H : Hp} {h : Heap} (ok : HOk P w H h) : ∀ {prs : List PRow} {us : List Value}, (∀ q ∈ prs, H q.1 = some (.tup [.str q.2.1, .str q.2.2])) → Vals (prs.map fun q => V.ref q.1) us → ∃ ps, PrsO h us ps ∧ Paired (fun (q : PRow) (p : Str × Value) => q.2.1 = p.1 ∧ RelV (.str q.2.2) p.2) prs ps ∧ ps.length = prs.length
  | [], _, _, v => by cases v; exact ⟨[], .nil, .nil, rfl⟩
  | q :: prs, _, hq, v => by
    cases v with
    | cons hv v =>
      cases hv
      obtain ⟨ps, h1, h2, h3⟩ := prs_of ok (fun r hr => hq r (List.mem_cons_of_mem _ hr)) v
      obtain ⟨_, its, rv, ob, eo, oc, n, od⟩ := (show ObjOk P w H h q.1 (.tup [.str q.2.1, .str q.2.2]) from ok _ _ (hq q List.mem_cons_self))
      match its, rv with
      | [u1, u2], .cons r1 (.cons r2 .nil) =>
        obtain ⟨t, rfl⟩ := r1
        exact ⟨(q.2.1, u2) :: ps, .cons eo oc od h1, .cons ⟨rfl, r2⟩ h2, congrArg (· + 1) h3⟩
theorem call_dict_rows {X : Cx} (hc : X.calm = true) : CallR X (.type "dict") (fun xs H Q => rDictR_I xs H Q) := by
  intro pins s σ H xs us Q I r h
  obtain ⟨r0, prs, rfl, hr, nd, hl, q⟩ := h
  obtain ⟨u, rfl, rx⟩ := vals1 r
  cases rx
  obtain ⟨_, its, n, rv, eo⟩ := (show ObjOk X.prog X.w H s.heap r0 (.lst _) from I.hok _ _ hr.1)
  obtain ⟨ps, p1, p2, p3⟩ := prs_of I.hok hr.2 rv
  have hz : ps.length ≤ sizeLine := Nat.le_of_lt (small1000 (by omega))
  refine dict_of_pairs (I.ok.hd hc) eo p1 hz fun h' tk sz keep hd => ?_
  have kv : KV (rowsK (prs.map (·.2))) (ps.foldl (fun m p => stored m (Sum.inr p.1) p.2) []) := by
    have := kv_rows p2 (kvs := []) (vs := []) .nil
    rw [show ([] : List (Key × V)) = rowsK [] from rfl, rows_fold (fun _ _ => rfl) nd, List.nil_append] at this
    exact this
  refine ⟨.ref s.heap.objs.size, _, I.laid (t' := tk) keep (Nat.le_refl _) (show ObjOk X.prog X.w _ _ _ (.dK (rowsK (prs.map (·.2)))) from ⟨?_, ?_, _, kv, hd⟩), rfl, q _ (I.hok.fresh (Nat.le_refl _))⟩
  · show (List.map _ _).length ≤ sizeLine
    rw [List.length_map, List.length_map]; exact Nat.le_of_lt (small1000 (by omega))
  · exact beq_eq_false_iff_ne.mpr (Nat.ne_of_gt I.big)
end L2
set_option Elab.async false
set_option linter.all false
set_option maxRecDepth 100000
set_option maxHeartbeats 4000000
namespace L2
open PySem PySem.Spec PyProof.Rows
/-- just one cell, x -/
inductive OneC (x : Str) : List (Str × NameKind) → Prop
  | here {l : List (Str × NameKind)} (h : ∀ y ∈ l, y.2 ≠ .cell) : OneC x ((x, .cell) :: l)
  | next {y : Str × NameKind} {l : List (Str × NameKind)} (h : y.2 ≠ .cell) (r : OneC x l) : OneC x (y :: l)
structure CompScopeC (sc scope : Scope) (N : List Str) (x : Str) (fr : List (Nat × Str)) : Prop where
  kind : scope.kind = .function
  cel : scope.names.lookup x = some .cell
  names : ∀ y ∈ scope.names, y.2 = .local → scope.names.lookup y.1 = some .local
  one : OneC x scope.names
  free : ∀ y ∈ scope.names, y.2 = .free → sc.names.lookup y.1 = some .cell ∨ sc.names.lookup y.1 = some .free
  frk : ∀ p ∈ fr, N[p.1]? = some p.2 ∧ scope.names.lookup p.2 = some .free
  nd : (x :: fr.map (·.2)).Nodup
def cxCompC (X : Cx) (scope : Scope) (x : Str) (C : Addr) (N : List Str) (s : Shared) (H : Hp) (fp : List Addr) : Cx :=
  { cxComp X scope C N s H fp with env := compEnvC scope ((x, C + 1) :: closOf X.env.cells scope.names []) C X.env, fn := fun y => decide (y = x) }
theorem look_cons {x y : Str} {c d : Addr} {l : List (Str × Addr)} (h : ((x, d) :: l).lookup y = some c) : (y = x ∧ c = d) ∨ (y ≠ x ∧ l.lookup y = some c) := by
  rw [List.lookup_cons] at h
  by_cases e : y = x
  · subst e
    rw [beq_self_eq_true] at h
    exact .inl ⟨rfl, (Option.some.inj h).symm⟩
  · rw [beq_eq_false_iff_ne.mpr e] at h
    exact .inr ⟨e, h⟩
theorem look_head {x : Str} {d : Addr} {l : List (Str × Addr)} : ((x, d) :: l).lookup x = some d := by rw [List.lookup_cons, beq_self_eq_true]
theorem look_tail {x y : Str} {d : Addr} {l : List (Str × Addr)} (h : y ≠ x) : ((x, d) :: l).lookup y = l.lookup y := by rw [List.lookup_cons, beq_eq_false_iff_ne.mpr h]
theorem OneC.cell {x y : Str} : ∀ {l : List (Str × NameKind)}, OneC x l → (y, .cell) ∈ l → y = x
  | _, .here h, m => by
    rcases List.mem_cons.mp m with e | m
    · exact (Prod.mk.inj e).1
    · exact absurd rfl (h _ m)
  | _, .next h r, m => by
    rcases List.mem_cons.mp m with e | m
    · rw [← e] at h; exact absurd rfl h
    · exact r.cell m
theorem relabel_kindC {scope : Scope} {env : Env} {x y : Str} (one : OneC x scope.names) (h : (relabel scope env).names.lookup y = some .cell ∨ (relabel scope env).names.lookup y = some .free) (ne : y ≠ x) : (y, NameKind.free) ∈ scope.names := by
  have go : ∀ k : NameKind, (k = .cell ∨ k = .free) → (y, k) ∈ (relabel scope env).names → (y, NameKind.free) ∈ scope.names := fun k hk m => by
    obtain ⟨⟨n, k0⟩, hm, e⟩ := List.mem_map.mp m
    dsimp only at e
    split at e
    · rename_i hc
      have hk0 : k0 = .free := by
        simp only [Bool.and_eq_true, beq_iff_eq] at hc
        exact hc.1.1
      obtain ⟨rfl, _⟩ := Prod.mk.inj e
      rw [← hk0]; exact hm
    · obtain ⟨rfl, rfl⟩ := Prod.mk.inj e
      rcases hk with rfl | rfl
      · exact absurd (one.cell hm) ne
      · exact hm
  rcases h with h | h
  · exact go _ (.inl rfl) (PySem.mem_of_lookup h)
  · exact go _ (.inr rfl) (PySem.mem_of_lookup h)
theorem lookup_relabel_cell {scope : Scope} {env : Env} {x : Str} (h : scope.names.lookup x = some .cell) : (relabel scope env).names.lookup x = some .cell := by
  unfold relabel
  dsimp only
  generalize scope.names = l at h ⊢
  induction l with
  | nil => cases h
  | cons y l ih =>
    obtain ⟨n, k⟩ := y
    rw [List.lookup_cons] at h
    rw [List.map_cons]
    dsimp only
    by_cases e : x = n
    · subst e
      rw [beq_self_eq_true] at h
      have hk : k = .cell := Option.some.inj h
      subst hk
      rw [if_neg (by intro z; simp at z), List.lookup_cons, beq_self_eq_true]
    · have eb : (x == n) = false := beq_eq_false_iff_ne.mpr e
      rw [eb] at h
      split
      · rw [List.lookup_cons, eb]; exact ih h
      · rw [List.lookup_cons, eb]; exact ih h
/-- the cells of a frame: one -/
theorem cells_go {M : Model} {A : Around} {E : Value → Shared → Prop} {x : Str} {Q : List (Str × Addr) → Shared → Prop} : ∀ (l : List (Str × NameKind)) (cs : List (Str × Addr)) (s : Shared), OneC x l → Q ((x, s.heap.objs.size) :: cs) { s with heap := s.heap.push { cls := .type "cell", data := .cell none } } →
    wpAny M A (forIn l cs fun x __s => match x with
        | (name, kind) => if (kind == NameKind.cell) = true then do
            let __do_lift ← alloc { cls := Value.type "cell", data := Data.cell none }
            pure (ForInStep.yield ((name, __do_lift) :: __s))
          else pure (ForInStep.yield __s)) Q E s := by
  have none_ : ∀ (l : List (Str × NameKind)) (cs : List (Str × Addr)) (s : Shared), (∀ y ∈ l, y.2 ≠ .cell) → Q cs s → wpAny M A (forIn l cs fun x __s => match x with
        | (name, kind) => if (kind == NameKind.cell) = true then do
            let __do_lift ← alloc { cls := Value.type "cell", data := Data.cell none }
            pure (ForInStep.yield ((name, __do_lift) :: __s))
          else pure (ForInStep.yield __s)) Q E s := by
    intro l
    induction l with
    | nil => intro cs s _ q; exact wpAny_pure q
    | cons y l ih =>
      intro cs s h q
      rw [List.forIn_cons]
      refine wpAny_bind ?_
      have : (y.2 == NameKind.cell) = false := beq_eq_false_iff_ne.mpr (h y List.mem_cons_self)
      show wpAny _ _ (if (y.2 == NameKind.cell) = true then _ else _) _ _ _
      rw [if_neg (by rw [this]; exact Bool.false_ne_true)]
      exact wpAny_pure (ih cs s (fun z hz => h z (List.mem_cons_of_mem _ hz)) q)
  intro l cs s one q
  induction one with
  | here h =>
    rw [List.forIn_cons]
    refine wpAny_bind ?_
    show wpAny _ _ (if (NameKind.cell == NameKind.cell) = true then _ else _) _ _ _
    rw [if_pos (by decide)]
    exact wpAny_bind (wpAny_alloc (wpAny_pure (none_ _ _ _ h q)))
  | @next y l h r ih =>
    rw [List.forIn_cons]
    refine wpAny_bind ?_
    have : (y.2 == NameKind.cell) = false := beq_eq_false_iff_ne.mpr h
    show wpAny _ _ (if (y.2 == NameKind.cell) = true then _ else _) _ _ _
    rw [if_neg (by rw [this]; exact Bool.false_ne_true)]
    exact wpAny_pure ih
theorem newEnvC {M : Model} {A : Around} {E : Value → Shared → Prop} {s : Shared} {scope : Scope} {x : Str} {globals : Addr} {cl : List (Str × Addr)} {qual : Str} {around : Env} {Q : Env → Shared → Prop} (one : OneC x scope.names)
    (h : ∀ h' : Heap, h'.Ns s.heap.objs.size (fun _ => none) → (∀ b o, s.heap.get? b = some o → h'.get? b = some o) → h'.get? (s.heap.objs.size + 1) = some { cls := .type "cell", data := .cell none } →
      Q { scope := scope, locals := s.heap.objs.size, globals := globals, cells := (x, s.heap.objs.size + 1) :: cl, qual := qual, func := none, code := around.code, frame := around.frame, builtins := around.builtins } { s with heap := h' }) :
    wpAny M A (newFunctionEnv scope globals cl [] qual none .none (some around)) Q E s := by
  unfold newFunctionEnv
  refine wpAny_bind (wpAny_alloc ?_)
  refine wpAny_bind (cells_go scope.names cl _ one ?_)
  have sz : (s.heap.push { cls := .type "dict", data := .dict #[] }).objs.size = s.heap.objs.size + 1 := by rw [size_push']
  refine wpAny_bind (wpAny_pure (wpAny_pure ?_))
  have e1 : ((s.heap.push { cls := .type "dict", data := .dict #[] }).push { cls := .type "cell", data := .cell none }).get? s.heap.objs.size = some PySem.W.emptyDict := Heap.get?_push_of_some _ (Heap.get?_push_size _ rfl)
  have := h ((s.heap.push { cls := .type "dict", data := .dict #[] }).push { cls := .type "cell", data := .cell none }) ⟨PySem.W.emptyDict, #[], _, e1, rfl, (fun e he => absurd he (by simp)), fun _ => rfl⟩ (fun b o e => Heap.get?_push_of_some _ (Heap.get?_push_of_some _ e)) (by rw [← sz]; exact Heap.get?_push_size _ rfl)
  rw [← sz] at this
  exact this
theorem comp_runC {X : Cx} {x : Str} {px : Pos} {iter elt : Expr} {ifs : List Expr} {scope sc : Scope} {pos pos' : Pos} {N : List Str} {fr : List (Nat × Str)} {wi : TI} {tt : TT} {te : TE}
    {pins : List (Addr × Obj)} {s : Shared} {σ : St} {H : Hp} {Q : VK} {Q' : Value → Shared → Prop} {use : Option (Value → Sem Unit)}
    (S : CompScopeC sc scope N x fr) (hsc : X.env.scope = sc) (hN : X.N = N) (hc : X.calm = true) (hi : PI X (.Name x px) iter wi)
    (ht : ∀ (C : Addr) (s : Shared) (H : Hp) (fp : List Addr), PTs (cxCompC X scope x C (x :: fr.map (·.2)) s H fp) ifs tt)
    (he : ∀ (C : Addr) (s : Shared) (H : Hp) (fp : List Addr), PE (cxCompC X scope x C (x :: fr.map (·.2)) s H fp) elt te)
    (hs : ∀ z, foldedSetIterable iter X.env z = pure z) (I : Inv X pins σ H s) (h : tComp wi fr tt te σ H Q)
    (hfin : ∀ (D C : Addr) (H' : Hp) (s' : Shared) (m : Str → Option Value), Inv X pins σ H' s' → s'.heap.Ns C m → FreshC X pins H' C → Q (.ref D) H' → compPost (model X.prog X.w) X.A X.xe use Q' (.ref D) C (.ok .next) s') :
    wpAny (model X.prog X.w) X.A (comprehension (.ListComp elt [⟨.Name x px, iter, ifs, 0⟩] scope pos) scope X.env pos' (newList []) false (eval iter X.env) use) Q' X.xe s := by
  have kin : ∀ y, scope.names.lookup y = some .free → X.env.kindOf y = some .cell ∨ X.env.kindOf y = some .free := fun y hy => by
    show X.env.scope.names.lookup y = _ ∨ X.env.scope.names.lookup y = _
    rw [hsc]
    exact S.free (y, .free) (PySem.mem_of_lookup hy) rfl
  have kin' : ∀ y ∈ scope.names, y.2 = .free → X.env.kindOf y.1 = some .cell ∨ X.env.kindOf y.1 = some .free := fun y hy hf => by
    show X.env.scope.names.lookup y.1 = _ ∨ X.env.scope.names.lookup y.1 = _
    rw [hsc]
    exact S.free y hy hf
  have hkc : ∀ y ∈ scope.names, y.2 = .free → ∃ c, X.env.cells.lookup y.1 = some c := fun y hy hf => I.ok.has y.1 (kin' y hy hf)
  refine wpAny_comprehension_free (use := use) rfl hs (closureFor_of hkc) S.kind S.names ?_
  refine thn (hi pins s σ H _ I h) fun xv s1 h1 => thn h1 fun itv s2 h2 => ?_
  obtain ⟨it, fp, tn, J, H2, rfl, I2, T, st2, f2, q2⟩ := h2
  refine wpAny_newObj_type (newEnvC S.one (around := X.env) fun h₁ hns₁ hold₁ hcell₁ => ?_)
  dsimp only at hns₁ hold₁ hcell₁ ⊢
  have I3 : Inv X pins σ (upd H2 s2.heap.objs.size (.lst [])) { s2 with heap := s2.heap.push { cls := .type "list", data := .seq ([] : List Value).toArray } } :=
    I2.lnew (its := []) (t' := s2.toks) .nil (Nat.zero_le _)
  unfold compGoal at q2
  obtain ⟨W, ⟨m0, w0⟩, turn⟩ := q2 s2.heap.objs.size (I2.hok.fresh (Nat.le_refl _))
  generalize hG : s2.heap.push { cls := .type "list", dict := none, data := .seq ([] : List Value).toArray } = G at hns₁ hold₁ hcell₁ I3 ⊢
  generalize hD : s2.heap.objs.size = D at I3 turn w0 ⊢
  generalize hH3 : upd H2 D (.lst []) = H3 at I3 w0
  have neG : ∀ b o, G.get? b = some o → b ≠ G.objs.size := fun b o e => Nat.ne_of_lt (Heap.lt_size e)
  have old : ∀ b o, G.get? b = some o → h₁.get? b = some o := hold₁
  have up2 : ∀ b o, s2.heap.get? b = some o → G.get? b = some o := fun b o e => by rw [← hG]; exact Heap.get?_push_of_some _ e
  have fpG : ∀ b ∈ fp, b < G.objs.size := fun b hb => by
    obtain ⟨o, e, _⟩ := T.obj _ _ st2 b hb
    exact Heap.lt_size (up2 b o e)
  have sub : ∀ {y : Str} {c : Addr}, (closOf X.env.cells scope.names []).lookup y = some c → X.env.cells.lookup y = some c := fun {y c} e => by
    rcases closOf_sub _ _ e with z | z
    · exact z
    · simp at z
  have stat0 : ∀ b ∈ fp, (b ∈ X.ex ∨ X.s₀.heap.objs.size ≤ b) ∧ b ≠ X.env.locals ∧ (∀ x c, X.env.cells.lookup x = some c → c ≠ b) ∧ ∀ p ∈ X.pn ++ pins, p.1 ≠ b := fun b hb =>
    ⟨(f2 b hb).2.2.2.1, (f2 b hb).2.1, (f2 b hb).2.2.2.2.1, (f2 b hb).2.2.2.2.2⟩
  have hCL : G.objs.size ≠ X.env.locals := Nat.ne_of_gt I3.lt
  have hC1 : X.s₀.heap.objs.size ≤ G.objs.size := I3.sz
  have hC2 : ∀ x c, X.env.cells.lookup x = some c → c ≠ G.objs.size := fun x c e => by
    obtain ⟨v, o, ho, _⟩ := I3.cell x c e
    exact neG c o ho
  have hC3 : ∀ p ∈ X.pn ++ pins, p.1 ≠ G.objs.size := fun p hp => neG p.1 p.2 (I3.pin p hp).1
  have newC : ∀ y c, X.env.cells.lookup y = some c → c ≠ G.objs.size + 1 := fun y c e => by
    obtain ⟨v, o, ho, _⟩ := I3.cell y c e
    exact Nat.ne_of_lt (Nat.lt_succ_of_lt (Heap.lt_size ho))
  have okB : (cxCompC X scope x G.objs.size (x :: fr.map (·.2)) { s2 with heap := G } H3 fp).Ok := by
    refine ⟨I2.ok.mod, S.kind, I2.ok.glob, I2.ok.blt, Nat.le_refl _, fun y z c e1 e2 => ?_, fun y hy => ?_, fun y c z e => ?_, I2.ok.hd, I2.ok.frames, .inl rfl, fun b hb => ⟨Nat.ne_of_lt (fpG b hb), fun y c e => ?_⟩,
      fun b o e => I3.bs b o e, Nat.le_trans I2.ok.bsz I3.sz, fun b o e hb => ?_, fun b hb hf => ?_, I3.stack, I3.stkFree⟩
    · rcases look_cons e1 with ⟨a1, a2⟩ | ⟨n1, f1⟩
      · rcases look_cons e2 with ⟨b1, _⟩ | ⟨n2, f2'⟩
        · rw [a1, b1]
        · exact absurd a2 (newC z _ (sub f2'))
      · rcases look_cons e2 with ⟨b1, b2⟩ | ⟨n2, f2'⟩
        · exact absurd b2 (newC y _ (sub f1))
        · exact I2.ok.inj y z c (sub f1) (sub f2')
    · by_cases hyx : y = x
      · exact ⟨_, by rw [hyx]; exact look_head⟩
      · have m := relabel_kindC S.one hy hyx
        obtain ⟨c, ec⟩ := closOf_has (cells := X.env.cells) scope.names [] m (hkc _ m rfl)
        exact ⟨c, (look_tail hyx).trans ec⟩
    · have : y = x := of_decide_eq_true z
      subst this
      rcases look_cons e with ⟨_, rfl⟩ | ⟨n1, _⟩
      · exact Nat.le_succ _
      · exact absurd rfl n1
    · rcases look_cons e with ⟨_, rfl⟩ | ⟨_, e⟩
      · exact Nat.ne_of_gt (Nat.lt_succ_of_lt (fpG b hb))
      · exact (stat0 b hb).2.2.1 y c (sub e)
    · rcases (stat0 b hb).1 with z | z
      · exact I2.ok.noex b o e z
      · exact absurd (Nat.lt_of_lt_of_le (Heap.lt_size e) (Nat.le_trans I2.ok.bsz z)) (Nat.lt_irrefl _)
    · rcases List.mem_cons.mp (I2.stkSub b hf) with z | z
      · exact (stat0 b hb).2.1 z
      · exact (f2 b hb).2.2.1 z
  have I4 : ∀ tk : Nat, Inv (cxCompC X scope x G.objs.size (x :: fr.map (·.2)) { s2 with heap := G } H3 fp) [] (none :: frV σ fr) H3 { s2 with heap := h₁, toks := tk } := fun tk => by
    refine ⟨okB, rfl, I2.bare, Un.kept old, ⟨_, hns₁, fun i y v e1 e2 _ => ?_⟩, fun y c e => ?_, I3.hok.fresh (Nat.le_refl _), fun y c e => ?_, fun p hp => absurd (show p ∈ ([] : List (Addr × Obj)) from hp) (by simp), I3.hok.kept old, ?_⟩
    · cases i with
      | zero => simp at e2
      | succ i =>
        have e1' : (fr.map (·.2))[i]? = some y := e1
        have e2' : (fr.map fun p => (σ[p.1]?).join)[i]? = some (some v) := e2
        rw [List.getElem?_map] at e1' e2'
        cases hp : fr[i]? with
        | none => rw [hp] at e1'; cases e1'
        | some p =>
          rw [hp] at e1' e2'
          have ey : p.2 = y := Option.some.inj e1'
          have ev : (σ[p.1]?).join = some v := Option.some.inj e2'
          have ev' : σ[p.1]? = some (some v) := by
            cases q : σ[p.1]? with
            | none => rw [q] at ev; cases ev
            | some o => rw [q] at ev; simp only [Option.join] at ev; exact congrArg some ev
          have hf := S.frk p (List.mem_of_getElem? hp)
          rw [ey] at hf
          have hk := kin y hf.2
          obtain ⟨m, _, hl⟩ := I2.loc
          obtain ⟨u, ru, l⟩ := hl p.1 y v (by rw [hN]; exact hf.1) ev' (.inr hk)
          refine ⟨u, ru, .inr ⟨lookup_relabel_free hf.2, ?_⟩⟩
          rcases l with ⟨k, _⟩ | ⟨_, c, e, z⟩
          · rcases hk with hk | hk
            · rw [hk] at k; cases k
            · rw [hk] at k; cases k
          · obtain ⟨c', ec⟩ := closOf_has (cells := X.env.cells) scope.names [] (PySem.mem_of_lookup hf.2) ⟨c, e⟩
            have := sub ec
            rw [e] at this
            cases this
            obtain ⟨o, ho, hd⟩ := z
            have nyx : y ≠ x := fun z => (List.nodup_cons.mp S.nd).1 (by rw [← z, ← ey]; exact List.mem_map.mpr ⟨p, List.mem_of_getElem? hp, rfl⟩)
            exact ⟨c, (look_tail nyx).trans ec, o, old c o (up2 c o ho), hd⟩
    · rcases look_cons e with ⟨_, rfl⟩ | ⟨_, e⟩
      · exact ⟨none, _, hcell₁, rfl⟩
      · obtain ⟨v, o, ho, hd⟩ := I2.cell y c (sub e)
        exact ⟨v, o, old c o (up2 c o ho), hd⟩
    · rcases look_cons e with ⟨_, rfl⟩ | ⟨_, e⟩
      · exact I3.hok.fresh (Nat.le_succ _)
      · exact I3.freeC y c (sub e)
    · show (none :: frV σ fr).length = (x :: fr.map (·.2)).length
      simp [frV]
  have locX : (cxCompC X scope x G.objs.size (x :: fr.map (·.2)) { s2 with heap := G } H3 fp).env.scope.names.lookup x = some .cell := lookup_relabel_cell S.cel
  generalize hX : cxCompC X scope x G.objs.size (x :: fr.map (·.2)) { s2 with heap := G } H3 fp = Y at I4 locX
  have fnX : Y.fn x = true := by rw [← hX]; exact decide_eq_true rfl
  have eP : Y.prog = X.prog := by rw [← hX]; rfl
  have eW : Y.w = X.w := by rw [← hX]; rfl
  have eK : Y.K = X.K := by rw [← hX]; rfl
  have eA : Y.A = X.A := by rw [← hX]; rfl
  have eC : Y.calm = true := by rw [← hX]; exact hc
  have eE : Y.env = compEnvC scope ((x, G.objs.size + 1) :: closOf X.env.cells scope.names []) G.objs.size X.env := by rw [← hX]; rfl
  have eN : Y.N = x :: fr.map (·.2) := by rw [← hX]; rfl
  have eX : Y.xe = fun _ _ => False := by rw [← hX]; rfl
  have eB : ∀ {σ' : St} {H' : Hp} {s' : Shared} {pins' : List (Addr × Obj)}, Inv Y pins' σ' H' s' → s'.os = s2.os ∧ Un (frs X.stack) fp H3 H' G s'.heap := fun {σ' H' s' pins'} J => by
    subst hX
    exact ⟨J.os, J.base⟩
  have hT := ht G.objs.size { s2 with heap := G } H3 fp
  have hE := he G.objs.size { s2 with heap := G } H3 fp
  rw [hX] at hT hE
  have fpY : ∀ {H' : Hp}, (∀ b ∈ fp, H' b = none) → ∀ b ∈ fp, FpOk Y [] H' b := fun {H'} hn b hb => by
    subst hX
    refine ⟨hn b hb, Nat.ne_of_lt (fpG b hb), okB.exfs b hb, .inl hb, fun y c e => (okB.exf b hb).2 y c e, fun p hp => absurd (show p ∈ ([] : List (Addr × Obj)) from hp) (by simp)⟩
  have loop : ∀ s3 : Shared, (∃ tk, s3 = { s2 with heap := h₁, toks := tk }) →
      codeAny (model X.prog X.w) X.A (.compLoop (.ListComp elt [⟨.Name x px, iter, ifs, 0⟩] scope pos) 0 (.ref it) (.ref D) Y.env)
        (compPost (model X.prog X.w) X.A X.xe use Q' (.ref D) G.objs.size) s3 := by
    rintro s3 ⟨tk, rfl⟩
    refine codeAny_compLoop_tests (fun n s' => ∃ i ys o H', Inv Y [] (o :: frV σ fr) H' s' ∧ tn i s'.heap ∧ (∀ b ∈ fp, H' b = none) ∧ W i n ys H') ?_ m0
      ⟨0, [], none, H3, I4 tk, T.keep _ _ _ st2 fun b hb o e => old b o (up2 b o e), fun b hb => ?_, w0⟩
    · rintro n s' ⟨i, ys, o, H', J', st', fr', w'⟩
      obtain ⟨hD', hgo⟩ := turn i n ys H' w'
      rcases hgo with ⟨stop, qn⟩ | ⟨go, step⟩
      · have Q1 := T.done Y eP eW eK eC i [] s' (o :: frV σ fr) H' (notedBy (model X.prog X.w) X.A Y.env fun e s'' => compPost (model X.prog X.w) X.A X.xe use Q' (.ref D) G.objs.size (.error e) s'') J' (fpY fr') st' stop
        rw [eA] at Q1
        refine thn Q1 fun r s4 ⟨hr, J4⟩ => ?_
        subst hr
        obtain ⟨m, hn, _⟩ := J4.loc
        rw [eE] at hn
        obtain ⟨os4, u4⟩ := eB J4
        have free4 : H' G.objs.size = none := by have := J4.free; rw [eE] at this; exact this
        have hok4 : HOk X.prog X.w H' s4.heap := by have := J4.hok; rw [eP, eW] at this; exact this
        exact hfin D G.objs.size H' s4 m (I3.call' (ch := fp) (s' := s4) os4 u4 hok4 J4.bare stat0) hn ⟨free4, hCL, .inr hC1, hC2, hC3⟩ qn
      · have Q1 := T.item Y eP eW eK eC i [] s' (o :: frV σ fr) H' (notedBy (model X.prog X.w) X.A Y.env fun e s'' => compPost (model X.prog X.w) X.A X.xe use Q' (.ref D) G.objs.size (.error e) s'') J' (fpY fr') st' go
        rw [eA] at Q1
        refine thn Q1 fun r s4 ⟨u, hr, h4⟩ => ?_
        subst hr
        show wpAny _ _ (letOwnedTupleGo (.Name x px) (.ref it) u >>= fun _ => assign (.Name x px) Y.env u) _ _ s4
        refine wpAny_bind (thn h4 fun _ s5 ⟨v, H5, J5, r5, y5, st5, fr5⟩ => ?_)
        have J5' := J5.pinned (fpY fr5) (T.obj _ _ st5)
        have G5 := pg_name (X := Y) (i := 0) (x := x) (pos := px) (by rw [eN]; exact S.nd) (by rw [eN]; rfl) (.inr locX) (.inl fnX) ([] ++ pinsAt fp s5.heap) s5 (o :: frV σ fr) H5 v u (fun σ6 H6 => σ6 = some v :: frV σ fr ∧ H6 = H5) J5' r5 ⟨rfl, rfl⟩
        rw [eP, eW, eA, eX] at G5
        refine wpAny_mono G5 (fun _ s6 ⟨σ6, H6, J6, e6, e6'⟩ => ?_) fun _ _ z => z.elim
        subst e6 e6'
        have T6 := hT _ s6 _ _ _ J6 (step v _ y5)
        rw [eP, eW, eA, eX] at T6
        have again : ∀ {s7 : Shared} {H7 : Hp} {zs : List V}, Inv Y ([] ++ pinsAt fp s5.heap) (some v :: frV σ fr) H7 s7 → (∃ m', m' < n ∧ W (i + 1) m' zs H7) → ∃ m, m < n ∧ ∃ i ys o H', Inv Y [] (o :: frV σ fr) H' s7 ∧ tn i s7.heap ∧ (∀ b ∈ fp, H' b = none) ∧ W i m ys H' := fun {s7 H7 zs} J7 ⟨m', hm, w7⟩ => by
          refine ⟨m', hm, i + 1, zs, some v, H7, J7.unpinned, T.keep _ _ _ st5 fun b hb o e => (J7.pin (b, o) (List.mem_append_right _ (List.mem_append_right _ (mem_pinsAt hb e)))).1, fun b hb => ?_, w7⟩
          obtain ⟨o, e, d⟩ := T.obj _ _ st5 b hb
          exact (J7.pin (b, o) (List.mem_append_right _ (List.mem_append_right _ (mem_pinsAt hb e)))).2.1
        refine wpAny_mono T6 (fun ok s7 ⟨H7, J7, q7⟩ => ?_) fun _ _ z => z.elim
        cases ok with
        | false => exact again J7 q7
        | true =>
          have E7 := hE _ s7 _ _ _ J7 q7
          rw [eP, eW, eA, eX] at E7
          show wpAny _ _ (eval elt Y.env) _ _ s7
          refine wpAny_mono E7 (fun u8 s8 ⟨y8, H8, J8, r8, hD8, hz8, w8⟩ => ?_) fun _ _ z => z.elim
          have A8 := mt_append (X := Y) _ s8 _ H8 (.ref D) [y8] (.ref D) [u8] (fun z H9 => H9 = upd H8 D (.lst (ys ++ [y8]))) J8 rfl (.cons r8 .nil) ⟨D, ys, y8, rfl, rfl, hD8, hz8, rfl⟩
          rw [eP, eW, eA, eX] at A8
          refine wpAny_mono A8 (fun _ s9 ⟨z9, H9, J9, _, e9⟩ => ?_) fun _ _ z => z.elim
          subst e9
          exact again J9 w8
    · rw [← hH3]
      have hbD : b ≠ D := by
        rw [← hD]
        obtain ⟨o, e, _⟩ := T.obj _ _ st2 b hb
        exact Nat.ne_of_lt (Heap.lt_size e)
      rw [upd_ne hbD]
      exact (f2 b hb).1
  rw [eE] at loop
  exact codeAny_compStart_list (loop _ ⟨_, rfl⟩) (T.self _ 0 _ _ _ (T.keep _ _ _ st2 fun b hb o e => old b o (up2 b o e)) (loop _ ⟨_, rfl⟩))
theorem pe_compC {X : Cx} {x : Str} {px : Pos} {iter elt : Expr} {ifs : List Expr} {scope sc : Scope} {pos : Pos} {N : List Str} {fr : List (Nat × Str)} {wi : TI} {tt : TT} {te : TE}
    (S : CompScopeC sc scope N x fr) (hsc : X.env.scope = sc) (hN : X.N = N) (hc : X.calm = true) (hi : PI X (.Name x px) iter wi)
    (ht : ∀ (C : Addr) (s : Shared) (H : Hp) (fp : List Addr), PTs (cxCompC X scope x C (x :: fr.map (·.2)) s H fp) ifs tt)
    (he : ∀ (C : Addr) (s : Shared) (H : Hp) (fp : List Addr), PE (cxCompC X scope x C (x :: fr.map (·.2)) s H fp) elt te)
    (hs : ∀ z, foldedSetIterable iter X.env z = pure z := by intro _; rfl) :
    PE X (.ListComp elt [⟨.Name x px, iter, ifs, 0⟩] scope pos) (tComp wi fr tt te) := by
  intro pins s σ H Q I h
  rw [eval_ListComp]
  refine comp_runC (use := none) S hsc hN hc hi ht he hs I h fun D C H' s' m J hn fc q => ?_
  exact ⟨m, hn, fun h' hs' => ⟨.ref D, H', J.turned (t' := s'.toks) (fun b o hb e => (hs'.2 b hb).trans e) fc.hn fc.hL fc.h1 fc.h2 fc.h3, rfl, q⟩⟩
theorem call_sortedK {X : Cx} (K : PySem.W.Frag) (hK : X.K = K := by rfl) : CallR X (.builtin "sorted") (fun xs H Q => ∃ p ss, xs = [.ref p] ∧ SqL K H p (ss.map V.str) ∧ ss.length < 64 ∧ ∀ l, H l = none → Q (.ref l) (upd H l (.lst ((sortS ss).map V.str)))) := hK ▸ call_sorted
theorem pi_listK {X : Cx} {tg l : Expr} {tl : TE} (K : PySem.W.Frag) (hl : PE X l tl) (hK : X.K = K := by rfl) : PI X tg l (iList K tl) := hK ▸ pi_list hl
end L2
set_option maxHeartbeats 4000000
namespace K26
open PySem L2
def top (i : Nat) : Stmt := PySem.Challenge.pw_mailroom_k26_whole_any_order.main.body.getD i (.Pass ⟨0, 0, 0, 0⟩)
abbrev swall : Stmt := top 0
abbrev scheck_there : Stmt := top 5
abbrev scheck_new : Stmt := top 6
abbrev sl_draws : Stmt := top 10
abbrev sl_name_by : Stmt := top 11
abbrev sl_pool : Stmt := top 12
abbrev sl_hang : Stmt := top 13
abbrev sl_thread : Stmt := top 14
abbrev sl_threads : Stmt := top 15
abbrev sl_target : Stmt := top 16
abbrev sl_deep : Stmt := top 17
abbrev sl_told : Stmt := top 18
abbrev sl_due : Stmt := top 19
abbrev sl_other_way : Stmt := top 20
abbrev slaw : Stmt := top 21
abbrev sThreads_init : Stmt := inClass (top 8) 0
abbrev sThreads_add : Stmt := inClass (top 8) 1
abbrev sThreads_take_out : Stmt := inClass (top 8) 2
abbrev sThreads_names : Stmt := inClass (top 8) 3
abbrev sThreads_answers_to : Stmt := inClass (top 8) 4
abbrev sThreads_beside : Stmt := inClass (top 8) 5
abbrev sThreads_thread : Stmt := inClass (top 8) 6
abbrev sThreads_threads : Stmt := inClass (top 8) 7
abbrev sThreads_depth : Stmt := inClass (top 8) 8
abbrev n_check_there : List Str := ["name", "there"]
theorem sc_check_there : FnScope n_check_there ["name", "there"] (defScope scheck_there) := ⟨rfl, rfl, rfl, by decide +kernel, rfl, by decide +kernel, by decide +kernel⟩
abbrev n_check_new : List Str := ["name", "there"]
theorem sc_check_new : FnScope n_check_new ["name", "there"] (defScope scheck_new) := ⟨rfl, rfl, rfl, by decide +kernel, rfl, by decide +kernel, by decide +kernel⟩
abbrev n_l_draws : List Str := ["_law_script", "_law_many", "_law_found", "_law_more", "_law_k", "_law_cell"]
theorem sc_l_draws : FnScope n_l_draws ["_law_script", "_law_many"] (defScope sl_draws) := ⟨rfl, rfl, rfl, by decide +kernel, rfl, by decide +kernel, by decide +kernel⟩
abbrev n_l_name_by : List Str := ["_law_shape", "_law_k", "_law_signs", "_law_place", "_law_name", "_law_turn"]
theorem sc_l_name_by : FnScope n_l_name_by ["_law_shape", "_law_k"] (defScope sl_name_by) := ⟨rfl, rfl, rfl, by decide +kernel, rfl, by decide +kernel, by decide +kernel⟩
abbrev n_l_pool : List Str := ["_law_draws_here", "_law_many"]
theorem sc_l_pool : FnScope n_l_pool ["_law_draws_here"] (defScope sl_pool) := ⟨rfl, rfl, rfl, by decide +kernel, rfl, by decide +kernel, by decide +kernel⟩
abbrev n_l_hang : List Str := ["_law_one", "_law_other"]
theorem sc_l_hang : FnScope n_l_hang ["_law_one", "_law_other"] (defScope sl_hang) := ⟨rfl, rfl, rfl, by decide +kernel, rfl, by decide +kernel, by decide +kernel⟩
abbrev n_l_thread : List Str := ["_law_rows", "_law_name", "_law_found", "_law_at"]
theorem sc_l_thread : FnScope n_l_thread ["_law_rows", "_law_name"] (defScope sl_thread) := ⟨rfl, rfl, rfl, by decide +kernel, rfl, by decide +kernel, by decide +kernel⟩
abbrev n_l_threads : List Str := ["_law_rows", "_law_found", "_law_name", "_law_one"]
theorem sc_l_threads : FnScope n_l_threads ["_law_rows"] (defScope sl_threads) := ⟨rfl, rfl, rfl, by decide +kernel, rfl, by decide +kernel, by decide +kernel⟩
abbrev n_l_target : List Str := ["_law_pool_here", "_law_name", "_law_draw", "_law_way"]
theorem sc_l_target : FnScope n_l_target ["_law_pool_here", "_law_name", "_law_draw"] (defScope sl_target) := ⟨rfl, rfl, rfl, by decide +kernel, rfl, by decide +kernel, by decide +kernel⟩
abbrev n_l_deep : List Str := ["_law_rows", "_law_name", "_law_goes", "_law_met"]
theorem sc_l_deep : FnScope n_l_deep ["_law_rows", "_law_name"] (defScope sl_deep) := ⟨rfl, rfl, rfl, by decide +kernel, rfl, by decide +kernel, by decide +kernel⟩
abbrev n_l_told : List Str := ["_law_threads_here", "_law_rows", "_law_pool_here", "_law_found", "_law_row"]
theorem sc_l_told : FnScope n_l_told ["_law_threads_here", "_law_rows", "_law_pool_here"] (defScope sl_told) := ⟨rfl, rfl, rfl, by decide +kernel, rfl, by decide +kernel, by decide +kernel⟩
abbrev n_l_due : List Str := ["_law_rows", "_law_pool_here", "_law_found", "_law_row"]
theorem sc_l_due : FnScope n_l_due ["_law_rows", "_law_pool_here"] (defScope sl_due) := ⟨rfl, rfl, rfl, by decide +kernel, rfl, by decide +kernel, by decide +kernel⟩
abbrev n_l_other_way : List Str := ["_law_rows", "_law_others", "_law_draws_here", "_law_threads_here", "_law_left", "_law_k", "_law_row", "_law_other"]
theorem sc_l_other_way : FnScope n_l_other_way ["_law_rows", "_law_others", "_law_draws_here"] (defScope sl_other_way) := ⟨rfl, rfl, rfl, by decide +kernel, rfl, by decide +kernel, by decide +kernel⟩
abbrev n_law : List Str := ["_law_script", "_law_draws_here", "_law_pool_here", "_law_names", "_law_rows", "_law_others", "_law_one", "_law_name", "_law_answers", "_law_other", "_law_due_here", "_law_gone"]
theorem sc_law : FnScope n_law ["_law_script"] (defScope slaw) := ⟨rfl, rfl, rfl, by decide +kernel, rfl, by decide +kernel, by decide +kernel⟩
abbrev n_Threads_init : List Str := ["self"]
theorem sc_Threads_init : FnScope n_Threads_init ["self"] (defScope sThreads_init) := ⟨rfl, rfl, rfl, by decide +kernel, rfl, by decide +kernel, by decide +kernel⟩
abbrev n_Threads_add : List Str := ["self", "name", "answers"]
theorem sc_Threads_add : FnScope n_Threads_add ["self", "name", "answers"] (defScope sThreads_add) := ⟨rfl, rfl, rfl, by decide +kernel, rfl, by decide +kernel, by decide +kernel⟩
abbrev n_Threads_take_out : List Str := ["self", "name", "answers"]
theorem sc_Threads_take_out : FnScope n_Threads_take_out ["self", "name"] (defScope sThreads_take_out) := ⟨rfl, rfl, rfl, by decide +kernel, rfl, by decide +kernel, by decide +kernel⟩
abbrev n_Threads_names : List Str := ["self"]
theorem sc_Threads_names : FnScope n_Threads_names ["self"] (defScope sThreads_names) := ⟨rfl, rfl, rfl, by decide +kernel, rfl, by decide +kernel, by decide +kernel⟩
abbrev n_Threads_answers_to : List Str := ["self", "name"]
theorem sc_Threads_answers_to : FnScope n_Threads_answers_to ["self", "name"] (defScope sThreads_answers_to) := ⟨rfl, rfl, rfl, by decide +kernel, rfl, by decide +kernel, by decide +kernel⟩
abbrev n_Threads_beside : List Str := ["self", "name", "near", "answers"]
theorem sc_Threads_beside : FnScope n_Threads_beside ["self", "name"] (defScope sThreads_beside) := ⟨rfl, rfl, rfl, by decide +kernel, rfl, by decide +kernel, by decide +kernel⟩
abbrev n_Threads_thread : List Str := ["self", "name", "reached", "waiting", "here", "near"]
theorem sc_Threads_thread : FnScope n_Threads_thread ["self", "name"] (defScope sThreads_thread) := ⟨rfl, rfl, rfl, by decide +kernel, rfl, by decide +kernel, by decide +kernel⟩
abbrev n_Threads_threads : List Str := ["self", "told", "met", "name", "whole", "near"]
theorem sc_Threads_threads : FnScope n_Threads_threads ["self"] (defScope sThreads_threads) := ⟨rfl, rfl, rfl, by decide +kernel, rfl, by decide +kernel, by decide +kernel⟩
abbrev n_Threads_depth : List Str := ["self", "name", "met", "above"]
theorem sc_Threads_depth : FnScope n_Threads_depth ["self", "name"] (defScope sThreads_depth) := ⟨rfl, rfl, rfl, by decide +kernel, rfl, by decide +kernel, by decide +kernel⟩
set_option genInjectivity false in
/-- where the top's things stand -/
structure Adr where
  f_wall : Addr
  f_check_there : Addr
  f_check_new : Addr
  f_l_draws : Addr
  f_l_name_by : Addr
  f_l_pool : Addr
  f_l_hang : Addr
  f_l_thread : Addr
  f_l_threads : Addr
  f_l_target : Addr
  f_l_deep : Addr
  f_l_told : Addr
  f_l_due : Addr
  f_l_other_way : Addr
  f_law : Addr
  f_Threads_init : Addr
  f_Threads_add : Addr
  f_Threads_take_out : Addr
  f_Threads_names : Addr
  f_Threads_answers_to : Addr
  f_Threads_beside : Addr
  f_Threads_thread : Addr
  f_Threads_threads : Addr
  f_Threads_depth : Addr
  C_Threads : Addr
  dummy : Nat := 0
structure Txt (K : PySem.W.Frag) (mg : Str → Option Value) (a : Adr) : Prop where
  m_wall : mg "_wall" = some (.ref a.f_wall)
  m_check_there : mg "check_there" = some (.ref a.f_check_there)
  m_check_new : mg "check_new" = some (.ref a.f_check_new)
  m_l_draws : mg "_law_draws" = some (.ref a.f_l_draws)
  m_l_name_by : mg "_law_name_by" = some (.ref a.f_l_name_by)
  m_l_pool : mg "_law_pool" = some (.ref a.f_l_pool)
  m_l_hang : mg "_law_hang" = some (.ref a.f_l_hang)
  m_l_thread : mg "_law_thread" = some (.ref a.f_l_thread)
  m_l_threads : mg "_law_threads" = some (.ref a.f_l_threads)
  m_l_target : mg "_law_target" = some (.ref a.f_l_target)
  m_l_deep : mg "_law_deep" = some (.ref a.f_l_deep)
  m_l_told : mg "_law_told" = some (.ref a.f_l_told)
  m_l_due : mg "_law_due" = some (.ref a.f_l_due)
  m_l_other_way : mg "_law_other_way" = some (.ref a.f_l_other_way)
  m_law : mg "law" = some (.ref a.f_law)
  b_len : mg "len" = none
  b_range : mg "range" = none
  b_isinstance : mg "isinstance" = none
  b_str : mg "str" = none
  b_int : mg "int" = none
  b_list : mg "list" = none
  b_dict : mg "dict" = none
  b_sorted : mg "sorted" = none
  b_enumerate : mg "enumerate" = none
  b_repr : mg "repr" = none
  mc_Threads : mg "Threads" = some (.ref a.C_Threads)
  c_Threads : Cls K a.C_Threads
  k_Threads : Mk K a.C_Threads a.f_Threads_init
  M_Threads_add : Meth K a.C_Threads "add" a.f_Threads_add
  M_Threads_take_out : Meth K a.C_Threads "take_out" a.f_Threads_take_out
  M_Threads_names : Meth K a.C_Threads "names" a.f_Threads_names
  M_Threads_answers_to : Meth K a.C_Threads "answers_to" a.f_Threads_answers_to
  M_Threads_beside : Meth K a.C_Threads "beside" a.f_Threads_beside
  M_Threads_thread : Meth K a.C_Threads "thread" a.f_Threads_thread
  M_Threads_threads : Meth K a.C_Threads "threads" a.f_Threads_threads
  M_Threads_depth : Meth K a.C_Threads "depth" a.f_Threads_depth
  n_Threads_links : NoAttr K a.C_Threads "links"
  n_Threads_replies : NoAttr K a.C_Threads "replies"
  top_ : True
structure Funs (K : PySem.W.Frag) (a : Adr) : Prop where
  F_wall : ∃ fd, Fun K "_wall" "_wall" swall a.f_wall fd ∧ Binds K fd ["k"] []
  F_check_there : ∃ fd, Fun K "check_there" "check_there" scheck_there a.f_check_there fd ∧ Binds K fd ["name", "there"] []
  F_check_new : ∃ fd, Fun K "check_new" "check_new" scheck_new a.f_check_new fd ∧ Binds K fd ["name", "there"] []
  F_l_draws : ∃ fd, Fun K "_law_draws" "_law_draws" sl_draws a.f_l_draws fd ∧ Binds K fd ["_law_script", "_law_many"] []
  F_l_name_by : ∃ fd, Fun K "_law_name_by" "_law_name_by" sl_name_by a.f_l_name_by fd ∧ Binds K fd ["_law_shape", "_law_k"] []
  F_l_pool : ∃ fd, Fun K "_law_pool" "_law_pool" sl_pool a.f_l_pool fd ∧ Binds K fd ["_law_draws_here"] []
  F_l_hang : ∃ fd, Fun K "_law_hang" "_law_hang" sl_hang a.f_l_hang fd ∧ Binds K fd ["_law_one", "_law_other"] []
  F_l_thread : ∃ fd, Fun K "_law_thread" "_law_thread" sl_thread a.f_l_thread fd ∧ Binds K fd ["_law_rows", "_law_name"] []
  F_l_threads : ∃ fd, Fun K "_law_threads" "_law_threads" sl_threads a.f_l_threads fd ∧ Binds K fd ["_law_rows"] []
  F_l_target : ∃ fd, Fun K "_law_target" "_law_target" sl_target a.f_l_target fd ∧ Binds K fd ["_law_pool_here", "_law_name", "_law_draw"] []
  F_l_deep : ∃ fd, Fun K "_law_deep" "_law_deep" sl_deep a.f_l_deep fd ∧ Binds K fd ["_law_rows", "_law_name"] []
  F_l_told : ∃ fd, Fun K "_law_told" "_law_told" sl_told a.f_l_told fd ∧ Binds K fd ["_law_threads_here", "_law_rows", "_law_pool_here"] []
  F_l_due : ∃ fd, Fun K "_law_due" "_law_due" sl_due a.f_l_due fd ∧ Binds K fd ["_law_rows", "_law_pool_here"] []
  F_l_other_way : ∃ fd, Fun K "_law_other_way" "_law_other_way" sl_other_way a.f_l_other_way fd ∧ Binds K fd ["_law_rows", "_law_others", "_law_draws_here"] []
  F_law : ∃ fd, Fun K "law" "law" slaw a.f_law fd ∧ Binds K fd ["_law_script"] []
  F_Threads_init : ∃ fd, Fun K "__init__" "Threads.__init__" sThreads_init a.f_Threads_init fd ∧ Binds K fd ["self"] []
  F_Threads_add : ∃ fd, FunD K "add" "Threads.add" sThreads_add a.f_Threads_add fd ∧ Binds K fd ["self", "name", "answers"] [] ∧ (∃ ds, Vals [.str ""] ds ∧ Binds K fd ["self", "name", "answers"] ds)
  F_Threads_take_out : ∃ fd, Fun K "take_out" "Threads.take_out" sThreads_take_out a.f_Threads_take_out fd ∧ Binds K fd ["self", "name"] []
  F_Threads_names : ∃ fd, Fun K "names" "Threads.names" sThreads_names a.f_Threads_names fd ∧ Binds K fd ["self"] []
  F_Threads_answers_to : ∃ fd, Fun K "answers_to" "Threads.answers_to" sThreads_answers_to a.f_Threads_answers_to fd ∧ Binds K fd ["self", "name"] []
  F_Threads_beside : ∃ fd, Fun K "beside" "Threads.beside" sThreads_beside a.f_Threads_beside fd ∧ Binds K fd ["self", "name"] []
  F_Threads_thread : ∃ fd, Fun K "thread" "Threads.thread" sThreads_thread a.f_Threads_thread fd ∧ Binds K fd ["self", "name"] []
  F_Threads_threads : ∃ fd, Fun K "threads" "Threads.threads" sThreads_threads a.f_Threads_threads fd ∧ Binds K fd ["self"] []
  F_Threads_depth : ∃ fd, Fun K "depth" "Threads.depth" sThreads_depth a.f_Threads_depth fd ∧ Binds K fd ["self", "name"] []
inductive spThereD_I (vs : List V) (H : Hp) (Q : VK) : Prop
  | mk : ∀ (nm : Str) (L : Addr) (kvs : List (Key × V)) (v : V), vs = [.str nm, .ref L] → H L = some (.dK kvs) → valV kvs (Sum.inr nm) = some v → Q .non H → spThereD_I vs H Q
def spThereD : Sp := fun vs H Q _ => spThereD_I vs H Q
inductive spNewD_I (vs : List V) (H : Hp) (Q : VK) : Prop
  | mk : ∀ (nm : Str) (L : Addr) (kvs : List (Key × V)), vs = [.str nm, .ref L] → H L = some (.dK kvs) → valV kvs (Sum.inr nm) = none → Q .non H → spNewD_I vs H Q
def spNewD : Sp := fun vs H Q _ => spNewD_I vs H Q
theorem kitSS {K : PySem.W.Frag} : PySem.W.kitOne K (.type "str") (.type "str") = some true := by unfold PySem.W.kitOne; rw [if_pos (beq_self_eq_true _)]
section
variable {P : Program} {w : World} {K : PySem.W.Frag} {mg : Str → Option Value} {base : Heap} {a : Adr}
theorem ok_there {fd : FuncData} (F : Fun K "check_there" "check_there" scheck_there a.f_check_there fd) (T : Txt K mg a) : FnOk P w K mg base CX0 1 a.f_check_there fd ["name", "there"] spThereD := by
  refine F.ok sc_check_there (fun vs H Q E h => ?_) (fun cdv A outer st H vs Q E hr h => ?_)
  · obtain ⟨nm, L, kvs, v, rfl, _⟩ := h; rfl
  · obtain ⟨nm, L, kvs, v, rfl, hL, hv, k⟩ := h
    have hu := hu_of hr
    refine ⟨_, (pss_one (ps_if (pt_cmp (pc_dnotin hu (pv 0) (pv 1))) (pss_one ps_never) pss_nil)), ?_⟩
    refine ⟨_, rfl, _, rfl, L, _, rfl, DGet.k (k := Sum.inr nm) hL, _, rfl, ?_⟩
    rw [hv]
    exact iteF k
theorem ok_new {fd : FuncData} (F : Fun K "check_new" "check_new" scheck_new a.f_check_new fd) (T : Txt K mg a) : FnOk P w K mg base CX0 1 a.f_check_new fd ["name", "there"] spNewD := by
  refine F.ok sc_check_new (fun vs H Q E h => ?_) (fun cdv A outer st H vs Q E hr h => ?_)
  · obtain ⟨nm, L, kvs, rfl, _⟩ := h; rfl
  · obtain ⟨nm, L, kvs, rfl, hL, hv, k⟩ := h
    have hu := hu_of hr
    refine ⟨_, (pss_one (ps_if (PW.pt (pw_or (pt_not (pt_val (pe_callB call_isinst rfl T.b_isinstance PyProof.Rows.boot_isinstance (pac (pv 0) (pac (pe_bltn (v := .ty "str") rfl T.b_str PyProof.Rows.boot_str rfl) pa_nil))))) (pw_or1 (pt_cmp (pc_din hu (pv 0) (pv 1)))))) (pss_one ps_never) pss_nil)), ?_⟩
    refine ⟨_, rfl, _, _, _, _, _, rfl, rfl, TyOf.str nm, kitSS, _, rfl, iteF ?_⟩
    refine ⟨_, rfl, _, rfl, L, _, rfl, DGet.k (k := Sum.inr nm) hL, _, rfl, ?_⟩
    rw [hv]
    exact iteF k
end
structure TH (a : Adr) (H : Hp) (x dx L R : Addr) (rows : Rows) (kr : List (Key × V)) : Prop where
  obj : H x = some (.ins a.C_Threads dx [("links", .ref L), ("replies", .ref R)])
  lk : H L = some (.dK (rowsK rows))
  rp : H R = some (.dK kr)
  lr : L ≠ R
  nd : (rows.map (·.1)).Nodup
  few : rows.length ≤ 40
  fewR : kr.length ≤ 40
  ref_ : ∀ t v, valV kr (Sum.inr t) = some v → ∃ d, v = .ref d ∧ H d = some (.dK (keysT (reps rows t))) ∧ d ≠ L ∧ d ≠ R
  no_ : ∀ t : Str, t ≠ "" → valV kr (Sum.inr t) = none → reps rows t = []
  e_ : valV kr (Sum.inr ("" : Str)) = none
  inj : ∀ t t' d, valV kr (Sum.inr t) = some (.ref d) → valV kr (Sum.inr t') = some (.ref d) → t = t'
theorem TH.kp2 {a : Adr} {H H' : Hp} {x dx L R : Addr} {rows : Rows} {kr : List (Key × V)} (h : TH a H x dx L R rows kr) (k : Kp2 H H') : TH a H' x dx L R rows kr :=
  ⟨k _ _ h.obj (fun _ z => nomatch z), k _ _ h.lk (fun _ z => nomatch z), k _ _ h.rp (fun _ z => nomatch z), h.lr, h.nd, h.few, h.fewR, fun t v e => let ⟨d, e1, e2, e3⟩ := h.ref_ t v e; ⟨d, e1, k _ _ e2 (fun _ z => nomatch z), e3⟩, h.no_, h.e_, h.inj⟩
inductive THs (a : Adr) (H : Hp) (x : Addr) (rows : Rows) (n : Nat) : Prop
  | mk : ∀ dx L R kr, TH a H x dx L R rows kr → rows.length ≤ n → kr.length ≤ n → THs a H x rows n
theorem THs.kp2 {a : Adr} {H H' : Hp} {x : Addr} {rows : Rows} {n : Nat} (h : THs a H x rows n) (k : Kp2 H H') : THs a H' x rows n := let ⟨dx, L, R, kr, t, e1, e2⟩ := h; ⟨dx, L, R, kr, t.kp2 k, e1, e2⟩
inductive spAnsTo_I (a : Adr) (vs : List V) (H : Hp) (Q : VK) : Prop
  | mk : ∀ x rows n t, vs = [.ref x, .str t] → THs a H x rows n → t ≠ "" → (∀ l H', H l = none → Same H H' → H' l = some (.lst ((sortS (reps rows t)).map V.str)) → Q (.ref l) H') → spAnsTo_I a vs H Q
def spAnsTo (a : Adr) : Sp := fun vs H Q _ => spAnsTo_I a vs H Q
inductive spDepth_I (a : Adr) (vs : List V) (H : Hp) (Q : VK) : Prop
  | mk : ∀ x rows n nm, vs = [.ref x, .str nm] → THs a H x rows n → nm ∈ rows.map (·.1) → (∀ H', Same H H' → Q (.int (depthOf rows nm)) H') → spDepth_I a vs H Q
def spDepth (a : Adr) : Sp := fun vs H Q _ => spDepth_I a vs H Q
theorem flds_links (L R : Addr) : ([("links", V.ref L), ("replies", V.ref R)] : List (Str × V)).lookup ("links" : Str) = some (V.ref L) := by simp [List.lookup]
theorem flds_replies (L R : Addr) : ([("links", V.ref L), ("replies", V.ref R)] : List (Str × V)).lookup ("replies" : Str) = some (V.ref R) := by
  have e : (("replies" : Str) == ("links" : Str)) = false := by decide +kernel
  simp [List.lookup, e]
theorem TH.add {a : Adr} {H H' : Hp} {x dx L R : Addr} {rows : Rows} {kr kr' : List (Key × V)} {nm an : Str} (th : TH a H x dx L R rows kr) (hn : up rows nm = none) (few : rows.length < 40)
    (obj' : H' x = some (.ins a.C_Threads dx [("links", .ref L), ("replies", .ref R)])) (lk' : H' L = some (.dK (rowsK (rows ++ [(nm, an)])))) (rp' : H' R = some (.dK kr')) (few' : kr'.length ≤ 40)
    (old : ∀ t d, t ≠ an → valV kr (Sum.inr t) = some (.ref d) → H' d = some (.dK (keysT (reps rows t)))) (hkr : ∀ t, t ≠ an → valV kr' (Sum.inr t) = valV kr (Sum.inr t))
    (new : an ≠ "" → ∃ d, valV kr' (Sum.inr an) = some (.ref d) ∧ H' d = some (.dK (keysT (reps rows an ++ [nm]))) ∧ d ≠ L ∧ d ≠ R ∧ ∀ t, t ≠ an → valV kr (Sum.inr t) ≠ some (.ref d)) (emp : an = "" → kr' = kr) : TH a H' x dx L R (rows ++ [(nm, an)]) kr' := by
  have ex : ∀ t, t ≠ an → reps (rows ++ [(nm, an)]) t = reps rows t := fun t h => by rw [reps_snoc, if_neg (Ne.symm h), List.append_nil]
  have ey : reps (rows ++ [(nm, an)]) an = reps rows an ++ [nm] := by rw [reps_snoc, if_pos rfl]
  have e0 : valV kr' (Sum.inr ("" : Str)) = none := by
    by_cases h : an = ""
    · rw [emp h]; exact th.e_
    · rw [hkr "" (Ne.symm h)]; exact th.e_
  refine ⟨obj', lk', rp', th.lr, snoc_nd th.nd hn, by rw [List.length_append, List.length_singleton]; omega, few', fun t v e => ?_, fun t ht e => ?_, e0, fun t t' d e1 e2 => ?_⟩
  · by_cases h : t = an
    · subst h
      have h0 : t ≠ "" := fun z => by rw [z, e0] at e; cases e
      obtain ⟨d, q1, q2, q3, q4, _⟩ := new h0
      rw [q1] at e
      cases e
      rw [ey]
      exact ⟨d, rfl, q2, q3, q4⟩
    · rw [hkr t h] at e
      obtain ⟨d, rfl, q2, q3⟩ := th.ref_ t v e
      rw [ex t h]
      exact ⟨d, rfl, old t d h e, q3⟩
  · by_cases h : t = an
    · subst h
      obtain ⟨d, q1, _⟩ := new ht
      rw [q1] at e
      cases e
    · rw [ex t h]
      rw [hkr t h] at e
      exact th.no_ t ht e
  · by_cases h : t = an
    · by_cases h' : t' = an
      · rw [h, h']
      · subst h
        have h0 : t ≠ "" := fun z => by rw [z, e0] at e1; cases e1
        obtain ⟨d0, q1, _, _, _, q5⟩ := new h0
        rw [q1] at e1
        cases e1
        rw [hkr t' h'] at e2
        exact absurd e2 (q5 t' h')
    · by_cases h' : t' = an
      · subst h'
        have h0 : t' ≠ "" := fun z => by rw [z, e0] at e2; cases e2
        obtain ⟨d0, q1, _, _, _, q5⟩ := new h0
        rw [q1] at e2
        cases e2
        rw [hkr t h] at e1
        exact absurd e1 (q5 t h)
      · rw [hkr t h] at e1
        rw [hkr t' h'] at e2
        exact th.inj t t' d e1 e2
section
variable {P : Program} {w : World} {K : PySem.W.Frag} {mg : Str → Option Value} {base : Heap} {a : Adr}
theorem ok_ansto {fd : FuncData} (F : Fun K "answers_to" "Threads.answers_to" sThreads_answers_to a.f_Threads_answers_to fd) (T : Txt K mg a) : FnOk P w K mg base CX0 1 a.f_Threads_answers_to fd ["self", "name"] (spAnsTo a) := by
  refine F.ok sc_Threads_answers_to (fun vs H Q E h => ?_) (fun cdv A outer st H vs Q E hr h => ?_)
  · obtain ⟨x, rows, n, nm, rfl, _⟩ := h; rfl
  · obtain ⟨x, rows, n, t, rfl, ⟨dx, L, R, kr, th, _, _⟩, ht, k⟩ := h
    have hu := hu_of hr
    refine ⟨_, (pss_one (ps_ret (pe_callB (call_sorted_dict rfl) rfl T.b_sorted PyProof.Rows.boot_sorted (pac (pe_dget2 hu (pe_fld (pv 0) rfl) (pv 1) pe_dnewK ⟨rfl, rfl, rfl, rfl⟩) pa_nil)))), ?_⟩
    refine ⟨_, rfl, x, _, dx, _, _, rfl, th.obj, T.c_Threads, T.n_Threads_replies, flds_replies L R, R, rfl, .inl ⟨kr, .inl th.rp⟩, _, rfl, fun p hp => ?_⟩
    have s1 : Same H (upd H p (.dK [])) := Same.upd_new hp
    have hfew := th.few
    have hrl := reps_len rows t
    refine ⟨_, DGet.k (k := Sum.inr t) (s1 _ _ th.rp), ?_⟩
    cases hv : valV kr (Sum.inr t) with
    | none =>
      have e := th.no_ t ht hv
      refine ⟨p, [], [], rfl, upd_same, rfl, by decide, fun l hl => ?_⟩
      refine k l _ (s1.free hl) (s1.upd_of (s1.free hl)) ?_
      rw [upd_same, e]
    | some v =>
      obtain ⟨d, rfl, hd, _⟩ := th.ref_ t v hv
      refine ⟨d, keysT (reps rows t), reps rows t, rfl, s1 _ _ hd, ?_, by omega, fun l hl => k l _ (s1.free hl) (s1.upd_of (s1.free hl)) upd_same⟩
      unfold keysT
      rw [List.map_map]
      rfl
end
inductive spLaw_I (K : PySem.W.Frag) (vs : List V) (H : Hp) (Q : VK) : Prop
  | mk : ∀ (a : Addr) (ns : List Int), vs = [.ref a] → SqL K H a (ns.map V.int) → ns.length ≤ 63 → (∀ H', Q (.bl true) H') → spLaw_I K vs H Q
def spLaw (K : PySem.W.Frag) : Sp := fun vs H Q _ => spLaw_I K vs H Q
theorem dec_str {a b : Str} : decide (V.str a = V.str b) = decide (a = b) := by
  by_cases h : a = b
  · rw [h, decide_eq_true rfl, decide_eq_true rfl]
  · rw [decide_eq_false h, decide_eq_false fun z => h (V.str.inj z)]
theorem dec_int {a b : Int} : decide (V.int a = V.int b) = decide (a = b) := by
  by_cases h : a = b
  · rw [h, decide_eq_true rfl, decide_eq_true rfl]
  · rw [decide_eq_false h, decide_eq_false fun z => h (V.int.inj z)]
theorem TH.take {a : Adr} {H H' : Hp} {x dx L R : Addr} {rows : Rows} {kr : List (Key × V)} {nm an : Str} (th : TH a H x dx L R rows kr) (hu : up rows nm = some an)
    (obj' : H' x = some (.ins a.C_Threads dx [("links", .ref L), ("replies", .ref R)])) (lk' : H' L = some (.dK (rowsK (without rows nm)))) (rp' : H' R = some (.dK kr))
    (old : ∀ t d, t ≠ an → valV kr (Sum.inr t) = some (.ref d) → H' d = some (.dK (keysT (reps rows t))))
    (new : ∀ d, valV kr (Sum.inr an) = some (.ref d) → H' d = some (.dK (keysT ((reps rows an).filter fun m => decide (m ≠ nm))))) : TH a H' x dx L R (without rows nm) kr := by
  have hl : (without rows nm).length ≤ rows.length := List.length_filter_le _ _
  have hf := th.few
  have ex : ∀ t, t ≠ an → reps (without rows nm) t = reps rows t := fun t h => by rw [reps_without]; exact filter_not (not_reps th.nd hu h)
  refine ⟨obj', lk', rp', th.lr, without_nd th.nd, by omega, th.fewR, fun t v e => ?_, fun t ht e => ?_, th.e_, th.inj⟩
  · obtain ⟨d, rfl, q2, q3⟩ := th.ref_ t v e
    by_cases h : t = an
    · subst h
      rw [reps_without]
      exact ⟨d, rfl, new d e, q3⟩
    · rw [ex t h]
      exact ⟨d, rfl, old t d h e, q3⟩
  · have e1 := th.no_ t ht e
    rw [reps_without, e1]
    rfl
section
variable {P : Program} {w : World} {K : PySem.W.Frag} {mg : Str → Option Value} {base : Heap} {a : Adr}
theorem ok_depth {fd : FuncData} (F : Fun K "depth" "Threads.depth" sThreads_depth a.f_Threads_depth fd) (T : Txt K mg a) (FF : Funs K a) : FnOk P w K mg base CX0 2 a.f_Threads_depth fd ["self", "name"] (spDepth a) := by
  obtain ⟨fdC, F_check_there, b_check_there⟩ := FF.F_check_there
  have G_check_there : FnOk P w K mg base CX0 1 a.f_check_there fdC ["name", "there"] spThereD := ok_there F_check_there T
  refine F.ok sc_Threads_depth (fun vs H Q E h => ?_) (fun cdv A outer st H vs Q E hr h => ?_)
  · obtain ⟨x, rows, n, nm, rfl, _⟩ := h; rfl
  · obtain ⟨x, rows, n, nm, rfl, hth, hm, k⟩ := h
    obtain ⟨dx, L, R, kr, th, hl1, hl2⟩ := id hth
    have hu := hu_of hr
    have hr_check_there : Room 1 _ := hr
    refine ⟨_, (pss_cons (ps_expr (pe_call G_check_there hr_check_there rfl T.m_check_there F_check_there.kp b_check_there .nil pass0 (pac (pv 1) (pac (pe_fld (pv 0) rfl) pa_nil))))
        (pss_cons (ps_set (i := 2) sc_Threads_depth.nd rfl (Or.inl rfl) (pe_disp (pps_cons (pv 1) pe_bl pps_nil) rfl rfl (by simp) (by decide)))
        (pss_cons (ps_set (i := 3) sc_Threads_depth.nd rfl (Or.inl rfl) (pe_dget hu (pe_fld (pv 0) rfl) (pv 1) (fun _ _ => rfl)))
        (pss_cons (ps_while PassesOwn.never (PW.pt (pw_and (pt_cmp (pc_din hu (pv 3) (pe_fld (pv 0) rfl))) (pw_and1 (pt_cmp (pc_dnotin hu (pv 3) (pv 2)))))) (pss_cons (ps_dput hu (pv 2) (pv 3) pe_bl rfl)
        (pss_one (ps_set (i := 3) sc_Threads_depth.nd rfl (Or.inl rfl) (pe_dget hu (pe_fld (pv 0) rfl) (pv 3) (fun _ _ => rfl))))))
        (pss_one (ps_ret (pe_op op_sub (pe_callB call_lenD rfl T.b_len PySem.boot_len (pac (pv 2) pa_nil)) pe_int))))))), ?_⟩
    obtain ⟨an, eu⟩ := up_some hm
    refine ⟨_, rfl, _, rfl, x, _, dx, _, _, rfl, th.obj, T.c_Threads, T.n_Threads_links, flds_links L R, nm, L, _, _, rfl, th.lk, (by rw [val_rows, eu]; rfl), ?_⟩
    intro p hp
    refine ⟨_, rfl, upd_same, [(Sum.inr nm, .bl true)], rfl, (by show 1 ≤ 15; decide), ?_⟩
    have ek : mergeK [] [(Sum.inr nm, V.bl true)] = keysT [nm] := rfl
    rw [ek, upd_upd]
    have s1 : Same H (upd H p (.dK (keysT [nm]))) := Same.upd_new hp
    refine ⟨_, rfl, x, _, dx, _, _, rfl, s1 _ _ th.obj, T.c_Threads, T.n_Threads_links, flds_links L R, _, rfl, L, .str an, rfl, (by have := DGet.k (k := Sum.inr nm) (s1 _ _ th.lk); rw [val_rows, eu] at this; exact this), ?_⟩
    have hfew := th.few
    refine ⟨fun m σ H2 => ∃ (met : List Str) (ab : Str), m = rows.length - met.length ∧ σ = [some (.ref x), some (.str nm), some (.ref p), some (.str ab)] ∧ Same H H2 ∧ H2 p = some (.dK (keysT met)) ∧ OnWay rows nm met ab, ⟨_, [nm], an, rfl, rfl, s1, upd_same, OnWay.start eu⟩, ?_⟩
    rintro m σ H2 ⟨met, ab, rfl, rfl, s2, hp2, ow⟩
    have hlen := ow.len
    refine ⟨_, rfl, _, rfl, x, _, dx, _, _, rfl, s2 _ _ th.obj, T.c_Threads, T.n_Threads_links, flds_links L R, L, _, rfl, DGet.k (k := Sum.inr ab) (s2 _ _ th.lk), _, rfl, ?_⟩
    rw [val_rows]
    have fin : ¬ (ab ∈ rows.map (·.1) ∧ ¬ ab ∈ met) → Q (.int ((((keysT met).length : Nat) : Int) - 1)) H2 := fun h => by
      have e := ow.stop h
      rw [keysT, List.length_map, e]
      exact k H2 s2
    cases eb : up rows ab with
    | none =>
      refine iteF ?_
      exact ⟨_, rfl, p, _, rfl, hp2, _, _, rfl, rfl, fin fun z => up_none.mp eb z.1⟩
    | some b =>
      have hab : ab ∈ rows.map (·.1) := List.mem_map.mpr ⟨_, up_mem eb, rfl⟩
      refine iteT ⟨_, rfl, _, rfl, p, _, rfl, DGet.k (k := Sum.inr ab) hp2, _, rfl, ?_⟩
      rw [val_keys]
      by_cases hmet : ab ∈ met
      · rw [if_pos hmet]
        exact ⟨_, rfl, p, _, rfl, hp2, _, _, rfl, rfl, fin fun z => z.2 hmet⟩
      · rw [if_neg hmet]
        have ow2 := ow.step eb hmet
        have hl2' := ow2.len
        rw [List.length_append, List.length_singleton] at hl2'
        refine ⟨_, fun σ' H' q => q, _, rfl, _, rfl, p, _, rfl, DPut.k (k := Sum.inr ab) hp2 (by rw [keysT, List.length_map]; exact small1000 (by omega)), ?_⟩
        rw [put_keys hmet]
        have s3 : Same H (upd H2 p (.dK (keysT (met ++ [ab])))) := s2.upd_of hp
        refine ⟨_, rfl, x, _, dx, _, _, rfl, s3 _ _ th.obj, T.c_Threads, T.n_Threads_links, flds_links L R, _, rfl, L, .str b, rfl, (by have := DGet.k (k := Sum.inr ab) (s3 _ _ th.lk); rw [val_rows, eb] at this; exact this), ?_⟩
        exact ⟨rows.length - (met ++ [ab]).length, by rw [List.length_append, List.length_singleton]; omega, met ++ [ab], b, rfl, rfl, s3, upd_same, ow2⟩
end
inductive spNames_I (a : Adr) (vs : List V) (H : Hp) (Q : VK) : Prop
  | mk : ∀ x rows n, vs = [.ref x] → THs a H x rows n → (∀ l H', H l = none → Same H H' → H' l = some (.lst ((sortS (rows.map (·.1))).map V.str)) → Q (.ref l) H') → spNames_I a vs H Q
def spNames (a : Adr) : Sp := fun vs H Q _ => spNames_I a vs H Q
inductive spBeside_I (a : Adr) (vs : List V) (H : Hp) (Q : VK) : Prop
  | mk : ∀ x rows n nm, vs = [.ref x, .str nm] → THs a H x rows n → nm ≠ "" → (∀ l H', H l = none → Same H H' → H' l = some (.lst ((nbr rows nm).map V.str)) → Q (.ref l) H') → spBeside_I a vs H Q
def spBeside (a : Adr) : Sp := fun vs H Q _ => spBeside_I a vs H Q
inductive spThread_I (a : Adr) (vs : List V) (H : Hp) (Q : VK) : Prop
  | mk : ∀ x rows n nm, vs = [.ref x, .str nm] → THs a H x rows n → NoE rows → nm ∈ rows.map (·.1) → (∀ l H', H l = none → Same H H' → H' l = some (.lst ((thrOf rows nm).map V.str)) → Q (.ref l) H') → spThread_I a vs H Q
def spThread (a : Adr) : Sp := fun vs H Q _ => spThread_I a vs H Q
section
variable {P : Program} {w : World} {K : PySem.W.Frag} {mg : Str → Option Value} {base : Heap} {a : Adr}
theorem ok_names {fd : FuncData} (F : Fun K "names" "Threads.names" sThreads_names a.f_Threads_names fd) (T : Txt K mg a) : FnOk P w K mg base CX0 1 a.f_Threads_names fd ["self"] (spNames a) := by
  refine F.ok sc_Threads_names (fun vs H Q E h => ?_) (fun cdv A outer st H vs Q E hr h => ?_)
  · obtain ⟨x, rows, n, rfl, _⟩ := h; rfl
  · obtain ⟨x, rows, n, rfl, ⟨dx, L, R, kr, th, _, _⟩, k⟩ := h
    have hfew := th.few
    refine ⟨_, (pss_one (ps_ret (pe_callB (call_sorted_dict rfl) rfl T.b_sorted PyProof.Rows.boot_sorted (pac (pe_fld (pv 0) rfl) pa_nil)))), ?_⟩
    refine ⟨_, rfl, x, _, dx, _, _, rfl, th.obj, T.c_Threads, T.n_Threads_links, flds_links L R, L, rowsK rows, rows.map (·.1), rfl, th.lk, ?_, by rw [List.length_map]; omega, fun l hl => k l _ hl (Same.upd_new hl) upd_same⟩
    unfold rowsK
    rw [List.map_map, List.map_map]
    rfl
theorem ok_beside {fd : FuncData} (F : Fun K "beside" "Threads.beside" sThreads_beside a.f_Threads_beside fd) (T : Txt K mg a) : FnOk P w K mg base CX0 1 a.f_Threads_beside fd ["self", "name"] (spBeside a) := by
  refine F.ok sc_Threads_beside (fun vs H Q E h => ?_) (fun cdv A outer st H vs Q E hr h => ?_)
  · obtain ⟨x, rows, n, nm, rfl, _⟩ := h; rfl
  · obtain ⟨x, rows, n, nm, rfl, ⟨dx, L, R, kr, th, _, _⟩, hne, k⟩ := h
    have hu := hu_of hr
    have hfew := th.few
    have hrl := reps_len rows nm
    refine ⟨_, (pss_cons (ps_set (i := 2) sc_Threads_beside.nd rfl (Or.inl rfl) (pe_callTy (call_list_dict rfl) rfl T.b_list PyProof.Rows.boot_list (pac (pe_dget2 hu (pe_fld (pv 0) rfl) (pv 1) pe_dnewK ⟨rfl, rfl, rfl, rfl⟩) pa_nil)))
        (pss_cons (ps_set (i := 3) sc_Threads_beside.nd rfl (Or.inl rfl) (pe_dget2 hu (pe_fld (pv 0) rfl) (pv 1) pe_str ⟨rfl, rfl, rfl, rfl⟩))
        (pss_cons (ps_if (pt_cmpR op_ne (pv 3) pe_str (nomark _)) (pss_one (ps_expr (pe_bm PySem.F.plainAttrs_list PySem.F.slot_list_append PySem.F.type_list_append mt_append (pv 2) (pac (pv 3) pa_nil)))) pss_nil)
        (pss_one (ps_ret (pv 2)))))), ?_⟩
    refine ⟨_, rfl, x, _, dx, _, _, rfl, th.obj, T.c_Threads, T.n_Threads_replies, flds_replies L R, R, rfl, .inl ⟨kr, .inl th.rp⟩, _, rfl, fun p hp => ?_⟩
    have s1 : Same H (upd H p (.dK [])) := Same.upd_new hp
    refine ⟨_, DGet.k (k := Sum.inr nm) (s1 _ _ th.rp), ?_⟩
    have fin : ∀ (l : Addr) (H2 : Hp), H l = none → Same H H2 → H2 l = some (.lst ((reps rows nm).map V.str)) →
        ∃ v, valV (rowsK rows) (Sum.inr nm) = v := fun _ _ _ _ _ => ⟨_, rfl⟩
    have hd : ∃ (d : Addr), (match valV kr (Sum.inr nm) with | some v => v | none => V.ref p) = V.ref d ∧ (upd H p (.dK [])) d = some (.dK (keysT (reps rows nm))) := by
      cases hv : valV kr (Sum.inr nm) with
      | none => exact ⟨p, rfl, by rw [upd_same, th.no_ nm hne hv]; rfl⟩
      | some v =>
        obtain ⟨d, rfl, hd, _⟩ := th.ref_ nm v hv
        exact ⟨d, rfl, s1 _ _ hd⟩
    obtain ⟨d, ed, hdd⟩ := hd
    refine ⟨d, keysT (reps rows nm), by first | (rw [← ed]; cases valV kr (Sum.inr nm) <;> rfl) | (rw [← ed]), hdd, fun l hl => ?_⟩
    have ek : (keysT (reps rows nm)).map (fun kv => kV kv.1) = (reps rows nm).map V.str := by unfold keysT; rw [List.map_map]; rfl
    rw [ek]
    have nl : H l = none := s1.free hl
    have s2 : Same H (upd (upd H p (.dK [])) l (.lst ((reps rows nm).map V.str))) := s1.upd_of nl
    have e2 : (upd (upd H p (.dK [])) l (.lst ((reps rows nm).map V.str))) l = some (.lst ((reps rows nm).map V.str)) := upd_same
    generalize upd (upd H p (.dK [])) l (.lst ((reps rows nm).map V.str)) = H2 at s2 e2
    refine ⟨_, rfl, x, _, dx, _, _, rfl, s2 _ _ th.obj, T.c_Threads, T.n_Threads_links, flds_links L R, L, rfl, .inl ⟨_, .inl (s2 _ _ th.lk)⟩, _, rfl, _, DGet.k (k := Sum.inr nm) (s2 _ _ th.lk), ?_⟩
    rw [val_rows]
    cases hu2 : up rows nm with
    | none =>
      refine ⟨_, rfl, rfl, _, rfl, iteF ⟨_, rfl, k l H2 nl s2 ?_⟩⟩
      rw [e2, nbr, upL, hu2]; simp
    | some an =>
      refine ⟨_, rfl, rfl, _, rfl, ?_⟩
      by_cases han : an = ""
      · have e : decide (V.str an = V.str "") = true := by rw [han]; simp
        show (if (!decide (V.str an = V.str "")) = true then _ else _)
        rw [e]
        refine iteF ⟨_, rfl, k l H2 nl s2 ?_⟩
        rw [e2, nbr, upL, hu2]; simp [han]
      · have e : decide (V.str an = V.str "") = false := by simp [han]
        show (if (!decide (V.str an = V.str "")) = true then _ else _)
        rw [e]
        refine iteT ⟨_, rfl, .inl ⟨rfl, _, SqL.of e2⟩, _, rfl, l, _, _, rfl, rfl, e2, (by rw [List.length_map]; exact small1000 (by omega)), ?_⟩
        refine ⟨_, rfl, k l _ nl (s2.upd_of nl) ?_⟩
        rw [upd_same, nbr, upL, hu2]; simp [han]
end
theorem dfsin_len {rows : Rows} {n here : Str} {seen rc wt : List Str} (d : DFSin rows n here seen rc wt) (hn : n ∈ rows.map (·.1)) : rc.length ≤ 2 * rows.length := by
  have := nodup_le d.nd fun m hm => rch_univ hn (d.sound m hm)
  unfold univ at this
  rw [List.length_append, List.length_map, List.length_map] at this
  omega
section
variable {P : Program} {w : World} {K : PySem.W.Frag} {mg : Str → Option Value} {base : Heap} {a : Adr}
theorem ok_thread {fd : FuncData} (F : Fun K "thread" "Threads.thread" sThreads_thread a.f_Threads_thread fd) (T : Txt K mg a) (FF : Funs K a) : FnOk P w K mg base CX0 2 a.f_Threads_thread fd ["self", "name"] (spThread a) := by
  obtain ⟨fdC, F_check_there, b_check_there⟩ := FF.F_check_there
  obtain ⟨fdB, F_b, b_Threads_beside⟩ := FF.F_Threads_beside
  have G_check_there : FnOk P w K mg base CX0 1 a.f_check_there fdC ["name", "there"] spThereD := ok_there F_check_there T
  have G_Threads_beside : FnOk P w K mg base CX0 1 a.f_Threads_beside fdB ["self", "name"] (spBeside a) := ok_beside F_b T
  refine F.ok sc_Threads_thread (fun vs H Q E h => ?_) (fun cdv A outer st H vs Q E hr h => ?_)
  · obtain ⟨x, rows, n, nm, rfl, _⟩ := h; rfl
  · obtain ⟨x, rows, n, nm, rfl, hth, hne, hm, k⟩ := h
    obtain ⟨dx, L, R, kr, th, hl1, hl2⟩ := id hth
    have hfew := th.few
    have hu := hu_of hr
    have hr_check_there : Room 1 _ := hr
    have hr_Threads_beside : Room 1 _ := hr
    have nm0 : nm ≠ "" := hne nm hm
    refine ⟨_, (pss_cons (ps_expr (pe_call G_check_there hr_check_there rfl T.m_check_there F_check_there.kp b_check_there .nil pass0 (pac (pv 1) (pac (pe_fld (pv 0) rfl) pa_nil))))
        (pss_cons (ps_set (i := 2) sc_Threads_thread.nd rfl (Or.inl rfl) (pe_disp (pps_cons (pv 1) pe_bl pps_nil) rfl rfl (by simp) (by decide)))
        (pss_cons (ps_set (i := 3) sc_Threads_thread.nd rfl (Or.inl rfl) (pe_lstS (pas_cons (pv 1) pas_nil)))
        (pss_cons (ps_while PassesOwn.never (pt_truth (pv 3) (fun _ => rfl)) (pss_cons (ps_set (i := 4) sc_Threads_thread.nd rfl (Or.inl rfl) (pe_bm0 PySem.F.plainAttrs_list PySem.F.slot_list_pop PySem.F.type_list_pop mt_pop (pv 3)))
          (pss_one (ps_for PassesOwn.never rfl (pi_list (pe_meth (pv 0) T.c_Threads T.M_Threads_beside G_Threads_beside hr_Threads_beside b_Threads_beside .nil pass0 (pac (pv 4) pa_nil))) (pg_name (i := 5) sc_Threads_thread.nd rfl (Or.inl rfl)) (pss_one (ps_if (pt_cmp (pc_dnotin hu (pv 5) (pv 2))) (pss_cons (ps_dput hu (pv 2) (pv 5) pe_bl rfl) (pss_one (ps_expr (pe_bm PySem.F.plainAttrs_list PySem.F.slot_list_append PySem.F.type_list_append mt_append (pv 3) (pac (pv 5) pa_nil))))) pss_nil))))))
        (pss_one (ps_fast (ps_ret (pe_callB call_sorted rfl T.b_sorted PyProof.Rows.boot_sorted (pac (pe_comp (sc := defScope sThreads_thread) (N := n_Threads_thread) (fr := [(0, "self")]) ⟨rfl, rfl, by decide +kernel, by decide +kernel, by decide +kernel, by decide +kernel, by decide +kernel⟩ rfl rfl rfl (pi_dict (pv 2)) (fun _ _ _ _ => pts_one (pt_cmp (pc_din hu (pv 0) (pe_fldK K (pv 1) rfl)))) (fun _ _ _ _ => (pv 0))) pa_nil))))))))), ?_⟩
    obtain ⟨an, eu⟩ := up_some hm
    refine ⟨_, rfl, _, rfl, x, _, dx, _, _, rfl, th.obj, T.c_Threads, T.n_Threads_links, flds_links L R, nm, L, _, _, rfl, th.lk, (by rw [val_rows, eu]; rfl), ?_⟩
    intro p hp
    refine ⟨_, rfl, upd_same, [(Sum.inr nm, .bl true)], rfl, (by show 1 ≤ 15; decide), ?_⟩
    have ek : mergeK [] [(Sum.inr nm, V.bl true)] = keysT [nm] := rfl
    rw [ek, upd_upd]
    have s1 : Same H (upd H p (.dK (keysT [nm]))) := Same.upd_new hp
    have p1 : (upd H p (.dK (keysT [nm]))) p = some (.dK (keysT [nm])) := upd_same
    show tSeq _ _ _ _ (upd H p (.dK (keysT [nm])))
    generalize upd H p (.dK (keysT [nm])) = H1 at s1 p1
    refine ⟨_, rfl, (by show 1 ≤ sizeLine; decide), fun q hq => ?_⟩
    have qn : H q = none := s1.free hq
    have pq : p ≠ q := ne_of_none p1 hq
    have s2 : Same H (upd H1 q (.lst [.str nm])) := s1.upd_of qn
    have p2 : (upd H1 q (.lst [.str nm])) p = some (.dK (keysT [nm])) := by rw [upd_ne pq]; exact p1
    have q2 : (upd H1 q (.lst [.str nm])) q = some (.lst ([nm].map V.str)) := upd_same
    show tSeq _ _ _ _ (upd H1 q (.lst [.str nm]))
    generalize upd H1 q (.lst [.str nm]) = H2 at s2 p2 q2
    refine ⟨fun m σ H3 => ∃ (rc wt : List Str) (o4 o5 : Option V), m = 2 * (2 * rows.length - rc.length) + wt.length ∧ m ≤ 200 ∧ σ = [some (.ref x), some (.str nm), some (.ref p), some (.ref q), o4, o5] ∧ Same H H3 ∧ H3 p = some (.dK (keysT rc)) ∧ H3 q = some (.lst (wt.map V.str)) ∧ DFS rows nm rc wt,
      ⟨_, [nm], [nm], none, none, rfl, by show 2 * (2 * rows.length - 1) + 1 ≤ 200; omega, rfl, s2, p2, q2, DFS.init⟩, ?_⟩
    rintro m σ H3 ⟨rc, wt, o4, o5, rfl, hm200, rfl, s3, p3, q3, d⟩
    have dl := d.len hm
    refine ⟨_, rfl, !(wt.map V.str).isEmpty, .inl ⟨_, SqL.of q3, rfl⟩, ?_⟩
    by_cases hw : wt = []
    · subst hw
      refine iteF ?_
      refine ⟨p, keysT rc, p3, fun oa => ?_⟩
      have xp : x ≠ p := ne_of_none th.obj hp
      have Lp : L ≠ p := ne_of_none th.lk hp
      have obj4 : (upd H3 p (.frz oa (.dK (keysT rc)))) x = some (.ins a.C_Threads dx [("links", .ref L), ("replies", .ref R)]) := by rw [upd_ne xp]; exact s3 _ _ th.obj
      have lk4 : (upd H3 p (.frz oa (.dK (keysT rc)))) L = some (.dK (rowsK rows)) := by rw [upd_ne Lp]; exact s3 _ _ th.lk
      have s4 : Same H (upd H3 p (.frz oa (.dK (keysT rc)))) := s3.upd_of hp
      have p4 : (upd H3 p (.frz oa (.dK (keysT rc)))) p = some (.frz oa (.dK (keysT rc))) := upd_same
      generalize upd H3 p (.frz oa (.dK (keysT rc))) = H4 at obj4 lk4 s4 p4
      refine ⟨_, rfl, p, oa, keysT rc, rfl, p4, comp_dictFM (xs := rc) V.str (fun y => decide (y ∈ rows.map (·.1))) V.str (Nat.le_of_lt (small1000 (by omega))) p4 (by unfold keysT; rw [List.map_map]; rfl) ?_ ?_ ?_⟩
      · intro y H5 Q' hy s5 q'
        refine ⟨_, rfl, _, rfl, x, _, dx, _, _, rfl, s5 _ _ obj4, T.c_Threads, T.n_Threads_links, flds_links L R, L, _, rfl, DGet.k (k := Sum.inr y) (s5 _ _ lk4), _, rfl, ?_⟩
        rw [val_rows]
        cases e : up rows y with
        | none =>
          rw [decide_eq_false (up_none.mp e)] at q'
          exact q'
        | some z =>
          rw [decide_eq_true (List.mem_map.mpr ⟨_, up_mem e, rfl⟩)] at q'
          exact q'
      · intro y H5 Q' hy s5 _ q'
        exact ⟨_, rfl, q'⟩
      · intro D hD
        have hfl := nodup_le (d.nd.filter (fun y => decide (y ∈ rows.map (·.1)))) (l := rows.map (·.1)) fun m hm => of_decide_eq_true (List.mem_filter.mp hm).2
        rw [List.length_map] at hfl
        refine ⟨D, _, rfl, SqL.of upd_same, by omega, fun l hl => ?_⟩
        have pD : p ≠ D := ne_of_none p4 hD
        have p5 : (upd H4 D (.lst ((rc.filter fun y => decide (y ∈ rows.map (·.1))).map V.str))) p = some (.frz oa (.dK (keysT rc))) := by rw [upd_ne pD]; exact p4
        have s5 : Same H (upd H4 D (.lst ((rc.filter fun y => decide (y ∈ rows.map (·.1))).map V.str))) := s4.upd_of (s4.free hD)
        generalize upd H4 D (.lst ((rc.filter fun y => decide (y ∈ rows.map (·.1))).map V.str)) = H5 at hl p5 s5
        have pl : p ≠ l := ne_of_none p5 hl
        have nl : H l = none := s5.free hl
        refine ⟨by rw [upd_ne pl]; exact p5, ?_⟩
        refine k l _ nl ((s5.upd_of nl).upd_of hp) ?_
        rw [upd_ne pl.symm, upd_same, d.done th.nd]
    · obtain ⟨wt', here, rfl⟩ : ∃ wt' here, wt = wt' ++ [here] := ⟨wt.dropLast, wt.getLast hw, (List.dropLast_concat_getLast hw).symm⟩
      have hk : (!((wt' ++ [here]).map V.str).isEmpty) = true := by simp
      rw [hk]
      rw [List.length_append, List.length_singleton] at hm200
      refine iteT ⟨_, fun σ' H' z => z, ?_⟩
      refine ⟨_, rfl, .inl ⟨rfl, _, SqL.of q3⟩, q, _, .str here, rfl, rfl, q3, by simp, ?_⟩
      have edl : ((wt' ++ [here]).map V.str).dropLast = wt'.map V.str := by simp
      rw [edl]
      have s4 : Same H (upd H3 q (.lst (wt'.map V.str))) := s3.upd_of qn
      have p4 : (upd H3 q (.lst (wt'.map V.str))) p = some (.dK (keysT rc)) := by rw [upd_ne pq]; exact p3
      have q4 : (upd H3 q (.lst (wt'.map V.str))) q = some (.lst (wt'.map V.str)) := upd_same
      generalize upd H3 q (.lst (wt'.map V.str)) = H4 at s4 p4 q4 ⊢
      have hth4 := hth.kp2 s4.kp2
      have hh : here ∈ rc := d.sub here (by simp)
      have h0 : here ≠ "" := (d.sound here hh).ne hne nm0
      refine ⟨_, rfl, x, dx, _, rfl, s4 _ _ th.obj, rfl, _, rfl, x, rows, n, here, rfl, hth4, h0, fun l H5 nl s5 el => ?_⟩
      have lp : l ≠ p := (ne_of_none p4 nl).symm
      have lq : l ≠ q := (ne_of_none q4 nl).symm
      refine ⟨l, rfl, ⟨_, SqL.of el⟩, for_list (K := K) (a := l) (xs := (nbr rows here).map V.str) (fun i σ H6 => Ex3 fun (rc6 wt6 : List Str) (o : Option V) => And7 (σ = [some (.ref x), some (.str nm), some (.ref p), some (.ref q), some (.str here), o]) (Same H H6) (H6 p = some (.dK (keysT rc6))) (H6 q = some (.lst (wt6.map V.str))) (H6 l = some (.lst ((nbr rows here).map V.str))) (DFSin rows nm here ((nbr rows here).take i) rc6 wt6) (2 * (2 * rows.length - rc6.length) + wt6.length ≤ 2 * (2 * rows.length - rc.length) + wt'.length))
        ⟨rc, wt', o5, rfl, s4.trans s5, s5 _ _ p4, s5 _ _ q4, el, by simpa using d.pop, Nat.le_refl _⟩ ?_ ?_ ?_⟩
      · rintro i σ H6 _ ⟨rc6, wt6, o, rfl, s6, p6, q6, l6, d6, m6⟩
        exact SqL.of l6
      · rintro i v σ H6 hv ⟨rc6, wt6, o, rfl, s6, p6, q6, l6, d6, m6⟩
        obtain ⟨y, hy, rfl⟩ : ∃ y, (nbr rows here)[i]? = some y ∧ V.str y = v := by
          rw [List.getElem?_map] at hv
          cases e : (nbr rows here)[i]? with
          | none => rw [e] at hv; cases hv
          | some t => rw [e] at hv; exact ⟨t, rfl, Option.some.inj hv⟩
        have et : (nbr rows here).take (i + 1) = (nbr rows here).take i ++ [y] := by rw [List.take_add_one, hy]; rfl
        have ym : y ∈ nbr rows here := List.mem_of_getElem? hy
        have l6' := dfsin_len d6 hm
        refine ⟨_, rfl, _, rfl, p, _, rfl, DGet.k (k := Sum.inr y) p6, _, rfl, ?_⟩
        rw [val_keys]
        by_cases hin : y ∈ rc6
        · rw [if_pos hin]
          refine iteF ⟨rc6, wt6, _, rfl, s6, p6, q6, l6, ?_, m6⟩
          rw [et]
          exact d6.old hin
        · rw [if_neg hin]
          refine iteT ⟨_, rfl, _, rfl, p, _, rfl, DPut.k (k := Sum.inr y) p6 (by rw [keysT, List.length_map]; exact small1000 (by omega)), ?_⟩
          rw [put_keys hin]
          have d7 := d6.new hin ym
          have l7 := dfsin_len d7 hm
          rw [List.length_append, List.length_singleton] at l7
          have s7 : Same H (upd H6 p (.dK (keysT (rc6 ++ [y])))) := s6.upd_of hp
          have q7 : (upd H6 p (.dK (keysT (rc6 ++ [y])))) q = some (.lst (wt6.map V.str)) := by rw [upd_ne pq.symm]; exact q6
          have p7 : (upd H6 p (.dK (keysT (rc6 ++ [y])))) p = some (.dK (keysT (rc6 ++ [y]))) := upd_same
          have l7' : (upd H6 p (.dK (keysT (rc6 ++ [y])))) l = some (.lst ((nbr rows here).map V.str)) := by rw [upd_ne lp]; exact l6
          generalize upd H6 p (.dK (keysT (rc6 ++ [y]))) = H7 at s7 q7 p7 l7'
          refine ⟨_, rfl, .inl ⟨rfl, _, SqL.of q7⟩, _, rfl, q, _, _, rfl, rfl, q7, (by rw [List.length_map]; exact small1000 (by omega)), ?_⟩
          refine ⟨rc6 ++ [y], wt6 ++ [y], _, rfl, s7.upd_of qn, by rw [upd_ne pq]; exact p7, by rw [upd_same, List.map_append]; rfl, by rw [upd_ne lq]; exact l7', ?_, ?_⟩
          · rw [et]; exact d7
          · rw [List.length_append, List.length_append, List.length_singleton]; omega
      · rintro σ H6 ⟨rc6, wt6, o, rfl, s6, p6, q6, l6, d6, m6⟩
        rw [List.length_map, List.take_length] at d6
        refine ⟨_, ?_, rc6, wt6, _, _, rfl, by omega, rfl, s6, p6, q6, d6.out⟩
        rw [List.length_append, List.length_singleton]
        omega
end
/-- the lists at ls are the threads ts -/
def ThrAt (H : Hp) (l : Addr) (ls : List (Addr × List Str)) : Prop := H l = some (.lst (ls.map fun p => V.ref p.1)) ∧ ∀ p ∈ ls, H p.1 = some (.lst (p.2.map V.str))
inductive spThreads_I (a : Adr) (vs : List V) (H : Hp) (Q : VK) : Prop
  | mk : ∀ x rows n, vs = [.ref x] → THs a H x rows n → NoE rows → (∀ l H' ls, H l = none → Same H H' → (∀ p ∈ ls, H p.1 = none ∧ p.1 ≠ l) → ls.map (·.2) = thrAll rows (sortS (rows.map (·.1))) → ThrAt H' l ls → Q (.ref l) H') → spThreads_I a vs H Q
def spThreads (a : Adr) : Sp := fun vs H Q _ => spThreads_I a vs H Q
section
variable {P : Program} {w : World} {K : PySem.W.Frag} {mg : Str → Option Value} {base : Heap} {a : Adr}
theorem ok_threads {fd : FuncData} (F : Fun K "threads" "Threads.threads" sThreads_threads a.f_Threads_threads fd) (T : Txt K mg a) (FF : Funs K a) : FnOk P w K mg base CX0 3 a.f_Threads_threads fd ["self"] (spThreads a) := by
  obtain ⟨fdN, F_n, b_Threads_names⟩ := FF.F_Threads_names
  obtain ⟨fdT, F_t, b_Threads_thread⟩ := FF.F_Threads_thread
  have G_Threads_names : FnOk P w K mg base CX0 1 a.f_Threads_names fdN ["self"] (spNames a) := ok_names F_n T
  have G_Threads_thread : FnOk P w K mg base CX0 2 a.f_Threads_thread fdT ["self", "name"] (spThread a) := ok_thread F_t T FF
  refine F.ok sc_Threads_threads (fun vs H Q E h => ?_) (fun cdv A outer st H vs Q E hr h => ?_)
  · obtain ⟨x, rows, n, rfl, _⟩ := h; rfl
  · obtain ⟨x, rows, n, rfl, hth, hne, k⟩ := h
    obtain ⟨dx, L, R, kr, th, hl1, hl2⟩ := id hth
    have hfew := th.few
    have hu := hu_of hr
    have hr_Threads_names : Room 1 _ := hr.mono (by decide)
    have hr_Threads_thread : Room 2 _ := hr
    refine ⟨_, (pss_cons (ps_set (i := 1) sc_Threads_threads.nd rfl (Or.inl rfl) (pe_lstS pas_nil))
        (pss_cons (ps_set (i := 2) sc_Threads_threads.nd rfl (Or.inl rfl) pe_dnewK)
        (pss_cons (ps_for PassesOwn.never rfl (pi_list (pe_meth0 (pv 0) T.c_Threads T.M_Threads_names G_Threads_names hr_Threads_names b_Threads_names .nil pass0)) (pg_name (i := 3) sc_Threads_threads.nd rfl (Or.inl rfl)) (pss_one (ps_if (pt_cmp (pc_dnotin hu (pv 3) (pv 2))) (pss_cons (ps_set (i := 4) sc_Threads_threads.nd rfl (Or.inl rfl) (pe_meth (pv 0) T.c_Threads T.M_Threads_thread G_Threads_thread hr_Threads_thread b_Threads_thread .nil pass0 (pac (pv 3) pa_nil)))
        (pss_cons (ps_expr (pe_bm PySem.F.plainAttrs_list PySem.F.slot_list_append PySem.F.type_list_append mt_append (pv 1) (pac (pv 4) pa_nil)))
        (pss_one (ps_for PassesOwn.never rfl (pi_list (pv 4)) (pg_name (i := 5) sc_Threads_threads.nd rfl (Or.inl rfl)) (pss_one (ps_dput hu (pv 2) (pv 5) pe_bl rfl)))))) pss_nil)))
        (pss_one (ps_ret (pv 1)))))), ?_⟩
    refine ⟨(by show 0 ≤ sizeLine; decide), fun q hq => ?_⟩
    have s1 : Same H (upd H q (.lst [])) := Same.upd_new hq
    have q1 : (upd H q (.lst [])) q = some (.lst []) := upd_same
    show tSeq _ _ _ _ (upd H q (.lst []))
    generalize upd H q (.lst []) = H1 at s1 q1
    intro p hp
    have pn : H p = none := s1.free hp
    have qp : q ≠ p := ne_of_none q1 hp
    have s2 : Same H (upd H1 p (.dK [])) := s1.upd_of pn
    have q2 : (upd H1 p (.dK [])) q = some (.lst []) := by rw [upd_ne qp]; exact q1
    have p2 : (upd H1 p (.dK [])) p = some (.dK (keysT [])) := upd_same
    show tSeq _ _ _ _ (upd H1 p (.dK []))
    generalize upd H1 p (.dK []) = H2 at s2 q2 p2
    have hth2 := hth.kp2 s2.kp2
    refine ⟨_, rfl, x, dx, _, rfl, s2 _ _ th.obj, rfl, x, rows, n, rfl, hth2, fun l H3 nl s3 el => ?_⟩
    generalize hns : sortS (rows.map (·.1)) = ns at el
    have nsm : ∀ m ∈ ns, m ∈ rows.map (·.1) := fun m hm => by rw [← hns] at hm; exact sortS_mem.mp hm
    have nsl : ns.length ≤ 40 := by rw [← hns, sortS_len, List.length_map]; exact hfew
    have lq : l ≠ q := (ne_of_none q2 nl).symm
    have lp : l ≠ p := (ne_of_none p2 nl).symm
    refine ⟨l, rfl, ⟨_, SqL.of el⟩, for_list (K := K) (a := l) (xs := ns.map V.str) (fun i σ H4 => Ex5 fun (ls : List (Addr × List Str)) (mt : List Str) (o3 o4 o5 : Option V) => And9 (σ = [some (.ref x), some (.ref q), some (.ref p), o3, o4, o5]) (Same H H4) (ThrAt H4 q ls) ((∀ z ∈ ls, H z.1 = none ∧ z.1 ≠ q ∧ z.1 ≠ p)) (ls.map (·.2) = thrAll rows (ns.take i)) (H4 p = some (.dK (keysT mt))) (mt.Nodup) ((∀ m, m ∈ mt ↔ ∃ t ∈ thrAll rows (ns.take i), m ∈ t)) (H4 l = some (.lst (ns.map V.str))))
      ⟨[], [], none, none, none, rfl, s2.trans s3, ⟨s3 _ _ q2, (fun _ z => nomatch z)⟩, (fun _ z => nomatch z), rfl, s3 _ _ p2, List.Pairwise.nil, fun m => ⟨(fun z => nomatch z), fun ⟨t, z, _⟩ => nomatch z⟩, el⟩ ?_ ?_ ?_⟩
    · rintro i σ H4 _ ⟨ls, mt, o3, o4, o5, rfl, s4, hT, hz, e4, p4, nd4, m4, l4⟩
      exact SqL.of l4
    · rintro i v σ H4 hv ⟨ls, mt, o3, o4, o5, rfl, s4, hT, hz, e4, p4, nd4, m4, l4⟩
      obtain ⟨nm, hy, rfl⟩ : ∃ y, ns[i]? = some y ∧ V.str y = v := by
        rw [List.getElem?_map] at hv
        cases e : ns[i]? with
        | none => rw [e] at hv; cases hv
        | some t => rw [e] at hv; exact ⟨t, rfl, Option.some.inj hv⟩
      have et : ns.take (i + 1) = ns.take i ++ [nm] := by rw [List.take_add_one, hy]; rfl
      have hnm : nm ∈ rows.map (·.1) := nsm nm (List.mem_of_getElem? hy)
      have hpre : ∀ m ∈ ns.take i, m ∈ rows.map (·.1) := fun m hm => nsm m (List.mem_of_mem_take hm)
      have hmet := thr_met th.nd hne hpre hnm
      have hll : ls.length ≤ 40 := by
        have := congrArg List.length e4
        rw [List.length_map] at this
        have h2 := thrAll_len (rows := rows) (ns.take i)
        rw [List.length_take] at h2
        omega
      have hmt : ∀ m ∈ mt, m ∈ rows.map (·.1) := fun m hm => by
        obtain ⟨t, ht, hmt⟩ := (m4 m).mp hm
        obtain ⟨y, _, rfl⟩ := thrAll_mem _ ht
        exact (mem_thr.mp hmt).1
      rw [et, thrAll_snoc]
      refine ⟨_, rfl, _, rfl, p, _, rfl, DGet.k (k := Sum.inr nm) p4, _, rfl, ?_⟩
      rw [val_keys]
      by_cases hin : nm ∈ mt
      · rw [if_pos hin]
        refine iteF ⟨ls, mt, _, _, _, rfl, s4, hT, hz, ?_, p4, nd4, ?_, l4⟩
        · unfold thrGo
          rw [if_pos (hmet.mp ((m4 nm).mp hin))]
          exact e4
        · unfold thrGo
          rw [if_pos (hmet.mp ((m4 nm).mp hin))]
          exact m4
      · rw [if_neg hin]
        have hnot : ¬ thrOf rows nm ∈ thrAll rows (ns.take i) := fun z => hin ((m4 nm).mpr (hmet.mpr z))
        have hth4 := hth.kp2 s4.kp2
        refine iteT ⟨_, rfl, x, dx, _, rfl, s4 _ _ th.obj, rfl, _, rfl, x, rows, n, nm, rfl, hth4, hne, hnm, fun l5 H5 n5 s5 e5 => ?_⟩
        have l5q : l5 ≠ q := (ne_of_none hT.1 n5).symm
        have l5p : l5 ≠ p := (ne_of_none p4 n5).symm
        have l5l : l5 ≠ l := (ne_of_none l4 n5).symm
        have q5 := s5 _ _ hT.1
        refine ⟨_, rfl, .inl ⟨rfl, _, SqL.of q5⟩, _, rfl, q, _, _, rfl, rfl, q5, (by rw [List.length_map]; exact small1000 (by omega)), ?_⟩
        have eL : (ls.map fun p => V.ref p.1) ++ [V.ref l5] = (ls ++ [((l5, thrOf rows nm) : Addr × List Str)]).map fun p => V.ref p.1 := by rw [List.map_append]; rfl
        rw [eL]
        have qn : H q = none := hq
        have s6 : Same H (upd H5 q (.lst ((ls ++ [((l5, thrOf rows nm) : Addr × List Str)]).map fun p => V.ref p.1))) := (s4.trans s5).upd_of qn
        have hT6 : ThrAt (upd H5 q (.lst ((ls ++ [((l5, thrOf rows nm) : Addr × List Str)]).map fun p => V.ref p.1))) q (ls ++ [((l5, thrOf rows nm) : Addr × List Str)]) := ⟨upd_same, fun z hz' => by
          rcases List.mem_append.mp hz' with y | y
          · rw [upd_ne (hz z y).2.1]; exact s5 _ _ (hT.2 z y)
          · rw [List.mem_singleton.mp y, upd_ne l5q]; exact e5⟩
        have p6 : (upd H5 q (.lst ((ls ++ [((l5, thrOf rows nm) : Addr × List Str)]).map fun p => V.ref p.1))) p = some (.dK (keysT mt)) := by rw [upd_ne qp.symm]; exact s5 _ _ p4
        have l6 : (upd H5 q (.lst ((ls ++ [((l5, thrOf rows nm) : Addr × List Str)]).map fun p => V.ref p.1))) l = some (.lst (ns.map V.str)) := by rw [upd_ne lq]; exact s5 _ _ l4
        generalize upd H5 q (.lst ((ls ++ [((l5, thrOf rows nm) : Addr × List Str)]).map fun p => V.ref p.1)) = H6 at s6 hT6 p6 l6
        have e6 : H6 l5 = some (.lst ((thrOf rows nm).map V.str)) := hT6.2 (l5, thrOf rows nm) (List.mem_append_right _ List.mem_cons_self)
        have hz6 : ∀ z ∈ ls ++ [((l5, thrOf rows nm) : Addr × List Str)], H z.1 = none ∧ z.1 ≠ q ∧ z.1 ≠ p := fun z hz' => by
          rcases List.mem_append.mp hz' with y | y
          · exact hz z y
          · rw [List.mem_singleton.mp y]; exact ⟨s4.free n5, l5q, l5p⟩
        refine ⟨_, rfl, l5, rfl, ⟨_, SqL.of e6⟩, for_list (K := K) (a := l5) (xs := (thrOf rows nm).map V.str) (fun j σ H7 => Ex2 fun (mt7 : List Str) (o : Option V) => And7 (σ = [some (.ref x), some (.ref q), some (.ref p), some (.str nm), some (.ref l5), o]) (Same H H7) (ThrAt H7 q (ls ++ [((l5, thrOf rows nm) : Addr × List Str)])) (H7 p = some (.dK (keysT mt7))) (mt7.Nodup) ((∀ m, m ∈ mt7 ↔ m ∈ mt ∨ m ∈ (thrOf rows nm).take j)) (H7 l = some (.lst (ns.map V.str))))
          ⟨mt, _, rfl, s6, hT6, p6, nd4, fun m => by rw [List.take_zero]; exact ⟨.inl, fun z => z.elim id (fun z => nomatch z)⟩, l6⟩ ?_ ?_ ?_⟩
        · rintro j σ H7 _ ⟨mt7, o, rfl, s7, hT7, p7, nd7, m7, l7⟩
          exact SqL.of (hT7.2 (l5, thrOf rows nm) (List.mem_append_right _ List.mem_cons_self))
        · rintro j v σ H7 hv ⟨mt7, o, rfl, s7, hT7, p7, nd7, m7, l7⟩
          obtain ⟨y, hy, rfl⟩ : ∃ y, (thrOf rows nm)[j]? = some y ∧ V.str y = v := by
            rw [List.getElem?_map] at hv
            cases e : (thrOf rows nm)[j]? with
            | none => rw [e] at hv; cases hv
            | some t => rw [e] at hv; exact ⟨t, rfl, Option.some.inj hv⟩
          have ej : (thrOf rows nm).take (j + 1) = (thrOf rows nm).take j ++ [y] := by rw [List.take_add_one, hy]; rfl
          have hl7 : mt7.length ≤ 40 := by
            have := nodup_le nd7 (l := rows.map (·.1)) fun m hm => by
              rcases (m7 m).mp hm with z | z
              · exact hmt m z
              · exact (mem_thr.mp (List.mem_of_mem_take z)).1
            rw [List.length_map] at this
            omega
          refine ⟨_, rfl, _, rfl, p, _, rfl, DPut.k (k := Sum.inr y) p7 (by rw [keysT, List.length_map]; exact small1000 (by omega)), ?_⟩
          rw [put_add]
          refine ⟨addN mt7 y, _, rfl, s7.upd_of pn, ⟨by rw [upd_ne qp]; exact hT7.1, fun z hz' => by rw [upd_ne (hz6 z hz').2.2]; exact hT7.2 z hz'⟩, upd_same, add_nd nd7, fun m => ?_, by rw [upd_ne lp]; exact l7⟩
          rw [mem_add, m7, ej, List.mem_append, List.mem_singleton, or_assoc]
        · rintro σ H7 ⟨mt7, o, rfl, s7, hT7, p7, nd7, m7, l7⟩
          rw [List.length_map, List.take_length] at m7
          refine ⟨_, mt7, _, _, _, rfl, s7, hT7, hz6, ?_, p7, nd7, fun m => ?_, l7⟩
          · unfold thrGo
            rw [if_neg hnot, List.map_append, e4]
            rfl
          · unfold thrGo
            rw [if_neg hnot, m7, m4]
            constructor
            · rintro (⟨t, h1, h2⟩ | h)
              · exact ⟨t, List.mem_append_left _ h1, h2⟩
              · exact ⟨_, List.mem_append_right _ List.mem_cons_self, h⟩
            · rintro ⟨t, h1, h2⟩
              rcases List.mem_append.mp h1 with z | z
              · exact .inl ⟨t, z, h2⟩
              · rw [List.mem_singleton.mp z] at h2; exact .inr h2
    · rintro σ H4 ⟨ls, mt, o3, o4, o5, rfl, s4, hT, hz, e4, p4, nd4, m4, l4⟩
      rw [List.length_map, List.take_length] at e4
      exact ⟨_, rfl, k q H4 ls hq s4 (fun z hz' => ⟨(hz z hz').1, (hz z hz').2.1⟩) (by rw [hns]; exact e4) hT⟩
end
inductive spDraws_I (K : PySem.W.Frag) (vs : List V) (H : Hp) (Q : VK) : Prop
  | mk : ∀ (a : Addr) (ns : List Int) (n : Nat), vs = [.ref a, .int n] → SqL K H a (ns.map V.int) → n ≤ 1000 → (∀ (p : Addr) (rs : List Int) (H' : Hp), rs.length = n → (∀ r ∈ rs, 0 ≤ r ∧ r < 2147483629) → Same H H' → H' p = some (.lst (rs.map V.int)) → Q (.ref p) H') → spDraws_I K vs H Q
def spDraws (K : PySem.W.Frag) : Sp := fun vs H Q _ => spDraws_I K vs H Q
theorem ok_draws {P : Program} {w : World} {K : PySem.W.Frag} {mg : Str → Option Value} {base : Heap} {a : Adr} {fd : FuncData} (F : Fun K "_law_draws" "_law_draws" sl_draws a.f_l_draws fd) (T : Txt K mg a) : FnOk P w K mg base CX0 1 a.f_l_draws fd ["_law_script", "_law_many"] (spDraws K) := by
  refine F.ok sc_l_draws (fun vs H Q E h => ?_) (fun cdv A outer s H vs Q E hr h => ?_)
  · obtain ⟨x, ns, n, rfl, _⟩ := h; rfl
  · obtain ⟨q, ns, n, rfl, hS, hn, k⟩ := h
    refine ⟨_, (pss_cons (ps_set (i := 2) sc_l_draws.nd rfl (Or.inl rfl) (pe_lstS pas_nil))
        (pss_cons (ps_set (i := 3) sc_l_draws.nd rfl (Or.inl rfl) pe_int)
        (pss_cons (ps_for PassesOwn.never rfl (pi_range1 rfl T.b_range (pac (pv 1) pa_nil)) (pg_name (i := 4) sc_l_draws.nd rfl (Or.inl rfl)) (pss_cons (ps_set (i := 5) sc_l_draws.nd rfl (Or.inl rfl) pe_int)
        (pss_cons (ps_if (pt_cmpR op_gt (pe_callB call_len_seq rfl T.b_len PySem.boot_len (pac (pv 0) pa_nil)) pe_int (nomark _)) (pss_one (ps_set (i := 5) sc_l_draws.nd rfl (Or.inl rfl) (pe_ix ix_list (pv 0) (pe_op op_mod (pv 4) (pe_callB call_len_seq rfl T.b_len PySem.boot_len (pac (pv 0) pa_nil))) (fun _ _ => rfl)))) pss_nil)
        (pss_cons (ps_set (i := 3) sc_l_draws.nd rfl (Or.inl rfl) (pe_op op_mod (pe_op op_add (pe_op op_add (pe_op op_add (pe_op op_mul (pv 3) pe_int) (pv 5)) (pv 4)) pe_int) pe_int))
        (pss_one (ps_expr (pe_bm PySem.F.plainAttrs_list PySem.F.slot_list_append PySem.F.type_list_append mt_append (pv 2) (pac (pe_op op_mod (pe_op op_mul (pv 3) (pv 3)) pe_int) pa_nil))))))))
        (pss_one (ps_ret (pv 2)))))), ?_⟩
    refine ⟨Nat.zero_le _, fun p hp => ?_⟩
    refine ⟨_, rfl, (n : Int), rfl, by omega, by omega, for_range (n := (n : Int).toNat) (fun i σ H2 => Ex4 fun (rs : List Int) (more : Int) (c1 c2 : Option V) => And7 (σ = [some (.ref q), some (.int n), some (.ref p), some (.int more), c1, c2]) (0 ≤ more) (more < 2147483647) (rs.length = i) ((∀ r ∈ rs, 0 ≤ r ∧ r < 2147483629)) (H2 p = some (.lst (rs.map V.int))) (Same H H2))
      ⟨[], 7, none, none, rfl, by decide, by decide, rfl, (fun _ h => nomatch h), upd_same, Same.upd_new hp⟩ ?_ ?_⟩
    · rintro i σ H2 hi ⟨rs, more, c1, c2, rfl, h0, h1, hl, hb, hp2, hs⟩
      have hS2 := hs.seq hS
      have hin : i < n := by omega
      have rest : ∀ z : Int, ∃ x : V, ([some (.ref q), some (.int n), some (.ref p), some (.int more), some (.int (0 + (i : Int))), some (.int z)] : St)[3]? = some (some x) ∧ True := fun z => ⟨_, rfl, trivial⟩
      refine ⟨_, rfl, q, _, rfl, .inl hS2, _, _, rfl, rfl, _, rfl, ?_⟩
      refine ite2 (fun hpos => ?_) (fun hneg => ?_)
      · have hpos' : 0 < (ns.map V.int).length := by simpa using hpos
        obtain ⟨v, hv, hm, _⟩ := atI_mod (xs := ns.map V.int) (0 + (i : Int)) hpos'
        obtain ⟨z, rfl, _⟩ := mem_map_int hm
        refine ⟨_, rfl, _, rfl, _, rfl, q, _, rfl, .inl hS2, _, _, rfl, rfl, (by omega), q, _, _, _, rfl, rfl, hS2, hv, ?_⟩
        refine ⟨_, rfl, _, _, rfl, rfl, .inl ⟨by omega, by omega⟩, _, rfl, _, _, rfl, rfl, _, rfl, _, _, rfl, rfl, _, _, rfl, rfl, _, _, rfl, rfl, (by show (0 : Int) < 2147483647; decide), ?_⟩
        have b0 : 0 ≤ (more * 48271 + z + (0 + (i : Int)) + 1) % 2147483647 := Int.emod_nonneg _ (by decide)
        have b1 : (more * 48271 + z + (0 + (i : Int)) + 1) % 2147483647 < 2147483647 := Int.emod_lt_of_pos _ (by decide)
        refine ⟨_, rfl, .inl ⟨rfl, _, SqL.of hp2⟩, _, rfl, _, rfl, _, _, rfl, rfl, .inl ⟨by omega, by omega⟩, _, _, rfl, rfl, (by show (0 : Int) < 2147483629; decide), p, _, _, rfl, rfl, hp2, (by rw [List.length_map]; exact small1000 (by omega)), ?_⟩
        refine ⟨rs ++ [_], _, _, _, rfl, b0, b1, by rw [List.length_append, hl]; rfl, fun r hr => ?_, by rw [List.map_append]; exact upd_same, hs.upd_of hp⟩
        rcases List.mem_append.mp hr with hr | hr
        · exact hb r hr
        · rw [List.mem_singleton.mp hr]
          exact ⟨Int.emod_nonneg _ (by decide), Int.emod_lt_of_pos _ (by decide)⟩
      · refine ⟨_, rfl, _, _, rfl, rfl, .inl ⟨by omega, by omega⟩, _, rfl, _, _, rfl, rfl, _, rfl, _, _, rfl, rfl, _, _, rfl, rfl, _, _, rfl, rfl, (by show (0 : Int) < 2147483647; decide), ?_⟩
        have b0 : 0 ≤ (more * 48271 + 0 + (0 + (i : Int)) + 1) % 2147483647 := Int.emod_nonneg _ (by decide)
        have b1 : (more * 48271 + 0 + (0 + (i : Int)) + 1) % 2147483647 < 2147483647 := Int.emod_lt_of_pos _ (by decide)
        refine ⟨_, rfl, .inl ⟨rfl, _, SqL.of hp2⟩, _, rfl, _, rfl, _, _, rfl, rfl, .inl ⟨by omega, by omega⟩, _, _, rfl, rfl, (by show (0 : Int) < 2147483629; decide), p, _, _, rfl, rfl, hp2, (by rw [List.length_map]; exact small1000 (by omega)), ?_⟩
        refine ⟨rs ++ [_], _, _, _, rfl, b0, b1, by rw [List.length_append, hl]; rfl, fun r hr => ?_, by rw [List.map_append]; exact upd_same, hs.upd_of hp⟩
        rcases List.mem_append.mp hr with hr | hr
        · exact hb r hr
        · rw [List.mem_singleton.mp hr]
          exact ⟨Int.emod_nonneg _ (by decide), Int.emod_lt_of_pos _ (by decide)⟩
    · rintro σ H2 ⟨rs, more, c1, c2, rfl, h0, h1, hl, hb, hp2, hs⟩
      refine ⟨_, rfl, k p rs H2 (by omega) hb hs hp2⟩
/-- what tells a name by its number -/
inductive NB (b k : Int) (x : Str) : Prop
  | len (h : b % 4 = 0) (e : (x.length : Int) = 1 + k % 20) : NB b k x
  | sign (h : b % 4 ≠ 0) {c : Nat} (hc : atI aZ.cps.toList ((b / 49248 + k) % 36) = some c) (e : x.cps.toList[(b / 4 % 18 + 1).toNat]? = some c) : NB b k x
theorem aZ_nd : aZ.cps.toList.Nodup := by decide +kernel
theorem aZ_inj {i j : Int} {c : Nat} (i0 : 0 ≤ i) (i1 : i < 36) (j0 : 0 ≤ j) (j1 : j < 36) (h1 : atI aZ.cps.toList i = some c) (h2 : atI aZ.cps.toList j = some c) : i = j := by
  obtain ⟨m, rfl⟩ := Int.eq_ofNat_of_zero_le i0
  obtain ⟨n, rfl⟩ := Int.eq_ofNat_of_zero_le j0
  have hl : aZ.cps.toList.length = 36 := by decide +kernel
  have hm : m < aZ.cps.toList.length := by rw [hl]; omega
  have hn : n < aZ.cps.toList.length := by rw [hl]; omega
  have a1 : atI aZ.cps.toList (m : Int) = some aZ.cps.toList[m] := atI_nat (List.getElem?_eq_getElem hm)
  have a2 : atI aZ.cps.toList (n : Int) = some aZ.cps.toList[n] := atI_nat (List.getElem?_eq_getElem hn)
  rw [a1] at h1
  rw [a2] at h2
  have e : aZ.cps.toList[m] = aZ.cps.toList[n] := (Option.some.inj h1).trans (Option.some.inj h2).symm
  have := (List.getElem_inj aZ_nd).mp e
  omega
theorem NB.inj {b k l : Int} {x : Str} (k0 : 0 ≤ k) (k1 : k < 20) (l0 : 0 ≤ l) (l1 : l < 20) (h : NB b k x) (g : NB b l x) : k = l := by
  cases h with
  | len h e =>
    cases g with
    | len _ e2 => omega
    | sign h2 _ _ => exact absurd h h2
  | sign h hc e =>
    cases g with
    | len h2 _ => exact absurd h2 h
    | sign _ hc2 e2 =>
      rw [e] at e2
      cases e2
      have := aZ_inj (Int.emod_nonneg _ (by decide)) (Int.emod_lt_of_pos _ (by decide)) (Int.emod_nonneg _ (by decide)) (Int.emod_lt_of_pos _ (by decide)) hc hc2
      omega
def NBs (b : Int) (ws : List Str) : Prop := ∀ (i : Nat) (x : Str), ws[i]? = some x → NB b (i : Int) x
theorem NBs.nd {b : Int} {ws : List Str} (h : NBs b ws) (hl : ws.length ≤ 20) : ws.Nodup := by
  refine List.pairwise_iff_getElem.mpr fun i j hi hj hij e => ?_
  have e1 := List.getElem?_eq_getElem hi
  have e2 := List.getElem?_eq_getElem hj
  rw [← e] at e2
  have := (h i _ e1).inj (by omega) (by omega) (by omega) (by omega) (h j _ e2)
  omega
theorem NBs.snoc {b : Int} {ws : List Str} {x : Str} (h : NBs b ws) (hx : NB b (ws.length : Int) x) : NBs b (ws ++ [x]) := fun i y hy => by
  by_cases hi : i < ws.length
  · rw [List.getElem?_append_left hi] at hy; exact h i y hy
  · rw [List.getElem?_append_right (by omega)] at hy
    have h0 : i - ws.length = 0 := by
      rcases Nat.eq_zero_or_pos (i - ws.length) with z | z
      · exact z
      · rw [List.getElem?_eq_none (by simp; omega)] at hy; cases hy
    rw [h0] at hy
    cases hy
    have : i = ws.length := by omega
    rw [this]; exact hx
inductive spNameBy_I (vs : List V) (H : Hp) (Q : VK) : Prop
  | mk : ∀ (b k : Int), vs = [.int b, .int k] → 0 ≤ b → b < 2147483629 → 0 ≤ k → k ≤ 100 → (∀ x : Str, WordS x → NB b k x → Q (.str x) H) → spNameBy_I vs H Q
def spNameBy : Sp := fun vs H Q _ => spNameBy_I vs H Q
inductive spPool_I (vs : List V) (H : Hp) (Q : VK) : Prop
  | mk : ∀ (a : Addr) (rs : List Int), vs = [.ref a] → H a = some (.lst (rs.map V.int)) → 2 ≤ rs.length → (∀ r ∈ rs, 0 ≤ r ∧ r < 2147483629) → (∀ (b0 : Int) (p : Addr) (ws : List Str) (H' : Hp), atI (rs.map V.int) 0 = some (V.int b0) → 0 ≤ b0 → b0 < 2147483629 → NBs b0 ws → 2 ≤ ws.length → ws.length ≤ 10 → (∀ x ∈ ws, WordS x) → Same H H' → H' p = some (.lst (ws.map V.str)) → Q (.ref p) H') → spPool_I vs H Q
def spPool (K : PySem.W.Frag) : Sp := fun vs H Q _ => spPool_I vs H Q
inductive spTarget_I (vs : List V) (H : Hp) (Q : VK) : Prop
  | mk : ∀ (p : Addr) (ws : List Str) (nm : Str) (d : Int), vs = [.ref p, .str nm, .int d] → H p = some (.lst (ws.map V.str)) → 0 < ws.length → (∀ x ∈ ws, WordS x) → WordS nm → 0 ≤ d → (∀ t : Str, Asc t → (d % 6 ≠ 0 → t ≠ "") → Q (.str t) H) → spTarget_I vs H Q
def spTarget : Sp := fun vs H Q _ => spTarget_I vs H Q
theorem word_ne {x : Str} (h : WordS x) : x ≠ "" := fun e => by have := h.lo; rw [e, empty_len] at this; exact absurd this (by decide)
theorem zero_asc : Asc "0" := fun c hc => by
  have e : ("0" : Str).cps.toList = [48] := by decide +kernel
  rw [e] at hc
  rw [List.mem_singleton.mp hc]; decide
theorem zero_len : ("0" : Str).length = 1 := by decide +kernel
section
variable {P : Program} {w : World} {K : PySem.W.Frag} {mg : Str → Option Value} {base : Heap} {a : Adr}
theorem ok_nameby {fd : FuncData} (F : Fun K "_law_name_by" "_law_name_by" sl_name_by a.f_l_name_by fd) (T : Txt K mg a) : FnOk P w K mg base CX0 1 a.f_l_name_by fd ["_law_shape", "_law_k"] spNameBy := by
  refine F.ok sc_l_name_by (fun vs H Q E h => ?_) (fun cdv A outer s H vs Q E hr h => ?_)
  · obtain ⟨b, k, rfl, _⟩ := h; rfl
  · obtain ⟨b, kk, rfl, hb0, hb1, hk0, hk1, k⟩ := h
    have h36 := aZ_len
    have pick : ∀ z : Int, ∃ c, atI aZ.cps.toList (z % 36) = some c ∧ c ∈ aZ.cps.toList := fun z => pick_sign (Int.emod_nonneg _ (by decide)) (by rw [h36]; exact Int.emod_lt_of_pos _ (by decide))
    refine ⟨_, (pss_cons (ps_set (i := 2) sc_l_name_by.nd rfl (Or.inl rfl) pe_str)
        (pss_cons (ps_if (pt_cmpR op_eq (pe_op op_mod (pv 0) pe_int) pe_int (nomark _)) (pss_one (ps_ret (pe_op op_mul_str (pe_ix ix_str (pv 2) (pe_op op_mod (pe_op op_add (pe_op op_fdiv (pv 0) pe_int) (pe_op op_fdiv (pv 1) pe_int)) pe_int) (fun _ _ => rfl)) (pe_op op_add pe_int (pe_op op_mod (pv 1) pe_int))))) pss_nil)
        (pss_cons (ps_set (i := 3) sc_l_name_by.nd rfl (Or.inl rfl) (pe_op op_mod (pe_op op_fdiv (pv 0) pe_int) pe_int))
        (pss_cons (ps_set (i := 4) sc_l_name_by.nd rfl (Or.inl rfl) pe_str)
        (pss_cons (ps_for PassesOwn.never rfl (pi_range1 rfl T.b_range (pac (pe_op op_add (pe_op op_add (pv 3) pe_int) (pe_op op_mod (pe_op op_fdiv (pv 0) pe_int) (pe_op op_sub pe_int (pv 3)))) pa_nil)) (pg_name (i := 5) sc_l_name_by.nd rfl (Or.inl rfl)) (pss_one (ps_if (pt_cmpR op_eq (pv 5) (pv 3) (nomark _)) (pss_one (ps_set (i := 4) sc_l_name_by.nd rfl (Or.inl rfl) (pe_op op_add_str (pv 4) (pe_ix ix_str (pv 2) (pe_op op_mod (pe_op op_add (pe_op op_fdiv (pv 0) pe_int) (pe_op op_fdiv (pv 1) pe_int)) pe_int) (fun _ _ => rfl))))) (pss_one (ps_if (pt_cmpR op_eq (pv 5) (pe_op op_add (pv 3) pe_int) (nomark _)) (pss_one (ps_set (i := 4) sc_l_name_by.nd rfl (Or.inl rfl) (pe_op op_add_str (pv 4) (pe_ix ix_str (pv 2) (pe_op op_mod (pe_op op_add (pe_op op_fdiv (pv 0) pe_int) (pv 1)) pe_int) (fun _ _ => rfl))))) (pss_one (ps_set (i := 4) sc_l_name_by.nd rfl (Or.inl rfl) (pe_op op_add_str (pv 4) (pe_ix ix_str (pv 2) (pe_op op_mod (pe_op op_add (pe_op op_fdiv (pv 0) pe_int) (pe_op op_mul (pv 5) (pe_op op_add pe_int (pe_op op_mod (pv 0) pe_int)))) pe_int) (fun _ _ => rfl))))))))))
        (pss_one (ps_ret (pv 4)))))))), ?_⟩
    refine ⟨_, rfl, _, _, rfl, rfl, (by show (0 : Int) < 4; decide), rfl, _, rfl, ?_⟩
    refine ite2 (fun h4 => ?_) (fun h4 => ?_)
    · have b4 : b % 4 = 0 := V.int.inj (of_decide_eq_true h4)
      obtain ⟨c, hc, hcm⟩ := pick (b / 4 + kk / 20)
      have m0 : 0 ≤ kk % 20 := Int.emod_nonneg _ (by decide)
      have m1 : kk % 20 < 20 := Int.emod_lt_of_pos _ (by decide)
      refine ⟨_, rfl, _, rfl, _, _, rfl, rfl, ⟨by decide, by decide⟩, _, rfl, _, _, rfl, rfl, ⟨by decide, by decide⟩, _, _, rfl, rfl, _, _, rfl, rfl, (by show (0 : Int) < 36; decide), aZ, _, c, rfl, rfl, aZ_small, hc, ?_⟩
      refine ⟨_, rfl, _, _, rfl, rfl, (by show (0 : Int) < 20; decide), _, _, rfl, rfl, _, _, rfl, rfl, (by rw [one_len]; decide), by omega, by omega, ?_⟩
      have hl := mul_len (⟨#[c]⟩ : Str) (1 + kk % 20)
      rw [one_len, Nat.mul_one] at hl
      refine k _ ⟨by omega, by omega, fun d hd => ?_⟩ (.len b4 (by omega))
      have := mul_mem hd
      have e : d = c := by simpa using this
      rw [e]; exact hcm
    · have b4 : b % 4 ≠ 0 := fun z => h4 (decide_eq_true (by rw [z]))
      obtain ⟨c0, hc0, hcm0⟩ := pick (b / 49248 + kk)
      have p0 : 0 ≤ b / 4 % 18 := Int.emod_nonneg _ (by decide)
      have p1 : b / 4 % 18 < 18 := Int.emod_lt_of_pos _ (by decide)
      have m0 : 0 ≤ b / 72 % (19 - b / 4 % 18) := Int.emod_nonneg _ (by omega)
      have m1 : b / 72 % (19 - b / 4 % 18) < 19 - b / 4 % 18 := Int.emod_lt_of_pos _ (by omega)
      have q7 : 0 ≤ b % 7 := Int.emod_nonneg _ (by decide)
      have q8 : b % 7 < 7 := Int.emod_lt_of_pos _ (by decide)
      refine ⟨_, rfl, _, _, rfl, rfl, ⟨by decide, by decide⟩, _, _, rfl, rfl, (by show (0 : Int) < 18; decide), ?_⟩
      refine ⟨_, rfl, _, _, rfl, rfl, _, rfl, _, _, rfl, rfl, ⟨by decide, by decide⟩, _, rfl, _, _, rfl, rfl, _, _, rfl, rfl, (by show (0 : Int) < 19 - b / 4 % 18; omega), _, _, rfl, rfl, _, rfl, by omega, by omega, for_range (n := (b / 4 % 18 + 2 + b / 72 % (19 - b / 4 % 18)).toNat) (fun i σ H2 => ∃ (y : Str) (o : Option V), σ = [some (.int b), some (.int kk), some (.str aZ), some (.int (b / 4 % 18)), some (.str y), o] ∧ y.length = i ∧ (∀ c ∈ y.cps.toList, c ∈ aZ.cps.toList) ∧ H2 = H ∧ (b / 4 % 18 + 1 < (i : Int) → y.cps.toList[(b / 4 % 18 + 1).toNat]? = some c0))
        ⟨"", none, rfl, empty_len, (fun c hc => by rw [show ("" : Str).cps.toList = [] by decide +kernel] at hc; cases hc), rfl, fun h => absurd h (by omega)⟩ ?_ ?_⟩
      · rintro i σ H2 hi ⟨y, o, rfl, hy, hyc, rfl, hy0⟩
        have fit : ∀ c : Nat, y.length + (⟨#[c]⟩ : Str).length ≤ sizeLine := fun c => Nat.le_of_lt (small1000 (by rw [one_len]; omega))
        have step : ∀ c : Nat, c ∈ aZ.cps.toList → ((i : Int) = b / 4 % 18 + 1 → c = c0) → ∃ (y1 : Str) (o : Option V), ([some (.int b), some (.int kk), some (.str aZ), some (.int (b / 4 % 18)), some (.str (y ++ ⟨#[c]⟩)), some (.int (0 + (i : Int)))] : St) = [some (.int b), some (.int kk), some (.str aZ), some (.int (b / 4 % 18)), some (.str y1), o] ∧ y1.length = i + 1 ∧ (∀ c ∈ y1.cps.toList, c ∈ aZ.cps.toList) ∧ H2 = H2 ∧ (b / 4 % 18 + 1 < ((i + 1 : Nat) : Int) → y1.cps.toList[(b / 4 % 18 + 1).toNat]? = some c0) := fun c hc hcc =>
          ⟨_, _, rfl, by rw [cat_len, one_len, hy], fun d hd => by
            rw [cat_list] at hd
            rcases List.mem_append.mp hd with z | z
            · exact hyc d z
            · have e : d = c := by simpa using z
              rw [e]; exact hc, rfl, fun hlt => by
            have yl : y.cps.toList.length = i := by have : y.length = y.cps.toList.length := by simp [Str.length]
                                                    omega
            rw [cat_list]
            by_cases hi2 : b / 4 % 18 + 1 < (i : Int)
            · rw [List.getElem?_append_left (by omega)]; exact hy0 hi2
            · have ei : (b / 4 % 18 + 1).toNat = i := by omega
              rw [ei, List.getElem?_append_right (by omega), yl, Nat.sub_self, hcc (by omega)]
              rfl⟩
        refine ⟨_, rfl, _, rfl, rfl, _, rfl, ?_⟩
        refine ite2 (fun hi1 => ?_) (fun hi1 => ?_)
        · have hi1' : 0 + (i : Int) = b / 4 % 18 := V.int.inj (of_decide_eq_true hi1)
          obtain ⟨c, hc, hcm⟩ := pick (b / 1368 + kk / 36)
          exact ⟨_, rfl, _, rfl, _, rfl, _, _, rfl, rfl, ⟨by decide, by decide⟩, _, rfl, _, _, rfl, rfl, ⟨by decide, by decide⟩, _, _, rfl, rfl, _, _, rfl, rfl, (by show (0 : Int) < 36; decide), aZ, _, c, rfl, rfl, aZ_small, hc, _, _, rfl, rfl, fit c, step c hcm (fun z => by omega)⟩
        · refine ⟨_, rfl, _, rfl, _, _, rfl, rfl, rfl, _, rfl, ?_⟩
          refine ite2 (fun hi2 => ?_) (fun hi2 => ?_)
          · obtain ⟨c, hc, hcm⟩ : ∃ c, atI aZ.cps.toList ((b / 49248 + kk) % 36) = some c ∧ c ∈ aZ.cps.toList ∧ c = c0 := ⟨c0, hc0, hcm0, rfl⟩
            exact ⟨_, rfl, _, rfl, _, rfl, _, _, rfl, rfl, ⟨by decide, by decide⟩, _, rfl, _, _, rfl, rfl, _, _, rfl, rfl, (by show (0 : Int) < 36; decide), aZ, _, c, rfl, rfl, aZ_small, hc, _, _, rfl, rfl, fit c, step c hcm.1 fun _ => hcm.2⟩
          · have hi3 : ¬ 0 + (i : Int) = b / 4 % 18 + 1 := fun z => hi2 (decide_eq_true (by rw [z]))
            obtain ⟨c, hc, hcm⟩ := pick (b / 3 + (0 + (i : Int)) * (1 + b % 7))
            exact ⟨_, rfl, _, rfl, _, rfl, _, _, rfl, rfl, ⟨by decide, by decide⟩, _, rfl, _, rfl, _, _, rfl, rfl, (by show (0 : Int) < 7; decide), _, _, rfl, rfl, _, _, rfl, rfl, .inl ⟨by omega, by omega⟩, _, _, rfl, rfl, _, _, rfl, rfl, (by show (0 : Int) < 36; decide), aZ, _, c, rfl, rfl, aZ_small, hc, _, _, rfl, rfl, fit c, step c hcm fun z => absurd (by omega) hi3⟩
      · rintro σ H2 ⟨y, o, rfl, hy, hyc, rfl, hy0⟩
        exact ⟨_, rfl, k y ⟨by omega, by omega, hyc⟩ (.sign b4 hc0 (hy0 (by omega)))⟩
theorem ok_pool {fd : FuncData} (F : Fun K "_law_pool" "_law_pool" sl_pool a.f_l_pool fd) (T : Txt K mg a) (FF : Funs K a) : FnOk P w K mg base CX0 2 a.f_l_pool fd ["_law_draws_here"] (spPool K) := by
  obtain ⟨fdN, F_l_name_by, b_l_name_by⟩ := FF.F_l_name_by
  have G_l_name_by : FnOk P w K mg base CX0 1 a.f_l_name_by fdN ["_law_shape", "_law_k"] spNameBy := ok_nameby F_l_name_by T
  refine F.ok sc_l_pool (fun vs H Q E h => ?_) (fun cdv A outer s H vs Q E hr h => ?_)
  · obtain ⟨x, rs, rfl, _⟩ := h; rfl
  · obtain ⟨x, rs, rfl, hx, hl, hb, k⟩ := h
    have hr_l_name_by : Room 1 _ := hr
    refine ⟨_, (pss_cons (ps_set (i := 1) sc_l_pool.nd rfl (Or.inl rfl) (pe_op op_add pe_int (pe_op op_mod (pe_ix ix_list (pv 0) pe_int (fun _ _ => rfl)) pe_int)))
        (pss_one (ps_ret (pe_comp (sc := defScope sl_pool) (N := n_l_pool) (fr := [(0, "_law_draws_here")]) ⟨rfl, rfl, by decide +kernel, by decide +kernel, by decide +kernel, by decide +kernel, by decide +kernel⟩ rfl rfl rfl (pi_range1 rfl T.b_range (pac (pv 1) pa_nil)) (fun _ _ _ _ => pts_nil) (fun _ _ _ _ => (pe_call G_l_name_by hr_l_name_by rfl T.m_l_name_by F_l_name_by.kp b_l_name_by .nil pass0 (pac (pe_ix (ix_listK K) (pv 1) pe_int (fun _ _ => rfl)) (pac (pv 0) pa_nil)))))))), ?_⟩
    obtain ⟨z0, e0, b00, b01⟩ := row_pick hb 0 (by decide) (by omega)
    obtain ⟨z1, e1, b10, b11⟩ := row_pick hb 1 (by decide) (by omega)
    have m0 : 0 ≤ z1 % 9 := Int.emod_nonneg _ (by decide)
    have m1 : z1 % 9 < 9 := Int.emod_lt_of_pos _ (by decide)
    refine ⟨_, rfl, x, _, _, _, rfl, rfl, SqL.of hx, e1, _, _, rfl, rfl, (by show (0 : Int) < 9; decide), _, _, rfl, rfl, ?_⟩
    refine ⟨_, rfl, _, rfl, by omega, by omega, comp_rangeG (n := (2 + z1 % 9).toNat) (fun i ys => ∃ ws : List Str, ys = ws.map V.str ∧ ws.length = i ∧ (∀ x ∈ ws, WordS x) ∧ NBs z0 ws) (Nat.le_of_lt (small1000 (by omega))) ⟨[], rfl, rfl, (fun _ z => nomatch z), fun i x hx => by simp at hx⟩ (fun i ys ⟨ws, e, el, _⟩ => by rw [e, List.length_map, el]) ?_ ?_⟩
    · rintro i ys H3 Q' hi ⟨ws, rfl, el, hw, hnb⟩ s3 q
      refine ⟨_, rfl, x, _, _, _, rfl, rfl, SqL.of (s3 _ _ hx), e0, _, rfl, z0, 0 + (i : Int), rfl, b00, b01, by omega, by omega, fun y hy hyn => q _ H3 ⟨ws ++ [y], by rw [List.map_append]; rfl, by rw [List.length_append, List.length_singleton, el], fun z hz => ?_, hnb.snoc (by rw [el]; rw [Int.zero_add] at hyn; exact hyn)⟩ (Same.refl H3)⟩
      rcases List.mem_append.mp hz with z' | z'
      · exact hw z z'
      · rw [List.mem_singleton.mp z']; exact hy
    · rintro D ys H2 hD ⟨ws, rfl, el, hw, hnb⟩ s2 hD2
      exact k z0 D ws H2 e0 b00 b01 hnb (by omega) (by omega) hw s2 hD2
theorem ok_target {fd : FuncData} (F : Fun K "_law_target" "_law_target" sl_target a.f_l_target fd) (T : Txt K mg a) : FnOk P w K mg base CX0 1 a.f_l_target fd ["_law_pool_here", "_law_name", "_law_draw"] spTarget := by
  refine F.ok sc_l_target (fun vs H Q E h => ?_) (fun cdv A outer s H vs Q E hr h => ?_)
  · obtain ⟨p, ws, nm, d, rfl, _⟩ := h; rfl
  · obtain ⟨p, ws, nm, d, rfl, hp, hl, hw, hnm, hd, k⟩ := h
    have hsm : ∀ n : Nat, n ≤ 1000 → n ≤ sizeLine := fun n h => Nat.le_of_lt (small1000 h)
    have at_ : ∀ i : Int, 0 ≤ i → i < (ws.length : Int) → ∃ x, atI (ws.map V.str) i = some (V.str x) ∧ WordS x := fun i h0 h1 => by
      obtain ⟨v, hv, hvm, _⟩ := atI_some (xs := ws.map V.str) h0 (by rw [List.length_map]; exact h1)
      obtain ⟨x, hx, rfl⟩ := List.mem_map.mp hvm
      exact ⟨x, hv, hw x hx⟩
    refine ⟨_, (pss_cons (ps_set (i := 3) sc_l_target.nd rfl (Or.inl rfl) (pe_op op_mod (pv 2) pe_int))
        (pss_cons (ps_if (pt_cmpR op_eq (pv 3) pe_int (nomark _)) (pss_one (ps_ret pe_str)) pss_nil)
        (pss_cons (ps_if (pt_cmpR op_eq (pv 3) pe_int (nomark _)) (pss_one (ps_ret (pv 1))) pss_nil)
        (pss_cons (ps_if (pt_cmpR op_eq (pv 3) pe_int (nomark _)) (pss_one (ps_ret (pe_op op_add_str (pe_ix ix_list (pv 0) pe_int (fun _ _ => rfl)) (pe_op op_mul_str pe_str (pe_callTy call_int1 rfl T.b_int PyProof.Rows.boot_int (pac (pe_cmpR op_lt (pe_callB call_len_str rfl T.b_len PySem.boot_len (pac (pe_ix ix_list (pv 0) pe_int (fun _ _ => rfl)) pa_nil)) pe_int (nomark _)) pa_nil)))))) pss_nil)
        (pss_one (ps_ret (pe_ix ix_list (pv 0) (pe_op op_mod (pe_op op_fdiv (pv 2) pe_int) (pe_callB call_len_seq rfl T.b_len PySem.boot_len (pac (pv 0) pa_nil))) (fun _ _ => rfl)))))))), ?_⟩
    refine ⟨_, rfl, _, _, rfl, rfl, (by show (0 : Int) < 6; decide), _, rfl, rfl, _, rfl, ?_⟩
    refine ite2 (fun h => ?_) (fun _ => ?_)
    · have e : d % 6 = 0 := V.int.inj (of_decide_eq_true h)
      exact k "" (fun c hc => by rw [show ("" : Str).cps.toList = [] by decide +kernel] at hc; cases hc) fun z => absurd e z
    · refine ⟨_, rfl, rfl, _, rfl, ite2 (fun _ => ⟨_, rfl, k nm hnm.asc fun _ => word_ne hnm⟩) (fun _ => ?_)⟩
      refine ⟨_, rfl, rfl, _, rfl, ite2 (fun _ => ?_) (fun _ => ?_)⟩
      · obtain ⟨x, ex, wx⟩ := at_ 0 (by decide) (by omega)
        have hx := wx.hi
        refine ⟨_, rfl, p, _, _, _, rfl, rfl, SqL.of hp, ex, _, rfl, p, _, _, _, rfl, rfl, SqL.of hp, ex, x, rfl, hsm _ (by omega), _, _, rfl, rfl, .inr ⟨_, rfl, ?_⟩⟩
        have fin : ∀ n : Int, 0 ≤ n → n ≤ 1 → rMulS (.str "0") (.int n) H fun v H' => ∃ i j, V.str x = .str i ∧ v = .str j ∧ i.length + j.length ≤ sizeLine ∧ Q (.str (i ++ j)) H' := fun n h0 h1 => by
          have ml := mul_len ("0" : Str) n
          rw [zero_len] at ml
          refine ⟨_, n, rfl, rfl, by rw [zero_len]; decide, by omega, by omega, _, _, rfl, rfl, hsm _ (by omega), k _ (wx.asc.app fun c hc => zero_asc c (mul_mem hc)) fun _ e => ?_⟩
          have := congrArg Str.length e
          rw [cat_len, empty_len] at this
          have := wx.lo
          omega
        split
        · exact fin 1 (by decide) (by decide)
        · exact fin 0 (by decide) (by decide)
      · have m0 : 0 ≤ d / 6 % (ws.length : Int) := Int.emod_nonneg _ (by omega)
        have m1 : d / 6 % (ws.length : Int) < (ws.length : Int) := Int.emod_lt_of_pos _ (by omega)
        obtain ⟨x, ex, wx⟩ := at_ _ m0 m1
        exact ⟨_, rfl, _, rfl, _, _, rfl, rfl, ⟨by decide, by decide⟩, _, rfl, p, _, rfl, .inl (SqL.of hp), _, _, rfl, rfl, (by rw [List.length_map]; omega), p, _, _, _, rfl, rfl, SqL.of hp, (by rw [List.length_map]; exact ex), k x wx.asc fun _ => word_ne wx⟩
end
def spHang : Sp := fun vs H Q _ => ∃ (p q : Addr) (a b : Str × Str), vs = [.ref p, .ref q] ∧ H p = some (.tup [.str a.1, .str a.2]) ∧ H q = some (.tup [.str b.1, .str b.2]) ∧ Q (.bl (hang a b)) H
def spLThread : Sp := fun vs H Q _ => ∃ (r : Addr) (prs : List PRow) (nm : Str), vs = [.ref r, .str nm] ∧ RowsAt H r prs ∧ AscR prs ∧ prs.length ≤ 40 ∧ (prs.map (·.2.1)).Nodup ∧ NoE (prs.map (·.2)) ∧ nm ∈ prs.map (·.2.1) ∧ ∀ l H', H l = none → Same H H' → H' l = some (.lst ((thrOf (prs.map (·.2)) nm).map V.str)) → Q (.ref l) H'
def spLThreads : Sp := fun vs H Q _ => ∃ (r : Addr) (prs : List PRow), vs = [.ref r] ∧ RowsAt H r prs ∧ AscR prs ∧ prs.length ≤ 40 ∧ (prs.map (·.2.1)).Nodup ∧ NoE (prs.map (·.2)) ∧ ∀ l H' ls, H l = none → Same H H' → (∀ p ∈ ls, H p.1 = none ∧ p.1 ≠ l) → ls.map (·.2) = thrAll (prs.map (·.2)) (sortS (prs.map (·.2.1))) → ThrAt H' l ls → Q (.ref l) H'
section
variable {P : Program} {w : World} {K : PySem.W.Frag} {mg : Str → Option Value} {base : Heap} {a : Adr}
theorem ok_hang {fd : FuncData} (F : Fun K "_law_hang" "_law_hang" sl_hang a.f_l_hang fd) (T : Txt K mg a) : FnOk P w K mg base CX0 1 a.f_l_hang fd ["_law_one", "_law_other"] spHang := by
  refine F.ok sc_l_hang (fun vs H Q E h => ?_) (fun cdv A outer st H vs Q E hr h => ?_)
  · obtain ⟨p, q, a, b, rfl, _⟩ := h; rfl
  · obtain ⟨p, q, x, y, rfl, hp, hq, k⟩ := h
    refine ⟨_, (pss_one (ps_ret (pe_or (pe_cmpR op_eq (pe_ix ix_tup (pv 0) pe_int (fun _ _ => rfl)) (pe_ix ix_tup (pv 1) pe_int (fun _ _ => rfl)) (nomark _)) (pe_or (pe_cmpR op_eq (pe_ix ix_tup (pv 1) pe_int (fun _ _ => rfl)) (pe_ix ix_tup (pv 0) pe_int (fun _ _ => rfl)) (nomark _)) (pe_one (pe_and (pe_cmpR op_ne (pe_ix ix_tup (pv 0) pe_int (fun _ _ => rfl)) pe_str (nomark _)) (pe_one (pe_cmpR op_eq (pe_ix ix_tup (pv 0) pe_int (fun _ _ => rfl)) (pe_ix ix_tup (pv 1) pe_int (fun _ _ => rfl)) (nomark _))))))))), ?_⟩
    have hP : SqT K H p [.str x.1, .str x.2] := SqT.of hp
    have hQ : SqT K H q [.str y.1, .str y.2] := SqT.of hq
    unfold hang at k
    refine ⟨_, rfl, p, _, _, _, rfl, rfl, hP, rfl, _, rfl, q, _, _, _, rfl, rfl, hQ, rfl, rfl, _, rfl, ?_⟩
    rw [dec_str]
    cases e1 : decide (x.2 = y.1) with
    | true =>
      rw [e1] at k
      exact iteT k
    | false =>
      rw [e1] at k
      refine iteF ⟨_, rfl, q, _, _, _, rfl, rfl, hQ, rfl, _, rfl, p, _, _, _, rfl, rfl, hP, rfl, rfl, _, rfl, ?_⟩
      rw [dec_str]
      cases e2 : decide (y.2 = x.1) with
      | true =>
        rw [e2] at k
        exact iteT k
      | false =>
        rw [e2] at k
        refine iteF ⟨_, rfl, p, _, _, _, rfl, rfl, hP, rfl, rfl, _, rfl, ?_⟩
        rw [dec_str]
        by_cases e3 : x.2 = ""
        · rw [decide_eq_true e3]
          rw [decide_eq_false (fun z => z e3)] at k
          exact iteF k
        · rw [decide_eq_false e3]
          rw [decide_eq_true e3] at k
          refine iteT ⟨_, rfl, p, _, _, _, rfl, rfl, hP, rfl, _, rfl, q, _, _, _, rfl, rfl, hQ, rfl, rfl, ?_⟩
          rw [dec_str]
          exact k
theorem ok_lthread {fd : FuncData} (F : Fun K "_law_thread" "_law_thread" sl_thread a.f_l_thread fd) (T : Txt K mg a) (FF : Funs K a) : FnOk P w K mg base CX0 2 a.f_l_thread fd ["_law_rows", "_law_name"] spLThread := by
  obtain ⟨fdH, F_l_hang, b_l_hang⟩ := FF.F_l_hang
  have G_l_hang : FnOk P w K mg base CX0 1 a.f_l_hang fdH ["_law_one", "_law_other"] spHang := ok_hang F_l_hang T
  refine F.ok sc_l_thread (fun vs H Q E h => ?_) (fun cdv A outer st H vs Q E hr h => ?_)
  · obtain ⟨r, prs, nm, rfl, _⟩ := h; rfl
  · obtain ⟨r, prs, nm, rfl, hR, hA, hl, nd, ne, hn, k⟩ := h
    have hr_l_hang : Room 1 _ := hr
    have hu64 := hr.units
    refine ⟨_, (pss_cons (ps_set (i := 2) sc_l_thread.nd rfl (Or.inr rfl) (pe_comp (sc := defScope sl_thread) (N := n_l_thread) (fr := [(1, "_law_name")]) ⟨rfl, rfl, by decide +kernel, by decide +kernel, by decide +kernel, by decide +kernel, by decide +kernel⟩ rfl rfl rfl (pi_list (pv 0)) (fun _ _ _ _ => pts_one (pt_cmpR op_eq (pe_ix (ix_tupK K) (pv 0) pe_int (fun _ _ => rfl)) (pv 1) (nomark _))) (fun _ _ _ _ => (pv 0))))
        (pss_cons (ps_set (i := 3) sc_l_thread.nd rfl (Or.inr rfl) pe_int)
        (pss_cons (ps_while PassesOwn.never (pt_cmpR op_lt (pv 3) (pe_callB call_len_seq rfl T.b_len PySem.boot_len (pac (pv 2) pa_nil)) (nomark _)) (pss_cons (ps_set (i := 2) sc_l_thread.nd rfl (Or.inr rfl) (pe_op op_cat (pv 2) (pe_comp (sc := defScope sl_thread) (N := n_l_thread) (fr := [(2, "_law_found"), (3, "_law_at")]) ⟨rfl, rfl, by decide +kernel, by decide +kernel, by decide +kernel, by decide +kernel, by decide +kernel⟩ rfl rfl rfl (pi_list (pv 0)) (fun _ _ _ _ => pts_one (PW.pt (pw_and (pt_cmpR (op_notInDK K hu64) (pv 0) (pv 1) (by with_unfolding_all rfl)) (pw_and1 (pt_val (pe_call G_l_hang hr_l_hang rfl T.m_l_hang F_l_hang.kp b_l_hang .nil pass0 (pac (pv 0) (pac (pe_ix (ix_listK K) (pv 1) (pv 2) (fun _ _ => rfl)) pa_nil)))))))) (fun _ _ _ _ => (pv 0)))))
        (pss_one (ps_set (i := 3) sc_l_thread.nd rfl (Or.inr rfl) (pe_op op_add (pv 3) pe_int)))))
        (pss_one (ps_ret (pe_callB call_sorted rfl T.b_sorted PyProof.Rows.boot_sorted (pac (pe_comp (sc := defScope sl_thread) (N := n_l_thread) (fr := []) ⟨rfl, rfl, by decide +kernel, by decide +kernel, by decide +kernel, by decide +kernel, by decide +kernel⟩ rfl rfl rfl (pi_list (pv 2)) (fun _ _ _ _ => pts_nil) (fun _ _ _ _ => (pe_ix (ix_tupK K) (pv 0) pe_int (fun _ _ => rfl)))) pa_nil))))))), ?_⟩
    have hsm : ∀ m : Nat, m ≤ 40 → m ≤ sizeLine := fun m h => Nat.le_of_lt (small1000 (by omega))
    refine ⟨_, rfl, r, rfl, ⟨_, SqL.of hR.1⟩, comp_listFM (K := K) (xs := prs) (fun q => V.ref q.1) (fun q => decide (q.2.1 = nm)) (fun q => V.ref q.1) (hsm _ hl) (SqL.of hR.1) ?_ ?_ ?_⟩
    · intro q H3 Q' hq s3 q'
      refine ⟨_, rfl, q.1, _, _, _, rfl, rfl, SqT.of (s3 _ _ (hR.2 q hq)), rfl, _, rfl, rfl, _, rfl, ?_⟩
      rw [dec_str]
      exact q'
    · intro q H3 Q' hq s3 _ q'
      exact ⟨_, rfl, q'⟩
    · intro D hD
      have s1 : Same H (upd H D (.lst ((prs.filter fun q => decide (q.2.1 = nm)).map fun q => V.ref q.1))) := Same.upd_new hD
      have e1 : (upd H D (.lst ((prs.filter fun q => decide (q.2.1 = nm)).map fun q => V.ref q.1))) D = some (.lst ((prs.filter fun q => decide (q.2.1 = nm)).map fun q => V.ref q.1)) := upd_same
      have w0 := LW.start nd hn
      show tSeq _ _ _ _ (upd H D (.lst ((prs.filter fun q => decide (q.2.1 = nm)).map fun q => V.ref q.1)))
      generalize upd H D (.lst ((prs.filter fun q => decide (q.2.1 = nm)).map fun q => V.ref q.1)) = H1 at s1 e1
      generalize (prs.filter fun q => decide (q.2.1 = nm)) = S0 at e1 w0
      refine ⟨fun m σ H2 => ∃ (S : List PRow) (at' : Nat) (f : Addr), m = prs.length + 1 - at' ∧ σ = [some (.ref r), some (.str nm), some (.ref f), some (.int (at' : Int))] ∧ Same H H2 ∧ H2 f = some (.lst (S.map fun q => V.ref q.1)) ∧ LW prs nm S at' ∧ at' ≤ S.length,
        ⟨_, S0, 0, D, rfl, rfl, s1, e1, w0, Nat.zero_le _⟩, ?_⟩
      rintro m σ H2 ⟨S, at', f, rfl, rfl, s2, e2, w, hat⟩
      have wl := w.len
      refine ⟨_, rfl, _, rfl, f, _, rfl, .inl (SqL.of e2), _, _, rfl, rfl, _, rfl, ?_⟩
      rw [List.length_map]
      by_cases hlt : at' < S.length
      · rw [decide_eq_true (by omega : (at' : Int) < (S.length : Int))]
        refine iteT ⟨_, fun σ' H' z => z, ?_⟩
        have hR2 := hR.same s2
        obtain ⟨q0, hq0⟩ : ∃ q, S[at']? = some q := ⟨S[at'], List.getElem?_eq_getElem hlt⟩
        have hq0m : q0 ∈ prs := w.sub _ (List.mem_of_getElem? hq0)
        refine ⟨_, rfl, _, rfl, r, rfl, ⟨_, SqL.of hR2.1⟩, comp_listFM (K := K) (xs := prs) (fun q => V.ref q.1) (fun q => !(S.any fun s => decide (s.2 = q.2)) && hang q.2 q0.2) (fun q => V.ref q.1) (hsm _ hl) (SqL.of hR2.1) ?_ ?_ ?_⟩
        · intro q H3 Q' hq s3 q'
          have hS : ∀ s ∈ S, H3 s.1 = some (.tup [.str s.2.1, .str s.2.2]) := fun s hs => s3 _ _ (hR2.2 s (w.sub s hs))
          have aS : AscR S := fun s hs => hA s (w.sub s hs)
          refine ⟨_, rfl, _, rfl, rowD q, S.map rowD, rd_row (s3 _ _ (hR2.2 q hq)), .lst (SqL.of (s3 _ _ e2)) (rds_rows hS), (lay_rows aS).1, SeqAt.canLay_of_shaped (row_shaped (hA q hq)), (by show 1 ≤ 20; decide), _, rfl, ?_⟩
          have ea : ((S.map rowD).any fun e => PyData.eqv e (rowD q)) = S.any fun s => decide (s.2 = q.2) := by
            rw [List.any_map]
            congr 1
            funext s
            exact eqv_row s q
          rw [if_pos rfl, ea]
          cases hany : (S.any fun s => decide (s.2 = q.2)) with
          | true =>
            rw [hany] at q'
            exact iteF q'
          | false =>
            rw [hany] at q'
            refine iteT ⟨_, rfl, _, rfl, _, rfl, f, _, _, _, rfl, rfl, SqL.of (s3 _ _ e2), (by rw [atI_nat (j := at') (by rw [List.getElem?_map, hq0]; rfl)]), q.1, q0.1, q.2, q0.2, rfl, s3 _ _ (hR2.2 q hq), s3 _ _ (hR2.2 q0 hq0m), _, rfl, q'⟩
        · intro q H3 Q' hq s3 _ q'
          exact ⟨_, rfl, q'⟩
        · intro D2 hD2
          have D2n : H D2 = none := s2.free hD2
          have hw := w.step nd ne hq0
          have wl2 := hw.len
          have enew : (prs.filter fun q => !(S.any fun s => decide (s.2 = q.2)) && hang q.2 q0.2) = lwNew prs S q0 := rfl
          rw [enew]
          generalize lwNew prs S q0 = N at hw wl2
          rw [List.length_append] at wl2
          have fD : f ≠ D2 := ne_of_none e2 hD2
          refine ⟨f, D2, _, _, rfl, rfl, (by rw [upd_ne fD]; exact e2), upd_same, (by rw [List.length_map, List.length_map]; exact hsm _ (by omega)), fun f2 hf2 => ?_⟩
          have s3 : Same H (upd H2 D2 (.lst (N.map fun q => V.ref q.1))) := s2.upd_of D2n
          generalize upd H2 D2 (.lst (N.map fun q => V.ref q.1)) = H3 at s3 hf2
          have s4 : Same H (upd H3 f2 (.lst ((S.map fun q => V.ref q.1) ++ N.map fun q => V.ref q.1))) := s3.upd_of (s3.free hf2)
          have e4 : (upd H3 f2 (.lst ((S.map fun q => V.ref q.1) ++ N.map fun q => V.ref q.1))) f2 = some (.lst ((S ++ N).map fun q => V.ref q.1)) := by rw [upd_same, List.map_append]
          refine ⟨_, rfl, _, _, rfl, rfl, ?_⟩
          refine ⟨prs.length + 1 - (at' + 1), by omega, S ++ N, at' + 1, f2, rfl, ?_, s4, e4, hw, by rw [List.length_append]; omega⟩
          show [some (V.ref r), some (V.str nm), some (V.ref f2), some (V.int ((at' : Int) + 1))] = _
          rw [show ((at' + 1 : Nat) : Int) = (at' : Int) + 1 by omega]
      · rw [decide_eq_false (by omega : ¬ (at' : Int) < (S.length : Int))]
        refine iteF ?_
        have hR2 := hR.same s2
        refine ⟨_, rfl, f, rfl, ⟨_, SqL.of e2⟩, comp_listM (K := K) (xs := S) (fun q => V.ref q.1) (fun q => V.str q.2.1) (hsm _ (by omega)) (SqL.of e2) ?_ ?_⟩
        · intro q H3 Q' hq s3 q'
          exact ⟨_, rfl, q.1, _, _, _, rfl, rfl, SqT.of (s3 _ _ (hR2.2 q (w.sub q hq))), rfl, q'⟩
        · intro D2 hD2
          have em : (S.map fun q => V.str q.2.1) = (S.map (·.2.1)).map V.str := by rw [List.map_map]; rfl
          rw [em]
          refine ⟨D2, S.map (·.2.1), rfl, SqL.of upd_same, by rw [List.length_map]; omega, fun l hl2 => ?_⟩
          have s3 : Same H (upd H2 D2 (.lst ((S.map (·.2.1)).map V.str))) := s2.upd_of (s2.free hD2)
          generalize upd H2 D2 (.lst ((S.map (·.2.1)).map V.str)) = H3 at s3 hl2
          rw [w.done nd ne (by omega)]
          exact k l _ (s3.free hl2) (s3.upd_of (s3.free hl2)) upd_same
end
theorem lay_lists : ∀ {ts : List (List Str)}, (∀ t ∈ ts, ∀ x ∈ t, Asc x) → PyData.canLayAll0 (ts.map fun t => PyData.list (t.map PyData.str)) = true ∧ PyData.depthAll (ts.map fun t => PyData.list (t.map PyData.str)) ≤ 1
  | [], _ => ⟨rfl, Nat.zero_le _⟩
  | t :: ts, h => by
    obtain ⟨a1, a2⟩ := lay_lists (ts := ts) fun z hz => h z (List.mem_cons_of_mem _ hz)
    obtain ⟨b1, b2⟩ := lay_strs (xs := t) (h t List.mem_cons_self)
    rw [List.map_cons]
    refine ⟨?_, ?_⟩
    · show (PyData.canLayAll0 (t.map PyData.str) && PyData.canLayAll0 (ts.map fun t => PyData.list (t.map PyData.str))) = true
      rw [b1, a1]; rfl
    · show max (PyData.depthAll (t.map PyData.str) + 1) (PyData.depthAll (ts.map fun t => PyData.list (t.map PyData.str))) ≤ 1
      omega
theorem rds_lists {K : PySem.W.Frag} {H : Hp} : ∀ {ls : List (Addr × List Str)}, (∀ p ∈ ls, H p.1 = some (.lst (p.2.map V.str))) → RDs K H (ls.map fun p => V.ref p.1) ((ls.map (·.2)).map fun t => PyData.list (t.map PyData.str))
  | [], _ => .nil
  | p :: ls, h => .cons (rd_strs (SqL.of (h p List.mem_cons_self))) (rds_lists fun q hq => h q (List.mem_cons_of_mem _ hq))
theorem thr_asc {prs : List PRow} (hA : AscR prs) {n x : Str} (h : x ∈ thrOf (prs.map (·.2)) n) : Asc x ∧ x.length ≤ 1000 := by
  obtain ⟨r, hr, rfl⟩ := List.mem_map.mp (mem_thr.mp h).1
  obtain ⟨q, hq, rfl⟩ := List.mem_map.mp hr
  exact ⟨(hA q hq).1, (hA q hq).2.2⟩
section
variable {P : Program} {w : World} {K : PySem.W.Frag} {mg : Str → Option Value} {base : Heap} {a : Adr}
theorem ok_lthreads {fd : FuncData} (F : Fun K "_law_threads" "_law_threads" sl_threads a.f_l_threads fd) (T : Txt K mg a) (FF : Funs K a) : FnOk P w K mg base CX0 3 a.f_l_threads fd ["_law_rows"] spLThreads := by
  obtain ⟨fdH, F_l_thread, b_l_thread⟩ := FF.F_l_thread
  have G_l_thread : FnOk P w K mg base CX0 2 a.f_l_thread fdH ["_law_rows", "_law_name"] spLThread := ok_lthread F_l_thread T FF
  refine F.ok sc_l_threads (fun vs H Q E h => ?_) (fun cdv A outer st H vs Q E hr h => ?_)
  · obtain ⟨r, prs, rfl, _⟩ := h; rfl
  · obtain ⟨r, prs, rfl, hR, hA, hl, nd, ne, k⟩ := h
    have hr_l_thread : Room 2 _ := hr
    have hu64 := hr.units
    have hsm : ∀ m : Nat, m ≤ 40 → m ≤ sizeLine := fun m h => Nat.le_of_lt (small1000 (by omega))
    refine ⟨_, (pss_cons (ps_set (i := 1) sc_l_threads.nd rfl (Or.inl rfl) (pe_lstS pas_nil))
        (pss_cons (ps_for PassesOwn.never rfl (pi_list (pe_callB call_sorted rfl T.b_sorted PyProof.Rows.boot_sorted (pac (pe_comp (sc := defScope sl_threads) (N := n_l_threads) (fr := []) ⟨rfl, rfl, by decide +kernel, by decide +kernel, by decide +kernel, by decide +kernel, by decide +kernel⟩ rfl rfl rfl (pi_list (pv 0)) (fun _ _ _ _ => pts_nil) (fun _ _ _ _ => (pe_ix (ix_tupK K) (pv 0) pe_int (fun _ _ => rfl)))) pa_nil))) (pg_name (i := 2) sc_l_threads.nd rfl (Or.inl rfl)) (pss_cons (ps_set (i := 3) sc_l_threads.nd rfl (Or.inl rfl) (pe_call G_l_thread hr_l_thread rfl T.m_l_thread F_l_thread.kp b_l_thread .nil pass0 (pac (pv 0) (pac (pv 2) pa_nil))))
        (pss_one (ps_if (pt_cmpR (op_notInD hu64) (pv 3) (pv 1) (by with_unfolding_all rfl)) (pss_one (ps_expr (pe_bm PySem.F.plainAttrs_list PySem.F.slot_list_append PySem.F.type_list_append mt_append (pv 1) (pac (pv 3) pa_nil)))) pss_nil))))
        (pss_one (ps_ret (pv 1))))), ?_⟩
    refine ⟨(by show 0 ≤ sizeLine; decide), fun q hq => ?_⟩
    have s1 : Same H (upd H q (.lst [])) := Same.upd_new hq
    have q1 : (upd H q (.lst [])) q = some (.lst []) := upd_same
    show tSeq _ _ _ _ (upd H q (.lst []))
    generalize upd H q (.lst []) = H1 at s1 q1
    have hR1 := hR.same s1
    refine ⟨_, rfl, r, rfl, ⟨_, SqL.of hR1.1⟩, comp_listM (K := K) (xs := prs) (fun q => V.ref q.1) (fun q => V.str q.2.1) (hsm _ hl) (SqL.of hR1.1) ?_ ?_⟩
    · intro z H3 Q' hz s3 q'
      exact ⟨_, rfl, z.1, _, _, _, rfl, rfl, SqT.of (s3 _ _ (hR1.2 z hz)), rfl, q'⟩
    · intro D hD
      have em : (prs.map fun q => V.str q.2.1) = (prs.map (·.2.1)).map V.str := by rw [List.map_map]; rfl
      rw [em]
      refine ⟨D, prs.map (·.2.1), rfl, SqL.of upd_same, by rw [List.length_map]; omega, fun l hl2 => ?_⟩
      have s2 : Same H (upd H1 D (.lst ((prs.map (·.2.1)).map V.str))) := s1.upd_of (s1.free hD)
      have q2 : (upd H1 D (.lst ((prs.map (·.2.1)).map V.str))) q = some (.lst []) := by rw [upd_ne (ne_of_none q1 hD)]; exact q1
      generalize upd H1 D (.lst ((prs.map (·.2.1)).map V.str)) = H2 at s2 q2 hl2
      generalize hns : sortS (prs.map (·.2.1)) = ns
      have nsm : ∀ m ∈ ns, m ∈ prs.map (·.2.1) := fun m hm => by rw [← hns] at hm; exact sortS_mem.mp hm
      have nsl : ns.length ≤ 40 := by rw [← hns, sortS_len, List.length_map]; exact hl
      have s3 : Same H (upd H2 l (.lst (ns.map V.str))) := s2.upd_of (s2.free hl2)
      have lq : l ≠ q := (ne_of_none q2 hl2).symm
      have q3 : (upd H2 l (.lst (ns.map V.str))) q = some (.lst []) := by rw [upd_ne lq.symm]; exact q2
      have l3 : (upd H2 l (.lst (ns.map V.str))) l = some (.lst (ns.map V.str)) := upd_same
      generalize upd H2 l (.lst (ns.map V.str)) = H3 at s3 q3 l3
      refine ⟨l, rfl, ⟨_, SqL.of l3⟩, for_list (K := K) (a := l) (xs := ns.map V.str) (fun i σ H4 => ∃ (ls : List (Addr × List Str)) (o2 o3 : Option V), σ = [some (.ref r), some (.ref q), o2, o3] ∧ Same H H4 ∧ ThrAt H4 q ls ∧ (∀ z ∈ ls, H z.1 = none ∧ z.1 ≠ q) ∧ ls.map (·.2) = thrAll (prs.map (·.2)) (ns.take i) ∧ H4 l = some (.lst (ns.map V.str)))
        ⟨[], none, none, rfl, s3, ⟨q3, (fun _ z => nomatch z)⟩, (fun _ z => nomatch z), rfl, l3⟩ ?_ ?_ ?_⟩
      · rintro i σ H4 _ ⟨ls, o2, o3, rfl, s4, hT, hz, e4, l4⟩
        exact SqL.of l4
      · rintro i v σ H4 hv ⟨ls, o2, o3, rfl, s4, hT, hz, e4, l4⟩
        obtain ⟨nm, hy, rfl⟩ : ∃ y, ns[i]? = some y ∧ V.str y = v := by
          rw [List.getElem?_map] at hv
          cases e : ns[i]? with
          | none => rw [e] at hv; cases hv
          | some t => rw [e] at hv; exact ⟨t, rfl, Option.some.inj hv⟩
        have et : ns.take (i + 1) = ns.take i ++ [nm] := by rw [List.take_add_one, hy]; rfl
        have hnm : nm ∈ prs.map (·.2.1) := nsm nm (List.mem_of_getElem? hy)
        have hll : ls.length ≤ 40 := by
          have := congrArg List.length e4
          rw [List.length_map] at this
          have h2 := thrAll_len (rows := prs.map (·.2)) (ns.take i)
          rw [List.length_take] at h2
          omega
        rw [et, thrAll_snoc]
        refine ⟨_, rfl, _, rfl, r, prs, nm, rfl, hR.same s4, hA, hl, nd, ne, hnm, fun l5 H5 n5 s5 e5 => ?_⟩
        have hT5 : ThrAt H5 q ls := ⟨s5 _ _ hT.1, fun z hz' => s5 _ _ (hT.2 z hz')⟩
        have l5q : l5 ≠ q := (ne_of_none hT.1 n5).symm
        have asc : ∀ t ∈ ls.map (·.2), ∀ x ∈ t, Asc x := fun t ht x hx => by
          rw [e4] at ht
          obtain ⟨y, _, rfl⟩ := thrAll_mem _ ht
          exact (thr_asc hA hx).1
        have lay := lay_lists asc
        have layT := lay_strs (xs := thrOf (prs.map (·.2)) nm) fun x hx => (thr_asc hA hx).1
        refine ⟨_, rfl, _, rfl, .list ((thrOf (prs.map (·.2)) nm).map PyData.str), (ls.map (·.2)).map fun t => PyData.list (t.map PyData.str), rd_strs (SqL.of e5), .lst (SqL.of hT5.1) (rds_lists hT5.2), lay.1, (by simp only [PyData.canLay0]; exact layT.1), ?_, _, rfl, ?_⟩
        · show PyData.depthAll ((thrOf (prs.map (·.2)) nm).map PyData.str) + 1 ≤ 20
          have := layT.2
          omega
        · have ea : (((ls.map (·.2)).map fun t => PyData.list (t.map PyData.str)).any fun e => PyData.eqv e (.list ((thrOf (prs.map (·.2)) nm).map PyData.str))) = decide (thrOf (prs.map (·.2)) nm ∈ thrAll (prs.map (·.2)) (ns.take i)) := by
            rw [← e4, List.any_map, Bool.eq_iff_iff, List.any_eq_true, decide_eq_true_iff]
            constructor
            · rintro ⟨t, h1, h2⟩
              have h2 : PyData.eqv (.list (t.map PyData.str)) (.list ((thrOf (prs.map (·.2)) nm).map PyData.str)) = true := h2
              rw [eqv_strs] at h2
              rw [← of_decide_eq_true h2]
              exact h1
            · intro h
              refine ⟨_, h, ?_⟩
              show PyData.eqv (.list ((thrOf (prs.map (·.2)) nm).map PyData.str)) (.list ((thrOf (prs.map (·.2)) nm).map PyData.str)) = true
              rw [eqv_strs]
              exact decide_eq_true rfl
          rw [if_pos rfl, ea]
          unfold thrGo
          by_cases hin : thrOf (prs.map (·.2)) nm ∈ thrAll (prs.map (·.2)) (ns.take i)
          · rw [decide_eq_true hin]
            refine iteF ⟨ls, _, _, rfl, s4.trans s5, hT5, hz, ?_, s5 _ _ l4⟩
            rw [if_pos hin]
            exact e4
          · rw [decide_eq_false hin]
            refine iteT ⟨_, rfl, .inl ⟨rfl, _, SqL.of hT5.1⟩, _, rfl, q, _, _, rfl, rfl, hT5.1, (by rw [List.length_map]; exact small1000 (by omega)), ?_⟩
            have eL : (ls.map fun p => V.ref p.1) ++ [V.ref l5] = (ls ++ [((l5, thrOf (prs.map (·.2)) nm) : Addr × List Str)]).map fun p => V.ref p.1 := by rw [List.map_append]; rfl
            rw [eL]
            refine ⟨ls ++ [((l5, thrOf (prs.map (·.2)) nm) : Addr × List Str)], _, _, rfl, (s4.trans s5).upd_of hq, ⟨upd_same, fun z hz' => ?_⟩, fun z hz' => ?_, ?_, by rw [upd_ne lq]; exact s5 _ _ l4⟩
            · rcases List.mem_append.mp hz' with y | y
              · rw [upd_ne (hz z y).2]; exact hT5.2 z y
              · rw [List.mem_singleton.mp y, upd_ne l5q]; exact e5
            · rcases List.mem_append.mp hz' with y | y
              · exact hz z y
              · rw [List.mem_singleton.mp y]; exact ⟨s4.free n5, l5q⟩
            · rw [if_neg hin, List.map_append, e4]
              rfl
      · rintro σ H4 ⟨ls, o2, o3, rfl, s4, hT, hz, e4, l4⟩
        rw [List.length_map, List.take_length] at e4
        exact ⟨_, rfl, k q H4 ls hq s4 hz (by rw [hns]; exact e4) hT⟩
end
section
variable {rows rows' : Rows}
theorem names_perm (p : rows'.Perm rows) {n : Str} : n ∈ rows'.map (·.1) ↔ n ∈ rows.map (·.1) := (p.map _).mem_iff
theorem up_perm (p : rows'.Perm rows) (nd : (rows.map (·.1)).Nodup) (n : Str) : up rows' n = up rows n := by
  cases h : up rows n with
  | none => exact up_none.mpr fun z => up_none.mp h ((names_perm p).mp z)
  | some a =>
    obtain ⟨b, hb⟩ := up_some ((names_perm p).mpr (List.mem_map.mpr ⟨(n, a), up_mem h, rfl⟩))
    rw [hb, one_answer nd (p.mem_iff.mp (up_mem hb)) (up_mem h)]
theorem reps_perm (p : rows'.Perm rows) (t : Str) : (reps rows' t).Perm (reps rows t) := (p.filter _).map _
theorem nbr_perm (p : rows'.Perm rows) (nd : (rows.map (·.1)).Nodup) {m k : Str} : k ∈ nbr rows' m ↔ k ∈ nbr rows m := by
  unfold nbr
  rw [List.mem_append, List.mem_append, (reps_perm p m).mem_iff, mem_upL, mem_upL, up_perm p nd]
theorem rch_perm (p : rows'.Perm rows) (nd : (rows.map (·.1)).Nodup) {n m : Str} : Rch rows' n m ↔ Rch rows n m := by
  constructor
  · intro h
    induction h with
    | refl => exact .refl
    | step _ hk ih => exact .step ih ((nbr_perm p nd).mp hk)
  · intro h
    induction h with
    | refl => exact .refl
    | step _ hk ih => exact .step ih ((nbr_perm p nd).mpr hk)
theorem thrOf_perm (p : rows'.Perm rows) (nd : (rows.map (·.1)).Nodup) (n : Str) : thrOf rows' n = thrOf rows n := by
  classical
  unfold thrOf
  refine (sortS_congr ((p.map _).filter _)).trans (congrArg sortS (List.filter_congr fun m _ => ?_))
  by_cases e : Rch rows n m
  · rw [decide_eq_true e, decide_eq_true ((rch_perm p nd).mpr e)]
  · rw [decide_eq_false e, decide_eq_false fun z => e ((rch_perm p nd).mp z)]
theorem thrAll_perm (p : rows'.Perm rows) (nd : (rows.map (·.1)).Nodup) (ns : List Str) : thrAll rows' ns = thrAll rows ns := by
  unfold thrAll
  have e : thrGo rows' = thrGo rows := by
    funext acc n
    unfold thrGo
    rw [thrOf_perm p nd]
  rw [e]
theorem chain_perm (p : rows'.Perm rows) (nd : (rows.map (·.1)).Nodup) : ∀ (k : Nat) (met : List Str), chain rows' k met = chain rows k met
  | 0, _ => rfl
  | k + 1, met => by
    unfold chain
    rw [up_perm p nd]
    cases up rows (met.getLastD "") with
    | none => rfl
    | some a =>
      simp only [names_perm p]
      split
      · exact chain_perm p nd k _
      · rfl
theorem depth_perm (p : rows'.Perm rows) (nd : (rows.map (·.1)).Nodup) (n : Str) : depthOf rows' n = depthOf rows n := by
  unfold depthOf
  rw [p.length_eq, chain_perm p nd]
end
inductive spDeepN_I (vs : List V) (H : Hp) (Q : VK) : Prop
  | mk : ∀ (r : Addr) (prs : List PRow) (nm : Str), vs = [.ref r, .str nm] → RowsAt H r prs → prs.length ≤ 40 → (prs.map (·.2.1)).Nodup → nm ∈ (prs.map (·.2)).map (·.1) → (∀ H', Same H H' → Q (.int (depthOf (prs.map (·.2)) nm)) H') → spDeepN_I vs H Q
def spDeepN : Sp := fun vs H Q _ => spDeepN_I vs H Q
section
variable {P : Program} {w : World} {K : PySem.W.Frag} {mg : Str → Option Value} {base : Heap} {a : Adr}
theorem ok_deepN {fd : FuncData} (F : Fun K "_law_deep" "_law_deep" sl_deep a.f_l_deep fd) (T : Txt K mg a) : FnOk P w K mg base CX0 1 a.f_l_deep fd ["_law_rows", "_law_name"] spDeepN := by
  refine F.ok sc_l_deep (fun vs H Q E h => ?_) (fun cdv A outer s H vs Q E hr h => ?_)
  · obtain ⟨r, prs, nm, rfl, _⟩ := h; rfl
  · obtain ⟨r, prs, nm, rfl, hR, hl, nd, hm, k⟩ := h
    have hu := hu_of hr
    refine ⟨_, (pss_cons (ps_set (i := 2) sc_l_deep.nd rfl (Or.inl rfl) (pe_callTy (call_dict_rows rfl) rfl T.b_dict PyProof.Rows.boot_dict (pac (pv 0) pa_nil)))
        (pss_cons (ps_set (i := 3) sc_l_deep.nd rfl (Or.inl rfl) (pe_lstS (pas_cons (pv 1) pas_nil)))
        (pss_cons (ps_while PassesOwn.never (PW.pt (pw_and (pt_cmp (pc_din hu (pe_dget hu (pv 2) (pe_ix ix_list (pv 3) (pe_un un_neg pe_int) (fun _ _ => rfl)) (fun _ _ => rfl)) (pv 2))) (pw_and1 (pt_cmpR op_notIn_seq (pe_dget hu (pv 2) (pe_ix ix_list (pv 3) (pe_un un_neg pe_int) (fun _ _ => rfl)) (fun _ _ => rfl)) (pv 3) (by with_unfolding_all rfl))))) (pss_one (ps_expr (pe_bm PySem.F.plainAttrs_list PySem.F.slot_list_append PySem.F.type_list_append mt_append (pv 3) (pac (pe_dget hu (pv 2) (pe_ix ix_list (pv 3) (pe_un un_neg pe_int) (fun _ _ => rfl)) (fun _ _ => rfl)) pa_nil)))))
        (pss_one (ps_ret (pe_op op_sub (pe_callB call_len_seq rfl T.b_len PySem.boot_len (pac (pv 3) pa_nil)) pe_int)))))), ?_⟩
    obtain ⟨an, eu⟩ := up_some hm
    have hrl : (prs.map (·.2)).length = prs.length := List.length_map _
    refine ⟨_, rfl, r, prs, rfl, hR, nd, by omega, fun d hd => ?_⟩
    have s1 : Same H (upd H d (.dK (rowsK (prs.map (·.2))))) := Same.upd_new hd
    have e1 : (upd H d (.dK (rowsK (prs.map (·.2))))) d = some (.dK (rowsK (prs.map (·.2)))) := upd_same
    generalize upd H d (.dK (rowsK (prs.map (·.2)))) = H1 at s1 e1 ⊢
    refine ⟨_, rfl, (by show 1 ≤ sizeLine; decide), fun m hmn => ?_⟩
    refine ⟨fun mm σ H2 => ∃ (met : List Str) (ab : Str), mm = (prs.map (·.2)).length - met.length ∧ σ = [some (.ref r), some (.str nm), some (.ref d), some (.ref m)] ∧ Same H1 H2 ∧ H2 m = some (.lst (met.map V.str)) ∧ OnWay (prs.map (·.2)) nm met ab,
      ⟨_, [nm], an, rfl, rfl, Same.upd_new hmn, upd_same, OnWay.start eu⟩, ?_⟩
    rintro mm σ H2 ⟨met, ab, rfl, rfl, s2, hm2, ow⟩
    have hlen := ow.len
    have e2 := s2 _ _ e1
    have al := atI_lastD V.str met "" ow.ne
    have dg : DGet H2 d (.str (met.getLastD "")) (some (.str ab)) := by
      have := DGet.k (k := Sum.inr (met.getLastD "")) e2
      rw [val_rows, ow.last] at this
      exact this
    have fin : ¬ (ab ∈ (prs.map (·.2)).map (·.1) ∧ ¬ ab ∈ met) → Q (.int ((((met.map V.str).length : Nat) : Int) - 1)) H2 := fun h => by
      have e := ow.stop h
      rw [List.length_map, e]
      exact k H2 (s1.trans s2)
    refine ⟨_, rfl, _, rfl, _, rfl, m, _, _, _, rfl, rfl, SqL.of hm2, al, d, .str ab, rfl, dg, _, rfl, d, _, rfl, DGet.k (k := Sum.inr ab) e2, _, rfl, ?_⟩
    rw [val_rows]
    cases eb : up (prs.map (·.2)) ab with
    | none =>
      refine iteF ?_
      exact ⟨_, rfl, m, _, rfl, .inl (SqL.of hm2), _, _, rfl, rfl, fin fun z => up_none.mp eb z.1⟩
    | some b =>
      have hab : ab ∈ (prs.map (·.2)).map (·.1) := List.mem_map.mpr ⟨_, up_mem eb, rfl⟩
      refine iteT ⟨_, rfl, _, rfl, _, rfl, m, _, _, _, rfl, rfl, SqL.of hm2, al, d, .str ab, rfl, dg, _, rfl, m, _, rfl, .inl (SqL.of hm2), rfl, flat_strs _, _, rfl, ?_⟩
      rw [if_pos rfl, inV_strs]
      by_cases hmet : ab ∈ met
      · rw [decide_eq_true hmet]
        exact iteF ⟨_, rfl, m, _, rfl, .inl (SqL.of hm2), _, _, rfl, rfl, fin fun z => z.2 hmet⟩
      · rw [decide_eq_false hmet]
        have ow2 := ow.step eb hmet
        have hl2' := ow2.len
        rw [List.length_append, List.length_singleton] at hl2'
        refine iteT ⟨_, fun σ' H' q => q, _, rfl, .inl ⟨rfl, _, SqL.of hm2⟩, _, rfl, _, rfl, _, rfl, m, _, _, _, rfl, rfl, SqL.of hm2, al, d, .str ab, rfl, dg, m, _, _, rfl, rfl, hm2, (by rw [List.length_map]; exact small1000 (by omega)), ?_⟩
        refine ⟨(prs.map (·.2)).length - (met ++ [ab]).length, by rw [List.length_append, List.length_singleton]; omega, met ++ [ab], b, rfl, rfl, fun c o e => ?_, ?_, ow2⟩
        · rw [upd_ne (ne_of_none e hmn)]; exact s2 _ _ e
        · rw [upd_same, List.map_append]; rfl
end
inductive DE where
  | flat (xs : List Str)
  | deep (xss : List (List Str))
  | num (i : Int)
def deD : DE → PyData
  | .flat xs => .list (xs.map PyData.str)
  | .deep xss => .list (xss.map fun t => PyData.list (t.map PyData.str))
  | .num i => .int i
inductive DEOk (H : Hp) : V → DE → Prop
  | flat {l : Addr} {xs : List Str} (e : H l = some (.lst (xs.map V.str))) : DEOk H (.ref l) (.flat xs)
  | deep {l : Addr} {ls : List (Addr × List Str)} (e : ThrAt H l ls) : DEOk H (.ref l) (.deep (ls.map (·.2)))
  | num (i : Int) : DEOk H (.int i) (.num i)
inductive DEs (H : Hp) : List V → List DE → Prop
  | nil : DEs H [] []
  | cons {v : V} {e : DE} {vs : List V} {es : List DE} (h : DEOk H v e) (r : DEs H vs es) : DEs H (v :: vs) (e :: es)
theorem DEOk.mono {H H' : Hp} {v : V} {e : DE} (s : Same H H') (h : DEOk H v e) : DEOk H' v e := by
  cases h with
  | flat e => exact .flat (s _ _ e)
  | deep e => exact .deep ⟨s _ _ e.1, fun p hp => s _ _ (e.2 p hp)⟩
  | num i => exact .num i
theorem DEs.mono {H H' : Hp} (s : Same H H') : ∀ {vs : List V} {es : List DE}, DEs H vs es → DEs H' vs es
  | _, _, .nil => .nil
  | _, _, .cons h r => .cons (h.mono s) (DEs.mono s r)
theorem DEs.app {H : Hp} : ∀ {vs us : List V} {es fs : List DE}, DEs H vs es → DEs H us fs → DEs H (vs ++ us) (es ++ fs)
  | _, _, _, _, .nil, r => r
  | _, _, _, _, .cons h q, r => .cons h (DEs.app q r)
theorem DEs.len {H : Hp} : ∀ {vs : List V} {es : List DE}, DEs H vs es → vs.length = es.length
  | _, _, .nil => rfl
  | _, _, .cons _ r => congrArg (· + 1) (DEs.len r)
theorem DEOk.rd {K : PySem.W.Frag} {H : Hp} {v : V} {e : DE} (h : DEOk H v e) : RD K H v (deD e) := by
  cases h with
  | flat e => exact rd_strs (SqL.of e)
  | deep e => exact .lst (SqL.of e.1) (rds_lists e.2)
  | num i => exact .int i
theorem DEs.rd {K : PySem.W.Frag} {H : Hp} : ∀ {vs : List V} {es : List DE}, DEs H vs es → RDs K H vs (es.map deD)
  | _, _, .nil => .nil
  | _, _, .cons h r => .cons h.rd (DEs.rd r)
/-- lists of texts, none of them at D -/
inductive FLs (H : Hp) (D : Addr) : List V → List (List Str) → Prop
  | nil : FLs H D [] []
  | cons {l : Addr} {xs : List Str} {vs : List V} {xss : List (List Str)} (ne : l ≠ D) (e : H l = some (.lst (xs.map V.str))) (r : FLs H D vs xss) : FLs H D (.ref l :: vs) (xs :: xss)
theorem FLs.mono {H H' : Hp} {D : Addr} (s : ∀ c o, c ≠ D → H c = some o → H' c = some o) : ∀ {vs : List V} {xss : List (List Str)}, FLs H D vs xss → FLs H' D vs xss
  | _, _, .nil => .nil
  | _, _, .cons ne e r => .cons ne (s _ _ ne e) (FLs.mono s r)
theorem FLs.snoc {H : Hp} {D : Addr} {l : Addr} {xs : List Str} (ne : l ≠ D) (e : H l = some (.lst (xs.map V.str))) : ∀ {vs : List V} {xss : List (List Str)}, FLs H D vs xss → FLs H D (vs ++ [.ref l]) (xss ++ [xs])
  | _, _, .nil => .cons ne e .nil
  | _, _, .cons n1 e1 r => .cons n1 e1 (FLs.snoc ne e r)
theorem FLs.des {H : Hp} {D : Addr} : ∀ {vs : List V} {xss : List (List Str)}, FLs H D vs xss → DEs H vs (xss.map DE.flat)
  | _, _, .nil => .nil
  | _, _, .cons _ e r => .cons (.flat e) (FLs.des r)
theorem FLs.len {H : Hp} {D : Addr} : ∀ {vs : List V} {xss : List (List Str)}, FLs H D vs xss → vs.length = xss.length
  | _, _, .nil => rfl
  | _, _, .cons _ _ r => congrArg (· + 1) (FLs.len r)
noncomputable def esA (rows : Rows) : List DE := [.flat (sortS (rows.map (·.1))), .deep (thrAll rows (sortS (rows.map (·.1))))]
noncomputable def esB (rows : Rows) (srt : List Str) : List DE := srt.flatMap fun n => [.flat (thrOf rows n), .num (depthOf rows n)]
noncomputable def esC (rows : Rows) (pool : List Str) : List DE := (pool.map fun t => sortS (reps rows t)).map DE.flat
noncomputable def esOf (rows : Rows) (srt pool : List Str) : List DE := esA rows ++ esB rows srt ++ esC rows pool
theorem es_perm {rows rows' : Rows} (p : rows'.Perm rows) (nd : (rows.map (·.1)).Nodup) (srt pool : List Str) : esOf rows' srt pool = esOf rows srt pool := by
  unfold esOf esA esB esC
  have e1 : sortS (rows'.map (·.1)) = sortS (rows.map (·.1)) := sortS_congr (p.map _)
  have e2 : (fun n => [DE.flat (thrOf rows' n), .num (depthOf rows' n)]) = fun n => [DE.flat (thrOf rows n), .num (depthOf rows n)] := by
    funext n
    rw [thrOf_perm p nd, depth_perm p nd]
  have e3 : (fun t => sortS (reps rows' t)) = fun t => sortS (reps rows t) := by
    funext t
    exact sortS_congr (reps_perm p t)
  rw [e1, e2, e3, thrAll_perm p nd]
/-- the rows in order -/
def srtP (prs : List PRow) : List PRow := (idxT (prs.map fun q => [q.2.1, q.2.2])).map fun i => prs.getD i (0, "", "")
theorem srtP_mem {prs : List PRow} {q : PRow} (h : q ∈ srtP prs) : q ∈ prs := by
  obtain ⟨i, hi, rfl⟩ := List.mem_map.mp h
  have hl := idxT_lt hi
  rw [List.length_map] at hl
  rw [List.getD_eq_getElem?_getD, List.getElem?_eq_getElem hl]
  exact List.getElem_mem hl
theorem srtP_len (prs : List PRow) : (srtP prs).length = prs.length := by
  unfold srtP
  rw [List.length_map, idxT_len, List.length_map]
theorem tups_rows {H : Hp} : ∀ {prs : List PRow}, (∀ q ∈ prs, H q.1 = some (.tup [.str q.2.1, .str q.2.2])) → TupsH H (prs.map (·.1)) (prs.map fun q => [q.2.1, q.2.2])
  | [], _ => .nil
  | q :: prs, h => .cons (h q List.mem_cons_self) (fun z => nomatch z) (tups_rows fun r hr => h r (List.mem_cons_of_mem _ hr))
theorem sortR_go {K : PySem.W.Frag} {H : Hp} {r : Addr} {prs : List PRow} {Q : VK} (hR : RowsAt H r prs) (hl : prs.length < 64) (k : ∀ l H', H l = none → Same H H' → H' l = some (.lst ((srtP prs).map fun q => V.ref q.1)) → Q (.ref l) H') : rSortT_I K [.ref r] H Q := by
  refine ⟨r, prs.map (·.1), prs.map fun q => [q.2.1, q.2.2], rfl, ?_, tups_rows hR.2, by rw [List.length_map]; exact hl, fun l hn => k l _ hn (Same.upd_new hn) ?_⟩
  · rw [List.map_map]; exact SqL.of hR.1
  · rw [upd_same]
    have e : ∀ i ∈ idxT (prs.map fun q => [q.2.1, q.2.2]), (List.map V.ref (prs.map (·.1))).getD i .non = V.ref (prs.getD i (0, "", "")).1 := fun i hi => by
      have hi := idxT_lt hi
      rw [List.length_map] at hi
      rw [List.getD_eq_getElem?_getD, List.getD_eq_getElem?_getD, List.map_map, List.getElem?_map, List.getElem?_eq_getElem hi]
      rfl
    have e2 : (srtP prs).map (fun q => V.ref q.1) = (idxT (prs.map fun q => [q.2.1, q.2.2])).map fun i => V.ref (prs.getD i (0, "", "")).1 := List.map_map
    rw [e2]
    exact congrArg (fun z => some (HO.lst z)) (List.map_congr_left e)
theorem esB_len (rows : Rows) : ∀ srt : List Str, (esB rows srt).length = 2 * srt.length
  | [] => rfl
  | n :: srt => by
    have := esB_len rows srt
    have e : (esB rows (n :: srt)).length = (esB rows srt).length + 2 := rfl
    rw [e, this, List.length_cons]; omega
theorem esB_app (rows : Rows) (s1 : List Str) (n : Str) : esB rows (s1 ++ [n]) = esB rows s1 ++ [.flat (thrOf rows n), .num (depthOf rows n)] := by
  unfold esB
  rw [List.flatMap_append]
  rfl
inductive spTold_I (a : Adr) (vs : List V) (H : Hp) (Q : VK) : Prop
  | mk : ∀ (x r pl : Addr) (rows : Rows) (n : Nat) (prs : List PRow) (pool : List Str), vs = [.ref x, .ref r, .ref pl] → THs a H x rows n → NoE rows → RowsAt H r prs → prs.length ≤ 15 → (∀ q ∈ prs, q.2.1 ∈ rows.map (·.1)) → H pl = some (.lst (pool.map V.str)) → (∀ t ∈ pool, t ≠ "") → pool.length ≤ 20 →
    (∀ l us H', H' l = some (.lst us) → DEs H' us (esOf rows ((srtP prs).map (·.2.1)) pool) → Same H H' → Q (.ref l) H') → spTold_I a vs H Q
def spTold (a : Adr) : Sp := fun vs H Q _ => spTold_I a vs H Q
section
variable {P : Program} {w : World} {K : PySem.W.Frag} {mg : Str → Option Value} {base : Heap} {a : Adr}
theorem ok_told {fd : FuncData} (F : Fun K "_law_told" "_law_told" sl_told a.f_l_told fd) (T : Txt K mg a) (FF : Funs K a) : FnOk P w K mg base CX0 4 a.f_l_told fd ["_law_threads_here", "_law_rows", "_law_pool_here"] (spTold a) := by
  obtain ⟨fdN, F_n, b_Threads_names⟩ := FF.F_Threads_names
  obtain ⟨fdT, F_t, b_Threads_thread⟩ := FF.F_Threads_thread
  obtain ⟨fdU, F_u, b_Threads_threads⟩ := FF.F_Threads_threads
  obtain ⟨fdD, F_d, b_Threads_depth⟩ := FF.F_Threads_depth
  obtain ⟨fdA, F_a, b_Threads_answers_to⟩ := FF.F_Threads_answers_to
  have G_Threads_names : FnOk P w K mg base CX0 1 a.f_Threads_names fdN ["self"] (spNames a) := ok_names F_n T
  have G_Threads_thread : FnOk P w K mg base CX0 2 a.f_Threads_thread fdT ["self", "name"] (spThread a) := ok_thread F_t T FF
  have G_Threads_threads : FnOk P w K mg base CX0 3 a.f_Threads_threads fdU ["self"] (spThreads a) := ok_threads F_u T FF
  have G_Threads_depth : FnOk P w K mg base CX0 2 a.f_Threads_depth fdD ["self", "name"] (spDepth a) := ok_depth F_d T FF
  have G_Threads_answers_to : FnOk P w K mg base CX0 1 a.f_Threads_answers_to fdA ["self", "name"] (spAnsTo a) := ok_ansto F_a T
  refine F.ok sc_l_told (fun vs H Q E h => ?_) (fun cdv A outer s H vs Q E hr h => ?_)
  · obtain ⟨x, r, pl, rows, n, prs, pool, rfl, _⟩ := h; rfl
  · obtain ⟨x, r, pl, rows, n, prs, pool, rfl, hth, ne, hR, hpl, hin, hP, hpe, hpl2, k⟩ := h
    have hr_Threads_names : Room 1 _ := hr.mono (by decide)
    have hr_Threads_thread : Room 2 _ := hr.mono (by decide)
    have hr_Threads_threads : Room 3 _ := hr
    have hr_Threads_depth : Room 2 _ := hr.mono (by decide)
    have hr_Threads_answers_to : Room 1 _ := hr.mono (by decide)
    refine ⟨_, (pss_cons (ps_set (i := 3) sc_l_told.nd rfl (Or.inl rfl) (pe_lstS (pas_cons (pe_meth0 (pv 0) T.c_Threads T.M_Threads_names G_Threads_names hr_Threads_names b_Threads_names .nil pass0) (pas_cons (pe_meth0 (pv 0) T.c_Threads T.M_Threads_threads G_Threads_threads hr_Threads_threads b_Threads_threads .nil pass0) pas_nil))))
        (pss_cons (ps_for PassesOwn.never rfl (pi_list (pe_callB call_sortedT rfl T.b_sorted PyProof.Rows.boot_sorted (pac (pv 1) pa_nil))) (pg_name (i := 4) sc_l_told.nd rfl (Or.inl rfl)) (pss_one (ps_set (i := 3) sc_l_told.nd rfl (Or.inl rfl) (pe_op op_cat (pv 3) (pe_lstS (pas_cons (pe_meth (pv 0) T.c_Threads T.M_Threads_thread G_Threads_thread hr_Threads_thread b_Threads_thread .nil pass0 (pac (pe_ix ix_tup (pv 4) pe_int (fun _ _ => rfl)) pa_nil)) (pas_cons (pe_meth (pv 0) T.c_Threads T.M_Threads_depth G_Threads_depth hr_Threads_depth b_Threads_depth .nil pass0 (pac (pe_ix ix_tup (pv 4) pe_int (fun _ _ => rfl)) pa_nil)) pas_nil)))))))
        (pss_one (ps_ret (pe_op op_cat (pv 3) (pe_comp (sc := defScope sl_told) (N := n_l_told) (fr := [(0, "_law_threads_here")]) ⟨rfl, rfl, by decide +kernel, by decide +kernel, by decide +kernel, by decide +kernel, by decide +kernel⟩ rfl rfl rfl (pi_list (pv 2)) (fun _ _ _ _ => pts_nil) (fun _ _ _ _ => (pe_meth (pv 1) T.c_Threads T.M_Threads_answers_to G_Threads_answers_to hr_Threads_answers_to b_Threads_answers_to .nil pass0 (pac (pv 0) pa_nil))))))))), ?_⟩
    obtain ⟨dx, L, R, kr, th, hl1, hl2⟩ := id hth
    have thk : ∀ {H1 : Hp}, Same H H1 → THs a H1 x rows n := fun s => hth.kp2 s.kp2
    refine ⟨_, rfl, x, dx, _, rfl, th.obj, rfl, x, rows, n, rfl, hth, fun l1 H1 hl1' s1 e1 => ?_⟩
    refine ⟨_, rfl, x, dx, _, rfl, s1 _ _ th.obj, rfl, x, rows, n, rfl, thk s1, ne, fun l2 H2 ls hl2' s2 hn2 eL tA => ⟨(by show 2 ≤ sizeLine; decide), fun f hf => ?_⟩⟩
    have s3 : Same H2 (upd H2 f (.lst [.ref l1, .ref l2])) := Same.upd_new hf
    have e3 : (upd H2 f (.lst [.ref l1, .ref l2])) f = some (.lst [.ref l1, .ref l2]) := upd_same
    have d3 : DEs (upd H2 f (.lst [.ref l1, .ref l2])) [.ref l1, .ref l2] (esA rows) := by
      have : DEOk H2 (.ref l2) (.deep (ls.map (·.2))) := .deep tA
      rw [eL] at this
      exact .cons (.flat (s3 _ _ (s2 _ _ e1))) (.cons (this.mono s3) .nil)
    have s03 := s1.trans (s2.trans s3)
    generalize upd H2 f (.lst [.ref l1, .ref l2]) = H3 at s3 e3 d3 s03 ⊢
    refine ⟨_, rfl, sortR_go (hR.same s03) (by omega) fun sl H4 hsl s4 e4 => ?_⟩
    have s04 := s03.trans s4
    refine ⟨sl, rfl, ⟨_, SqL.of e4⟩, for_list (K := K) (xs := (srtP prs).map fun q => V.ref q.1) (fun i σ G => ∃ (o4 : Option V) (g : Addr) (us : List V), σ = [some (.ref x), some (.ref r), some (.ref pl), some (.ref g), o4] ∧ Same H4 G ∧ G g = some (.lst us) ∧ DEs G us (esA rows ++ esB rows (((srtP prs).take i).map (·.2.1)))) ⟨none, f, _, rfl, Same.refl _, s4 _ _ e3, ?_⟩ ?_ ?_ ?_⟩
    · have : esB rows (((srtP prs).take 0).map (·.2.1)) = [] := rfl
      rw [this, List.append_nil]
      exact d3.mono s4
    · rintro i σ G _ ⟨o4, g, us, rfl, sG, _, _⟩
      exact SqL.of (sG _ _ e4)
    · rintro i v σ G hv ⟨o4, g, us, rfl, sG, eg, dG⟩
      rw [List.getElem?_map] at hv
      cases hq : (srtP prs)[i]? with
      | none => rw [hq] at hv; cases hv
      | some q =>
        rw [hq] at hv
        cases hv
        have hlt : i < (srtP prs).length := (List.getElem?_eq_some_iff.mp hq).1
        have hqm := srtP_mem (List.mem_of_getElem? hq)
        have sl0 := srtP_len prs
        have s0G := s04.trans sG
        have eq := s0G _ _ (hR.2 q hqm)
        have hnm := hin q hqm
        refine ⟨_, rfl, _, rfl, x, dx, _, rfl, s0G _ _ th.obj, rfl, _, rfl, q.1, _, _, _, rfl, rfl, SqT.of eq, rfl, x, rows, n, q.2.1, rfl, thk s0G, ne, hnm, fun l5 H5 hl5 s5 e5 => ?_⟩
        have s05 := s0G.trans s5
        refine ⟨_, rfl, x, dx, _, rfl, s05 _ _ th.obj, rfl, _, rfl, q.1, _, _, _, rfl, rfl, SqT.of (s5 _ _ eq), rfl, x, rows, n, q.2.1, rfl, thk s05, hnm, fun H6 s6 => ⟨(by show 2 ≤ sizeLine; decide), fun l7 hl7 => ?_⟩⟩
        have s7 : Same H6 (upd H6 l7 (.lst [.ref l5, .int (depthOf rows q.2.1)])) := Same.upd_new hl7
        have e7 : (upd H6 l7 (.lst [.ref l5, .int (depthOf rows q.2.1)])) l7 = some (.lst [.ref l5, .int (depthOf rows q.2.1)]) := upd_same
        have sG7 := s5.trans (s6.trans s7)
        have e57 := s7 _ _ (s6 _ _ e5)
        generalize upd H6 l7 (.lst [.ref l5, .int (depthOf rows q.2.1)]) = H7 at s7 e7 sG7 e57 ⊢
        have ul : us.length ≤ 100 := by
          have := dG.len
          have e2 : (esA rows ++ esB rows (((srtP prs).take i).map (·.2.1))).length = 2 + 2 * ((srtP prs).take i).length := by
            rw [List.length_append, esB_len, List.length_map]; rfl
          rw [e2, List.length_take] at this
          omega
        refine ⟨g, l7, _, _, rfl, rfl, sG7 _ _ eg, e7, (by show us.length + 2 ≤ sizeLine; exact Nat.le_of_lt (small1000 (by omega))), fun g2 hg2 => ?_⟩
        have s8 : Same H7 (upd H7 g2 (.lst (us ++ [.ref l5, .int (depthOf rows q.2.1)]))) := Same.upd_new hg2
        refine ⟨_, g2, _, rfl, sG.trans (sG7.trans s8), upd_same, ?_⟩
        rw [List.take_succ_eq_append_getElem hlt, List.map_append]
        have eqq : (srtP prs)[i] = q := (List.getElem?_eq_some_iff.mp hq).2
        rw [eqq, List.map_singleton, esB_app, ← List.append_assoc]
        exact ((dG.mono sG7).mono s8).app (.cons (.flat (s8 _ _ e57)) (.cons (.num _) .nil))
    · rintro σ G ⟨o4, g, us, rfl, sG, eg, dG⟩
      rw [List.length_map, List.take_length] at dG
      have s0G := s04.trans sG
      have eP := s0G _ _ hP
      refine ⟨_, rfl, _, rfl, pl, rfl, ⟨_, SqL.of eP⟩, comp_listH (K := K) (xs := pool.map V.str) (fun D i ys H2 => FLs H2 D ys ((pool.take i).map fun t => sortS (reps rows t)) ∧ ys.length = i) (by rw [List.length_map]; exact Nat.le_of_lt (small1000 (by omega))) (SqL.of eP) (fun D hD => ⟨.nil, rfl⟩) (fun D i ys H2 h => h.2) ?_ ?_⟩
      · intro D i v ys H5 Q' hv hD ⟨fl, yl⟩ eD s5 q'
        rw [List.getElem?_map] at hv
        cases ht : pool[i]? with
        | none => rw [ht] at hv; cases hv
        | some t =>
          rw [ht] at hv
          cases hv
          have hlt : i < pool.length := (List.getElem?_eq_some_iff.mp ht).1
          have ett : pool[i] = t := (List.getElem?_eq_some_iff.mp ht).2
          have s05 := s0G.trans s5
          refine ⟨_, rfl, x, dx, _, rfl, s05 _ _ th.obj, rfl, _, rfl, x, rows, n, t, rfl, thk s05, hpe t (List.mem_of_getElem? ht), fun l6 H6 hl6 s6 e6 => ?_⟩
          have nD : l6 ≠ D := fun z => by rw [z, eD] at hl6; cases hl6
          refine q' _ H6 s6 ⟨?_, by rw [List.length_append, yl]; rfl⟩
          rw [List.take_succ_eq_append_getElem hlt, List.map_append, ett]
          have up : ∀ c o, c ≠ D → H5 c = some o → (upd H6 D (.lst (ys ++ [.ref l6]))) c = some o := fun c o ne e => by rw [upd_ne ne]; exact s6 _ _ e
          exact (fl.mono up).snoc nD (by rw [upd_ne nD]; exact e6)
      · intro D ys H5 hD ⟨fl, yl⟩ s5 eD
        rw [List.length_map, List.take_length] at fl
        have ul : us.length ≤ 100 := by
          have := dG.len
          rw [List.length_append, esB_len, List.length_map, srtP_len] at this
          have e2 : (esA rows).length = 2 := rfl
          omega
        have yl2 : ys.length ≤ 20 := by rw [yl, List.length_map]; exact hpl2
        refine ⟨g, D, _, _, rfl, rfl, s5 _ _ eg, eD, Nat.le_of_lt (small1000 (by omega)), fun l9 hl9 => ?_⟩
        have s9 : Same H5 (upd H5 l9 (.lst (us ++ ys))) := Same.upd_new hl9
        exact k l9 _ _ upd_same (((dG.mono (s5.trans s9))).app (fl.des.mono s9)) (s0G.trans (s5.trans s9))
end
abbrev scI : Scope := { kind := .function, names := [(".0", .local), ("_law_name", .cell), ("sorted", .globalImplicit), ("_law_rows", .cell)], isGenerator := false, isCoroutine := false }
inductive spDue_I (vs : List V) (H : Hp) (Q : VK) : Prop
  | mk : ∀ (r pl : Addr) (prs : List PRow) (pool : List Str), vs = [.ref r, .ref pl] → RowsAt H r prs → AscR prs → prs.length ≤ 15 → (prs.map (·.2.1)).Nodup → NoE (prs.map (·.2)) → H pl = some (.lst (pool.map V.str)) → pool.length ≤ 20 →
    (∀ l us H', H' l = some (.lst us) → DEs H' us (esOf (prs.map (·.2)) ((srtP prs).map (·.2.1)) pool) → Same H H' → Q (.ref l) H') → spDue_I vs H Q
def spDue : Sp := fun vs H Q _ => spDue_I vs H Q
section
variable {P : Program} {w : World} {K : PySem.W.Frag} {mg : Str → Option Value} {base : Heap} {a : Adr}
theorem ok_due {fd : FuncData} (F : Fun K "_law_due" "_law_due" sl_due a.f_l_due fd) (T : Txt K mg a) (FF : Funs K a) : FnOk P w K mg base CX0 4 a.f_l_due fd ["_law_rows", "_law_pool_here"] spDue := by
  obtain ⟨fdA, F_l_thread, b_l_thread⟩ := FF.F_l_thread
  obtain ⟨fdB, F_l_threads, b_l_threads⟩ := FF.F_l_threads
  obtain ⟨fdD, F_l_deep, b_l_deep⟩ := FF.F_l_deep
  have G_l_thread : FnOk P w K mg base CX0 2 a.f_l_thread fdA ["_law_rows", "_law_name"] spLThread := ok_lthread F_l_thread T FF
  have G_l_threads : FnOk P w K mg base CX0 3 a.f_l_threads fdB ["_law_rows"] spLThreads := ok_lthreads F_l_threads T FF
  have G_l_deep : FnOk P w K mg base CX0 1 a.f_l_deep fdD ["_law_rows", "_law_name"] spDeepN := ok_deepN F_l_deep T
  refine F.ok sc_l_due (fun vs H Q E h => ?_) (fun cdv A outer s H vs Q E hr h => ?_)
  · obtain ⟨r, pl, prs, pool, rfl, _⟩ := h; rfl
  · obtain ⟨r, pl, prs, pool, rfl, hR, hA, hpl, nd, ne, hP, hpl2, k⟩ := h
    have hr_l_thread : Room 2 _ := hr.mono (by decide)
    have hr_l_threads : Room 3 _ := hr
    have hr_l_deep : Room 1 _ := hr.mono (by decide)
    refine ⟨_, (pss_cons (ps_set (i := 2) sc_l_due.nd rfl (Or.inl rfl) (pe_lstS (pas_cons (pe_callB call_sorted rfl T.b_sorted PyProof.Rows.boot_sorted (pac (pe_comp (sc := defScope sl_due) (N := n_l_due) (fr := []) ⟨rfl, rfl, by decide +kernel, by decide +kernel, by decide +kernel, by decide +kernel, by decide +kernel⟩ rfl rfl rfl (pi_list (pv 0)) (fun _ _ _ _ => pts_nil) (fun _ _ _ _ => (pe_ix (ix_tupK K) (pv 0) pe_int (fun _ _ => rfl)))) pa_nil)) (pas_cons (pe_call G_l_threads hr_l_threads rfl T.m_l_threads F_l_threads.kp b_l_threads .nil pass0 (pac (pv 0) pa_nil)) pas_nil))))
        (pss_cons (ps_for PassesOwn.never rfl (pi_list (pe_callB call_sortedT rfl T.b_sorted PyProof.Rows.boot_sorted (pac (pv 0) pa_nil))) (pg_name (i := 3) sc_l_due.nd rfl (Or.inl rfl)) (pss_one (ps_set (i := 2) sc_l_due.nd rfl (Or.inl rfl) (pe_op op_cat (pv 2) (pe_lstS (pas_cons (pe_call G_l_thread hr_l_thread rfl T.m_l_thread F_l_thread.kp b_l_thread .nil pass0 (pac (pv 0) (pac (pe_ix ix_tup (pv 3) pe_int (fun _ _ => rfl)) pa_nil))) (pas_cons (pe_call G_l_deep hr_l_deep rfl T.m_l_deep F_l_deep.kp b_l_deep .nil pass0 (pac (pv 0) (pac (pe_ix ix_tup (pv 3) pe_int (fun _ _ => rfl)) pa_nil))) pas_nil)))))))
        (pss_one (ps_ret (pe_op op_cat (pv 2) (pe_compC (sc := defScope sl_due) (N := n_l_due) (fr := [(0, "_law_rows")]) ⟨rfl, rfl, by decide +kernel, .next (by decide) (.here (by decide +kernel)), by decide +kernel, by decide +kernel, by decide +kernel⟩ rfl rfl rfl (pi_list (pv 1)) (fun _ _ _ _ => pts_nil) (fun _ _ _ _ => (pe_callB (call_sortedK K) rfl T.b_sorted PyProof.Rows.boot_sorted (pac (pe_comp (sc := scI) (fr := [(0, "_law_name")]) (N := ["_law_name", "_law_rows"]) ⟨rfl, rfl, by decide +kernel, by decide +kernel, by decide +kernel, by decide +kernel, by decide +kernel⟩ rfl rfl rfl (pi_listK K (pv 1)) (fun _ _ _ _ => pts_one (pt_cmpR op_eq (pe_ix (ix_tupK K) (pv 0) pe_int (fun _ _ => rfl)) (pv 1) (nomark _))) (fun _ _ _ _ => (pe_ix (ix_tupK K) (pv 0) pe_int (fun _ _ => rfl)))) pa_nil))))))))), ?_⟩
    have hsm : ∀ m : Nat, m ≤ 40 → m ≤ sizeLine := fun m h => Nat.le_of_lt (small1000 (by omega))
    have enm : (prs.map (·.2)).map (·.1) = prs.map (·.2.1) := by rw [List.map_map]; rfl
    have em : ∀ l : List PRow, (l.map fun q => V.str q.2.1) = (l.map (·.2.1)).map V.str := fun l => by rw [List.map_map]; rfl
    refine ⟨_, rfl, r, rfl, ⟨_, SqL.of hR.1⟩, comp_listM (K := K) (xs := prs) (fun q => V.ref q.1) (fun q => V.str q.2.1) (hsm _ (by omega)) (SqL.of hR.1) ?_ ?_⟩
    · intro z H3 Q' hz s3 q'
      exact ⟨_, rfl, z.1, _, _, _, rfl, rfl, SqT.of (s3 _ _ (hR.2 z hz)), rfl, q'⟩
    intro D hD
    rw [em]
    have s1 : Same H (upd H D (.lst ((prs.map (·.2.1)).map V.str))) := Same.upd_new hD
    have e1 : (upd H D (.lst ((prs.map (·.2.1)).map V.str))) D = some (.lst ((prs.map (·.2.1)).map V.str)) := upd_same
    generalize upd H D (.lst ((prs.map (·.2.1)).map V.str)) = H1 at s1 e1 ⊢
    refine ⟨D, _, rfl, SqL.of e1, by rw [List.length_map]; omega, fun l1 hl1 => ?_⟩
    have s2 : Same H1 (upd H1 l1 (.lst ((sortS (prs.map (·.2.1))).map V.str))) := Same.upd_new hl1
    have e2 : (upd H1 l1 (.lst ((sortS (prs.map (·.2.1))).map V.str))) l1 = some (.lst ((sortS (prs.map (·.2.1))).map V.str)) := upd_same
    have s02 := s1.trans s2
    generalize upd H1 l1 (.lst ((sortS (prs.map (·.2.1))).map V.str)) = H2 at s2 e2 s02 ⊢
    refine ⟨_, rfl, r, prs, rfl, hR.same s02, hA, by omega, nd, ne, fun l2 H3 ls hl2 s3 hn3 eL tA => ⟨(by show 2 ≤ sizeLine; decide), fun f hf => ?_⟩⟩
    have s4 : Same H3 (upd H3 f (.lst [.ref l1, .ref l2])) := Same.upd_new hf
    have e4 : (upd H3 f (.lst [.ref l1, .ref l2])) f = some (.lst [.ref l1, .ref l2]) := upd_same
    have d4 : DEs (upd H3 f (.lst [.ref l1, .ref l2])) [.ref l1, .ref l2] (esA (prs.map (·.2))) := by
      have h2 : DEOk H3 (.ref l2) (.deep (ls.map (·.2))) := .deep tA
      rw [eL] at h2
      have h1 : DEOk H2 (.ref l1) (.flat (sortS (prs.map (·.2.1)))) := .flat e2
      unfold esA
      rw [enm]
      exact .cons (h1.mono (s3.trans s4)) (.cons (h2.mono s4) .nil)
    have s04 := s02.trans (s3.trans s4)
    generalize upd H3 f (.lst [.ref l1, .ref l2]) = H4 at s4 e4 d4 s04 ⊢
    refine ⟨_, rfl, sortR_go (hR.same s04) (by omega) fun sl H5 hsl s5 e5 => ?_⟩
    have s05 := s04.trans s5
    refine ⟨sl, rfl, ⟨_, SqL.of e5⟩, for_list (K := K) (xs := (srtP prs).map fun q => V.ref q.1) (fun i σ G => ∃ (o3 : Option V) (g : Addr) (us : List V), σ = [some (.ref r), some (.ref pl), some (.ref g), o3] ∧ Same H5 G ∧ G g = some (.lst us) ∧ DEs G us (esA (prs.map (·.2)) ++ esB (prs.map (·.2)) (((srtP prs).take i).map (·.2.1)))) ⟨none, f, _, rfl, Same.refl _, s5 _ _ e4, ?_⟩ ?_ ?_ ?_⟩
    · have : esB (prs.map (·.2)) (((srtP prs).take 0).map (·.2.1)) = [] := rfl
      rw [this, List.append_nil]
      exact d4.mono s5
    · rintro i σ G _ ⟨o3, g, us, rfl, sG, _, _⟩
      exact SqL.of (sG _ _ e5)
    · rintro i v σ G hv ⟨o3, g, us, rfl, sG, eg, dG⟩
      rw [List.getElem?_map] at hv
      cases hq : (srtP prs)[i]? with
      | none => rw [hq] at hv; cases hv
      | some q =>
        rw [hq] at hv
        cases hv
        have hlt : i < (srtP prs).length := (List.getElem?_eq_some_iff.mp hq).1
        have hqm := srtP_mem (List.mem_of_getElem? hq)
        have sl0 := srtP_len prs
        have s0G := s05.trans sG
        have eq := s0G _ _ (hR.2 q hqm)
        have hnm : q.2.1 ∈ prs.map (·.2.1) := List.mem_map.mpr ⟨q, hqm, rfl⟩
        refine ⟨_, rfl, _, rfl, _, rfl, q.1, _, _, _, rfl, rfl, SqT.of eq, rfl, r, prs, q.2.1, rfl, hR.same s0G, hA, by omega, nd, ne, hnm, fun l6 H6 hl6 s6 e6 => ?_⟩
        have s06 := s0G.trans s6
        refine ⟨_, rfl, _, rfl, q.1, _, _, _, rfl, rfl, SqT.of (s6 _ _ eq), rfl, r, prs, q.2.1, rfl, hR.same s06, by omega, nd, (by rw [enm]; exact hnm), fun H7 s7 => ⟨(by show 2 ≤ sizeLine; decide), fun l8 hl8 => ?_⟩⟩
        have s8 : Same H7 (upd H7 l8 (.lst [.ref l6, .int (depthOf (prs.map (·.2)) q.2.1)])) := Same.upd_new hl8
        have e8 : (upd H7 l8 (.lst [.ref l6, .int (depthOf (prs.map (·.2)) q.2.1)])) l8 = some (.lst [.ref l6, .int (depthOf (prs.map (·.2)) q.2.1)]) := upd_same
        have sG8 := s6.trans (s7.trans s8)
        have e68 := s8 _ _ (s7 _ _ e6)
        generalize upd H7 l8 (.lst [.ref l6, .int (depthOf (prs.map (·.2)) q.2.1)]) = H8 at s8 e8 sG8 e68 ⊢
        have ul : us.length ≤ 100 := by
          have := dG.len
          have e2 : (esA (prs.map (·.2)) ++ esB (prs.map (·.2)) (((srtP prs).take i).map (·.2.1))).length = 2 + 2 * ((srtP prs).take i).length := by
            rw [List.length_append, esB_len, List.length_map]; rfl
          rw [e2, List.length_take] at this
          omega
        refine ⟨g, l8, _, _, rfl, rfl, sG8 _ _ eg, e8, (by show us.length + 2 ≤ sizeLine; exact Nat.le_of_lt (small1000 (by omega))), fun g2 hg2 => ?_⟩
        have s9 : Same H8 (upd H8 g2 (.lst (us ++ [.ref l6, .int (depthOf (prs.map (·.2)) q.2.1)]))) := Same.upd_new hg2
        refine ⟨_, g2, _, rfl, sG.trans (sG8.trans s9), upd_same, ?_⟩
        rw [List.take_succ_eq_append_getElem hlt, List.map_append]
        have eqq : (srtP prs)[i] = q := (List.getElem?_eq_some_iff.mp hq).2
        rw [eqq, List.map_singleton, esB_app, ← List.append_assoc]
        exact ((dG.mono sG8).mono s9).app (.cons (.flat (s9 _ _ e68)) (.cons (.num _) .nil))
    · rintro σ G ⟨o3, g, us, rfl, sG, eg, dG⟩
      rw [List.length_map, List.take_length] at dG
      have s0G := s05.trans sG
      have eP := s0G _ _ hP
      have hRG := hR.same s0G
      refine ⟨_, rfl, _, rfl, pl, rfl, ⟨_, SqL.of eP⟩, comp_listH (K := K) (xs := pool.map V.str) (fun D i ys H2 => FLs H2 D ys ((pool.take i).map fun t => sortS (reps (prs.map (·.2)) t)) ∧ ys.length = i) (by rw [List.length_map]; exact Nat.le_of_lt (small1000 (by omega))) (SqL.of eP) (fun D hD => ⟨.nil, rfl⟩) (fun D i ys H2 h => h.2) ?_ ?_⟩
      · intro D i v ys H6 Q' hv hD ⟨fl, yl⟩ eD s6 q'
        rw [List.getElem?_map] at hv
        cases ht : pool[i]? with
        | none => rw [ht] at hv; cases hv
        | some t =>
          rw [ht] at hv
          cases hv
          have hlt : i < pool.length := (List.getElem?_eq_some_iff.mp ht).1
          have ett : pool[i] = t := (List.getElem?_eq_some_iff.mp ht).2
          have hR6 := hRG.same s6
          refine ⟨_, rfl, r, rfl, ⟨_, SqL.of hR6.1⟩, comp_listFM (K := K) (xs := prs) (fun q => V.ref q.1) (fun q => decide (q.2.2 = t)) (fun q => V.str q.2.1) (hsm _ (by omega)) (SqL.of hR6.1) ?_ ?_ ?_⟩
          · intro q H7 Q7 hq s7 q7
            refine ⟨_, rfl, q.1, _, _, _, rfl, rfl, SqT.of (s7 _ _ (hR6.2 q hq)), rfl, _, rfl, rfl, _, rfl, ?_⟩
            rw [dec_str]
            exact q7
          · intro q H7 Q7 hq s7 _ q7
            exact ⟨_, rfl, q.1, _, _, _, rfl, rfl, SqT.of (s7 _ _ (hR6.2 q hq)), rfl, q7⟩
          · intro D2 hD2
            have er : ((prs.filter fun q => decide (q.2.2 = t)).map fun q => V.str q.2.1) = (reps (prs.map (·.2)) t).map V.str := by
              unfold reps
              rw [List.filter_map, List.map_map, List.map_map]; rfl
            rw [er]
            have rl : (reps (prs.map (·.2)) t).length ≤ 15 := by
              unfold reps
              rw [List.length_map]
              have := List.length_filter_le (fun r : Str × Str => decide (r.2 = t)) (prs.map (·.2))
              rw [List.length_map] at this
              omega
            have s7 : Same H6 (upd H6 D2 (.lst ((reps (prs.map (·.2)) t).map V.str))) := Same.upd_new hD2
            have e7 : (upd H6 D2 (.lst ((reps (prs.map (·.2)) t).map V.str))) D2 = some (.lst ((reps (prs.map (·.2)) t).map V.str)) := upd_same
            generalize upd H6 D2 (.lst ((reps (prs.map (·.2)) t).map V.str)) = H7 at s7 e7 ⊢
            refine ⟨D2, _, rfl, SqL.of e7, by omega, fun l8 hl8 => ?_⟩
            have s8 : Same H7 (upd H7 l8 (.lst ((sortS (reps (prs.map (·.2)) t)).map V.str))) := Same.upd_new hl8
            have e8 : (upd H7 l8 (.lst ((sortS (reps (prs.map (·.2)) t)).map V.str))) l8 = some (.lst ((sortS (reps (prs.map (·.2)) t)).map V.str)) := upd_same
            have s68 := s7.trans s8
            have nD : l8 ≠ D := fun z => by have := s7 _ _ eD; rw [z, this] at hl8; cases hl8
            generalize upd H7 l8 (.lst ((sortS (reps (prs.map (·.2)) t)).map V.str)) = H8 at s8 e8 s68 ⊢
            refine q' _ H8 s68 ⟨?_, by rw [List.length_append, yl]; rfl⟩
            rw [List.take_succ_eq_append_getElem hlt, List.map_append, ett]
            have up : ∀ c o, c ≠ D → H6 c = some o → (upd H8 D (.lst (ys ++ [.ref l8]))) c = some o := fun c o ne e => by rw [upd_ne ne]; exact s68 _ _ e
            exact (fl.mono up).snoc nD (by rw [upd_ne nD]; exact e8)
      · intro D ys H6 hD ⟨fl, yl⟩ s6 eD
        rw [List.length_map, List.take_length] at fl
        have ul : us.length ≤ 100 := by
          have := dG.len
          rw [List.length_append, esB_len, List.length_map, srtP_len] at this
          have e2 : (esA (prs.map (·.2))).length = 2 := rfl
          omega
        have yl2 : ys.length ≤ 20 := by rw [yl, List.length_map]; exact hpl2
        refine ⟨g, D, _, _, rfl, rfl, s6 _ _ eg, eD, Nat.le_of_lt (small1000 (by omega)), fun l9 hl9 => ?_⟩
        have s9 : Same H6 (upd H6 l9 (.lst (us ++ ys))) := Same.upd_new hl9
        exact k l9 _ _ upd_same (((dG.mono (s6.trans s9))).app (fl.des.mono s9)) (s0G.trans (s6.trans s9))
end
structure THo (B : Hp) (L R : Addr) (kr : List (Key × V)) : Prop where
  hL : B L = none
  hR : B R = none
  hd : ∀ (t : Str) (d : Addr), valV kr (Sum.inr t) = some (.ref d) → B d = none
inductive THf (a : Adr) (B H : Hp) (x : Addr) (rows : Rows) (n : Nat) : Prop
  | mk : ∀ (dx L R : Addr) (kr : List (Key × V)), TH a H x dx L R rows kr → rows.length ≤ n → kr.length ≤ n → THo B L R kr → Same B H → THf a B H x rows n
theorem THf.ths {a : Adr} {B H : Hp} {x : Addr} {rows : Rows} {n : Nat} (h : THf a B H x rows n) : THs a H x rows n := let ⟨dx, L, R, kr, th, h1, h2, _, _⟩ := h; ⟨dx, L, R, kr, th, h1, h2⟩
theorem THf.same {a : Adr} {B H : Hp} {x : Addr} {rows : Rows} {n : Nat} (h : THf a B H x rows n) : Same B H := let ⟨_, _, _, _, _, _, _, _, s⟩ := h; s
theorem THf.of {a : Adr} {B H H' : Hp} {x : Addr} {rows : Rows} {n : Nat} (h : THf a B H x rows n) (s : Same H H') : THf a B H' x rows n := let ⟨dx, L, R, kr, th, h1, h2, oo, sB⟩ := h; ⟨dx, L, R, kr, th.kp2 s.kp2, h1, h2, oo, sB.trans s⟩
inductive spTInitF_I (a : Adr) (vs : List V) (H : Hp) (Q : VK) : Prop
  | mk : ∀ (B : Hp) (x dx : Addr), vs = [.ref x] → H x = some (.ins a.C_Threads dx []) → (∀ c o, B c = some o → H c = some o ∧ c ≠ x) → (∀ H', THf a B H' x [] 0 → Q .non H') → spTInitF_I a vs H Q
def spTInitF (a : Adr) : Sp := fun vs H Q _ => spTInitF_I a vs H Q
inductive spAddF_I (a : Adr) (vs : List V) (H : Hp) (Q : VK) : Prop
  | mk : ∀ (B : Hp) (x : Addr) (rows : Rows) (n : Nat) (nm an : Str), vs = [.ref x, .str nm, .str an] → THf a B H x rows n → n < 40 → up rows nm = none → (∀ H', THf a B H' x (rows ++ [(nm, an)]) (n + 1) → Kp1 H H' → Q .non H') → spAddF_I a vs H Q
def spAddF (a : Adr) : Sp := fun vs H Q _ => spAddF_I a vs H Q
inductive spTakeF_I (a : Adr) (vs : List V) (H : Hp) (Q : VK) : Prop
  | mk : ∀ (B : Hp) (x : Addr) (rows : Rows) (n : Nat) (nm : Str), vs = [.ref x, .str nm] → THf a B H x rows n → nm ∈ rows.map (·.1) → (∀ H', THf a B H' x (without rows nm) n → Kp1 H H' → Q .non H') → spTakeF_I a vs H Q
def spTakeF (a : Adr) : Sp := fun vs H Q _ => spTakeF_I a vs H Q
section
variable {P : Program} {w : World} {K : PySem.W.Frag} {mg : Str → Option Value} {base : Heap} {a : Adr}
theorem ok_tinitF {fd : FuncData} (F : Fun K "__init__" "Threads.__init__" sThreads_init a.f_Threads_init fd) (T : Txt K mg a) : FnOk P w K mg base CX0 1 a.f_Threads_init fd ["self"] (spTInitF a) := by
  refine F.ok sc_Threads_init (fun vs H Q E h => ?_) (fun cdv A outer st H vs Q E hr h => ?_)
  · obtain ⟨B, x, dx, rfl, _⟩ := h; rfl
  · obtain ⟨B, x, dx, rfl, hx, hB, k⟩ := h
    refine ⟨_, (pss_cons (ps_fld (pv 0) pe_dnewK rfl)
        (pss_one (ps_fld (pv 0) pe_dnewK rfl))), ?_⟩
    intro L hL
    have ne1 : x ≠ L := ne_of_none hx hL
    refine ⟨_, rfl, x, _, dx, _, rfl, (by rw [upd_ne ne1]; exact hx), T.c_Threads, T.n_Threads_links, by decide, ?_⟩
    intro R hR
    have hx1 : (upd (upd H L (.dK [])) x (.ins a.C_Threads dx (putF "links" (.ref L) []))) x = some (.ins a.C_Threads dx (putF "links" (.ref L) [])) := upd_same
    have hL1 : (upd (upd H L (.dK [])) x (.ins a.C_Threads dx (putF "links" (.ref L) []))) L = some (.dK []) := by rw [upd_ne ne1.symm]; exact upd_same
    have ne2 : x ≠ R := ne_of_none hx1 hR
    have ne3 : L ≠ R := ne_of_none hL1 hR
    refine ⟨_, rfl, x, _, dx, _, rfl, (by rw [upd_ne ne2]; exact hx1), T.c_Threads, T.n_Threads_replies, (by show 1 < 1000; decide), ?_⟩
    refine k _ ⟨dx, L, R, [], ⟨upd_same, ?_, ?_, ne3, by simp, by decide, by decide, fun t v z => (by cases z), fun _ _ _ => rfl, rfl, fun _ _ _ z => (by cases z)⟩, Nat.le_refl _, Nat.le_refl _, ⟨?_, ?_, fun t d z => (by cases z)⟩, fun c o e => ?_⟩
    · rw [upd_ne ne1.symm, upd_ne ne3, upd_ne ne1.symm]; exact upd_same
    · rw [upd_ne ne2.symm]; exact upd_same
    · cases q : B L with
      | none => rfl
      | some o => have := (hB L o q).1; rw [hL] at this; cases this
    · cases q : B R with
      | none => rfl
      | some o =>
        obtain ⟨h1, h2⟩ := hB R o q
        rw [upd_ne h2, upd_ne ne3.symm, h1] at hR
        cases hR
    · obtain ⟨h1, ne⟩ := hB c o e
      rw [upd_ne ne, upd_ne (ne_of_none (by rw [upd_ne ne, upd_ne (ne_of_none h1 hL)]; exact h1) hR), upd_ne ne, upd_ne (ne_of_none h1 hL)]
      exact h1
theorem ok_addF {fd : FuncData} (F : FunD K "add" "Threads.add" sThreads_add a.f_Threads_add fd) (T : Txt K mg a) (FF : Funs K a) : FnOk P w K mg base CX0 2 a.f_Threads_add fd ["self", "name", "answers"] (spAddF a) := by
  obtain ⟨fdC, F_check_new, b_check_new⟩ := FF.F_check_new
  have G_check_new : FnOk P w K mg base CX0 1 a.f_check_new fdC ["name", "there"] spNewD := ok_new F_check_new T
  refine F.ok sc_Threads_add (fun vs H Q E h => ?_) (fun cdv A outer st H vs Q E hr h => ?_)
  · obtain ⟨B, x, rows, n, nm, an, rfl, _⟩ := h; rfl
  · obtain ⟨B, x, rows, n, nm, an, rfl, ⟨dx, L, R, kr, th, hl1, hl2, oo, sB⟩, hn40, hn, k⟩ := h
    have hu := hu_of hr
    have hr_check_new : Room 1 _ := hr
    refine ⟨_, (pss_cons (ps_expr (pe_call G_check_new hr_check_new rfl T.m_check_new F_check_new.kp b_check_new .nil pass0 (pac (pv 1) (pac (pe_fld (pv 0) rfl) pa_nil))))
        (pss_cons (ps_dput hu (pe_fld (pv 0) rfl) (pv 1) (pv 2) rfl)
        (pss_one (ps_if (pt_cmpR op_ne (pv 2) pe_str (nomark _)) (pss_cons (ps_if (pt_cmp (pc_dnotin hu (pv 2) (pe_fld (pv 0) rfl))) (pss_one (ps_dput hu (pe_fld (pv 0) rfl) (pv 2) pe_dnewK rfl)) pss_nil)
        (pss_one (ps_dput hu (pe_dget hu (pe_fld (pv 0) rfl) (pv 2) (fun _ _ => rfl)) (pv 1) pe_bl rfl))) pss_nil)))), ?_⟩
    have xL : x ≠ L := fun z => by have h1 := th.obj; rw [z, th.lk] at h1; cases h1
    have xR : x ≠ R := fun z => by have h1 := th.obj; rw [z, th.rp] at h1; cases h1
    refine ⟨_, rfl, _, rfl, x, _, dx, _, _, rfl, th.obj, T.c_Threads, T.n_Threads_links, flds_links L R, nm, L, _, rfl, th.lk, (by rw [val_rows, hn]; rfl), ?_⟩
    refine ⟨_, rfl, _, rfl, x, _, dx, _, _, rfl, th.obj, T.c_Threads, T.n_Threads_links, flds_links L R, _, rfl, L, _, rfl, DPut.k (k := Sum.inr nm) th.lk (by rw [rowsK, List.length_map]; exact small1000 (by omega)), ?_⟩
    rw [put_rows hn]
    have kp : Kp1 H (upd H L (.dK (rowsK (rows ++ [(nm, an)])))) := Kp1.upd th.lk
    have obj1 : (upd H L (.dK (rowsK (rows ++ [(nm, an)])))) x = some (.ins a.C_Threads dx [("links", .ref L), ("replies", .ref R)]) := by rw [upd_ne xL]; exact th.obj
    have rp1 : (upd H L (.dK (rowsK (rows ++ [(nm, an)])))) R = some (.dK kr) := by rw [upd_ne th.lr.symm]; exact th.rp
    have lk1 : (upd H L (.dK (rowsK (rows ++ [(nm, an)])))) L = some (.dK (rowsK (rows ++ [(nm, an)]))) := upd_same
    have old1 : ∀ t d, valV kr (Sum.inr t) = some (.ref d) → (upd H L (.dK (rowsK (rows ++ [(nm, an)])))) d = some (.dK (keysT (reps rows t))) ∧ d ≠ L ∧ d ≠ R := fun t d e => by
      obtain ⟨d', e1, e2, e3, e4⟩ := th.ref_ t _ e
      cases e1
      exact ⟨by rw [upd_ne e3]; exact e2, e3, e4⟩
    have up1 : ∀ c o, H c = some o → c ≠ L → (upd H L (.dK (rowsK (rows ++ [(nm, an)])))) c = some o := fun c o e ne => by rw [upd_ne ne]; exact e
    generalize upd H L (.dK (rowsK (rows ++ [(nm, an)]))) = H1 at kp obj1 rp1 lk1 old1 up1
    have sB1 : Same B H1 := fun c o e => up1 c o (sB c o e) (ne_of_none e oo.hL)
    have lens : (rows ++ [(nm, an)]).length ≤ n + 1 := by rw [List.length_append, List.length_singleton]; omega
    refine ⟨_, rfl, rfl, _, rfl, ?_⟩
    by_cases han : an = ""
    · have e : decide (V.str an = V.str "") = true := by rw [han]; simp
      rw [e]
      exact iteF (k H1 ⟨dx, L, R, kr, th.add hn (by omega) obj1 lk1 rp1 th.fewR (fun t d _ e => (old1 t d e).1) (fun _ _ => rfl) (fun z => absurd han z) (fun _ => rfl), lens, by omega, oo, sB1⟩ kp)
    · have e : decide (V.str an = V.str "") = false := by simp [han]
      rw [e]
      have nrep : ¬ nm ∈ reps rows an := fun z => up_none.mp hn (reps_sub z)
      refine iteT ⟨_, rfl, _, rfl, x, _, dx, _, _, rfl, obj1, T.c_Threads, T.n_Threads_replies, flds_replies L R, R, _, rfl, DGet.k (k := Sum.inr an) rp1, _, rfl, ?_⟩
      cases hv : valV kr (Sum.inr an) with
      | none =>
        refine iteT ?_
        intro p hp
        have xp : x ≠ p := ne_of_none obj1 hp
        have Lp : L ≠ p := ne_of_none lk1 hp
        have Rp : R ≠ p := ne_of_none rp1 hp
        refine ⟨_, rfl, x, _, dx, _, _, rfl, (by rw [upd_ne xp]; exact obj1), T.c_Threads, T.n_Threads_replies, flds_replies L R, _, rfl, R, _, rfl, DPut.k (k := Sum.inr an) (by rw [upd_ne Rp]; exact rp1) (small1000 (by omega)), ?_⟩
        rw [putK_new _ hv]
        have vk : ∀ t, valV (kr ++ [(Sum.inr an, V.ref p)]) (Sum.inr t) = if (Sum.inr t : Key) = Sum.inr an then some (V.ref p) else valV kr (Sum.inr t) := fun t => valV_snoc _ _ _ _ hv
        have van : valV (kr ++ [(Sum.inr an, V.ref p)]) (Sum.inr an) = some (V.ref p) := by rw [vk, if_pos rfl]
        have vot : ∀ t, t ≠ an → valV (kr ++ [(Sum.inr an, V.ref p)]) (Sum.inr t) = valV kr (Sum.inr t) := fun t h => by rw [vk, if_neg (fun z => h (Sum.inr.inj z))]
        have rp2 : (upd (upd H1 p (.dK [])) R (.dK (kr ++ [(Sum.inr an, V.ref p)]))) R = some (.dK (kr ++ [(Sum.inr an, V.ref p)])) := upd_same
        have dp2 : (upd (upd H1 p (.dK [])) R (.dK (kr ++ [(Sum.inr an, V.ref p)]))) p = some (.dK []) := by rw [upd_ne Rp.symm]; exact upd_same
        refine ⟨_, rfl, x, _, dx, _, _, rfl, (by rw [upd_ne xR, upd_ne xp]; exact obj1), T.c_Threads, T.n_Threads_replies, flds_replies L R, _, rfl, R, _, rfl, (by rw [← van]; exact DGet.k (k := Sum.inr an) rp2), _, rfl, p, _, rfl, DPut.k (k := Sum.inr nm) dp2 (by decide), ?_⟩
        have ek : putK ([] : List (Key × V)) (Sum.inr nm) (.bl true) = keysT [nm] := rfl
        rw [ek]
        refine k _ ⟨dx, L, R, _, th.add hn (by omega) ?_ ?_ ?_ ?_ ?_ vot ?_ ?_, lens, ?_, ?_, ?_⟩ ?_
        · rw [upd_ne xp, upd_ne xR, upd_ne xp]; exact obj1
        · rw [upd_ne Lp, upd_ne th.lr, upd_ne Lp]; exact lk1
        · rw [upd_ne Rp]; exact upd_same
        · rw [List.length_append, List.length_singleton]; omega
        · intro t d h e
          obtain ⟨q1, q2, q3⟩ := old1 t d e
          rw [upd_ne (ne_of_none q1 hp), upd_ne q3, upd_ne (ne_of_none q1 hp)]
          exact q1
        · intro _
          have er : reps rows an = [] := th.no_ an han hv
          refine ⟨p, van, ?_, Lp.symm, Rp.symm, fun t h e => ?_⟩
          · rw [upd_same, er]; rfl
          · obtain ⟨q1, _, _⟩ := old1 t p e
            rw [hp] at q1
            cases q1
        · exact fun z => absurd z han
        · rw [List.length_append, List.length_singleton]; omega
        · refine ⟨oo.hL, oo.hR, fun t d e => ?_⟩
          by_cases h : t = an
          · rw [h, van] at e
            cases e
            cases q : B p with
            | none => rfl
            | some o => have := sB1 p o q; rw [hp] at this; cases this
          · rw [vot t h] at e; exact oo.hd t d e
        · intro c o e
          have e1 := sB1 c o e
          rw [upd_ne (ne_of_none e1 hp), upd_ne (ne_of_none e oo.hR), upd_ne (ne_of_none e1 hp)]
          exact e1
        · refine kp.trans fun c o e nd => ?_
          have cp : c ≠ p := ne_of_none e hp
          have cR : c ≠ R := fun z => by rw [z, rp1] at e; cases e; exact nd _ rfl
          rw [upd_ne cp, upd_ne cR, upd_ne cp]
          exact e
      | some v =>
        obtain ⟨d, rfl, _, _, _⟩ := th.ref_ an v hv
        obtain ⟨q1, q2, q3⟩ := old1 an d hv
        refine iteF ?_
        have hrl := reps_len rows an
        refine ⟨_, rfl, x, _, dx, _, _, rfl, obj1, T.c_Threads, T.n_Threads_replies, flds_replies L R, _, rfl, R, _, rfl, (by rw [← hv]; exact DGet.k (k := Sum.inr an) rp1), _, rfl, d, _, rfl, DPut.k (k := Sum.inr nm) q1 (by rw [keysT, List.length_map]; exact small1000 (by omega)), ?_⟩
        rw [put_keys nrep]
        have xd : x ≠ d := fun z => by rw [← z, obj1] at q1; cases q1
        refine k _ ⟨dx, L, R, kr, th.add hn (by omega) ?_ ?_ ?_ th.fewR ?_ (fun _ _ => rfl) ?_ (fun _ => rfl), lens, by omega, oo, fun c o e => by rw [upd_ne (ne_of_none e (oo.hd an d hv))]; exact sB1 c o e⟩ (kp.trans (Kp1.upd q1))
        · rw [upd_ne xd]; exact obj1
        · rw [upd_ne q2.symm]; exact lk1
        · rw [upd_ne q3.symm]; exact rp1
        · intro t d' h e
          obtain ⟨z1, _, _⟩ := old1 t d' e
          have : d' ≠ d := fun z => h (th.inj t an d (by rw [← z]; exact e) hv)
          rw [upd_ne this]
          exact z1
        · intro _
          refine ⟨d, hv, upd_same, q2, q3, fun t h e => h (th.inj t an d e hv)⟩
theorem ok_takeF {fd : FuncData} (F : Fun K "take_out" "Threads.take_out" sThreads_take_out a.f_Threads_take_out fd) (T : Txt K mg a) (FF : Funs K a) : FnOk P w K mg base CX0 2 a.f_Threads_take_out fd ["self", "name"] (spTakeF a) := by
  obtain ⟨fdC, F_check_there, b_check_there⟩ := FF.F_check_there
  have G_check_there : FnOk P w K mg base CX0 1 a.f_check_there fdC ["name", "there"] spThereD := ok_there F_check_there T
  refine F.ok sc_Threads_take_out (fun vs H Q E h => ?_) (fun cdv A outer st H vs Q E hr h => ?_)
  · obtain ⟨B, x, rows, n, nm, rfl, _⟩ := h; rfl
  · obtain ⟨B, x, rows, n, nm, rfl, hth, hm, k⟩ := h
    obtain ⟨dx, L, R, kr, th, hl1, hl2, oo, sB⟩ := id hth
    have hu := hu_of hr
    have hr_check_there : Room 1 _ := hr
    refine ⟨_, (pss_cons (ps_expr (pe_call G_check_there hr_check_there rfl T.m_check_there F_check_there.kp b_check_there .nil pass0 (pac (pv 1) (pac (pe_fld (pv 0) rfl) pa_nil))))
        (pss_cons (ps_set (i := 2) sc_Threads_take_out.nd rfl (Or.inl rfl) (pe_dpop1 (pe_fld (pv 0) rfl) (pv 1) ⟨rfl, rfl, rfl, rfl⟩))
        (pss_one (ps_if (pt_cmpR op_ne (pv 2) pe_str (nomark _)) (pss_one (ps_expr (pe_dpop1 (pe_dget hu (pe_fld (pv 0) rfl) (pv 2) (fun _ _ => rfl)) (pv 1) ⟨rfl, rfl, rfl, rfl⟩))) pss_nil)))), ?_⟩
    have xL : x ≠ L := fun z => by have h1 := th.obj; rw [z, th.lk] at h1; cases h1
    obtain ⟨an, eu⟩ := up_some hm
    have hwl : (without rows nm).length ≤ rows.length := List.length_filter_le _ _
    refine ⟨_, rfl, _, rfl, x, _, dx, _, _, rfl, th.obj, T.c_Threads, T.n_Threads_links, flds_links L R, nm, L, _, _, rfl, th.lk, (by rw [val_rows, eu]; rfl), ?_⟩
    refine ⟨_, rfl, x, _, dx, _, _, rfl, th.obj, T.c_Threads, T.n_Threads_links, flds_links L R, L, rfl, .inl ⟨_, .inl th.lk⟩, _, rfl, _, Sum.inr nm, .str an, th.lk, rfl, (by rw [val_rows, eu]; rfl), ?_⟩
    rw [drop_rows]
    have kp : Kp1 H (upd H L (.dK (rowsK (without rows nm)))) := Kp1.upd th.lk
    have obj1 : (upd H L (.dK (rowsK (without rows nm)))) x = some (.ins a.C_Threads dx [("links", .ref L), ("replies", .ref R)]) := by rw [upd_ne xL]; exact th.obj
    have rp1 : (upd H L (.dK (rowsK (without rows nm)))) R = some (.dK kr) := by rw [upd_ne th.lr.symm]; exact th.rp
    have lk1 : (upd H L (.dK (rowsK (without rows nm)))) L = some (.dK (rowsK (without rows nm))) := upd_same
    have old1 : ∀ t d, valV kr (Sum.inr t) = some (.ref d) → (upd H L (.dK (rowsK (without rows nm)))) d = some (.dK (keysT (reps rows t))) ∧ d ≠ L ∧ d ≠ R := fun t d e => by
      obtain ⟨d', e1, e2, e3, e4⟩ := th.ref_ t _ e
      cases e1
      exact ⟨by rw [upd_ne e3]; exact e2, e3, e4⟩
    have sB1 : Same B (upd H L (.dK (rowsK (without rows nm)))) := fun c o e => by rw [upd_ne (ne_of_none e oo.hL)]; exact sB c o e
    generalize upd H L (.dK (rowsK (without rows nm))) = H1 at kp obj1 rp1 lk1 old1 sB1
    refine ⟨_, rfl, rfl, _, rfl, ?_⟩
    by_cases han : an = ""
    · have e : decide (V.str an = V.str "") = true := by rw [han]; simp
      rw [e]
      refine iteF (k H1 ⟨dx, L, R, kr, th.take eu obj1 lk1 rp1 (fun t d _ e => (old1 t d e).1) (fun d e => ?_), by omega, hl2, oo, sB1⟩ kp)
      rw [han, th.e_] at e
      cases e
    · have e : decide (V.str an = V.str "") = false := by simp [han]
      rw [e]
      have inr := in_reps eu
      obtain ⟨v, hv⟩ : ∃ v, valV kr (Sum.inr an) = some v := by
        cases hv : valV kr (Sum.inr an) with
        | none =>
          have := th.no_ an han hv
          rw [this] at inr
          cases inr
        | some v => exact ⟨v, rfl⟩
      obtain ⟨d, rfl, _, _, _⟩ := th.ref_ an v hv
      obtain ⟨q1, q2, q3⟩ := old1 an d hv
      have xd : x ≠ d := fun z => by rw [← z, obj1] at q1; cases q1
      refine iteT ⟨_, rfl, x, _, dx, _, _, rfl, obj1, T.c_Threads, T.n_Threads_replies, flds_replies L R, _, rfl, R, _, rfl, (by rw [← hv]; exact DGet.k (k := Sum.inr an) rp1), d, rfl, .inl ⟨_, .inl q1⟩, _, rfl, _, Sum.inr nm, .bl true, q1, rfl, (by rw [val_keys, if_pos inr]), ?_⟩
      rw [drop_keys]
      refine k _ ⟨dx, L, R, kr, th.take eu ?_ ?_ ?_ ?_ ?_, by omega, hl2, oo, fun c o e => by rw [upd_ne (ne_of_none e (oo.hd an d hv))]; exact sB1 c o e⟩ (kp.trans (Kp1.upd q1))
      · rw [upd_ne xd]; exact obj1
      · rw [upd_ne q2.symm]; exact lk1
      · rw [upd_ne q3.symm]; exact rp1
      · intro t d' h e
        obtain ⟨z1, _, _⟩ := old1 t d' e
        have : d' ≠ d := fun z => h (th.inj t an d (by rw [← z]; exact e) hv)
        rw [upd_ne this]
        exact z1
      · intro d' e
        rw [hv] at e
        cases e
        exact upd_same
end
theorem without_snoc {rows : Rows} {n an : Str} (h : up rows n = none) : without (rows ++ [(n, an)]) n = rows := by
  unfold L2.without
  rw [List.filter_append]
  have e1 : rows.filter (fun r => decide (r.1 ≠ n)) = rows := List.filter_eq_self.mpr fun r hr => decide_eq_true fun z => up_none.mp h (List.mem_map.mpr ⟨r, hr, z⟩)
  have e2 : [(n, an)].filter (fun r => decide (r.1 ≠ n)) = [] := by simp
  rw [e1, e2, List.append_nil]
theorem erase_perm {α : Type} : ∀ {l : List α} {k : Nat} {y : α}, l[k]? = some y → (y :: l.eraseIdx k).Perm l
  | [], _, _, h => by simp at h
  | x :: l, 0, y, h => by cases h; exact .refl _
  | x :: l, k + 1, y, h => (List.Perm.swap x y _).trans ((erase_perm (l := l) (k := k) h).cons x)
theorem nd_q {dn lf ors : List PRow} {q : PRow} (h : ((dn ++ (q :: lf) ++ ors).map (·.2.1)).Nodup) (j : Nat) : ¬ q.2.1 ∈ (dn ++ ors.take j).map (·.2.1) := by
  have p : (dn ++ (q :: lf) ++ ors).Perm (q :: (dn ++ lf ++ ors)) := by
    rw [List.append_assoc, List.cons_append, List.append_assoc]
    exact List.perm_middle
  have h2 := (p.map (·.2.1)).nodup_iff.mp h
  have h3 := (List.nodup_cons.mp h2).1
  intro z
  apply h3
  obtain ⟨y, hy, e⟩ := List.mem_map.mp z
  refine List.mem_map.mpr ⟨y, ?_, e⟩
  rcases List.mem_append.mp hy with hy | hy
  · exact List.mem_append_left _ (List.mem_append_left _ hy)
  · exact List.mem_append_right _ (List.mem_of_mem_take hy)
theorem nd_o {dn lf ors : List PRow} {o : PRow} {i : Nat} (h : ((dn ++ lf ++ ors).map (·.2.1)).Nodup) (ho : ors[i]? = some o) : ¬ o.2.1 ∈ (dn ++ ors.take i).map (·.2.1) := by
  obtain ⟨hi, e⟩ := List.getElem?_eq_some_iff.mp ho
  have eo : ors = ors.take i ++ o :: ors.drop (i + 1) := by
    rw [← e, List.getElem_cons_drop, List.take_append_drop]
  have p : (dn ++ lf ++ ors).Perm (o :: (dn ++ lf ++ (ors.take i ++ ors.drop (i + 1)))) := by
    rw [eo]
    have : dn ++ lf ++ ((ors.take i ++ o :: ors.drop (i + 1)).take i ++ (ors.take i ++ o :: ors.drop (i + 1)).drop (i + 1)) = dn ++ lf ++ (ors.take i ++ ors.drop (i + 1)) := by rw [← eo]
    rw [this, ← List.append_assoc, ← List.append_assoc]
    exact List.perm_middle
  have h2 := (p.map (·.2.1)).nodup_iff.mp h
  have h3 := (List.nodup_cons.mp h2).1
  intro z
  apply h3
  obtain ⟨y, hy, e⟩ := List.mem_map.mp z
  refine List.mem_map.mpr ⟨y, ?_, e⟩
  rcases List.mem_append.mp hy with hy | hy
  · exact List.mem_append_left _ (List.mem_append_left _ hy)
  · exact List.mem_append_right _ (List.mem_append_left _ hy)
theorem THf.kp2 {a : Adr} {B H H' : Hp} {x : Addr} {rows : Rows} {n : Nat} (h : THf a B H x rows n) (k : Kp2 H H') (s : Same B H') : THf a B H' x rows n := let ⟨dx, L, R, kr, th, h1, h2, oo, _⟩ := h; ⟨dx, L, R, kr, th.kp2 k, h1, h2, oo, s⟩
theorem THf.obj {a : Adr} {B H : Hp} {x : Addr} {rows : Rows} {n : Nat} (h : THf a B H x rows n) : ∃ dx L R, H x = some (.ins a.C_Threads dx [("links", .ref L), ("replies", .ref R)]) := let ⟨dx, L, R, _, th, _, _, _, _⟩ := h; ⟨dx, L, R, th.obj⟩
theorem erase_map {α β : Type} (f : α → β) : ∀ (l : List α) (k : Nat), (l.map f).eraseIdx k = (l.eraseIdx k).map f
  | [], _ => rfl
  | _ :: _, 0 => rfl
  | x :: l, k + 1 => congrArg (f x :: ·) (erase_map f l k)
inductive spOther_I (a : Adr) (vs : List V) (H : Hp) (Q : VK) : Prop
  | mk : ∀ (r os dw : Addr) (prs ors : List PRow) (ds : List Int), vs = [.ref r, .ref os, .ref dw] → RowsAt H r prs → RowsAt H os ors → H dw = some (.lst (ds.map V.int)) → prs.length ≤ ds.length → (∀ d ∈ ds, 0 ≤ d ∧ d < 2147483629) → prs.length ≤ 10 → ors.length ≤ 5 → ((prs ++ ors).map (·.2.1)).Nodup → (∀ (x : Addr) (rows : Rows) (n : Nat) H', rows.Perm (prs.map (·.2)) → THf a H H' x rows n → Q (.ref x) H') → spOther_I a vs H Q
def spOther (a : Adr) : Sp := fun vs H Q _ => spOther_I a vs H Q
/-- names that are not there yet -/
theorem up_new {rows : Rows} {l : List PRow} {q : PRow} (p : rows.Perm (l.map (·.2))) (h : ¬ q.2.1 ∈ l.map (·.2.1)) : up rows q.2.1 = none := up_none.mpr fun z => h (by
  have := (names_perm p).mp z
  rw [List.map_map] at this
  exact this)
section
variable {P : Program} {w : World} {K : PySem.W.Frag} {mg : Str → Option Value} {base : Heap} {a : Adr}
theorem ok_other {fd : FuncData} (F : Fun K "_law_other_way" "_law_other_way" sl_other_way a.f_l_other_way fd) (T : Txt K mg a) (FF : Funs K a) : FnOk P w K mg base CX0 3 a.f_l_other_way fd ["_law_rows", "_law_others", "_law_draws_here"] (spOther a) := by
  obtain ⟨fdI, F_ini, b_Threads_init⟩ := FF.F_Threads_init
  obtain ⟨fdA, F_add, b_Threads_add, _⟩ := FF.F_Threads_add
  obtain ⟨fdT, F_tak, b_Threads_take_out⟩ := FF.F_Threads_take_out
  have G_Threads_init : FnOk P w K mg base CX0 1 a.f_Threads_init fdI ["self"] (spTInitF a) := ok_tinitF F_ini T
  have G_Threads_add : FnOk P w K mg base CX0 2 a.f_Threads_add fdA ["self", "name", "answers"] (spAddF a) := ok_addF F_add T FF
  have G_Threads_take_out : FnOk P w K mg base CX0 2 a.f_Threads_take_out fdT ["self", "name"] (spTakeF a) := ok_takeF F_tak T FF
  refine F.ok sc_l_other_way (fun vs H Q E h => ?_) (fun cdv A outer s H vs Q E hr h => ?_)
  · obtain ⟨r, os, dw, prs, ors, ds, rfl, _⟩ := h; rfl
  · obtain ⟨r, os, dw, prs, ors, ds, rfl, hR, hO, hW, hdl, hdb, hp10, ho5, nd, k⟩ := h
    have hr_Threads_mk : Room 2 _ := hr
    have hr_Threads_add : Room 2 _ := hr
    have hr_Threads_take_out : Room 2 _ := hr
    refine ⟨_, (pss_cons (ps_set (i := 3) sc_l_other_way.nd rfl (Or.inl rfl) (pe_make0 T.k_Threads G_Threads_init hr_Threads_mk rfl T.mc_Threads b_Threads_init .nil pass0))
        (pss_cons (ps_set (i := 4) sc_l_other_way.nd rfl (Or.inl rfl) (pe_callTy call_list_of rfl T.b_list PyProof.Rows.boot_list (pac (pv 0) pa_nil)))
        (pss_cons (ps_for PassesOwn.never rfl (pi_range1 rfl T.b_range (pac (pe_callB call_len_seq rfl T.b_len PySem.boot_len (pac (pv 0) pa_nil)) pa_nil)) (pg_name (i := 5) sc_l_other_way.nd rfl (Or.inl rfl)) (pss_cons (ps_set (i := 6) sc_l_other_way.nd rfl (Or.inl rfl) (pe_bm PySem.F.plainAttrs_list PySem.F.slot_list_pop PySem.F.type_list_pop mt_popAt (pv 4) (pac (pe_op op_mod (pe_ix ix_list (pv 2) (pv 5) (fun _ _ => rfl)) (pe_callB call_len_seq rfl T.b_len PySem.boot_len (pac (pv 4) pa_nil))) pa_nil)))
        (pss_cons (ps_if (pt_cmpR op_lt (pv 5) (pe_callB call_len_seq rfl T.b_len PySem.boot_len (pac (pv 1) pa_nil)) (nomark _)) (pss_one (ps_expr (pe_meth (pv 3) T.c_Threads T.M_Threads_add G_Threads_add hr_Threads_add b_Threads_add .nil pass0 (pac (pe_ix ix_tup (pe_ix ix_list (pv 1) (pv 5) (fun _ _ => rfl)) pe_int (fun _ _ => rfl)) (pac (pe_ix ix_tup (pe_ix ix_list (pv 1) (pv 5) (fun _ _ => rfl)) pe_int (fun _ _ => rfl)) pa_nil))))) pss_nil)
        (pss_cons (ps_expr (pe_meth (pv 3) T.c_Threads T.M_Threads_add G_Threads_add hr_Threads_add b_Threads_add .nil pass0 (pac (pe_ix ix_tup (pv 6) pe_int (fun _ _ => rfl)) (pac (pe_ix ix_tup (pv 6) pe_int (fun _ _ => rfl)) pa_nil))))
        (pss_one (ps_if (pt_cmpR op_eq (pe_op op_mod (pe_op op_fdiv (pe_ix ix_list (pv 2) (pv 5) (fun _ _ => rfl)) pe_int) pe_int) pe_int (nomark _)) (pss_cons (ps_expr (pe_meth (pv 3) T.c_Threads T.M_Threads_take_out G_Threads_take_out hr_Threads_take_out b_Threads_take_out .nil pass0 (pac (pe_ix ix_tup (pv 6) pe_int (fun _ _ => rfl)) pa_nil)))
        (pss_one (ps_expr (pe_meth (pv 3) T.c_Threads T.M_Threads_add G_Threads_add hr_Threads_add b_Threads_add .nil pass0 (pac (pe_ix ix_tup (pv 6) pe_int (fun _ _ => rfl)) (pac (pe_ix ix_tup (pv 6) pe_int (fun _ _ => rfl)) pa_nil)))))) pss_nil))))))
        (pss_cons (ps_for PassesOwn.never rfl (pi_list (pe_slice sl_list (pv 1) po_none (po_some (pe_callB call_len_seq rfl T.b_len PySem.boot_len (pac (pv 0) pa_nil))))) (pg_name (i := 7) sc_l_other_way.nd rfl (Or.inl rfl)) (pss_one (ps_expr (pe_meth (pv 3) T.c_Threads T.M_Threads_take_out G_Threads_take_out hr_Threads_take_out b_Threads_take_out .nil pass0 (pac (pe_ix ix_tup (pv 7) pe_int (fun _ _ => rfl)) pa_nil)))))
        (pss_one (ps_ret (pv 3))))))), ?_⟩
    intro x dx nx ndx nex
    refine ⟨H, x, dx, rfl, upd_same, fun c o e => ⟨by rw [upd_ne (ne_of_none e nx), upd_ne (ne_of_none e ndx)]; exact e, ne_of_none e nx⟩, fun H1 th1 => ⟨rfl, ?_⟩⟩
    have hR1 := hR.same th1.same
    refine ⟨_, rfl, r, _, rfl, .inl (SqL.of hR1.1), fun l hl => ?_⟩
    have s2 : Same H1 (upd H1 l (.lst (prs.map fun q => V.ref q.1))) := Same.upd_new hl
    have e2 : (upd H1 l (.lst (prs.map fun q => V.ref q.1))) l = some (.lst (prs.map fun q => V.ref q.1)) := upd_same
    have th2 := th1.of s2
    generalize upd H1 l (.lst (prs.map fun q => V.ref q.1)) = H2 at s2 e2 th2 ⊢
    have hR2 := hR.same th2.same
    have er : ∀ (l : List PRow) (i : Nat) (q : PRow), l[i]? = some q → (l.map fun q => V.ref q.1)[i]? = some (V.ref q.1) := fun l i q h => by rw [List.getElem?_map, h]; rfl
    refine ⟨_, rfl, r, _, rfl, .inl (SqL.of hR2.1), _, rfl, (by rw [List.length_map]; omega), (by rw [List.length_map]; omega), ?_⟩
    have e0 : ((((prs.map fun q => V.ref q.1).length : Nat) : Int)).toNat = prs.length := by rw [List.length_map]; omega
    rw [e0]
    refine for_range (n := prs.length) (fun i σ G => ∃ (o5 o6 : Option V) (dn lf : List PRow) (rws : Rows) (n : Nat), σ = [some (.ref r), some (.ref os), some (.ref dw), some (.ref x), some (.ref l), o5, o6, none] ∧ THf a H G x rws n ∧ n ≤ 3 * i ∧ G l = some (.lst (lf.map fun q => V.ref q.1)) ∧ (dn ++ lf).Perm prs ∧ lf.length + i = prs.length ∧ rws.Perm ((dn ++ ors.take i).map (·.2)))
      ⟨none, none, [], prs, [], 0, rfl, th2, Nat.le_refl _, e2, .refl _, rfl, .refl _⟩ ?_ ?_
    · rintro i σ G hi ⟨o5, o6, dn, lf, rws, n, rfl, th, hn, el, pm, hlf, pr⟩
      have hRG := hR.same th.same
      have hOG := hO.same th.same
      have hWG := th.same _ _ hW
      obtain ⟨d, ed, d0, d1⟩ := row_pick hdb (0 + (i : Int)) (by omega) (by omega)
      have lpos : 0 < lf.length := by omega
      have m0 := Int.emod_nonneg d (b := (lf.length : Int)) (by omega)
      have m1 := Int.emod_lt_of_pos d (b := (lf.length : Int)) (by omega)
      obtain ⟨kk, ek⟩ := Int.eq_ofNat_of_zero_le m0
      have hkk : kk < lf.length := by omega
      have eq : lf[kk]? = some lf[kk] := List.getElem?_eq_getElem hkk
      generalize lf[kk] = q at eq
      have pe := erase_perm eq
      have ix : seqIndex? (d % (((lf.map fun q => V.ref q.1).length : Nat) : Int)) (lf.map fun q => V.ref q.1).length = some kk := by
        rw [List.length_map, ek]
        unfold seqIndex?
        have c1 : ¬ ((kk : Int) < 0) := by omega
        simp only [if_neg c1]
        rw [decide_eq_true (show 0 ≤ (kk : Int) by omega), decide_eq_true (show (kk : Int) < (lf.length : Int) by omega)]
        simp
      refine ⟨_, rfl, .inl ⟨rfl, _, SqL.of el⟩, _, rfl, _, rfl, dw, _, _, _, rfl, rfl, SqL.of hWG, ed, _, rfl, l, _, rfl, .inl (SqL.of el), _, _, rfl, rfl, (by rw [List.length_map]; omega), l, _, _, kk, _, rfl, rfl, el, ?_, ?_, ix, er lf kk q eq, ?_⟩
      · rw [List.length_map]; omega
      · rw [List.length_map]; omega
      rw [erase_map]
      have hHl : H l = none := by
        cases z : H l with
        | none => rfl
        | some o => have := th1.same _ _ z; rw [hl] at this; cases this
      have thG : THf a H (upd G l (.lst ((lf.eraseIdx kk).map fun q => V.ref q.1))) x rws n := th.kp2 (fun c o e nl => by rw [upd_ne (fun z => by rw [z, el] at e; cases e; exact nl _ rfl)]; exact e) (fun c o e => by rw [upd_ne (ne_of_none e hHl)]; exact th.same _ _ e)
      have elG : (upd G l (.lst ((lf.eraseIdx kk).map fun q => V.ref q.1))) l = some (.lst ((lf.eraseIdx kk).map fun q => V.ref q.1)) := upd_same
      generalize upd G l (.lst ((lf.eraseIdx kk).map fun q => V.ref q.1)) = G1 at thG elG ⊢
      have hlf2 : (lf.eraseIdx kk).length + (i + 1) = prs.length := by rw [List.length_eraseIdx, if_pos hkk]; omega
      generalize hlf' : lf.eraseIdx kk = lf' at pe elG hlf2 ⊢
      have pm2 : (dn ++ (q :: lf')).Perm prs := (pe.append_left dn).trans pm
      have ndq : ((dn ++ (q :: lf') ++ ors).map (·.2.1)).Nodup := ((pm2.append_right ors).map (·.2.1)).nodup_iff.mpr nd
      have hqm : q ∈ prs := pm2.mem_iff.mp (List.mem_append_right _ List.mem_cons_self)
      clear th el hRG hOG hWG
      unfold gName
      dsimp only
      refine seq_open (t := tIfS _ _ _) fun N hN => ?_
      have rest : ∀ (G2 : Hp) (rw2 : Rows) (n2 : Nat), THf a H G2 x rw2 n2 → n2 ≤ 3 * i + 1 → G2 l = some (.lst (lf'.map fun q => V.ref q.1)) → rw2.Perm ((dn ++ ors.take (i + 1)).map (·.2)) → N [some (.ref r), some (.ref os), some (.ref dw), some (.ref x), some (.ref l), some (.int (0 + (i : Int))), some (.ref q.1), none] G2 := fun G2 rw2 n2 tg hn2 el2 pr2 => by
        subst hN
        have uq : up rw2 q.2.1 = none := up_new pr2 (nd_q ndq (i + 1))
        have eqG := tg.same _ _ (hR.2 q hqm)
        obtain ⟨dx2, fL2, fR2, ox2⟩ := tg.obj
        refine ⟨_, rfl, x, dx2, _, rfl, ox2, rfl, _, rfl, q.1, _, _, _, rfl, rfl, SqT.of eqG, rfl, _, rfl, q.1, _, _, _, rfl, rfl, SqT.of eqG, atI_nat (j := 1) rfl, H, x, rw2, n2, q.2.1, q.2.2, rfl, tg, by omega, uq, fun G3 tg3 kp3 => ?_⟩
        have el3 := kp3 _ _ el2 (fun _ z => nomatch z)
        have pr3 : (rw2 ++ [(q.2.1, q.2.2)]).Perm (((dn ++ [q]) ++ ors.take (i + 1)).map (·.2)) := by
          rw [List.append_assoc, List.map_append, List.singleton_append, List.map_cons]
          refine List.Perm.trans ?_ List.perm_middle.symm
          rw [← List.map_append]
          exact (List.perm_append_singleton _ _).trans (pr2.cons _)
        have pm3 : ((dn ++ [q]) ++ lf').Perm prs := by rw [List.append_assoc]; exact pm2
        have eqG3 := tg3.same _ _ (hR.2 q hqm)
        have hWG3 := tg3.same _ _ hW
        refine ⟨_, rfl, _, rfl, dw, _, _, _, rfl, rfl, SqL.of hWG3, ed, _, _, rfl, rfl, ⟨by decide, by decide⟩, _, _, rfl, rfl, (by show (0 : Int) < 3; decide), rfl, _, rfl, ite2 (fun _ => ?_) (fun _ => ?_)⟩
        · obtain ⟨dx3, fL3, fR3, ox3⟩ := tg3.obj
          have mq : q.2.1 ∈ (rw2 ++ [(q.2.1, q.2.2)]).map (·.1) := by rw [List.map_append]; exact List.mem_append_right _ (List.mem_singleton.mpr rfl)
          refine ⟨_, rfl, x, dx3, _, rfl, ox3, rfl, _, rfl, q.1, _, _, _, rfl, rfl, SqT.of eqG3, rfl, H, x, _, _, q.2.1, rfl, tg3, mq, fun G4 tg4 kp4 => ?_⟩
          rw [without_snoc uq] at tg4
          have eqG4 := tg4.same _ _ (hR.2 q hqm)
          have el4 := kp4 _ _ el3 (fun _ z => nomatch z)
          obtain ⟨dx4, fL4, fR4, ox4⟩ := tg4.obj
          refine ⟨_, rfl, x, dx4, _, rfl, ox4, rfl, _, rfl, q.1, _, _, _, rfl, rfl, SqT.of eqG4, rfl, _, rfl, q.1, _, _, _, rfl, rfl, SqT.of eqG4, atI_nat (j := 1) rfl, H, x, rw2, n2 + 1, q.2.1, q.2.2, rfl, tg4, by omega, uq, fun G5 tg5 kp5 => ?_⟩
          exact ⟨_, _, dn ++ [q], lf', _, _, rfl, tg5, by omega, kp5 _ _ el4 (fun _ z => nomatch z), pm3, hlf2, pr3⟩
        · exact ⟨_, _, dn ++ [q], lf', _, _, rfl, tg3, by omega, el3, pm3, hlf2, pr3⟩
      refine ⟨_, rfl, _, rfl, os, _, rfl, .inl (SqL.of (thG.same _ _ hO.1)), _, _, rfl, rfl, _, rfl, ite2 (fun hk => ?_) (fun hk => ?_)⟩
      · have hio : i < ors.length := by
          have := of_decide_eq_true hk
          rw [List.length_map] at this
          omega
        have eo : ors[i]? = some ors[i] := List.getElem?_eq_getElem hio
        have etk : ors.take (i + 1) = ors.take i ++ [ors[i]] := List.take_succ_eq_append_getElem hio
        generalize ors[i] = o at eo etk
        have hom := List.mem_of_getElem? eo
        have eoo := thG.same _ _ (hO.2 o hom)
        have ato : atI (ors.map fun q => V.ref q.1) (0 + (i : Int)) = some (V.ref o.1) := by rw [Int.zero_add]; exact atI_nat (er ors i o eo)
        have ndo : ((dn ++ (q :: lf') ++ ors).map (·.2.1)).Nodup := ndq
        have uo : up rws o.2.1 = none := up_new pr (nd_o ndo eo)
        have hOG := thG.same _ _ hO.1
        obtain ⟨dx1, fL1, fR1, ox1⟩ := thG.obj
        refine ⟨_, rfl, x, dx1, _, rfl, ox1, rfl, _, rfl, _, rfl, os, _, _, _, rfl, rfl, SqL.of hOG, ato, o.1, _, _, _, rfl, rfl, SqT.of eoo, rfl, _, rfl, _, rfl, os, _, _, _, rfl, rfl, SqL.of hOG, ato, o.1, _, _, _, rfl, rfl, SqT.of eoo, atI_nat (j := 1) rfl, H, x, rws, n, o.2.1, o.2.2, rfl, thG, by omega, uo, fun G2 tg2 kp2 => ?_⟩
        refine rest G2 _ _ tg2 (by omega) (kp2 _ _ elG (fun _ z => nomatch z)) ?_
        rw [etk, ← List.append_assoc, List.map_append]
        exact pr.append_right _
      · have hio : ¬ i < ors.length := fun z => hk (decide_eq_true (by rw [List.length_map]; omega))
        refine rest G1 rws n thG (by omega) elG ?_
        rw [List.take_of_length_le (by omega)]
        rw [List.take_of_length_le (by omega)] at pr
        exact pr
    · rintro σ G ⟨o5, o6, dn, lf, rws, n, rfl, th, hn, el, pm, hlf, pr⟩
      have elf : lf = [] := List.eq_nil_of_length_eq_zero (by omega)
      subst elf
      rw [List.append_nil] at pm
      have prO : rws.Perm ((prs ++ ors.take prs.length).map (·.2)) := pr.trans ((pm.append_right _).map _)
      have hRG := hR.same th.same
      have hOG := hO.same th.same
      have ct : cutV (ors.map fun q => V.ref q.1) none (some (((prs.map fun q => V.ref q.1).length : Nat) : Int)) = (ors.take prs.length).map fun q => V.ref q.1 := by
        rw [List.length_map]
        unfold cutV
        rw [HT.sIx_none, HT.sIx_nat, List.drop_zero, Nat.sub_zero, List.length_map, ← List.map_take]
        by_cases h : prs.length ≤ ors.length
        · rw [Nat.min_eq_left h]
        · rw [Nat.min_eq_right (by omega), List.take_of_length_le (Nat.le_refl _), List.take_of_length_le (by omega)]
      refine ⟨_, rfl, _, rfl, r, _, rfl, .inl (SqL.of hRG.1), _, rfl, os, _, rfl, SqL.of hOG.1, fun sl hsl => ?_⟩
      rw [ct]
      have s3 : Same G (upd G sl (.lst ((ors.take prs.length).map fun q => V.ref q.1))) := Same.upd_new hsl
      have e3 : (upd G sl (.lst ((ors.take prs.length).map fun q => V.ref q.1))) sl = some (.lst ((ors.take prs.length).map fun q => V.ref q.1)) := upd_same
      have th3 := th.of s3
      generalize upd G sl (.lst ((ors.take prs.length).map fun q => V.ref q.1)) = G3 at s3 e3 th3 ⊢
      have osub : ∀ o ∈ ors.take prs.length, o ∈ ors := fun o h => List.mem_of_mem_take h
      have nd3 : ((prs ++ ors.take prs.length).map (·.2.1)).Nodup := List.Nodup.sublist (List.Sublist.map _ (List.Sublist.append (List.Sublist.refl _) (List.take_sublist _ _))) nd
      generalize ors.take prs.length = oo at prO e3 osub nd3 ⊢
      refine ⟨sl, rfl, ⟨_, SqL.of e3⟩, for_list (K := K) (xs := oo.map fun q => V.ref q.1) (fun j σ G => ∃ (o7 : Option V) (rw : Rows), σ = [some (.ref r), some (.ref os), some (.ref dw), some (.ref x), some (.ref l), o5, o6, o7] ∧ THf a H G x rw n ∧ G sl = some (.lst (oo.map fun q => V.ref q.1)) ∧ rw.Perm ((prs ++ oo.drop j).map (·.2))) ⟨none, rws, rfl, th3, e3, prO⟩ ?_ ?_ ?_⟩
      · rintro j σ G4 _ ⟨o7, rw4, rfl, _, e4, _⟩
        exact SqL.of e4
      · rintro j v σ G4 hv ⟨o7, rw4, rfl, th4, e4, pr4⟩
        rw [List.getElem?_map] at hv
        cases ho : oo[j]? with
        | none => rw [ho] at hv; cases hv
        | some o =>
          rw [ho] at hv
          cases hv
          have hj : j < oo.length := (List.getElem?_eq_some_iff.mp ho).1
          have ej : oo[j] = o := (List.getElem?_eq_some_iff.mp ho).2
          have ed : oo.drop j = o :: oo.drop (j + 1) := by rw [← ej]; exact (List.getElem_cons_drop hj).symm
          rw [ed] at pr4
          have mo : o.2.1 ∈ rw4.map (·.1) := (names_perm pr4).mpr (by rw [List.map_map]; exact List.mem_map.mpr ⟨o, List.mem_append_right _ List.mem_cons_self, rfl⟩)
          have eo := th4.same _ _ (hO.2 o (osub o (List.mem_of_getElem? ho)))
          obtain ⟨dx4, fL4, fR4, ox4⟩ := th4.obj
          refine ⟨_, rfl, x, dx4, _, rfl, ox4, rfl, _, rfl, o.1, _, _, _, rfl, rfl, SqT.of eo, rfl, H, x, rw4, n, o.2.1, rfl, th4, mo, fun G5 th5 kp5 => ?_⟩
          refine ⟨_, _, rfl, th5, kp5 _ _ e4 (fun _ z => nomatch z), ?_⟩
          have nd4 : ((prs ++ o :: oo.drop (j + 1)).map (·.2.1)).Nodup := by
            rw [← ed]
            exact List.Nodup.sublist (List.Sublist.map _ (List.Sublist.append (List.Sublist.refl _) (List.drop_sublist _ _))) nd3
          have nd5 := (((List.perm_middle (l₁ := prs) (a := o) (l₂ := oo.drop (j + 1))).map (·.2.1)).nodup_iff).mp nd4
          have no := (List.nodup_cons.mp nd5).1
          have pf := pr4.filter (fun r : Str × Str => decide (r.1 ≠ o.2.1))
          have ef : ((prs ++ o :: oo.drop (j + 1)).map (·.2)).filter (fun r : Str × Str => decide (r.1 ≠ o.2.1)) = (prs ++ oo.drop (j + 1)).map (·.2) := by
            rw [List.map_append, List.filter_append, List.map_cons, List.filter_cons, if_neg (by simp), ← List.filter_append, ← List.map_append]
            refine List.filter_eq_self.mpr fun r hr => decide_eq_true fun z => no ?_
            obtain ⟨y, hy, rfl⟩ := List.mem_map.mp hr
            exact List.mem_map.mpr ⟨y, hy, z⟩
          rw [ef] at pf
          exact pf
      · rintro σ G4 ⟨o7, rw4, rfl, th4, e4, pr4⟩
        rw [List.length_map, List.drop_length, List.append_nil] at pr4
        exact ⟨_, rfl, k x rw4 n G4 pr4 th4⟩
end
theorem chain_len {rows : Rows} : ∀ (k : Nat) (met : List Str), met.length ≤ (chain rows k met).length ∧ (chain rows k met).length ≤ met.length + k
  | 0, met => by unfold chain; exact ⟨Nat.le_refl _, Nat.le_refl _⟩
  | k + 1, met => by
    unfold chain
    split
    · split
      · rename_i b _ _
        have := chain_len (rows := rows) k (met ++ [b])
        rw [List.length_append, List.length_singleton] at this
        exact ⟨by omega, by omega⟩
      · exact ⟨Nat.le_refl _, by omega⟩
    · exact ⟨Nat.le_refl _, by omega⟩
theorem num_shown : ∀ n : Nat, n < 16 → (PyData.int (n : Int)).shown.length ≤ 1000 := by decide +kernel
theorem num_showable : ∀ n : Nat, n < 16 → (PyData.int (n : Int)).showable = true := by decide +kernel
def DEB : DE → Prop
  | .flat xs => xs.length ≤ 41 ∧ ∀ x ∈ xs, Asc x ∧ x.length ≤ 20
  | .deep xss => xss.length ≤ 41 ∧ ∀ t ∈ xss, t.length ≤ 41 ∧ ∀ x ∈ t, Asc x ∧ x.length ≤ 20
  | .num i => ∃ n : Nat, n < 16 ∧ i = (n : Int)
theorem de_showable {e : DE} (h : DEB e) : (deD e).showable = true := by
  cases e with
  | flat xs => exact showable_strs xs
  | deep xss =>
    show PyData.showableAll (xss.map fun t => PyData.list (t.map PyData.str)) = true
    have := showable_lists (xss.map fun t => ((0 : Addr), t))
    rw [List.map_map] at this
    exact this
  | num i =>
    obtain ⟨n, hn, rfl⟩ := h
    exact num_showable n hn
theorem de_hasDict {e : DE} (h : DEB e) : (deD e).hasDict = false := by
  cases e with
  | flat xs => exact hasDict_strs xs
  | deep xss =>
    show PyData.hasDictAll (xss.map fun t => PyData.list (t.map PyData.str)) = false
    have := hasDict_lists (xss.map fun t => ((0 : Addr), t))
    rw [List.map_map] at this
    exact this
  | num i => rfl
theorem de_depth {e : DE} (h : DEB e) : (deD e).depth ≤ 2 := by
  cases e with
  | flat xs =>
    have := (lay_strs fun x hx => (h.2 x hx).1).2
    show PyData.depthAll (xs.map PyData.str) + 1 ≤ 2
    omega
  | deep xss =>
    have := (lay_lists (ts := xss) fun t ht x hx => ((h.2 t ht).2 x hx).1).2
    show PyData.depthAll (xss.map fun t => PyData.list (t.map PyData.str)) + 1 ≤ 2
    omega
  | num i => exact Nat.zero_le _
theorem de_shown {e : DE} (h : DEB e) : (deD e).shown.length ≤ 343090 := by
  cases e with
  | flat xs => exact Nat.le_trans (shown_strs h.1 h.2) (by decide)
  | deep xss =>
    refine Nat.le_trans (shown_up (m := 8366) (by rw [List.length_map]; exact h.1) fun d hd => ?_) (by decide)
    obtain ⟨t, ht, rfl⟩ := List.mem_map.mp hd
    exact shown_strs (h.2 t ht).1 (h.2 t ht).2
  | num i =>
    obtain ⟨n, hn, rfl⟩ := h
    exact Nat.le_trans (num_shown n hn) (by decide)
theorem des_showable : ∀ {es : List DE}, (∀ e ∈ es, DEB e) → PyData.showableAll (es.map deD) = true
  | [], _ => rfl
  | e :: es, h => by
    rw [List.map_cons, PyData.showableAll, de_showable (h e List.mem_cons_self), des_showable fun z hz => h z (List.mem_cons_of_mem _ hz)]
    rfl
theorem des_hasDict : ∀ {es : List DE}, (∀ e ∈ es, DEB e) → PyData.hasDictAll (es.map deD) = false
  | [], _ => rfl
  | e :: es, h => by
    rw [List.map_cons, PyData.hasDictAll, de_hasDict (h e List.mem_cons_self), des_hasDict fun z hz => h z (List.mem_cons_of_mem _ hz)]
    rfl
theorem des_depth : ∀ {es : List DE}, (∀ e ∈ es, DEB e) → PyData.depthAll (es.map deD) ≤ 2
  | [], _ => Nat.zero_le _
  | e :: es, h => by
    rw [List.map_cons]
    show max (deD e).depth (PyData.depthAll (es.map deD)) ≤ 2
    exact Nat.max_le.mpr ⟨de_depth (h e List.mem_cons_self), des_depth fun z hz => h z (List.mem_cons_of_mem _ hz)⟩
structure EsB (es : List DE) : Prop where
  all_ : ∀ e ∈ es, DEB e
  few : es.length ≤ 41
theorem EsB.len {es : List DE} (h : EsB es) : (PyData.list (es.map deD)).shown.length ≤ sizeLine := by
  refine Nat.le_trans (shown_up (m := 343090) (by rw [List.length_map]; exact h.few) fun d hd => ?_) (by decide)
  obtain ⟨e, he, rfl⟩ := List.mem_map.mp hd
  exact de_shown (h.all_ e he)
theorem EsB.dep {es : List DE} (h : EsB es) : (PyData.list (es.map deD)).depth ≤ 10 := Nat.le_trans (Nat.succ_le_succ (des_depth h.all_)) (by decide)
theorem es_b {rows : Rows} {srt pool : List Str} (hr : rows.length ≤ 10) (hs : srt.length ≤ 10) (hp : pool.length ≤ 15) (hn : ∀ x ∈ rows.map (·.1), Asc x ∧ x.length ≤ 20) : EsB (esOf rows srt pool) := by
  have ht : ∀ n, DEB (.flat (thrOf rows n)) := fun n => ⟨Nat.le_trans thr_len (by omega), fun x hx => hn x (mem_thr.mp hx).1⟩
  constructor
  · intro e he
    unfold esOf at he
    rcases List.mem_append.mp he with he | he
    · rcases List.mem_append.mp he with he | he
      · unfold esA at he
        rcases List.mem_cons.mp he with rfl | he
        · exact ⟨by rw [sortS_len, List.length_map]; omega, fun x hx => hn x (sortS_mem.mp hx)⟩
        · rw [List.mem_singleton.mp he]
          refine ⟨Nat.le_trans (thrAll_len _) (by rw [sortS_len, List.length_map]; omega), fun t ht' => ?_⟩
          obtain ⟨n, _, rfl⟩ := thrAll_mem _ ht'
          exact ht n
      · unfold esB at he
        obtain ⟨n, _, he⟩ := List.mem_flatMap.mp he
        rcases List.mem_cons.mp he with rfl | he
        · exact ht n
        · rw [List.mem_singleton.mp he]
          obtain ⟨c1, c2⟩ := chain_len (rows := rows) rows.length [n]
          rw [List.length_singleton] at c1 c2
          refine ⟨(chain rows rows.length [n]).length - 1, by omega, ?_⟩
          unfold depthOf
          omega
    · unfold esC at he
      obtain ⟨t, h2, rfl⟩ := List.mem_map.mp he
      obtain ⟨p, _, rfl⟩ := List.mem_map.mp h2
      exact ⟨by rw [sortS_len]; have := reps_len rows p; omega, fun x hx => hn x (reps_sub (sortS_mem.mp hx))⟩
  · unfold esOf esA esB esC
    rw [List.length_append, List.length_append, List.length_map, List.length_map, List.length_flatMap]
    have : (srt.map fun n => [DE.flat (thrOf rows n), .num (depthOf rows n)].length).sum = 2 * srt.length := by
      clear hs
      induction srt with
      | nil => rfl
      | cons x l ih => rw [List.map_cons, List.sum_cons, ih]; show 2 + 2 * l.length = 2 * (l.length + 1); omega
    rw [this]
    show 2 + _ + _ ≤ 41
    omega
def Two (a : Adr) (H : Hp) (x1 : Addr) (rows1 : Rows) (n1 : Nat) (x2 : Addr) (rows2 : Rows) (n2 : Nat) : Prop := ∃ B, THf a B H x1 rows1 n1 ∧ THs a B x2 rows2 n2
section
variable {a : Adr} {H H' : Hp} {x1 x2 : Addr} {rows1 rows2 : Rows} {n1 n2 : Nat}
theorem Two.one (h : Two a H x1 rows1 n1 x2 rows2 n2) : THs a H x1 rows1 n1 := let ⟨_, h1, _⟩ := h; h1.ths
theorem Two.two (h : Two a H x1 rows1 n1 x2 rows2 n2) : THs a H x2 rows2 n2 := let ⟨_, h1, h2⟩ := h; h2.kp2 h1.same.kp2
theorem Two.of (h : Two a H x1 rows1 n1 x2 rows2 n2) (s : Same H H') : Two a H' x1 rows1 n1 x2 rows2 n2 := let ⟨B, h1, h2⟩ := h; ⟨B, h1.of s, h2⟩
open Classical in
theorem Two.swap (h : Two a H x1 rows1 n1 x2 rows2 n2) : Two a H x2 rows2 n2 x1 rows1 n1 := by
  obtain ⟨B, ⟨d1, L1, R1, k1, t1, a1, b1, o1, s1⟩, ⟨d2, L2, R2, k2, t2, a2, b2⟩⟩ := h
  have inB : ∀ c, (c = L2 ∨ c = R2 ∨ ∃ t, valV k2 (Sum.inr t) = some (V.ref c)) → ∃ kv, B c = some (.dK kv) := fun c hc => by
    rcases hc with rfl | rfl | ⟨t, e⟩
    · exact ⟨_, t2.lk⟩
    · exact ⟨_, t2.rp⟩
    · obtain ⟨d, e1, e2, _⟩ := t2.ref_ t _ e
      cases e1
      exact ⟨_, e2⟩
  let B2 : Hp := fun c => if c = L2 ∨ c = R2 ∨ ∃ t, valV k2 (Sum.inr t) = some (V.ref c) then none else H c
  have hin : ∀ c, (c = L2 ∨ c = R2 ∨ ∃ t, valV k2 (Sum.inr t) = some (V.ref c)) → B2 c = none := fun c hc => if_pos hc
  have hout : ∀ c, B c = none → B2 c = H c := fun c hc => if_neg fun z => by obtain ⟨kv, e⟩ := inB c z; rw [hc] at e; cases e
  have hx : B2 x1 = H x1 := if_neg fun z => by
    obtain ⟨kv, e⟩ := inB x1 z
    have := s1 _ _ e
    rw [t1.obj] at this
    cases this
  have sB : Same B2 H := fun c o e => by
    by_cases hc : c = L2 ∨ c = R2 ∨ ∃ t, valV k2 (Sum.inr t) = some (V.ref c)
    · rw [hin c hc] at e; cases e
    · have e3 : B2 c = H c := if_neg hc
      rw [← e3]; exact e
  refine ⟨B2, ⟨d2, L2, R2, k2, t2.kp2 s1.kp2, a2, b2, ⟨hin _ (.inl rfl), hin _ (.inr (.inl rfl)), fun t d e => hin d (.inr (.inr ⟨t, e⟩))⟩, sB⟩, ⟨d1, L1, R1, k1, ⟨?_, ?_, ?_, t1.lr, t1.nd, t1.few, t1.fewR, ?_, t1.no_, t1.e_, t1.inj⟩, a1, b1⟩⟩
  · rw [hx]; exact t1.obj
  · rw [hout _ o1.hL]; exact t1.lk
  · rw [hout _ o1.hR]; exact t1.rp
  · intro t v e
    obtain ⟨d, rfl, e2, e3⟩ := t1.ref_ t v e
    exact ⟨d, rfl, by rw [hout _ (o1.hd t d e)]; exact e2, e3⟩
theorem Two.pop (h : Two a H x1 rows1 n1 x2 rows2 n2) {r : Addr} {xs ys : List V} (hr : H r = some (.lst xs)) : Two a (upd H r (.lst ys)) x1 rows1 n1 x2 rows2 n2 := by
  obtain ⟨B, ⟨d1, L1, R1, k1, t1, a1, b1, o1, s1⟩, t2⟩ := h
  have kp : ∀ {G : Hp}, Same G H → Kp2 G (upd G r (.lst ys)) := fun s c o e nl => by
    rw [upd_ne (fun z => by have := s _ _ e; rw [z, hr] at this; cases this; exact nl _ rfl)]
    exact e
  have ne : ∀ {c : Addr} {kv : List (Key × V)}, H c = some (.dK kv) → c ≠ r := fun e z => by rw [z, hr] at e; cases e
  refine ⟨upd B r (.lst ys), ⟨d1, L1, R1, k1, t1.kp2 (kp (Same.refl H)), a1, b1, ⟨?_, ?_, fun t d e => ?_⟩, fun c o e => ?_⟩, t2.kp2 (kp s1)⟩
  · rw [upd_ne (ne t1.lk)]; exact o1.hL
  · rw [upd_ne (ne t1.rp)]; exact o1.hR
  · obtain ⟨d', e1, e2, _⟩ := t1.ref_ t _ e
    cases e1
    rw [upd_ne (ne e2)]; exact o1.hd t d e
  · by_cases hc : c = r
    · subst hc; rw [upd_same] at e ⊢; exact e
    · rw [upd_ne hc] at e ⊢; exact s1 _ _ e
end
/-- name = [.. for x, y in ..], the name a plain local -/
theorem ps_setComp2 {X : Cx} {x y z : Str} {px py pt pz spos : Pos} {kt i : Nat} {iter elt : Expr} {scope sc : Scope} {pos : Pos} {N : List Str} {fr : List (Nat × Str)} {wi : TI} {te : TE}
    (S : CompScope2 sc scope N x y fr) (hsc : X.env.scope = sc) (hN : X.N = N) (hc : X.calm = true) (hnd : X.N.Nodup) (hiz : X.N[i]? = some z) (hz : X.env.scope.names.lookup z = some .local) (hi : PI X (.Tuple [.Name x px, .Name y py] kt pt) iter wi)
    (he : ∀ (C : Addr) (s : Shared) (H : Hp) (fp : List Addr), PE (cxComp X scope C (x :: y :: fr.map (·.2)) s H fp) elt te)
    (hs : ∀ z, foldedSetIterable iter X.env z = pure z := by intro _; rfl)
    (hsw : swapsWith (.ListComp elt [⟨.Tuple [.Name x px, .Name y py] kt pt, iter, [], 0⟩] scope pos) (some (.Name z pz)) spos.line X.env = pure true := by rfl) :
    PS X (.Assign [.Name z pz] (.ListComp elt [⟨.Tuple [.Name x px, .Name y py] kt pt, iter, [], 0⟩] scope pos) spos) (tAsg (tComp2 X.K wi fr te) (gName i)) := by
  intro pins s σ H D0 I h
  rw [exec_Assign_Name_used _ _ _ _ hsw]
  refine wpAny_bind (wpAny_standAt (wpAny_bind ?_))
  show wpAny _ X.A (do let _ ← comprehension (.ListComp elt [⟨.Tuple [.Name x px, .Name y py] kt pt, iter, [], 0⟩] scope pos) scope X.env _ (newList []) false (eval iter X.env) (some (assign (.Name z pz) X.env))) _ _ s
  refine wpAny_bind (thn (comp_run2 (use := some (assign (.Name z pz) X.env)) (Q' := fun _ s' => SP X pins D0 .next s') S hsc hN hc hi he hs I h fun D C H' s' m J hn fc q => ?_) fun _ s' hq => wpAny_pure (wpAny_pure hq))
  show wpAny _ _ (assign (.Name z pz) X.env (.ref D)) _ _ s'
  refine wpAny_assign_Name (store_ok2 J hnd hiz (.inl hz) (v := .ref D) rfl (fun s5 J5 hs5 => ?_) (.inr hz))
  obtain ⟨a, sb, ha⟩ := hs5
  have hCa : C ≠ a := by
    rcases ha with z | z
    · rw [z]; exact fc.hL
    · exact Ne.symm (fc.h2 _ _ z)
  refine ⟨m, hn.sameBut sb hCa, fun h' hs' => ⟨_, H', J5.turned (t' := s5.toks) (fun b o hb e => (hs'.2 b hb).trans e) fc.hn fc.hL fc.h1 fc.h2 fc.h3, q⟩⟩
theorem call_len_seqK {X : Cx} (K : PySem.W.Frag) (hK : X.K = K := by rfl) : CallR X (.builtin "len") (fun xs H Q => ∃ p ys, xs = [.ref p] ∧ (SqL K H p ys ∨ SqT K H p ys) ∧ Q (.int ys.length) H) := hK ▸ call_len_seq
theorem comp_rangeX {lo : Int} {n : Nat} {fr : List (Nat × Str)} {te : TE} {σ : St} {H1 : Hp} {Q : VK} (Pv : Addr → Nat → List V → Hp → Prop) (hz : n ≤ sizeLine) (h0 : ∀ D, H1 D = none → Pv D 0 [] (upd H1 D (.lst []))) (hlen : ∀ D i ys H, Pv D i ys H → ys.length = i)
    (hte : ∀ (D : Addr) (i : Nat) (ys : List V) (H3 : Hp) (Q' : VK), i < n → H1 D = none → Pv D i ys H3 → H3 D = some (.lst ys) → (∀ y H5, H5 D = some (.lst ys) → Pv D (i + 1) (ys ++ [y]) (upd H5 D (.lst (ys ++ [y]))) → Q' y H5) → te (some (.int (lo + i)) :: frV σ fr) H3 Q')
    (hQ : ∀ D ys H2, H1 D = none → Pv D n ys H2 → H2 D = some (.lst ys) → Q (.ref D) H2) :
    compGoal (Itr lo n) fr tTrue te σ H1 Q := by
  unfold compGoal
  intro D hD
  refine ⟨fun i m ys H2 => m = n - i ∧ i ≤ n ∧ Pv D i ys H2 ∧ H2 D = some (.lst ys), ⟨n, by simp, Nat.zero_le _, h0 D hD, upd_same⟩, ?_⟩
  rintro i m ys H2 ⟨rfl, hi, p, d2⟩
  refine ⟨d2, ?_⟩
  by_cases hlt : i < n
  · refine .inr ⟨hlt, ?_⟩
    rintro v H3 ⟨rfl, rfl⟩
    refine tTrue_go (iteT ?_)
    refine hte D i ys _ _ hlt hD p d2 fun y H5 d5 p' => ⟨d5, ?_, n - (i + 1), by omega, rfl, hlt, p', upd_same⟩
    rw [hlen D i ys _ p]; omega
  · have e : i = n := by omega
    subst e
    exact .inl ⟨Nat.le_refl _, hQ D ys H2 hD p d2⟩
/-- rows laid one by one in the list at D -/
structure RowsD (H : Hp) (D : Addr) (i : Nat) (ws : List Str) (ys : List V) (G : Hp) (prs : List PRow) : Prop where
  ys_ : ys = prs.map fun q => V.ref q.1
  nm : prs.map (·.2.1) = ws.take i
  asc : ∀ q ∈ prs, Asc q.2.2
  ne : ∀ q ∈ prs, q.1 ≠ D
  at_ : ∀ q ∈ prs, G q.1 = some (.tup [.str q.2.1, .str q.2.2])
  sm : Same H G
theorem RowsD.snoc {H G : Hp} {D u : Addr} {i : Nat} {ws : List Str} {ys : List V} {prs : List PRow} (h : RowsD H D i ws ys G prs) (hD : H D = none) (hGD : G D = some (.lst ys)) {nm t : Str} (e : ws[i]? = some nm) (ht : Asc t) (hu : G u = none) : RowsD H D (i + 1) ws (ys ++ [.ref u]) (upd (upd G u (.tup [.str nm, .str t])) D (.lst (ys ++ [.ref u]))) (prs ++ [(u, nm, t)]) := by
  have uD : u ≠ D := fun z => by rw [z, hGD] at hu; cases hu
  refine ⟨by rw [h.ys_, List.map_append]; rfl, ?_, fun q hq => ?_, fun q hq => ?_, fun q hq => ?_, fun c o eo => ?_⟩
  · rw [List.map_append, h.nm]
    obtain ⟨hi, e2⟩ := List.getElem?_eq_some_iff.mp e
    rw [List.take_succ_eq_append_getElem hi, e2]
    rfl
  · rcases List.mem_append.mp hq with z | z
    · exact h.asc q z
    · rw [List.mem_singleton.mp z]; exact ht
  · rcases List.mem_append.mp hq with z | z
    · exact h.ne q z
    · rw [List.mem_singleton.mp z]; exact uD
  · rcases List.mem_append.mp hq with z | z
    · have := h.at_ q z
      rw [upd_ne (h.ne q z), upd_ne (ne_of_none this hu)]; exact this
    · rw [List.mem_singleton.mp z]
      show (upd (upd G u (.tup [.str nm, .str t])) D (.lst (ys ++ [.ref u]))) u = _
      rw [upd_ne uD]; exact upd_same
  · rw [upd_ne (ne_of_none eo hD), upd_ne (ne_of_none (h.sm _ _ eo) hu)]; exact h.sm _ _ eo
theorem RowsD.rows {H G : Hp} {D : Addr} {i : Nat} {ws : List Str} {ys : List V} {prs : List PRow} (h : RowsD H D i ws ys G prs) (hGD : G D = some (.lst ys)) : RowsAt G D prs := ⟨by rw [hGD, h.ys_], h.at_⟩
theorem RowsD.nil {H : Hp} {D : Addr} {ws : List Str} (hD : H D = none) : RowsD H D 0 ws [] (upd H D (.lst [])) [] := ⟨rfl, rfl, (fun _ z => nomatch z), (fun _ z => nomatch z), (fun _ z => nomatch z), Same.upd_new hD⟩
theorem cut_tail {xs ys : List V} : cutV (xs ++ ys) (some ((xs.length : Nat) : Int)) none = ys := by
  unfold cutV
  rw [HT.sIx_nat, HT.sIx_none, Nat.min_eq_left (by rw [List.length_append]; omega), List.drop_left, List.take_of_length_le (by rw [List.length_append]; omega)]
theorem RowsD.mono {H G G' : Hp} {D : Addr} {i : Nat} {ws : List Str} {ys : List V} {prs : List PRow} (h : RowsD H D i ws ys G prs) (s : Same G G') : RowsD H D i ws ys G' prs := ⟨h.ys_, h.nm, h.asc, h.ne, fun q hq => s _ _ (h.at_ q hq), h.sm.trans s⟩
theorem RowsD.len {H G : Hp} {D : Addr} {i : Nat} {ws : List Str} {ys : List V} {prs : List PRow} (h : RowsD H D i ws ys G prs) (hi : i ≤ ws.length) : ys.length = i := by
  have := congrArg List.length h.nm
  rw [List.length_map, List.length_take] at this
  rw [h.ys_, List.length_map]
  omega
theorem without_perm {rows : Rows} {g : PRow} {ps : List PRow} (p : rows.Perm ((g :: ps).map (·.2))) (nd : ((g :: ps).map (·.2.1)).Nodup) : (without rows g.2.1).Perm (ps.map (·.2)) := by
  have no := (List.nodup_cons.mp nd).1
  have pf := p.filter (fun r : Str × Str => decide (r.1 ≠ g.2.1))
  have ef : ((g :: ps).map (·.2)).filter (fun r : Str × Str => decide (r.1 ≠ g.2.1)) = ps.map (·.2) := by
    rw [List.map_cons, List.filter_cons, if_neg (by simp)]
    refine List.filter_eq_self.mpr fun r hr => decide_eq_true fun z => no ?_
    obtain ⟨y, hy, rfl⟩ := List.mem_map.mp hr
    exact List.mem_map.mpr ⟨y, hy, z⟩
  rw [ef] at pf
  exact pf
section
variable {P : Program} {w : World} {K : PySem.W.Frag} {mg : Str → Option Value} {base : Heap} {a : Adr}
theorem ok_law {fd : FuncData} (F : Fun K "law" "law" slaw a.f_law fd) (T : Txt K mg a) (FF : Funs K a) : FnOk P w K mg base CX0 12 a.f_law fd ["_law_script"] (spLaw K) := by
  obtain ⟨fdR, F_l_draws, b_l_draws⟩ := FF.F_l_draws
  obtain ⟨fdP, F_l_pool, b_l_pool⟩ := FF.F_l_pool
  obtain ⟨fdB, F_l_name_by, b_l_name_by⟩ := FF.F_l_name_by
  obtain ⟨fdG, F_l_target, b_l_target⟩ := FF.F_l_target
  obtain ⟨fdI, F_ini, b_Threads_init⟩ := FF.F_Threads_init
  obtain ⟨fdA, F_add, b_Threads_add, _⟩ := FF.F_Threads_add
  obtain ⟨fdT, F_tak, b_Threads_take_out⟩ := FF.F_Threads_take_out
  obtain ⟨fdO, F_l_other_way, b_l_other_way⟩ := FF.F_l_other_way
  obtain ⟨fdU, F_l_due, b_l_due⟩ := FF.F_l_due
  obtain ⟨fdL, F_l_told, b_l_told⟩ := FF.F_l_told
  have G_l_draws : FnOk P w K mg base CX0 1 a.f_l_draws fdR ["_law_script", "_law_many"] (spDraws K) := ok_draws F_l_draws T
  have G_l_pool : FnOk P w K mg base CX0 2 a.f_l_pool fdP ["_law_draws_here"] (spPool K) := ok_pool F_l_pool T FF
  have G_l_name_by : FnOk P w K mg base CX0 1 a.f_l_name_by fdB ["_law_shape", "_law_k"] spNameBy := ok_nameby F_l_name_by T
  have G_l_target : FnOk P w K mg base CX0 1 a.f_l_target fdG ["_law_pool_here", "_law_name", "_law_draw"] spTarget := ok_target F_l_target T
  have G_Threads_init : FnOk P w K mg base CX0 1 a.f_Threads_init fdI ["self"] (spTInitF a) := ok_tinitF F_ini T
  have G_Threads_add : FnOk P w K mg base CX0 2 a.f_Threads_add fdA ["self", "name", "answers"] (spAddF a) := ok_addF F_add T FF
  have G_Threads_take_out : FnOk P w K mg base CX0 2 a.f_Threads_take_out fdT ["self", "name"] (spTakeF a) := ok_takeF F_tak T FF
  have G_l_other_way : FnOk P w K mg base CX0 3 a.f_l_other_way fdO ["_law_rows", "_law_others", "_law_draws_here"] (spOther a) := ok_other F_l_other_way T FF
  have G_l_due : FnOk P w K mg base CX0 4 a.f_l_due fdU ["_law_rows", "_law_pool_here"] spDue := ok_due F_l_due T FF
  have G_l_told : FnOk P w K mg base CX0 4 a.f_l_told fdL ["_law_threads_here", "_law_rows", "_law_pool_here"] (spTold a) := ok_told F_l_told T FF
  refine F.ok sc_law (fun vs H Q E h => ?_) (fun cdv A outer s H vs Q E hr h => ?_)
  · obtain ⟨x, ns, rfl, _⟩ := h; rfl
  · obtain ⟨q, ns, rfl, hS, hlen, k⟩ := h
    have hr_l_draws : Room 1 _ := hr.mono (by decide)
    have hr_l_pool : Room 2 _ := hr.mono (by decide)
    have hr_l_name_by : Room 1 _ := hr.mono (by decide)
    have hr_l_target : Room 1 _ := hr.mono (by decide)
    have hr_Threads_mk : Room 2 _ := hr.mono (by decide)
    have hr_Threads_add : Room 2 _ := hr.mono (by decide)
    have hr_Threads_take_out : Room 2 _ := hr.mono (by decide)
    have hr_l_other_way : Room 3 _ := hr.mono (by decide)
    have hr_l_due : Room 4 _ := hr.mono (by decide)
    have hr_l_told : Room 4 _ := hr.mono (by decide)
    have hu64 := hr.units
    have hgd := hr.gd
    refine ⟨_, (pss_cons (ps_set (i := 1) sc_law.nd rfl (Or.inr rfl) (pe_call G_l_draws hr_l_draws rfl T.m_l_draws F_l_draws.kp b_l_draws .nil pass0 (pac (pv 0) (pac pe_int pa_nil))))
        (pss_cons (ps_set (i := 2) sc_law.nd rfl (Or.inr rfl) (pe_call G_l_pool hr_l_pool rfl T.m_l_pool F_l_pool.kp b_l_pool .nil pass0 (pac (pv 1) pa_nil)))
        (pss_cons (ps_set (i := 3) sc_law.nd rfl (Or.inr rfl) (pe_op op_cat (pv 2) (pe_comp (sc := defScope slaw) (N := n_law) (fr := [(1, "_law_draws_here"), (2, "_law_pool_here")]) ⟨rfl, rfl, by decide +kernel, by decide +kernel, by decide +kernel, by decide +kernel, by decide +kernel⟩ rfl rfl rfl (pi_range1 rfl T.b_range (pac (pe_op op_mod (pe_ix ix_list (pv 1) pe_int (fun _ _ => rfl)) pe_int) pa_nil)) (fun _ _ _ _ => pts_nil) (fun _ _ _ _ => (pe_call G_l_name_by hr_l_name_by rfl T.m_l_name_by F_l_name_by.kp b_l_name_by .nil pass0 (pac (pe_ix (ix_listK K) (pv 1) pe_int (fun _ _ => rfl)) (pac (pe_op op_add (pe_callB (call_len_seqK K) rfl T.b_len PySem.boot_len (pac (pv 2) pa_nil)) (pv 0)) pa_nil)))))))
        (pss_cons (ps_setComp (sc := defScope slaw) (N := n_law) (i := 4) (fr := [(2, "_law_pool_here"), (3, "_law_names"), (1, "_law_draws_here")]) ⟨rfl, rfl, by decide +kernel, by decide +kernel, by decide +kernel, by decide +kernel, by decide +kernel⟩ rfl rfl rfl sc_law.nd rfl rfl (pi_range1 rfl T.b_range (pac (pe_callB call_len_seq rfl T.b_len PySem.boot_len (pac (pv 2) pa_nil)) pa_nil)) (fun _ _ _ _ => pts_nil) (fun _ _ _ _ => (pe_tupS (pas_cons (pe_ix (ix_listK K) (pv 1) (pv 0) (fun _ _ => rfl)) (pas_cons (pe_call G_l_target hr_l_target rfl T.m_l_target F_l_target.kp b_l_target .nil pass0 (pac (pv 2) (pac (pe_ix (ix_listK K) (pv 1) (pv 0) (fun _ _ => rfl)) (pac (pe_ix (ix_listK K) (pv 3) (pe_op op_add pe_int (pv 0)) (fun _ _ => rfl)) pa_nil)))) pas_nil)))))
        (pss_cons (ps_setComp2 (sc := defScope slaw) (N := n_law) (i := 5) (fr := [(3, "_law_names"), (1, "_law_draws_here")]) ⟨rfl, rfl, rfl, by decide +kernel, by decide +kernel, by decide +kernel, by decide +kernel, by decide +kernel⟩ rfl rfl rfl sc_law.nd rfl rfl (pi_enum rfl T.b_enumerate (pac (pe_slice sl_list (pv 3) (po_some (pe_callB call_len_seq rfl T.b_len PySem.boot_len (pac (pv 2) pa_nil))) po_none) pa_nil)) (fun _ _ _ _ => (pe_tupS (pas_cons (pv 1) (pas_cons (pe_call G_l_target hr_l_target rfl T.m_l_target F_l_target.kp b_l_target .nil pass0 (pac (pv 2) (pac (pv 1) (pac (pe_ix (ix_listK K) (pv 3) (pe_op op_add pe_int (pv 0)) (fun _ _ => rfl)) pa_nil)))) pas_nil)))))
        (pss_cons (ps_set (i := 6) sc_law.nd rfl (Or.inl rfl) (pe_make0 T.k_Threads G_Threads_init hr_Threads_mk rfl T.mc_Threads b_Threads_init .nil pass0))
        (pss_cons (ps_for PassesOwn.never rfl (pi_list (pv 4)) (pg_tup rfl (pgs_cons (pg_name (i := 7) sc_law.nd rfl (Or.inl rfl)) (pgs_cons (pg_name (i := 8) sc_law.nd rfl (Or.inl rfl)) pgs_nil))) (pss_one (ps_expr (pe_meth (pv 6) T.c_Threads T.M_Threads_add G_Threads_add hr_Threads_add b_Threads_add .nil pass0 (pac (pv 7) (pac (pv 8) pa_nil))))))
        (pss_cons (ps_set (i := 9) sc_law.nd rfl (Or.inl rfl) (pe_call G_l_other_way hr_l_other_way rfl T.m_l_other_way F_l_other_way.kp b_l_other_way .nil pass0 (pac (pv 4) (pac (pv 5) (pac (pe_slice sl_list (pv 1) (po_some pe_int) po_none) pa_nil)))))
        (pss_cons (ps_set (i := 10) sc_law.nd rfl (Or.inl rfl) (pe_call G_l_due hr_l_due rfl T.m_l_due F_l_due.kp b_l_due .nil pass0 (pac (pv 4) (pac (pv 3) pa_nil))))
        (pss_cons (ps_if (PW.pt (pw_or (pt_cmpR op_ne (pe_callB (call_repr hgd hu64) rfl T.b_repr PyProof.Rows.boot_repr (pac (pe_call G_l_told hr_l_told rfl T.m_l_told F_l_told.kp b_l_told .nil pass0 (pac (pv 6) (pac (pv 4) (pac (pv 3) pa_nil)))) pa_nil)) (pe_callB (call_repr hgd hu64) rfl T.b_repr PyProof.Rows.boot_repr (pac (pv 10) pa_nil)) (nomark _)) (pw_or1 (pt_cmpR op_ne (pe_callB (call_repr hgd hu64) rfl T.b_repr PyProof.Rows.boot_repr (pac (pe_call G_l_told hr_l_told rfl T.m_l_told F_l_told.kp b_l_told .nil pass0 (pac (pv 9) (pac (pv 4) (pac (pv 3) pa_nil)))) pa_nil)) (pe_callB (call_repr hgd hu64) rfl T.b_repr PyProof.Rows.boot_repr (pac (pv 10) pa_nil)) (nomark _))))) (pss_one (ps_ret pe_bl)) pss_nil)
        (pss_cons (ps_set (i := 11) sc_law.nd rfl (Or.inl rfl) (pe_bm PySem.F.plainAttrs_list PySem.F.slot_list_pop PySem.F.type_list_pop mt_popAt (pv 4) (pac (pe_op op_mod (pe_ix ix_list (pv 1) pe_int (fun _ _ => rfl)) (pe_callB call_len_seq rfl T.b_len PySem.boot_len (pac (pv 4) pa_nil))) pa_nil)))
        (pss_cons (ps_expr (pe_meth (pv 6) T.c_Threads T.M_Threads_take_out G_Threads_take_out hr_Threads_take_out b_Threads_take_out .nil pass0 (pac (pe_ix ix_tup (pv 11) pe_int (fun _ _ => rfl)) pa_nil)))
        (pss_cons (ps_expr (pe_meth (pv 9) T.c_Threads T.M_Threads_take_out G_Threads_take_out hr_Threads_take_out b_Threads_take_out .nil pass0 (pac (pe_ix ix_tup (pv 11) pe_int (fun _ _ => rfl)) pa_nil)))
        (pss_cons (ps_set (i := 10) sc_law.nd rfl (Or.inl rfl) (pe_callB (call_repr hgd hu64) rfl T.b_repr PyProof.Rows.boot_repr (pac (pe_call G_l_due hr_l_due rfl T.m_l_due F_l_due.kp b_l_due .nil pass0 (pac (pv 4) (pac (pv 3) pa_nil))) pa_nil)))
        (pss_one (ps_ret (pe_and (pe_cmpR op_eq (pe_callB (call_repr hgd hu64) rfl T.b_repr PyProof.Rows.boot_repr (pac (pe_call G_l_told hr_l_told rfl T.m_l_told F_l_told.kp b_l_told .nil pass0 (pac (pv 6) (pac (pv 4) (pac (pv 3) pa_nil)))) pa_nil)) (pv 10) (nomark _)) (pe_one (pe_cmpR op_eq (pe_callB (call_repr hgd hu64) rfl T.b_repr PyProof.Rows.boot_repr (pac (pe_call G_l_told hr_l_told rfl T.m_l_told F_l_told.kp b_l_told .nil pass0 (pac (pv 9) (pac (pv 4) (pac (pv 3) pa_nil)))) pa_nil)) (pv 10) (nomark _)))))))))))))))))))), ?_⟩
    refine ⟨_, rfl, q, ns, 50, rfl, hS, by decide, fun D rs H1 hrl hrb s1 hD => ?_⟩
    refine ⟨_, rfl, D, rs, rfl, hD, by omega, hrb, fun b0 p ws H2 eb0 b00 b01 hnb hw2 hw10 hww s2 hp => ?_⟩
    have hD2 := s2 _ _ hD
    obtain ⟨z3, e3, _, _⟩ := row_pick hrb 3 (by decide) (by omega)
    have m30 : 0 ≤ z3 % 6 := Int.emod_nonneg _ (by decide)
    have m31 : z3 % 6 < 6 := Int.emod_lt_of_pos _ (by decide)
    refine ⟨_, rfl, _, rfl, D, _, _, _, rfl, rfl, SqL.of hD2, e3, _, _, rfl, rfl, (by show (0 : Int) < 6; decide), _, rfl, by omega, by omega, comp_rangeG (n := (z3 % 6).toNat) (fun i ys => ∃ vs : List Str, ys = vs.map V.str ∧ vs.length = i ∧ (∀ x ∈ vs, WordS x) ∧ NBs b0 (ws ++ vs)) (Nat.le_of_lt (small1000 (by omega))) ⟨[], rfl, rfl, (fun _ z => nomatch z), by rw [List.append_nil]; exact hnb⟩ (fun i ys ⟨vs, e, el, _⟩ => by rw [e, List.length_map, el]) ?_ ?_⟩
    · rintro i ys H3 Q' hi ⟨vs, rfl, el, hv, hnv⟩ s3 kq
      refine ⟨_, rfl, D, _, _, _, rfl, rfl, SqL.of (s3 _ _ hD2), eb0, _, rfl, p, _, rfl, .inl (SqL.of (s3 _ _ hp)), _, rfl, _, _, rfl, rfl, b0, _, rfl, b00, b01, (by rw [List.length_map]; omega), (by rw [List.length_map]; omega), fun y hy hyn => kq _ H3 ⟨vs ++ [y], by rw [List.map_append]; rfl, by rw [List.length_append, List.length_singleton, el], fun z hz => ?_, ?_⟩ (Same.refl H3)⟩
      · rcases List.mem_append.mp hz with z' | z'
        · exact hv z z'
        · rw [List.mem_singleton.mp z']; exact hy
      · rw [← List.append_assoc]
        refine hnv.snoc ?_
        rw [List.length_map, Int.zero_add] at hyn
        rw [List.length_append, el, Int.natCast_add]
        exact hyn
    · rintro E0 ys H3 hE0 ⟨vs, rfl, vl, hv, hnv⟩ s3 hE3
      have hp3 := s3 _ _ hp
      refine ⟨p, E0, _, _, rfl, rfl, hp3, hE3, (by rw [List.length_map, List.length_map]; exact Nat.le_of_lt (small1000 (by omega))), fun np hnp => ?_⟩
      have ee : ws.map V.str ++ vs.map V.str = (ws ++ vs).map V.str := List.map_append.symm
      rw [ee]
      have s4 : Same H3 (upd H3 np (.lst ((ws ++ vs).map V.str))) := Same.upd_new hnp
      have hn4 : (upd H3 np (.lst ((ws ++ vs).map V.str))) np = some (.lst ((ws ++ vs).map V.str)) := upd_same
      generalize upd H3 np (.lst ((ws ++ vs).map V.str)) = H4 at s4 hn4 ⊢
      have hp4 := s4 _ _ hp3
      have hD4 := s4 _ _ (s3 _ _ hD2)
      have nl : (ws ++ vs).length ≤ 15 := by rw [List.length_append]; omega
      have nl0 : 0 < (ws ++ vs).length := by rw [List.length_append]; omega
      have nnd : (ws ++ vs).Nodup := hnv.nd (by omega)
      have nw : ∀ x ∈ ws ++ vs, WordS x := fun x hx => (List.mem_append.mp hx).elim (hww x) (hv x)
      clear hE3 hE0 hp3 hD2 s3
      have e0 : (((((ws.map V.str).length : Nat) : Int))).toNat = ws.length := by rw [List.length_map]; omega
      refine ⟨_, rfl, p, _, rfl, .inl (SqL.of hp4), _, rfl, (by rw [List.length_map]; omega), (by rw [List.length_map]; omega), ?_⟩
      rw [e0]
      refine comp_rangeX (n := ws.length) (fun E i ys G => i ≤ ws.length ∧ ∃ prs, RowsD H4 E i ws ys G prs) (Nat.le_of_lt (small1000 (by omega))) (fun E hE => ⟨Nat.zero_le _, [], RowsD.nil hE⟩) (fun E i ys G ⟨hi, prs, h⟩ => h.len hi) ?_ ?_
      · rintro E i ys G Q' hi hE ⟨hi', prs, hrd⟩ hGE kq
        have ei : ws[i]? = some ws[i] := List.getElem?_eq_getElem hi
        generalize ws[i] = nm at ei
        have en : atI (ws.map V.str) (0 + (i : Int)) = some (V.str nm) := by rw [Int.zero_add]; exact atI_nat (by rw [List.getElem?_map, ei]; rfl)
        have wn := hww nm (List.mem_of_getElem? ei)
        obtain ⟨d, ed, d0, d1⟩ := row_pick hrb (5 + (0 + (i : Int))) (by omega) (by omega)
        have hpG := hrd.sm _ _ hp4
        refine ⟨_, rfl, _, rfl, p, _, _, _, rfl, rfl, SqL.of hpG, en, _, rfl, _, rfl, _, rfl, p, _, _, _, rfl, rfl, SqL.of hpG, en, _, rfl, _, rfl, _, _, rfl, rfl, D, _, _, _, rfl, rfl, SqL.of (hrd.sm _ _ hD4), ed, np, ws ++ vs, nm, d, rfl, hrd.sm _ _ hn4, nl0, nw, wn, d0, fun t ht _ => ⟨(by show 2 ≤ sizeLine; decide), fun u hu => kq _ _ ?_ ⟨hi, _, hrd.snoc hE hGE ei ht hu⟩⟩⟩
        rw [upd_ne (ne_of_none hGE hu)]; exact hGE
      rintro r ys H5 hr0 ⟨_, prs, hrd⟩ hGr
      have npr : np ≠ r := ne_of_none hn4 hr0
      have hR5 := hrd.rows hGr
      have s5 := hrd.sm
      have hnm : prs.map (·.2.1) = ws := by rw [hrd.nm, List.take_length]
      have hA : AscR prs := fun z hz => by
        have : z.2.1 ∈ ws := by rw [← hnm]; exact List.mem_map.mpr ⟨z, hz, rfl⟩
        have hw := hww _ this
        exact ⟨hw.asc, hrd.asc z hz, by have := hw.hi; omega⟩
      have hpl : prs.length = ws.length := by rw [← hnm, List.length_map]
      clear hrd hGr
      have hp5 := s5 _ _ hp4
      have hD5 := s5 _ _ hD4
      have hn5 := s5 _ _ hn4
      have ct : cutV ((ws ++ vs).map V.str) (some (((ws.map V.str).length : Nat) : Int)) none = vs.map V.str := by rw [← ee]; exact cut_tail
      refine ⟨_, rfl, _, rfl, p, _, rfl, .inl (SqL.of hp5), _, rfl, np, _, rfl, SqL.of hn5, fun sl hsl => ?_⟩
      rw [ct]
      have s6 : Same H5 (upd H5 sl (.lst (vs.map V.str))) := Same.upd_new hsl
      have hs6 : (upd H5 sl (.lst (vs.map V.str))) sl = some (.lst (vs.map V.str)) := upd_same
      generalize upd H5 sl (.lst (vs.map V.str)) = H6 at s6 hs6 ⊢
      have hD6 := s6 _ _ hD5
      have hn6 := s6 _ _ hn5
      have hR6 := hR5.same s6
      refine ⟨sl, _, rfl, hs6, comp_enumH (K := K) (xs := vs.map V.str) (fun E i ys G => i ≤ vs.length ∧ ∃ ors, RowsD H6 E i vs ys G ors) (by rw [List.length_map]; exact Nat.le_of_lt (small1000 (by omega))) (SqL.of hs6) (fun E hE => ⟨Nat.zero_le _, [], RowsD.nil hE⟩) (fun E i ys G ⟨hi, ors, h⟩ => h.len hi) (fun E i ys G G' ⟨hi, ors, h⟩ s => ⟨hi, ors, h.mono s⟩) ?_ ?_⟩
      · rintro E i xv ys G Q' hx hE ⟨hi', ors, hrd⟩ hGE sG kq
        rw [List.getElem?_map] at hx
        cases ei : vs[i]? with
        | none => rw [ei] at hx; cases hx
        | some nm =>
          rw [ei] at hx
          cases hx
          have hi : i < vs.length := (List.getElem?_eq_some_iff.mp ei).1
          have wn := hv nm (List.mem_of_getElem? ei)
          obtain ⟨d, ed, d0, d1⟩ := row_pick hrb (16 + (i : Int)) (by omega) (by omega)
          exact ⟨_, rfl, _, rfl, _, rfl, _, rfl, _, rfl, _, _, rfl, rfl, D, _, _, _, rfl, rfl, SqL.of (sG _ _ hD6), ed, np, ws ++ vs, nm, d, rfl, sG _ _ hn6, nl0, nw, wn, d0, fun t ht _ => ⟨(by show 2 ≤ sizeLine; decide), fun u hu => kq _ _ (Same.upd_new hu) ⟨hi, _, hrd.snoc hE hGE ei ht hu⟩⟩⟩
      rintro os ys H7 ho0 ⟨_, ors, hrd⟩ s7 hGo
      have hO7 := hrd.rows hGo
      have hom : ors.map (·.2.1) = vs := by rw [hrd.nm, List.length_map, List.take_length]
      have hol : ors.length = vs.length := by rw [← hom, List.length_map]
      clear hrd hGo
      have hD7 := s7 _ _ hD6
      have hn7 := s7 _ _ hn6
      have hR7 := hR6.same s7
      have ndA : ((prs ++ ors).map (·.2.1)).Nodup := by rw [List.map_append, hnm, hom]; exact nnd
      have ndP : (prs.map (·.2.1)).Nodup := by rw [hnm]; exact (List.nodup_append.mp nnd).1
      have emm : (prs.map (·.2)).map (·.1) = ws := by rw [List.map_map]; exact hnm
      have ndR : ((prs.map (·.2)).map (·.1)).Nodup := by rw [emm, ← hnm]; exact ndP
      have hnoe : NoE (prs.map (·.2)) := fun n hn => word_ne (hww n (by rw [← emm]; exact hn))
      have hne : ∀ t ∈ ws ++ vs, t ≠ "" := fun t ht => word_ne (nw t ht)
      clear hp5 hD5 hn5 hR5 hp4 hD4 hn4 hs6 hD6 hn6 hR6
      intro x dx nx ndx nex
      refine ⟨H7, x, dx, rfl, upd_same, fun c o e => ⟨by rw [upd_ne (ne_of_none e nx), upd_ne (ne_of_none e ndx)]; exact e, ne_of_none e nx⟩, fun H8 th8 => ⟨rfl, ?_⟩⟩
      refine ⟨_, rfl, r, rfl, ⟨_, SqL.of (th8.same _ _ hR7.1)⟩, for_list (K := K) (xs := prs.map fun q => V.ref q.1) (fun i σ G => ∃ o7 o8 : Option V, σ = [some (.ref q), some (.ref D), some (.ref p), some (.ref np), some (.ref r), some (.ref os), some (.ref x), o7, o8, none, none, none] ∧ THf a H7 G x ((prs.take i).map (·.2)) i) ⟨none, none, rfl, th8⟩ ?_ ?_ ?_⟩
      · rintro i σ G _ ⟨o7, o8, rfl, th⟩
        exact SqL.of (th.same _ _ hR7.1)
      · rintro i v σ G hv' ⟨o7, o8, rfl, th⟩
        rw [List.getElem?_map] at hv'
        cases hq : prs[i]? with
        | none => rw [hq] at hv'; cases hv'
        | some y =>
          rw [hq] at hv'
          cases hv'
          obtain ⟨hi, ey⟩ := List.getElem?_eq_some_iff.mp hq
          have etk : prs.take (i + 1) = prs.take i ++ [y] := by rw [List.take_succ_eq_append_getElem hi, ey]
          have un : up ((prs.take i).map (·.2)) y.2.1 = none := up_new (l := prs.take i) (.refl _) (fun z => by
            have n2 : ((prs.take (i + 1)).map (·.2.1)).Nodup := ndP.sublist ((List.take_sublist _ _).map _)
            rw [etk, List.map_append] at n2
            exact (List.nodup_append.mp n2).2.2 _ z _ (List.mem_singleton.mpr rfl) rfl)
          have eyG := th.same _ _ (hR7.2 y (List.mem_of_getElem? hq))
          obtain ⟨dx1, fL1, fR1, ox1⟩ := th.obj
          refine ⟨y.1, _, rfl, SqT.of eyG, rfl, _, _, rfl, _, _, rfl, rfl, _, rfl, x, dx1, _, rfl, ox1, rfl, _, rfl, _, rfl, H7, x, _, i, y.2.1, y.2.2, rfl, th, by omega, un, fun G3 tg3 kp3 => ⟨_, _, rfl, ?_⟩⟩
          rw [etk, List.map_append]
          exact tg3
      rintro σ G ⟨o7, o8, rfl, th⟩
      rw [List.length_map, List.take_length] at th
      clear th8
      have hRG := hR7.same th.same
      have hOG := hO7.same th.same
      have hDG := th.same _ _ hD7
      have hnG := th.same _ _ hn7
      have ct2 : cutV (rs.map V.int) (some 24) none = (rs.drop 24).map V.int := by
        unfold cutV
        rw [show (24 : Int) = ((24 : Nat) : Int) from rfl, HT.sIx_nat, HT.sIx_none, List.length_map, Nat.min_eq_left (by omega), ← List.map_drop, List.take_of_length_le (by rw [List.length_map, List.length_drop]; omega)]
      refine ⟨_, rfl, _, rfl, _, rfl, _, rfl, D, _, rfl, SqL.of hDG, fun sl2 hsl2 => ?_⟩
      rw [ct2]
      have s9 : Same G (upd G sl2 (.lst ((rs.drop 24).map V.int))) := Same.upd_new hsl2
      have hs9 : (upd G sl2 (.lst ((rs.drop 24).map V.int))) sl2 = some (.lst ((rs.drop 24).map V.int)) := upd_same
      generalize upd G sl2 (.lst ((rs.drop 24).map V.int)) = H9 at s9 hs9 ⊢
      have th9 := th.ths.kp2 s9.kp2
      refine ⟨r, os, sl2, prs, ors, rs.drop 24, rfl, hRG.same s9, hOG.same s9, hs9, (by rw [List.length_drop]; omega), fun d hd => hrb d (List.mem_of_mem_drop hd), by omega, by omega, ndA, fun x2 rows2 n2 H10 pm2 thB => ?_⟩
      have s10 := s9.trans thB.same
      have tw : Two a H10 x2 rows2 n2 x (prs.map (·.2)) prs.length := ⟨H9, thB, th9⟩
      have hR10 := hRG.same s10
      have hD10 := s10 _ _ hDG
      have hn10 := s10 _ _ hnG
      clear thB th9 hs9 s9 s10 hRG hOG hDG hnG th
      have nsh : ∀ x ∈ (prs.map (·.2)).map (·.1), Asc x ∧ x.length ≤ 20 := fun x hx => by
        rw [emm] at hx
        exact ⟨(hww x hx).asc, (hww x hx).hi⟩
      have hb : EsB (esOf (prs.map (·.2)) ((srtP prs).map (·.2.1)) (ws ++ vs)) := es_b (by rw [List.length_map]; omega) (by rw [List.length_map, srtP_len]; omega) nl nsh
      have hmem : ∀ z ∈ prs, z.2.1 ∈ (prs.map (·.2)).map (·.1) := fun z hz => by rw [List.map_map]; exact List.mem_map.mpr ⟨z, hz, rfl⟩
      have hnoe2 : NoE rows2 := fun n hn => hnoe n ((names_perm pm2).mp hn)
      refine ⟨_, rfl, _, rfl, r, np, prs, ws ++ vs, rfl, hR10, hA, by omega, ndP, hnoe, hn10, by omega, fun l us H11 el dl s11 => ?_⟩
      have tw11 := tw.of s11
      have hR11 := hR10.same s11
      have hD11 := s11 _ _ hD10
      have hn11 := s11 _ _ hn10
      clear tw hR10 hD10 hn10
      refine ⟨_, rfl, _, rfl, _, rfl, x, r, np, _, prs.length, prs, ws ++ vs, rfl, tw11.two, hnoe, hR11, by omega, hmem, hn11, hne, by omega, fun l1 us1 H12 e12 d12 s12 => ?_⟩
      refine ⟨_, _, rfl, RD.lst (SqL.of e12) (DEs.rd d12), des_showable hb.all_, des_hasDict hb.all_, hb.dep, hb.len, ?_⟩
      refine ⟨_, rfl, ?_⟩
      refine ⟨_, _, rfl, RD.lst (SqL.of (s12 _ _ el)) (DEs.rd (dl.mono s12)), des_showable hb.all_, des_hasDict hb.all_, hb.dep, hb.len, ?_⟩
      refine ⟨rfl, _, rfl, ?_⟩
      rw [decide_eq_true rfl]
      refine iteF ?_
      have tw12 := tw11.of s12
      have hR12 := hR11.same s12
      have hD12 := s12 _ _ hD11
      have hn12 := s12 _ _ hn11
      have el12 := s12 _ _ el
      have dl12 := dl.mono s12
      clear tw11 hR11 hD11 hn11 el dl
      refine ⟨_, rfl, _, rfl, _, rfl, x2, r, np, rows2, n2, prs, ws ++ vs, rfl, tw12.one, hnoe2, hR12, by omega, fun z hz => (names_perm pm2).mpr (hmem z hz), hn12, hne, by omega, fun l2 us2 H13 e13 d13 s13 => ?_⟩
      rw [es_perm pm2 ndR] at d13
      refine ⟨_, _, rfl, RD.lst (SqL.of e13) (DEs.rd d13), des_showable hb.all_, des_hasDict hb.all_, hb.dep, hb.len, ?_⟩
      refine ⟨_, rfl, ?_⟩
      refine ⟨_, _, rfl, RD.lst (SqL.of (s13 _ _ el12)) (DEs.rd (dl12.mono s13)), des_showable hb.all_, des_hasDict hb.all_, hb.dep, hb.len, ?_⟩
      refine ⟨rfl, _, rfl, ?_⟩
      rw [decide_eq_true rfl]
      refine iteF ?_
      have tw13 := tw12.of s13
      have hR13 := hR12.same s13
      have hD13 := s13 _ _ hD12
      have hn13 := s13 _ _ hn12
      clear tw12 hR12 hD12 hn12 el12 dl12 e13 d13 e12 d12
      obtain ⟨d, ed, d0, d1⟩ := row_pick hrb 4 (by decide) (by omega)
      have lpos : 0 < prs.length := by omega
      have m0 := Int.emod_nonneg d (b := (prs.length : Int)) (by omega)
      have m1 := Int.emod_lt_of_pos d (b := (prs.length : Int)) (by omega)
      obtain ⟨kk, ek⟩ := Int.eq_ofNat_of_zero_le m0
      have hkk : kk < prs.length := by omega
      have eg : prs[kk]? = some prs[kk] := List.getElem?_eq_getElem hkk
      generalize prs[kk] = g at eg
      have pe := erase_perm eg
      have ix : seqIndex? (d % (((prs.map fun q => V.ref q.1).length : Nat) : Int)) (prs.map fun q => V.ref q.1).length = some kk := by
        rw [List.length_map, ek]
        unfold seqIndex?
        have c1 : ¬ ((kk : Int) < 0) := by omega
        simp only [if_neg c1]
        rw [decide_eq_true (show 0 ≤ (kk : Int) by omega), decide_eq_true (show (kk : Int) < (prs.length : Int) by omega)]
        simp
      refine ⟨_, rfl, .inl ⟨rfl, _, SqL.of hR13.1⟩, _, rfl, D, _, _, _, rfl, rfl, SqL.of hD13, ed, _, rfl, r, _, rfl, .inl (SqL.of hR13.1), _, _, rfl, rfl, (by rw [List.length_map]; omega), r, _, _, kk, _, rfl, rfl, hR13.1, ?_, ?_, ix, (by rw [List.getElem?_map, eg]; rfl), ?_⟩
      · rw [List.length_map]; omega
      · rw [List.length_map]; omega
      rw [erase_map]
      have tw14 := tw13.pop (ys := (prs.eraseIdx kk).map fun q => V.ref q.1) hR13.1
      have ners : ∀ {c : Addr} {o : HO}, H13 c = some o → (∀ xs, o ≠ .lst xs) → (upd H13 r (.lst ((prs.eraseIdx kk).map fun q => V.ref q.1))) c = some o := fun {c o} e nl => by rw [upd_ne (fun z => by rw [z, hR13.1] at e; cases e; exact nl _ rfl)]; exact e
      have hR14 : RowsAt (upd H13 r (.lst ((prs.eraseIdx kk).map fun q => V.ref q.1))) r (prs.eraseIdx kk) := ⟨upd_same, fun z hz => ners (hR13.2 z (List.mem_of_mem_eraseIdx hz)) (fun _ z => nomatch z)⟩
      have eg14 := ners (hR13.2 g (List.mem_of_getElem? eg)) (fun _ z => nomatch z)
      have nr : np ≠ r := npr
      have hn14 : (upd H13 r (.lst ((prs.eraseIdx kk).map fun q => V.ref q.1))) np = some (.lst ((ws ++ vs).map V.str)) := by rw [upd_ne nr]; exact hn13
      generalize upd H13 r (.lst ((prs.eraseIdx kk).map fun q => V.ref q.1)) = H14 at tw14 hR14 eg14 hn14 ⊢
      clear ners tw13 hR13 hD13 hn13
      have hlp : (prs.eraseIdx kk).length + 1 = prs.length := by rw [List.length_eraseIdx, if_pos hkk]; omega
      generalize prs.eraseIdx kk = ps at pe hR14 hlp ⊢
      have ndg : ((g :: ps).map (·.2.1)).Nodup := (pe.map (·.2.1)).nodup_iff.mpr ndP
      have gm : g.2.1 ∈ (prs.map (·.2)).map (·.1) := hmem g (List.mem_of_getElem? eg)
      have w1 : (L2.without (prs.map (·.2)) g.2.1).Perm (ps.map (·.2)) := without_perm (pe.symm.map (·.2)) ndg
      have w2 : (L2.without rows2 g.2.1).Perm (ps.map (·.2)) := without_perm (pm2.trans (pe.symm.map (·.2))) ndg
      obtain ⟨B1, tA, tB⟩ := tw14.swap
      obtain ⟨dx1, fL1, fR1, ox1⟩ := tA.obj
      refine ⟨_, rfl, x, dx1, _, rfl, ox1, rfl, _, rfl, g.1, _, _, _, rfl, rfl, SqT.of eg14, rfl, B1, x, _, _, g.2.1, rfl, tA, gm, fun H15 tA15 kp15 => ?_⟩
      have tw15 : Two a H15 x _ _ x2 rows2 n2 := ⟨B1, tA15, tB⟩
      have eg15 := kp15 _ _ eg14 (fun _ z => nomatch z)
      obtain ⟨B2, tC, tD⟩ := tw15.swap
      obtain ⟨dx2, fL2, fR2, ox2⟩ := tC.obj
      refine ⟨_, rfl, x2, dx2, _, rfl, ox2, rfl, _, rfl, g.1, _, _, _, rfl, rfl, SqT.of eg15, rfl, B2, x2, _, _, g.2.1, rfl, tC, (names_perm pm2).mpr gm, fun H16 tC16 kp16 => ?_⟩
      have tw16 : Two a H16 x2 _ _ x _ _ := ⟨B2, tC16, tD⟩
      have kp := kp15.trans kp16
      have hR16 := hR14.kp1 kp
      have hn16 := kp _ _ hn14 (fun _ z => nomatch z)
      clear tA tB tC tD tA15 tC16 tw15 tw14 hR14 hn14 ox1 ox2 kp15 kp16 kp
      have psub : ∀ z ∈ ps, z ∈ prs := fun z hz => pe.mem_iff.mp (List.mem_cons_of_mem _ hz)
      have ndp : (ps.map (·.2.1)).Nodup := (List.nodup_cons.mp ndg).2
      have emp : (ps.map (·.2)).map (·.1) = ps.map (·.2.1) := List.map_map
      have ndp2 : ((ps.map (·.2)).map (·.1)).Nodup := by rw [emp]; exact ndp
      have sub2 : ∀ n ∈ (ps.map (·.2)).map (·.1), n ∈ (prs.map (·.2)).map (·.1) := fun n hn => by
        rw [emp] at hn
        obtain ⟨z, hz, rfl⟩ := List.mem_map.mp hn
        exact hmem z (psub z hz)
      have noeP : NoE (ps.map (·.2)) := fun n hn => hnoe n (sub2 n hn)
      have mem' : ∀ z ∈ ps, z.2.1 ∈ (ps.map (·.2)).map (·.1) := fun z hz => by rw [List.map_map]; exact List.mem_map.mpr ⟨z, hz, rfl⟩
      have hb' : EsB (esOf (ps.map (·.2)) ((srtP ps).map (·.2.1)) (ws ++ vs)) := es_b (by rw [List.length_map]; omega) (by rw [List.length_map, srtP_len]; omega) nl fun x hx => nsh x (sub2 x hx)
      refine ⟨_, rfl, _, rfl, r, np, ps, ws ++ vs, rfl, hR16, fun z hz => hA z (psub z hz), by omega, ndp, noeP, hn16, by omega, fun l3 us3 H17 e17 d17 s17 => ?_⟩
      refine ⟨_, _, rfl, RD.lst (SqL.of e17) (DEs.rd d17), des_showable hb'.all_, des_hasDict hb'.all_, hb'.dep, hb'.len, ?_⟩
      have tw17 := tw16.of s17
      have hR17 := hR16.same s17
      have hn17 := s17 _ _ hn16
      refine ⟨_, rfl, _, rfl, _, rfl, x, r, np, _, _, ps, ws ++ vs, rfl, tw17.two, fun n hn => noeP n ((names_perm w1).mp hn), hR17, by omega, fun z hz => (names_perm w1).mpr (mem' z hz), hn17, hne, by omega, fun l4 us4 H18 e18 d18 s18 => ?_⟩
      rw [es_perm w1 ndp2] at d18
      refine ⟨_, _, rfl, RD.lst (SqL.of e18) (DEs.rd d18), des_showable hb'.all_, des_hasDict hb'.all_, hb'.dep, hb'.len, ?_⟩
      refine ⟨_, rfl, rfl, _, rfl, ?_⟩
      rw [decide_eq_true rfl]
      refine iteT ?_
      have tw18 := tw17.of s18
      have hR18 := hR17.same s18
      have hn18 := s18 _ _ hn17
      refine ⟨_, rfl, _, rfl, _, rfl, x2, r, np, _, _, ps, ws ++ vs, rfl, tw18.one, fun n hn => noeP n ((names_perm w2).mp hn), hR18, by omega, fun z hz => (names_perm w2).mpr (mem' z hz), hn18, hne, by omega, fun l5 us5 H19 e19 d19 s19 => ?_⟩
      rw [es_perm w2 ndp2] at d19
      refine ⟨_, _, rfl, RD.lst (SqL.of e19) (DEs.rd d19), des_showable hb'.all_, des_hasDict hb'.all_, hb'.dep, hb'.len, ?_⟩
      refine ⟨_, rfl, rfl, ?_⟩
      rw [decide_eq_true rfl]
      exact k H19
end
theorem all_mk {l : PySem.W.OpenLaw} {w : World} {K : PySem.W.Frag} {h : Heap} {mg : Str → Option Value} {fa : Addr} (X : K.In h) (G : h.Ns mainGlobals mg) (hfa : mg "law" = some (.ref fa))
    {f1 : Addr} {od1 an1 : Option Addr} {sl1 : Array (Option Value)} {oc1 kV1 dc1 pm1 cd1 ct1 : Value}
    {f2 : Addr} {od2 an2 : Option Addr} {sl2 : Array (Option Value)} {oc2 kV2 dc2 pm2 cd2 ct2 : Value}
    {f3 : Addr} {od3 an3 : Option Addr} {sl3 : Array (Option Value)} {oc3 kV3 dc3 pm3 cd3 ct3 : Value}
    {f4 : Addr} {od4 an4 : Option Addr} {sl4 : Array (Option Value)} {oc4 kV4 dc4 pm4 cd4 ct4 : Value}
    {f5 : Addr} {od5 an5 : Option Addr} {sl5 : Array (Option Value)} {oc5 kV5 dc5 pm5 cd5 ct5 : Value}
    {f6 : Addr} {od6 an6 : Option Addr} {sl6 : Array (Option Value)} {oc6 kV6 dc6 pm6 cd6 ct6 : Value}
    {f7 : Addr} {od7 an7 : Option Addr} {sl7 : Array (Option Value)} {oc7 kV7 dc7 pm7 cd7 ct7 : Value}
    {f8 : Addr} {od8 an8 : Option Addr} {sl8 : Array (Option Value)} {oc8 kV8 dc8 pm8 cd8 ct8 : Value}
    {f9 : Addr} {od9 an9 : Option Addr} {sl9 : Array (Option Value)} {oc9 kV9 dc9 pm9 cd9 ct9 : Value}
    {f10 : Addr} {od10 an10 : Option Addr} {sl10 : Array (Option Value)} {oc10 kV10 dc10 pm10 cd10 ct10 : Value}
    {f11 : Addr} {od11 an11 : Option Addr} {sl11 : Array (Option Value)} {oc11 kV11 dc11 pm11 cd11 ct11 : Value}
    {f12 : Addr} {od12 an12 : Option Addr} {sl12 : Array (Option Value)} {oc12 kV12 dc12 pm12 cd12 ct12 : Value}
    {f13 : Addr} {od13 an13 : Option Addr} {sl13 : Array (Option Value)} {oc13 kV13 dc13 pm13 cd13 ct13 : Value}
    {f14 : Addr} {od14 an14 : Option Addr} {sl14 : Array (Option Value)} {oc14 kV14 dc14 pm14 cd14 ct14 : Value}
    {f15 : Addr} {od15 an15 : Option Addr} {sl15 : Array (Option Value)} {oc15 kV15 dc15 pm15 cd15 ct15 : Value}
    {f16 : Addr} {od16 an16 : Option Addr} {sl16 : Array (Option Value)} {oc16 kV16 dc16 pm16 cd16 ct16 : Value}
    {f17 : Addr} {od17 an17 : Option Addr} {sl17 : Array (Option Value)} {oc17 kV17 dc17 pm17 cd17 ct17 : Value}
    {f18 : Addr} {od18 an18 : Option Addr} {sl18 : Array (Option Value)} {oc18 kV18 dc18 pm18 cd18 ct18 : Value}
    {f19 : Addr} {od19 an19 : Option Addr} {sl19 : Array (Option Value)} {oc19 kV19 dc19 pm19 cd19 ct19 : Value}
    {f20 : Addr} {od20 an20 : Option Addr} {sl20 : Array (Option Value)} {oc20 kV20 dc20 pm20 cd20 ct20 : Value}
    {f21 : Addr} {od21 an21 : Option Addr} {sl21 : Array (Option Value)} {oc21 kV21 dc21 pm21 cd21 ct21 : Value}
    {f22 : Addr} {od22 an22 : Option Addr} {sl22 : Array (Option Value)} {oc22 kV22 dc22 pm22 cd22 ct22 : Value}
    {f23 : Addr} {od23 an23 : Option Addr} {sl23 : Array (Option Value)} {oc23 kV23 dc23 pm23 cd23 ct23 : Value}
    {f24 : Addr} {od24 an24 : Option Addr} {sl24 : Array (Option Value)} {oc24 kV24 dc24 pm24 cd24 ct24 : Value}
    {C_Threads : Addr}
    {D17 : Addr} {Do17 : Value} {Dd17 : Option Addr} {Dn17 : Nat} {Ds17 : Array (Option Value)} {dv17_0 : Value}
    (q_Threads : PySem.W.nsIn K mainGlobals "Threads" = some (some (.ref C_Threads)))
    (a1 : PySem.W.nsIn K mainGlobals "_wall" = some (some (.ref f1)))
    (l1 : K.lookup f1 = some ⟨oc1, od1, .func (PySem.W.fnOf "_wall" "_wall" (defArgs swall) (defBody swall) (defScope swall) .none kV1 dc1 pm1 an1 cd1 ct1), sl1⟩)
    (c1 : PySem.W.codeIn K cd1 "_wall" = true)
    (k1 : PySem.W.keepIn K (.ref f1) = true)
    (a2 : PySem.W.nsIn K mainGlobals "check_there" = some (some (.ref f2)))
    (l2 : K.lookup f2 = some ⟨oc2, od2, .func (PySem.W.fnOf "check_there" "check_there" (defArgs scheck_there) (defBody scheck_there) (defScope scheck_there) .none kV2 dc2 pm2 an2 cd2 ct2), sl2⟩)
    (c2 : PySem.W.codeIn K cd2 "check_there" = true)
    (k2 : PySem.W.keepIn K (.ref f2) = true)
    (a3 : PySem.W.nsIn K mainGlobals "check_new" = some (some (.ref f3)))
    (l3 : K.lookup f3 = some ⟨oc3, od3, .func (PySem.W.fnOf "check_new" "check_new" (defArgs scheck_new) (defBody scheck_new) (defScope scheck_new) .none kV3 dc3 pm3 an3 cd3 ct3), sl3⟩)
    (c3 : PySem.W.codeIn K cd3 "check_new" = true)
    (k3 : PySem.W.keepIn K (.ref f3) = true)
    (a4 : PySem.W.nsIn K mainGlobals "_law_draws" = some (some (.ref f4)))
    (l4 : K.lookup f4 = some ⟨oc4, od4, .func (PySem.W.fnOf "_law_draws" "_law_draws" (defArgs sl_draws) (defBody sl_draws) (defScope sl_draws) .none kV4 dc4 pm4 an4 cd4 ct4), sl4⟩)
    (c4 : PySem.W.codeIn K cd4 "_law_draws" = true)
    (k4 : PySem.W.keepIn K (.ref f4) = true)
    (a5 : PySem.W.nsIn K mainGlobals "_law_name_by" = some (some (.ref f5)))
    (l5 : K.lookup f5 = some ⟨oc5, od5, .func (PySem.W.fnOf "_law_name_by" "_law_name_by" (defArgs sl_name_by) (defBody sl_name_by) (defScope sl_name_by) .none kV5 dc5 pm5 an5 cd5 ct5), sl5⟩)
    (c5 : PySem.W.codeIn K cd5 "_law_name_by" = true)
    (k5 : PySem.W.keepIn K (.ref f5) = true)
    (a6 : PySem.W.nsIn K mainGlobals "_law_pool" = some (some (.ref f6)))
    (l6 : K.lookup f6 = some ⟨oc6, od6, .func (PySem.W.fnOf "_law_pool" "_law_pool" (defArgs sl_pool) (defBody sl_pool) (defScope sl_pool) .none kV6 dc6 pm6 an6 cd6 ct6), sl6⟩)
    (c6 : PySem.W.codeIn K cd6 "_law_pool" = true)
    (k6 : PySem.W.keepIn K (.ref f6) = true)
    (a7 : PySem.W.nsIn K mainGlobals "_law_hang" = some (some (.ref f7)))
    (l7 : K.lookup f7 = some ⟨oc7, od7, .func (PySem.W.fnOf "_law_hang" "_law_hang" (defArgs sl_hang) (defBody sl_hang) (defScope sl_hang) .none kV7 dc7 pm7 an7 cd7 ct7), sl7⟩)
    (c7 : PySem.W.codeIn K cd7 "_law_hang" = true)
    (k7 : PySem.W.keepIn K (.ref f7) = true)
    (a8 : PySem.W.nsIn K mainGlobals "_law_thread" = some (some (.ref f8)))
    (l8 : K.lookup f8 = some ⟨oc8, od8, .func (PySem.W.fnOf "_law_thread" "_law_thread" (defArgs sl_thread) (defBody sl_thread) (defScope sl_thread) .none kV8 dc8 pm8 an8 cd8 ct8), sl8⟩)
    (c8 : PySem.W.codeIn K cd8 "_law_thread" = true)
    (k8 : PySem.W.keepIn K (.ref f8) = true)
    (a9 : PySem.W.nsIn K mainGlobals "_law_threads" = some (some (.ref f9)))
    (l9 : K.lookup f9 = some ⟨oc9, od9, .func (PySem.W.fnOf "_law_threads" "_law_threads" (defArgs sl_threads) (defBody sl_threads) (defScope sl_threads) .none kV9 dc9 pm9 an9 cd9 ct9), sl9⟩)
    (c9 : PySem.W.codeIn K cd9 "_law_threads" = true)
    (k9 : PySem.W.keepIn K (.ref f9) = true)
    (a10 : PySem.W.nsIn K mainGlobals "_law_target" = some (some (.ref f10)))
    (l10 : K.lookup f10 = some ⟨oc10, od10, .func (PySem.W.fnOf "_law_target" "_law_target" (defArgs sl_target) (defBody sl_target) (defScope sl_target) .none kV10 dc10 pm10 an10 cd10 ct10), sl10⟩)
    (c10 : PySem.W.codeIn K cd10 "_law_target" = true)
    (k10 : PySem.W.keepIn K (.ref f10) = true)
    (a11 : PySem.W.nsIn K mainGlobals "_law_deep" = some (some (.ref f11)))
    (l11 : K.lookup f11 = some ⟨oc11, od11, .func (PySem.W.fnOf "_law_deep" "_law_deep" (defArgs sl_deep) (defBody sl_deep) (defScope sl_deep) .none kV11 dc11 pm11 an11 cd11 ct11), sl11⟩)
    (c11 : PySem.W.codeIn K cd11 "_law_deep" = true)
    (k11 : PySem.W.keepIn K (.ref f11) = true)
    (a12 : PySem.W.nsIn K mainGlobals "_law_told" = some (some (.ref f12)))
    (l12 : K.lookup f12 = some ⟨oc12, od12, .func (PySem.W.fnOf "_law_told" "_law_told" (defArgs sl_told) (defBody sl_told) (defScope sl_told) .none kV12 dc12 pm12 an12 cd12 ct12), sl12⟩)
    (c12 : PySem.W.codeIn K cd12 "_law_told" = true)
    (k12 : PySem.W.keepIn K (.ref f12) = true)
    (a13 : PySem.W.nsIn K mainGlobals "_law_due" = some (some (.ref f13)))
    (l13 : K.lookup f13 = some ⟨oc13, od13, .func (PySem.W.fnOf "_law_due" "_law_due" (defArgs sl_due) (defBody sl_due) (defScope sl_due) .none kV13 dc13 pm13 an13 cd13 ct13), sl13⟩)
    (c13 : PySem.W.codeIn K cd13 "_law_due" = true)
    (k13 : PySem.W.keepIn K (.ref f13) = true)
    (a14 : PySem.W.nsIn K mainGlobals "_law_other_way" = some (some (.ref f14)))
    (l14 : K.lookup f14 = some ⟨oc14, od14, .func (PySem.W.fnOf "_law_other_way" "_law_other_way" (defArgs sl_other_way) (defBody sl_other_way) (defScope sl_other_way) .none kV14 dc14 pm14 an14 cd14 ct14), sl14⟩)
    (c14 : PySem.W.codeIn K cd14 "_law_other_way" = true)
    (k14 : PySem.W.keepIn K (.ref f14) = true)
    (a15 : PySem.W.nsIn K mainGlobals "law" = some (some (.ref f15)))
    (l15 : K.lookup f15 = some ⟨oc15, od15, .func (PySem.W.fnOf "law" "law" (defArgs slaw) (defBody slaw) (defScope slaw) .none kV15 dc15 pm15 an15 cd15 ct15), sl15⟩)
    (c15 : PySem.W.codeIn K cd15 "law" = true)
    (k15 : PySem.W.keepIn K (.ref f15) = true)
    (a16 : PySem.W.findIn K (.ref C_Threads) "__init__" = some (some (.ref f16)))
    (i16 : PySem.W.isFn K (.ref f16) = true)
    (l16 : K.lookup f16 = some ⟨oc16, od16, .func (PySem.W.fnOf "__init__" "Threads.__init__" (defArgs sThreads_init) (defBody sThreads_init) (defScope sThreads_init) .none kV16 dc16 pm16 an16 cd16 ct16), sl16⟩)
    (c16 : PySem.W.codeIn K cd16 "Threads.__init__" = true)
    (k16 : PySem.W.keepIn K (.ref f16) = true)
    (a17 : PySem.W.findIn K (.ref C_Threads) "add" = some (some (.ref f17)))
    (i17 : PySem.W.isFn K (.ref f17) = true)
    (l17 : K.lookup f17 = some ⟨oc17, od17, .func (PySem.W.fnOf "add" "Threads.add" (defArgs sThreads_add) (defBody sThreads_add) (defScope sThreads_add) (.ref D17) kV17 dc17 pm17 an17 cd17 ct17), sl17⟩)
    (t17 : K.lookup D17 = some ⟨Do17, Dd17, .seq #[dv17_0] Dn17, Ds17⟩)
    (rd17_0 : RelV (.str "") dv17_0)
    (c17 : PySem.W.codeIn K cd17 "Threads.add" = true)
    (k17 : PySem.W.keepIn K (.ref f17) = true)
    (a18 : PySem.W.findIn K (.ref C_Threads) "take_out" = some (some (.ref f18)))
    (i18 : PySem.W.isFn K (.ref f18) = true)
    (l18 : K.lookup f18 = some ⟨oc18, od18, .func (PySem.W.fnOf "take_out" "Threads.take_out" (defArgs sThreads_take_out) (defBody sThreads_take_out) (defScope sThreads_take_out) .none kV18 dc18 pm18 an18 cd18 ct18), sl18⟩)
    (c18 : PySem.W.codeIn K cd18 "Threads.take_out" = true)
    (k18 : PySem.W.keepIn K (.ref f18) = true)
    (a19 : PySem.W.findIn K (.ref C_Threads) "names" = some (some (.ref f19)))
    (i19 : PySem.W.isFn K (.ref f19) = true)
    (l19 : K.lookup f19 = some ⟨oc19, od19, .func (PySem.W.fnOf "names" "Threads.names" (defArgs sThreads_names) (defBody sThreads_names) (defScope sThreads_names) .none kV19 dc19 pm19 an19 cd19 ct19), sl19⟩)
    (c19 : PySem.W.codeIn K cd19 "Threads.names" = true)
    (k19 : PySem.W.keepIn K (.ref f19) = true)
    (a20 : PySem.W.findIn K (.ref C_Threads) "answers_to" = some (some (.ref f20)))
    (i20 : PySem.W.isFn K (.ref f20) = true)
    (l20 : K.lookup f20 = some ⟨oc20, od20, .func (PySem.W.fnOf "answers_to" "Threads.answers_to" (defArgs sThreads_answers_to) (defBody sThreads_answers_to) (defScope sThreads_answers_to) .none kV20 dc20 pm20 an20 cd20 ct20), sl20⟩)
    (c20 : PySem.W.codeIn K cd20 "Threads.answers_to" = true)
    (k20 : PySem.W.keepIn K (.ref f20) = true)
    (a21 : PySem.W.findIn K (.ref C_Threads) "beside" = some (some (.ref f21)))
    (i21 : PySem.W.isFn K (.ref f21) = true)
    (l21 : K.lookup f21 = some ⟨oc21, od21, .func (PySem.W.fnOf "beside" "Threads.beside" (defArgs sThreads_beside) (defBody sThreads_beside) (defScope sThreads_beside) .none kV21 dc21 pm21 an21 cd21 ct21), sl21⟩)
    (c21 : PySem.W.codeIn K cd21 "Threads.beside" = true)
    (k21 : PySem.W.keepIn K (.ref f21) = true)
    (a22 : PySem.W.findIn K (.ref C_Threads) "thread" = some (some (.ref f22)))
    (i22 : PySem.W.isFn K (.ref f22) = true)
    (l22 : K.lookup f22 = some ⟨oc22, od22, .func (PySem.W.fnOf "thread" "Threads.thread" (defArgs sThreads_thread) (defBody sThreads_thread) (defScope sThreads_thread) .none kV22 dc22 pm22 an22 cd22 ct22), sl22⟩)
    (c22 : PySem.W.codeIn K cd22 "Threads.thread" = true)
    (k22 : PySem.W.keepIn K (.ref f22) = true)
    (a23 : PySem.W.findIn K (.ref C_Threads) "threads" = some (some (.ref f23)))
    (i23 : PySem.W.isFn K (.ref f23) = true)
    (l23 : K.lookup f23 = some ⟨oc23, od23, .func (PySem.W.fnOf "threads" "Threads.threads" (defArgs sThreads_threads) (defBody sThreads_threads) (defScope sThreads_threads) .none kV23 dc23 pm23 an23 cd23 ct23), sl23⟩)
    (c23 : PySem.W.codeIn K cd23 "Threads.threads" = true)
    (k23 : PySem.W.keepIn K (.ref f23) = true)
    (a24 : PySem.W.findIn K (.ref C_Threads) "depth" = some (some (.ref f24)))
    (i24 : PySem.W.isFn K (.ref f24) = true)
    (l24 : K.lookup f24 = some ⟨oc24, od24, .func (PySem.W.fnOf "depth" "Threads.depth" (defArgs sThreads_depth) (defBody sThreads_depth) (defScope sThreads_depth) .none kV24 dc24 pm24 an24 cd24 ct24), sl24⟩)
    (c24 : PySem.W.codeIn K cd24 "Threads.depth" = true)
    (k24 : PySem.W.keepIn K (.ref f24) = true)
    (pg_Threads : PySem.W.plainGet K C_Threads Str.empty = true)
    (hd_Threads : PySem.W.hasDictIn K C_Threads = true)
    (po_Threads : PySem.W.plainOver K C_Threads = true)
    (sa_Threads : PySem.W.findIn K (.ref C_Threads) "__setattr__" = some (some (.builtin "object.__setattr__")))
    (kc_Threads : PySem.W.keepIn K (.ref C_Threads) = true)
    (mk_Threads : PySem.W.makesIn K C_Threads = true)
    (n_Threads_links : PySem.W.findIn K (.ref C_Threads) "links" = some none)
    (n_Threads_replies : PySem.W.findIn K (.ref C_Threads) "replies" = some none)
    (z1 : PySem.W.nsIn K mainGlobals "len" = some none)
    (z2 : PySem.W.nsIn K mainGlobals "range" = some none)
    (z3 : PySem.W.nsIn K mainGlobals "isinstance" = some none)
    (z4 : PySem.W.nsIn K mainGlobals "str" = some none)
    (z5 : PySem.W.nsIn K mainGlobals "int" = some none)
    (z6 : PySem.W.nsIn K mainGlobals "list" = some none)
    (z7 : PySem.W.nsIn K mainGlobals "dict" = some none)
    (z8 : PySem.W.nsIn K mainGlobals "sorted" = some none)
    (z9 : PySem.W.nsIn K mainGlobals "enumerate" = some none)
    (z10 : PySem.W.nsIn K mainGlobals "repr" = some none) :
    ∃ fd : FuncData, (∀ (s : Shared) (v : Value), BindsTo s fd ⟨[v], []⟩ [("_law_script", v)]) ∧ ∀ base : Heap, K.In base → base.Ns mainGlobals mg → FnOk l.prog w K mg base CX0 12 fa fd ["_law_script"] (spLaw K) := by
  have e := hfa.symm.trans (PySem.W.mg_of X G a15)
  cases e
  have F1 := fun_mk (st := swall) l1 c1 k1
  have b1 := F1.binds (ps := ["k"]) fun _ _ _ _ _ _ => by refine us_1 ?_; intros; rfl
  have F2 := fun_mk (st := scheck_there) l2 c2 k2
  have b2 := F2.binds (ps := ["name", "there"]) fun _ _ _ _ _ _ => by refine us_2 ?_; intros; rfl
  have F3 := fun_mk (st := scheck_new) l3 c3 k3
  have b3 := F3.binds (ps := ["name", "there"]) fun _ _ _ _ _ _ => by refine us_2 ?_; intros; rfl
  have F4 := fun_mk (st := sl_draws) l4 c4 k4
  have b4 := F4.binds (ps := ["_law_script", "_law_many"]) fun _ _ _ _ _ _ => by refine us_2 ?_; intros; rfl
  have F5 := fun_mk (st := sl_name_by) l5 c5 k5
  have b5 := F5.binds (ps := ["_law_shape", "_law_k"]) fun _ _ _ _ _ _ => by refine us_2 ?_; intros; rfl
  have F6 := fun_mk (st := sl_pool) l6 c6 k6
  have b6 := F6.binds (ps := ["_law_draws_here"]) fun _ _ _ _ _ _ => by refine us_1 ?_; intros; rfl
  have F7 := fun_mk (st := sl_hang) l7 c7 k7
  have b7 := F7.binds (ps := ["_law_one", "_law_other"]) fun _ _ _ _ _ _ => by refine us_2 ?_; intros; rfl
  have F8 := fun_mk (st := sl_thread) l8 c8 k8
  have b8 := F8.binds (ps := ["_law_rows", "_law_name"]) fun _ _ _ _ _ _ => by refine us_2 ?_; intros; rfl
  have F9 := fun_mk (st := sl_threads) l9 c9 k9
  have b9 := F9.binds (ps := ["_law_rows"]) fun _ _ _ _ _ _ => by refine us_1 ?_; intros; rfl
  have F10 := fun_mk (st := sl_target) l10 c10 k10
  have b10 := F10.binds (ps := ["_law_pool_here", "_law_name", "_law_draw"]) fun _ _ _ _ _ _ => by refine us_3 ?_; intros; rfl
  have F11 := fun_mk (st := sl_deep) l11 c11 k11
  have b11 := F11.binds (ps := ["_law_rows", "_law_name"]) fun _ _ _ _ _ _ => by refine us_2 ?_; intros; rfl
  have F12 := fun_mk (st := sl_told) l12 c12 k12
  have b12 := F12.binds (ps := ["_law_threads_here", "_law_rows", "_law_pool_here"]) fun _ _ _ _ _ _ => by refine us_3 ?_; intros; rfl
  have F13 := fun_mk (st := sl_due) l13 c13 k13
  have b13 := F13.binds (ps := ["_law_rows", "_law_pool_here"]) fun _ _ _ _ _ _ => by refine us_2 ?_; intros; rfl
  have F14 := fun_mk (st := sl_other_way) l14 c14 k14
  have b14 := F14.binds (ps := ["_law_rows", "_law_others", "_law_draws_here"]) fun _ _ _ _ _ _ => by refine us_3 ?_; intros; rfl
  have F15 := fun_mk (st := slaw) l15 c15 k15
  have b15 := F15.binds (ps := ["_law_script"]) fun _ _ _ _ _ _ => by refine us_1 ?_; intros; rfl
  have F16 := fun_mk (st := sThreads_init) l16 c16 k16
  have b16 := F16.binds (ps := ["self"]) fun _ _ _ _ _ _ => by refine us_1 ?_; intros; rfl
  have F17 := fun_mkD (st := sThreads_add) l17 c17 k17
  have b17_0 : Binds K (PySem.W.fnOf "add" "Threads.add" (defArgs sThreads_add) (defBody sThreads_add) (defScope sThreads_add) (.ref D17) kV17 dc17 pm17 an17 cd17 ct17) ["self", "name", "answers"] [dv17_0] := fun s us X' hl => have hl' : us.length = 2 := (by simpa using hl); (by clear hl; revert hl'; revert us; refine us_2 ?_; intros; exact PySem.W.binds_K (fd := PySem.W.fnOf "add" "Threads.add" (defArgs sThreads_add) (defBody sThreads_add) (defScope sThreads_add) (.ref D17) kV17 dc17 pm17 an17 cd17 ct17) X' rfl t17 rfl rfl rfl)
  have b17_1 : Binds K (PySem.W.fnOf "add" "Threads.add" (defArgs sThreads_add) (defBody sThreads_add) (defScope sThreads_add) (.ref D17) kV17 dc17 pm17 an17 cd17 ct17) ["self", "name", "answers"] [] := fun s us X' hl => have hl' : us.length = 3 := (by simpa using hl); (by clear hl; revert hl'; revert us; refine us_3 ?_; intros; exact PySem.W.binds_K (fd := PySem.W.fnOf "add" "Threads.add" (defArgs sThreads_add) (defBody sThreads_add) (defScope sThreads_add) (.ref D17) kV17 dc17 pm17 an17 cd17 ct17) X' rfl t17 rfl rfl rfl)
  have F18 := fun_mk (st := sThreads_take_out) l18 c18 k18
  have b18 := F18.binds (ps := ["self", "name"]) fun _ _ _ _ _ _ => by refine us_2 ?_; intros; rfl
  have F19 := fun_mk (st := sThreads_names) l19 c19 k19
  have b19 := F19.binds (ps := ["self"]) fun _ _ _ _ _ _ => by refine us_1 ?_; intros; rfl
  have F20 := fun_mk (st := sThreads_answers_to) l20 c20 k20
  have b20 := F20.binds (ps := ["self", "name"]) fun _ _ _ _ _ _ => by refine us_2 ?_; intros; rfl
  have F21 := fun_mk (st := sThreads_beside) l21 c21 k21
  have b21 := F21.binds (ps := ["self", "name"]) fun _ _ _ _ _ _ => by refine us_2 ?_; intros; rfl
  have F22 := fun_mk (st := sThreads_thread) l22 c22 k22
  have b22 := F22.binds (ps := ["self", "name"]) fun _ _ _ _ _ _ => by refine us_2 ?_; intros; rfl
  have F23 := fun_mk (st := sThreads_threads) l23 c23 k23
  have b23 := F23.binds (ps := ["self"]) fun _ _ _ _ _ _ => by refine us_1 ?_; intros; rfl
  have F24 := fun_mk (st := sThreads_depth) l24 c24 k24
  have b24 := F24.binds (ps := ["self", "name"]) fun _ _ _ _ _ _ => by refine us_2 ?_; intros; rfl
  let A : Adr := { f_wall := f1, f_check_there := f2, f_check_new := f3, f_l_draws := f4, f_l_name_by := f5, f_l_pool := f6, f_l_hang := f7, f_l_thread := f8, f_l_threads := f9, f_l_target := f10, f_l_deep := f11, f_l_told := f12, f_l_due := f13, f_l_other_way := f14, f_law := fa, f_Threads_init := f16, f_Threads_add := f17, f_Threads_take_out := f18, f_Threads_names := f19, f_Threads_answers_to := f20, f_Threads_beside := f21, f_Threads_thread := f22, f_Threads_threads := f23, f_Threads_depth := f24, C_Threads := C_Threads }
  have T : Txt K mg A := ⟨PySem.W.mg_of X G a1, PySem.W.mg_of X G a2, PySem.W.mg_of X G a3, PySem.W.mg_of X G a4, PySem.W.mg_of X G a5, PySem.W.mg_of X G a6, PySem.W.mg_of X G a7, PySem.W.mg_of X G a8, PySem.W.mg_of X G a9, PySem.W.mg_of X G a10, PySem.W.mg_of X G a11, PySem.W.mg_of X G a12, PySem.W.mg_of X G a13, PySem.W.mg_of X G a14, PySem.W.mg_of X G a15, PySem.W.mg_none_of X G z1, PySem.W.mg_none_of X G z2, PySem.W.mg_none_of X G z3, PySem.W.mg_none_of X G z4, PySem.W.mg_none_of X G z5, PySem.W.mg_none_of X G z6, PySem.W.mg_none_of X G z7, PySem.W.mg_none_of X G z8, PySem.W.mg_none_of X G z9, PySem.W.mg_none_of X G z10, PySem.W.mg_of X G q_Threads, ⟨pg_Threads, hd_Threads, po_Threads, sa_Threads⟩, ⟨mk_Threads, a16, i16, kc_Threads⟩, ⟨a17, i17, k17⟩, ⟨a18, i18, k18⟩, ⟨a19, i19, k19⟩, ⟨a20, i20, k20⟩, ⟨a21, i21, k21⟩, ⟨a22, i22, k22⟩, ⟨a23, i23, k23⟩, ⟨a24, i24, k24⟩, n_Threads_links, n_Threads_replies, trivial⟩
  have FF : Funs K A := ⟨⟨_, F1, b1⟩, ⟨_, F2, b2⟩, ⟨_, F3, b3⟩, ⟨_, F4, b4⟩, ⟨_, F5, b5⟩, ⟨_, F6, b6⟩, ⟨_, F7, b7⟩, ⟨_, F8, b8⟩, ⟨_, F9, b9⟩, ⟨_, F10, b10⟩, ⟨_, F11, b11⟩, ⟨_, F12, b12⟩, ⟨_, F13, b13⟩, ⟨_, F14, b14⟩, ⟨_, F15, b15⟩, ⟨_, F16, b16⟩, ⟨_, F17, b17_1, ⟨_, (.cons rd17_0 .nil), b17_0⟩⟩, ⟨_, F18, b18⟩, ⟨_, F19, b19⟩, ⟨_, F20, b20⟩, ⟨_, F21, b21⟩, ⟨_, F22, b22⟩, ⟨_, F23, b23⟩, ⟨_, F24, b24⟩⟩
  exact ⟨PySem.W.fnOf "law" "law" (defArgs slaw) (defBody slaw) (defScope slaw) .none kV15 dc15 pm15 an15 cd15 ct15, fun s v => .of_eq rfl, fun base _ _ => ok_law F15 T FF⟩
theorem walk {l : PySem.W.OpenLaw} {q : Program} {loose : List Str} {XP : (Str → Option Value) → Heap → Prop} {YP : World → Heap → Prop} {d : DefRec} {K : Params → PySem.W.Frag} (hn : l.most = some 63) (hdf : d.params.defaults = [])
    (hY : ∀ (w : World) (h : Heap), YP w h → (K w.params).In h)
    (F : ∀ (w : World) (mg : Str → Option Value) (fa : Addr) (h : Heap), (K w.params).In h → h.Ns mainGlobals mg → mg d.name = some (.ref fa) →
      ∃ fd : FuncData, (∀ (s : Shared) (u : Value), BindsTo s fd ⟨[u], []⟩ [("_law_script", u)]) ∧ ∀ base : Heap, (K w.params).In base → base.Ns mainGlobals mg → FnOk l.prog w (K w.params) mg base CX0 12 fa fd ["_law_script"] (spLaw (K w.params))) :
    PySem.W.WalkO q loose XP YP l.row.toRowW d [] (fun f vs => PySem.call f vs) :=
  L2.walk_of (n := 63) (k := 12) (x := "_law_script") (CX := fun _ => CX0) (sp := fun w => spLaw (K w.params)) hn (by decide) hdf ⟨rfl, by decide, by decide, rfl⟩ hY F (fun _ _ a ns hl _ hS => ⟨a, ns, rfl, hS, hl, fun _ => rfl⟩) fun _ _ _ _ _ z => z
end K26
open PySem PySem.W PyProof.Rows
set_option maxRecDepth 100000 in
set_option maxHeartbeats 0 in
theorem PySem.Challenge.cw_mailroom_k26_whole_any_order_holds : PySem.Challenge.rw_mailroom_k26_whole_any_order.Holds := by
  w_on; o_law; k_head; (case hw => w_witness2)
  k_fill
  refine K26.walk (l := PySem.Challenge.rw_mailroom_k26_whole_any_order) rfl rfl (fun w h Y => PySem.W.kIn_of Y) ?F
  case F =>
    intro w mg fa h KX G hmg
    refine' K26.all_mk KX G hmg ?q_Threads ?a1 ?l1 ?c1 ?k1 ?a2 ?l2 ?c2 ?k2 ?a3 ?l3 ?c3 ?k3 ?a4 ?l4 ?c4 ?k4 ?a5 ?l5 ?c5 ?k5 ?a6 ?l6 ?c6 ?k6 ?a7 ?l7 ?c7 ?k7 ?a8 ?l8 ?c8 ?k8 ?a9 ?l9 ?c9 ?k9 ?a10 ?l10 ?c10 ?k10 ?a11 ?l11 ?c11 ?k11 ?a12 ?l12 ?c12 ?k12 ?a13 ?l13 ?c13 ?k13 ?a14 ?l14 ?c14 ?k14 ?a15 ?l15 ?c15 ?k15 ?a16 ?i16 ?l16 ?c16 ?k16 ?a17 ?i17 ?l17 ?t17 ?rd17_0 ?c17 ?k17 ?a18 ?i18 ?l18 ?c18 ?k18 ?a19 ?i19 ?l19 ?c19 ?k19 ?a20 ?i20 ?l20 ?c20 ?k20 ?a21 ?i21 ?l21 ?c21 ?k21 ?a22 ?i22 ?l22 ?c22 ?k22 ?a23 ?i23 ?l23 ?c23 ?k23 ?a24 ?i24 ?l24 ?c24 ?k24 ?pg_Threads ?hd_Threads ?po_Threads ?sa_Threads ?kc_Threads ?mk_Threads ?n_Threads_links ?n_Threads_replies ?z1 ?z2 ?z3 ?z4 ?z5 ?z6 ?z7 ?z8 ?z9 ?z10
    (case q_Threads => k_is)
    (case a1 => k_is)
    (case l1 => k_is)
    (case c1 => k_is)
    (case k1 => k_is)
    (case a2 => k_is)
    (case l2 => k_is)
    (case c2 => k_is)
    (case k2 => k_is)
    (case a3 => k_is)
    (case l3 => k_is)
    (case c3 => k_is)
    (case k3 => k_is)
    (case a4 => k_is)
    (case l4 => k_is)
    (case c4 => k_is)
    (case k4 => k_is)
    (case a5 => k_is)
    (case l5 => k_is)
    (case c5 => k_is)
    (case k5 => k_is)
    (case a6 => k_is)
    (case l6 => k_is)
    (case c6 => k_is)
    (case k6 => k_is)
    (case a7 => k_is)
    (case l7 => k_is)
    (case c7 => k_is)
    (case k7 => k_is)
    (case a8 => k_is)
    (case l8 => k_is)
    (case c8 => k_is)
    (case k8 => k_is)
    (case a9 => k_is)
    (case l9 => k_is)
    (case c9 => k_is)
    (case k9 => k_is)
    (case a10 => k_is)
    (case l10 => k_is)
    (case c10 => k_is)
    (case k10 => k_is)
    (case a11 => k_is)
    (case l11 => k_is)
    (case c11 => k_is)
    (case k11 => k_is)
    (case a12 => k_is)
    (case l12 => k_is)
    (case c12 => k_is)
    (case k12 => k_is)
    (case a13 => k_is)
    (case l13 => k_is)
    (case c13 => k_is)
    (case k13 => k_is)
    (case a14 => k_is)
    (case l14 => k_is)
    (case c14 => k_is)
    (case k14 => k_is)
    (case a15 => k_is)
    (case l15 => k_is)
    (case c15 => k_is)
    (case k15 => k_is)
    (case a16 => k_is)
    (case i16 => k_is)
    (case l16 => k_is)
    (case c16 => k_is)
    (case k16 => k_is)
    (case a17 => k_is)
    (case i17 => k_is)
    (case l17 => k_is)
    (case t17 => k_is)
    (case rd17_0 => exact ⟨_, rfl⟩)
    (case c17 => k_is)
    (case k17 => k_is)
    (case a18 => k_is)
    (case i18 => k_is)
    (case l18 => k_is)
    (case c18 => k_is)
    (case k18 => k_is)
    (case a19 => k_is)
    (case i19 => k_is)
    (case l19 => k_is)
    (case c19 => k_is)
    (case k19 => k_is)
    (case a20 => k_is)
    (case i20 => k_is)
    (case l20 => k_is)
    (case c20 => k_is)
    (case k20 => k_is)
    (case a21 => k_is)
    (case i21 => k_is)
    (case l21 => k_is)
    (case c21 => k_is)
    (case k21 => k_is)
    (case a22 => k_is)
    (case i22 => k_is)
    (case l22 => k_is)
    (case c22 => k_is)
    (case k22 => k_is)
    (case a23 => k_is)
    (case i23 => k_is)
    (case l23 => k_is)
    (case c23 => k_is)
    (case k23 => k_is)
    (case a24 => k_is)
    (case i24 => k_is)
    (case l24 => k_is)
    (case c24 => k_is)
    (case k24 => k_is)
    (case pg_Threads => k_is)
    (case hd_Threads => k_is)
    (case po_Threads => k_is)
    (case sa_Threads => k_is)
    (case kc_Threads => k_is)
    (case mk_Threads => k_is)
    (case n_Threads_links => k_is)
    (case n_Threads_replies => k_is)
    (case z1 => k_is)
    (case z2 => k_is)
    (case z3 => k_is)
    (case z4 => k_is)
    (case z5 => k_is)
    (case z6 => k_is)
    (case z7 => k_is)
    (case z8 => k_is)
    (case z9 => k_is)
    (case z10 => k_is)
#print axioms PySem.Challenge.cw_mailroom_k26_whole_any_order_holds
